import Derived.Deep.RegionLaw
import Derived.Deep.DeepCutAuto
import Derived.Test.YtjnlkemdaffgbaaB07
import Derived.Test.YtjnlkemdaffgbaaB08
import Derived.Test.YtjnlkemdaffgbaaB04
set_option linter.unusedVariables false
set_option linter.unusedSimpArgs false
/- Begin: a world without machines. -/
namespace Go.Proofs.Ytjnlkemdaffgbaa
open Go.ChangeShapes Go.WideShapes Go.ChangeAt Go.RowKit
set_option maxRecDepth 100000

set_option maxRecDepth 100000 in
set_option maxHeartbeats 16000000 in
theorem begin_any (a a2 : Option Addr) (cap cap2 : Nat) (c : ConfM) (w : World) (hv : ConfV w (.agg #[.slice a c.caps.length cap, .slice a2 c.starts.length cap2, .int .i64 c.threads]) c) (hg : c.good) : Calls Try.prog 11 #[.agg #[.slice a c.caps.length cap, .slice a2 c.starts.length cap2, .int .i64 c.threads]] w fun e w' => ∃ (m1 : Option Addr) (n1 : Nat) (m2 : Option Addr) (n2 : Nat), e = .returned (.agg #[.slice a c.caps.length cap, .slice a2 c.starts.length cap2, .int .i64 c.threads, .slice m1 (newE c).words.length n1, .slice m2 (newE c).lists.length n2, .int .i64 (newE c).tick, .slice none 0 0, .slice none 0 0, .slice none 0 0]) ∧ Hid (StM (NewPart w w') (.agg #[.slice m1 (newE c).words.length n1, .slice m2 (newE c).lists.length n2, .int .i64 (newE c).tick]) (newE c)) ∧ Hid (Below w.heap.size w w') := by
  have HV := Lib.hid hv
  obtain ⟨W, hW, HB, R0, R1, hz⟩ := two_new w (.cells #[.slice a c.caps.length cap, .slice a2 c.starts.length cap2, .int .i64 c.threads] 36) (.cells #[.slice none 0 0, .slice none 0 0, .int .i64 0, .slice none 0 0, .slice none 0 0, .int .i64 0, .slice none 0 0, .slice none 0 0, .slice none 0 0] 44)
  have HW := Lib.hid hW
  clear hW hv
  go_enter Try.func11, Try.ntmps11
  go_upto_region 1 with fail
  rw [HW.out]
  clear HW
  obtain ⟨x0, x1, x2⟩ := rowc3 R0.out
  go_wp2_with fail
  refine (newR_st _ c _ (HV.out.below HB.out) (fun x hx => (hg.starts x hx).1)).mono ?_; rintro e w1 ⟨v1, rfl, hm, hb1⟩
  have HM := Lib.hid hm
  have HB1 := Lib.hid hb1
  obtain ⟨m1, n1, m2, n2, rfl⟩ : ∃ A k A2 k2, v1 = .agg #[.slice A (newE c).words.length k, .slice A2 (newE c).lists.length k2, .int .i64 (newE c).tick] := hm.open w1 ⟨Nat.le_refl _, fun _ _ _ => rfl⟩
  clear hm hb1 x0 x1 x2
  obtain ⟨W2, hW2⟩ : ∃ W2, (w1.alloc (.cells #[.slice none 0 0, .slice none 0 0, .int .i64 0] 39)).setRow w1.heap.size #[.slice m1 (newE c).words.length n1, .slice m2 (newE c).lists.length n2, .int .i64 (newE c).tick] = W2 := ⟨_, rfl⟩
  have N2 : Hid ((w1.alloc (.cells #[.slice none 0 0, .slice none 0 0, .int .i64 0] 39)).heap[w1.heap.size]? = some (.cells #[.slice none 0 0, .slice none 0 0, .int .i64 0] 39 (0, 0))) := heap_alloc_new _ _
  have HB2 : Hid (Below w1.heap.size w1 W2) := hW2 ▸ row_below (below_new (Below.refl _ _) _) (Nat.le_refl _) _
  have R2 : Hid (W2.heap[w1.heap.size]? = some (.cells #[.slice m1 (newE c).words.length n1, .slice m2 (newE c).lists.length n2, .int .i64 (newE c).tick] 39 (0, 0))) := hW2 ▸ setRow_heap _ _ _ _ _ (0, 0) N2.out
  have HW2 := Lib.hid hW2
  clear hW2
  go_upto_region 2 with (refine wpList_store_row rfl 39 _ _ rfl (w1.heap.size) _ rfl rfl 39 #[.slice none 0 0, .slice none 0 0, .int .i64 0] N2.out (by kernel_rfl) rfl (by simp [Value.oneCell']) ?_)
  rw [HW2.out]
  try simp only [Act.put]
  clear HW2 N2
  obtain ⟨P, hP⟩ : ∃ P, w1.heap.size = P := ⟨_, rfl⟩
  rw [hP] at R2
  rw [hP]
  clear hP

  have HB12 := Lib.hid (below_then HB1.out HB2.out)
  have R0' := Lib.hid ((HB12.out.block w.heap.size (by omega)).trans R0.out)
  have R1' := Lib.hid ((HB12.out.block (w.heap.size + 1) (by omega)).trans R1.out)
  have hW2 := HB12.out.size
  have h12 := HB2.out.size
  have h01 := HB1.out.size
  obtain ⟨x0, x1, x2⟩ := rowc3 R0'.out
  obtain ⟨y0, y1, y2⟩ := rowc3 R2.out
  go_wp2_with (refine wpList_store_row rfl 44 _ _ rfl (w.heap.size + 1) _ rfl rfl 44 #[.slice none 0 0, .slice none 0 0, .int .i64 0, .slice none 0 0, .slice none 0 0, .int .i64 0, .slice none 0 0, .slice none 0 0, .slice none 0 0] R1'.out (by kernel_rfl) rfl (by simp [Value.oneCell']) ?_)
  refine bodyPost_ret (v := .agg #[.slice a c.caps.length cap, .slice a2 c.starts.length cap2, .int .i64 c.threads, .slice m1 (newE c).words.length n1, .slice m2 (newE c).lists.length n2, .int .i64 (newE c).tick, .slice none 0 0, .slice none 0 0, .slice none 0 0]) (results_cell_row Try.results11 _ _ (w.heap.size + 1) 44 _ (0, 0) _ rfl (setRow_heap _ _ _ _ 44 (0, 0) R1'.out) Try.underlying44 rfl (by kernel_rfl)) rfl ?_
  exact ⟨m1, n1, m2, n2, rfl, Lib.hid (HM.out.sub fun w9 h9 => ⟨Nat.le_trans (by simp [World.setRow]; omega) h9.size, fun j hj hj2 => (h9.same j (by omega) (by simp [World.setRow]; omega)).trans ((setRow_other _ _ _ _ (by omega)).trans (HB2.out.block j hj2))⟩), Lib.hid (row_below (below_then HB.out HB12.out) (by omega) _)⟩
end Go.Proofs.Ytjnlkemdaffgbaa
/- What the program makes of a memory by an access to a list. -/
namespace Go.Proofs.Ytjnlkemdaffgbaa
open Go.ChangeShapes Go.WideShapes Go.ChangeAt Go.RowKit
set_option maxRecDepth 100000

theorem list_none {m : MemM} {a : AccM} (h : hasB m.lists.length a.addr = false) : listE m a = (m, ansZ) := by simp [listE, h]
theorem list_read {m : MemM} {i : Nat} {old nw til : Int} (h : hasB m.lists.length i = true) : listE m ⟨7, i, old, nw, til⟩ = (m, ⟨0, false, false, m.lists.getD i []⟩) := by simp [listE, h]
theorem set_self {α : Type} (l : List α) (i : Nat) (d : α) : l.set i (l.getD i d) = l := by
  apply List.ext_getElem?
  intro j
  rw [List.getElem?_set]
  by_cases e : i = j
  · subst e
    by_cases h : i < l.length
    · simp [h, List.getD_eq_getElem?_getD]
    · simp [h]
  · simp [e]
theorem list_next {m : MemM} {k : Int} {i : Nat} {old nw til : Int} (h : hasB m.lists.length i = true) (hk : k ≠ 7) (l' : List Int) (hl : nextL k (IntKind.i64.wrap nw) (m.lists.getD i []) = l') : listE m ⟨k, i, old, nw, til⟩ = (⟨m.words, m.lists.set i l', m.tick⟩, ⟨l'.length, false, false, []⟩) := by
  unfold listE; simp only [h]; simp only [Bool.true_eq_false, if_false, hk, Int.toNat_natCast, hl]
theorem list_same {m : MemM} {k : Int} {i : Nat} {old nw til : Int} (h : hasB m.lists.length i = true) (hk : k ≠ 7) (hl : nextL k (IntKind.i64.wrap nw) (m.lists.getD i []) = m.lists.getD i []) : listE m ⟨k, i, old, nw, til⟩ = (m, ⟨(m.lists.getD i []).length, false, false, []⟩) := by
  rw [list_next h hk _ hl, set_self]
theorem SlI.empty (w : World) (k : IntKind) (A : Option Addr) (c : Nat) : SlI w k (.slice A 0 c) [] := ⟨by simp, by simp, A, c, rfl, Nat.zero_le _, fun t ht => by simp at ht⟩
theorem SlI.take {w : World} {k : IntKind} {b off n cap : Nat} {l : List Int} (h : SlI w k (.slice (some ⟨b, off, none⟩) n cap) l) (i : Nat) (hi : i ≤ l.length) : SlI w k (.slice (some ⟨b, off, none⟩) i cap) (l.take i) := by
  obtain ⟨h1, h2, a, cap', e, h4, h5⟩ := h
  simp only [Value.slice.injEq] at e
  obtain ⟨rfl, rfl, rfl⟩ := e
  have hl : (l.take i).length = i := by simp; omega
  refine ⟨by omega, fun x hx => h2 x (List.mem_of_mem_take hx), _, cap, by rw [hl], by omega, fun t ht => ?_⟩
  obtain ⟨b', off', e, h6, h7⟩ := h5 t (by omega)
  refine ⟨b', off', e, h6, ?_⟩
  rw [h7]
  simp [List.getD_eq_getElem?_getD, show t < i by omega]
theorem SlI.drop {w : World} {k : IntKind} {b off n cap : Nat} {l : List Int} (h : SlI w k (.slice (some ⟨b, off, none⟩) n cap) l) (i : Nat) (hi : i ≤ l.length) : SlI w k (.slice (some ⟨b, off + i, none⟩) (l.length - i) (cap - i)) (l.drop i) := by
  obtain ⟨h1, h2, a, cap', e, h4, h5⟩ := h
  simp only [Value.slice.injEq] at e
  obtain ⟨rfl, rfl, rfl⟩ := e
  refine ⟨by simp; omega, fun x hx => h2 x (List.mem_of_mem_drop hx), _, cap - i, by rw [List.length_drop], by rw [List.length_drop]; omega, fun t ht => ?_⟩
  rw [List.length_drop] at ht
  obtain ⟨b', off', e, h6, h7⟩ := h5 (i + t) (by omega)
  simp only [Option.some.injEq, Addr.mk.injEq, and_true] at e
  obtain ⟨rfl, rfl⟩ := e
  refine ⟨b, off + i, rfl, h6, ?_⟩
  rw [Nat.add_assoc, h7]
  simp [List.getD_eq_getElem?_getD]
theorem two_lists {w : World} {u0 u1 : Value} {l0 l1 : List Int} (h0 : SlI w .i64 u0 l0) (h1 : SlI w .i64 u1 l1) : SlL (w.alloc (.cells #[u0, u1] 33)) (.slice (some ⟨w.heap.size, 0, none⟩) 2 2) [u0, u1] [l0, l1] := by
  have hb := below_new (Below.refl w.heap.size w) (.cells #[u0, u1] 33)
  refine ⟨by simp, rfl, _, 2, rfl, Nat.le_refl _, fun t ht => ⟨_, 0, rfl, by simp, ?_, ?_⟩⟩
  · rw [Nat.zero_add, World.cell?_alloc_at _ _ _ _ rfl]
    obtain rfl | rfl : t = 0 ∨ t = 1 := by simp at ht; omega
    · rfl
    · rfl
  · obtain rfl | rfl : t = 0 ∨ t = 1 := by simp at ht; omega
    · exact h0.below hb
    · exact h1.below hb
theorem wrap_wrap (x : Int) : IntKind.i64.wrap x = IntKind.i64.wrap (IntKind.i64.wrap x) := by rw [IntKind.wrap_i64, IntKind.wrap_i64]; omega
theorem wrap64_eq (x : Int) : wrap64 x = IntKind.i64.wrap x := by rw [IntKind.wrap_i64]; unfold wrap64; omega
end Go.Proofs.Ytjnlkemdaffgbaa
/- When an access is granted. -/
namespace Go.Proofs.Ytjnlkemdaffgbaa
open Go.ChangeShapes Go.WideShapes Go.ChangeAt Go.RowKit
set_option maxRecDepth 100000

theorem grant_wait {m : MemM} {a : AccM} (h : a.kind = 4) : grantB m a = (!hasB m.words.length a.addr || m.words.getD a.addr.toNat 0 != a.old || comeB m.tick a.til) := by simp [grantB, h]
theorem grant_other {m : MemM} {a : AccM} (h : a.kind ≠ 4) : grantB m a = (decide (1 ≤ a.kind) && decide (a.kind ≤ 9)) := by simp [grantB, h]
theorem hid_drew {B : Nat} {W w : World} (h : Hid (Below B W w)) : Hid (Below B W w.drew) := below_drewN h.out 1
theorem hid_then {W w w2 : World} (h : Hid (Below W.heap.size W w)) (h2 : Below w.heap.size w w2) : Hid (Below W.heap.size W w2) := below_then h.out h2
theorem hid_mem {W w : World} {v : Value} {m : MemM} (h : MemV W v m) (h2 : Hid (Below W.heap.size W w)) : MemV w v m := h.below h2.out
set_option maxHeartbeats 2000000 in
theorem rgranted_any (v : Value) (m : MemM) (a : AccM) (w : World) (h : MemV w v m) (hm : m.fits) (ha : a.ok) :
    Calls Try.prog 71 #[v, accV a] w fun e w' => e = .returned (.bool (grantB m a)) ∧ Below w.heap.size w w' := by
  have hasword := rword_any
  obtain ⟨vw, vl, us, rfl, h1, h2⟩ := h
  have hwl := hm.words
  obtain ⟨a1, cap, rfl, -⟩ := h1.len
  obtain ⟨a2, cap2, rfl, -⟩ := h2.len
  have HT := Lib.hid ha.til
  obtain ⟨W, hW⟩ : ∃ W, (w.alloc (.cells #[.slice a1 m.words.length cap, .slice a2 m.lists.length cap2, .int .i64 m.tick] 39)).alloc (.cells #[.int .i64 a.kind, .int .i64 a.addr, .int .u64 a.old, .int .u64 a.new, .int .i64 a.til] 69) = W := ⟨_, rfl⟩
  have HB : Hid (Below w.heap.size w W) := hW ▸ below_new (below_new (Below.refl w.heap.size w) _) _
  have hz : w.heap.size + 2 ≤ W.heap.size := by rw [← hW]; simp
  have R0 : Hid (W.heap[w.heap.size]? = some (.cells #[.slice a1 m.words.length cap, .slice a2 m.lists.length cap2, .int .i64 m.tick] 39 (0, 0))) := hW ▸ heap_alloc2_old _ _ _
  have R1 : Hid (W.heap[w.heap.size + 1]? = some (.cells #[.int .i64 a.kind, .int .i64 a.addr, .int .u64 a.old, .int .u64 a.new, .int .i64 a.til] 69 (0, 0))) := hW ▸ heap_alloc2_new _ _ _
  have HW := Lib.hid hW
  have HV : Hid (MemV W (.agg #[.slice a1 m.words.length cap, .slice a2 m.lists.length cap2, .int .i64 m.tick]) m) := ⟨_, _, us, rfl, h1.below HB.out, h2.below HB.out⟩
  have H1 := Lib.hid (h1.below HB.out)
  have HHW := Lib.hid fun v w' h => hasword v m a.addr w' h
  clear h1 h2 hm ha hW
  obtain ⟨x0, x1, x2⟩ := rowc3 R0.out
  obtain ⟨y0, y1, y2, y3, y4⟩ := rowc5 R1.out
  by_cases h4 : a.kind = 4
  · have HG := Lib.hid (grant_wait (m := m) h4)
    obtain ⟨k, ad, old, nw, til⟩ := a
    simp only at h4
    subst h4
    unfold accV
    dsimp only at *
    go_enter Try.func71, Try.ntmps71
    go_upto_region 1 with fail
    rw [HW.out]
    clear HW
    go_upto_region 2 with fail
    have X0 := ext_cell _ _ (by omega) _ x0
    have X1 := ext_cell _ _ (by omega) _ x1
    have X2 := ext_cell _ _ (by omega) _ x2
    have Y1 := ext_cell _ _ (by omega) _ y1
    have Y2 := ext_cell _ _ (by omega) _ y2
    have Y4 := ext_cell _ _ (by omega) _ y4
    cases hb : hasB m.words.length ad with
    | false =>
      rw [hb] at HHW
      have HGV : Hid (grantB m ⟨4, ad, old, nw, til⟩ = true) := HG.out.trans (by rw [hb]; simp)
      clear hb HG
      refine wp_region_ext W (by kernel_rfl) (by kernel_rfl) (Below.refl _ _) ?_
      repeat (go_big_quiet_step (first | (go_at_call 75; exact calls_ext (HHW.out _ _ (HV.out.below (Ext.below _))))))
      refine wpQuiet_nil ?_
      intro _ hw'
      obtain ⟨⟨w2, hw2⟩, hw''⟩ := hw'
      subst hw''
      have HB2 := Lib.hid (HB.out.trans (hw2.mono (by omega)))
      clear hw2
      go_wp2
      go_ret
      exact ⟨ret_bool HGV.out.symm, HB2.out⟩
    | true =>
      obtain ⟨i, rfl, hi⟩ := hasB_true hb
      rw [hb] at HHW
      have HGV : Hid (grantB m ⟨4, i, old, nw, til⟩ = (m.words.getD i 0 != old || comeB m.tick til)) := HG.out.trans (by rw [hb]; simp)
      clear hb HG
      obtain ⟨b, off, cap', e, hcap, hblt, hcells⟩ := H1.out.open (by rintro h0; rw [h0] at hi; simp at hi)
      have hck := hcells i hi
      simp only [Value.slice.injEq] at e
      obtain ⟨rfl, -, rfl⟩ := e
      have hiI : (i : Int) < m.words.length := by omega
      have hi0 : (0 : Int) ≤ i := by omega
      obtain ⟨y, hy⟩ : ∃ y, m.words.getD i 0 = y := ⟨_, rfl⟩
      rw [hy] at hck
      rw [hy] at HGV
      have K0 := ext_cell _ _ hblt _ hck
      clear hcells hy
      by_cases hyo : y = old
      · subst hyo
        have hne : (y != y) = false := by simp
        have HGW := Lib.hid (HGV.out.trans (by rw [hne]; rfl : (y != y || comeB m.tick til) = comeB m.tick til))
        clear HGV
        have HTW := HT.out
        by_cases h0 : 0 < til
        · have hd : decide (0 < til) = true := by simpa using h0
          have hwi : IntKind.i64.wrap (til - 1) = til - 1 := by rw [IntKind.wrap_i64] at HTW ⊢; omega
          have HGX := Lib.hid (HGW.out.trans (by simp [comeB, h0] : comeB m.tick til = decide (til - 1 ≤ m.tick)))
          clear HTW HGW HT
          refine wp_region_ext W (by kernel_rfl) (by kernel_rfl) (Below.refl _ _) ?_
          repeat (go_big_quiet_step (first | (go_at_call 75; exact calls_ext (HHW.out _ _ (HV.out.below (Ext.below _))))))
          refine wpQuiet_nil ?_
          intro _ hw'
          obtain ⟨⟨w2, hw2⟩, hw''⟩ := hw'
          subst hw''
          have HB2 := Lib.hid (HB.out.trans (hw2.mono (by omega)))
          clear hw2
          go_wp2
          go_ret
          exact ⟨ret_bool HGX.out.symm, HB2.out⟩
        · have hd : decide (0 < til) = false := by simpa using h0
          have HGX := Lib.hid (HGW.out.trans (by simp only [comeB, hd, Bool.false_and] : comeB m.tick til = false))
          clear HTW HGW HT
          refine wp_region_ext W (by kernel_rfl) (by kernel_rfl) (Below.refl _ _) ?_
          repeat (go_big_quiet_step (first | (go_at_call 75; exact calls_ext (HHW.out _ _ (HV.out.below (Ext.below _))))))
          refine wpQuiet_nil ?_
          intro _ hw'
          obtain ⟨⟨w2, hw2⟩, hw''⟩ := hw'
          subst hw''
          have HB2 := Lib.hid (HB.out.trans (hw2.mono (by omega)))
          clear hw2
          go_wp2
          go_ret
          exact ⟨ret_bool HGX.out.symm, HB2.out⟩

      · have hne : (y != old) = true := by simpa using hyo
        have HGW := Lib.hid (HGV.out.trans (by rw [hne]; rfl : (y != old || comeB m.tick til) = true))
        clear hyo HGV
        refine wp_region_ext W (by kernel_rfl) (by kernel_rfl) (Below.refl _ _) ?_
        repeat (go_big_quiet_step (first | (go_at_call 75; exact calls_ext (HHW.out _ _ (HV.out.below (Ext.below _))))))
        refine wpQuiet_nil ?_
        intro _ hw'
        obtain ⟨⟨w2, hw2⟩, hw''⟩ := hw'
        subst hw''
        have HB2 := Lib.hid (HB.out.trans (hw2.mono (by omega)))
        clear hw2
        go_wp2
        go_ret
        exact ⟨ret_bool HGW.out.symm, HB2.out⟩
  · have HG := Lib.hid (grant_other (m := m) h4)
    obtain ⟨k, ad, old, nw, til⟩ := a
    dsimp only at *
    unfold accV
    dsimp only
    have k4 := ne_beq h4
    clear h4
    by_cases h1 : 1 ≤ k
    · have hd : decide (1 ≤ k) = true := by simpa using h1
      go_enter Try.func71, Try.ntmps71
      go_upto_region 1 with fail
      rw [HW.out]
      clear HW
      go_wp2
      go_ret
      exact ⟨ret_bool (by rw [HG.out, hd]; simp), HB.out⟩
    · have hd : decide (1 ≤ k) = false := by simpa using h1
      go_enter Try.func71, Try.ntmps71
      go_upto_region 1 with fail
      rw [HW.out]
      clear HW
      go_wp2
      go_ret
      exact ⟨ret_bool (by rw [HG.out, hd]; simp), HB.out⟩
end Go.Proofs.Ytjnlkemdaffgbaa
/- What the program makes of a memory by an access. -/
namespace Go.Proofs.Ytjnlkemdaffgbaa
open Go.ChangeShapes Go.WideShapes Go.ChangeAt Go.RowKit
set_option maxRecDepth 100000

/-- a memory, an answer and a truth value are handed back -/
def TripR (G : World → Prop) (w : World) (r : MemM × AnsM × Bool) (e : Ending) (w' : World) : Prop :=
  ∃ v' b', e = .returned (.tuple #[v', b', .bool r.2.2]) ∧ StM (Nx G w w') v' r.1 ∧ StA (Nx G w w') b' r.2.1 ∧ Below w.heap.size w w'
theorem apply_not {m : MemM} {a : AccM} (h : grantB m a = false) : applyE m a = (m, ansZ, false) := by simp [applyE, h]
theorem apply_list {m : MemM} {a : AccM} (h : grantB m a = true) (hk : 7 ≤ a.kind) : applyE m a = ((listE m a).1, (listE m a).2, true) := by simp [applyE, h, hk]
theorem apply_word {m : MemM} {a : AccM} (h : grantB m a = true) (hk : ¬ 7 ≤ a.kind) : applyE m a = ((wordE m a).1, (wordE m a).2, true) := by simp [applyE, h, hk]
theorem grant_kind {m : MemM} {a : AccM} (h : grantB m a = true) : 1 ≤ a.kind ∧ a.kind ≤ 9 := by
  by_cases h4 : a.kind = 4
  · omega
  · simp only [grantB, h4, if_false, Bool.and_eq_true, decide_eq_true_eq] at h
    exact h
theorem StM.shape {G : World → Prop} {v : Value} {m : MemM} (h : StM G v m) (w : World) (hG : G w) : ∃ A n c A2 n2 c2 t, v = .agg #[.slice A n c, .slice A2 n2 c2, .int .i64 t] := by
  obtain ⟨a, cap, a2, cap2, rfl⟩ := h.open w hG
  exact ⟨_, _, _, _, _, _, _, rfl⟩
theorem StA.shape {G : World → Prop} {v : Value} {b : AnsM} (h : StA G v b) (w : World) (hG : G w) : ∃ x p q A n c, v = .agg #[.int .u64 x, .bool p, .bool q, .slice A n c] := by
  obtain ⟨vl, rfl, hl⟩ := h
  obtain ⟨A, c, rfl, -⟩ := (hl w hG).len
  exact ⟨_, _, _, _, _, _, rfl⟩
theorem put34_other (w : World) (g : Nat) (u0 u1 u2 r0 r1 r2 r3 : Value) (j : Nat) (h : j ≠ g) (h' : j ≠ g + 1) : (put34 w g u0 u1 u2 r0 r1 r2 r3).heap[j]? = w.heap[j]? := by
  have o : ∀ (x : World) (i : Nat) (u : Value), (x.setCell ⟨g, i, none⟩ u).heap[j]? = x.heap[j]? := fun x i u => heap_setCell_other x ⟨g, i, none⟩ j u h
  have o' : ∀ (x : World) (i : Nat) (u : Value), (x.setCell ⟨g + 1, i, none⟩ u).heap[j]? = x.heap[j]? := fun x i u => heap_setCell_other x ⟨g + 1, i, none⟩ j u h'
  unfold put34
  rw [heap_drew, o', o', o', o', o, o, o]
theorem put34_size (w : World) (g : Nat) (u0 u1 u2 r0 r1 r2 r3 : Value) : (put34 w g u0 u1 u2 r0 r1 r2 r3).heap.size = w.heap.size := by
  unfold put34
  simp
end Go.Proofs.Ytjnlkemdaffgbaa
