import Derived.Deep.DeepCutAuto
import Derived.Deep.CutBlock
import Derived.RegionTactic
import Derived.BigRegion
import Derived.Test.YtckjdlphilpgfaaRows
import Derived.Deep.QuietTactic
import Derived.BigQuiet
import Derived.Test.YtckjdlphilpgfaaB08
import Derived.Test.YtckjdlphilpgfaaB02
import Derived.Test.YtckjdlphilpgfaaB05
import Derived.Test.YtckjdlphilpgfaaB16
import Derived.Test.YtckjdlphilpgfaaB01
set_option linter.unusedVariables false
set_option linter.unusedSimpArgs false
/- Layer 14: equal channels. -/
namespace Go.Proofs.Ytckjdlphilpgfaa
open Go.ChangeShapes Go.WideShapes Go.ChangeAt Go.RowKit
set_option maxRecDepth 100000

def chEqB (c d : ChanM) : Bool := c.cap == d.cap && (c.closed == d.closed && c.buf == d.buf)
def sameB (l m : List ChanM) : Bool := l.length == m.length && (List.range l.length).all fun i => chEqB (l.getD i noChan) (m.getD i noChan)
theorem sameB_len {l m : List ChanM} (h : l.length ≠ m.length) : sameB l m = false := by
  unfold sameB
  rw [show (l.length == m.length) = false by simpa using h]
  rfl
theorem sameB_no {l m : List ChanM} {i : Nat} (hi : i < l.length) (h : chEqB (l.getD i noChan) (m.getD i noChan) = false) : sameB l m = false := by
  unfold sameB
  rw [show ((List.range l.length).all fun i => chEqB (l.getD i noChan) (m.getD i noChan)) = false from List.all_eq_false.2 ⟨i, List.mem_range.2 hi, by rw [h]; simp⟩, Bool.and_false]
theorem sameB_yes {l m : List ChanM} (h : l.length = m.length) (h2 : ∀ i, i < l.length → chEqB (l.getD i noChan) (m.getD i noChan) = true) : sameB l m = true := by
  unfold sameB
  rw [h]
  simp only [beq_self_eq_true, Bool.true_and]
  rw [← h]
  exact List.all_eq_true.2 fun i hi => h2 i (List.mem_range.1 hi)
theorem sameB_refl (l : List ChanM) : sameB l l = true := sameB_yes rfl fun i _ => by
  unfold chEqB
  simp
theorem beq_no {l m : List Int} (i : Nat) (h : l.getD i 0 ≠ m.getD i 0) : (l == m) = false := by
  rw [beq_eq_false_iff_ne]
  intro e
  rw [e] at h
  exact h rfl
theorem beq_yes {l m : List Int} (h : l.length = m.length) (h2 : ∀ i, i < l.length → l.getD i 0 = m.getD i 0) : (l == m) = true := by
  rw [beq_iff_eq]
  refine List.ext_getElem h fun i h1 h3 => ?_
  have := h2 i h1
  rwa [List.getD_eq_getElem?_getD, List.getD_eq_getElem?_getD, List.getElem?_eq_getElem h1, List.getElem?_eq_getElem h3] at this
set_option maxRecDepth 100000 in
set_option maxHeartbeats 16000000 in
theorem equalU_any (v v2 : Value) (l m : List Int) (w : World) (hv : SlI w .u64 v l) (hv2 : SlI w .u64 v2 m) : Calls Try.prog 69 #[v, v2] w fun e w' => e = .returned (.bool (l == m)) ∧ Below w.heap.size w w' := by
  have HV := Lib.hid hv
  have HV2 := Lib.hid hv2
  have hm1 := hv.1
  have hm2 := hv2.1
  have HNO := Lib.hid fun i (h : l.getD i 0 ≠ m.getD i 0) => beq_no i h
  have HYES := Lib.hid fun (h : l.length = m.length) (h2 : ∀ i, i < l.length → l.getD i 0 = m.getD i 0) => beq_yes h h2
  have HLEN : Hid (l.length ≠ m.length → (l == m) = false) := fun h => by
    rw [beq_eq_false_iff_ne]
    intro e
    rw [e] at h
    exact h rfl
  obtain ⟨rb, hrb⟩ : ∃ b, (l == m) = b := ⟨_, rfl⟩
  rw [hrb] at HNO HYES HLEN ⊢
  clear hrb
  obtain ⟨a, cap, rfl, -⟩ := hv.len
  obtain ⟨a2, cap2, rfl, -⟩ := hv2.len
  clear hv hv2
  by_cases hl : l.length = m.length
  · have HL := Lib.hid hl
    have hq : ((l.length : Int) != (m.length : Int)) = false := by simp [hl]
    obtain ⟨n, hn⟩ : ∃ n, l.length = n := ⟨_, rfl⟩
    have hn2 : m.length = n := by rw [← hl, hn]
    rw [hn] at hq hm1
    rw [hn2] at hq hm2
    rw [hn] at HV ⊢
    rw [hn2] at HV2 ⊢
    have HN := Lib.hid (And.intro hn hn2)
    clear hl hn hn2
    go_enter Try.func69, Try.ntmps69
    go_wp2_with fail
    go_loopw [13] (fun u13 wr => ∃ i : Nat, u13 = .int .i64 i ∧ i ≤ n ∧ Hid (∀ j, j < i → l.getD j 0 = m.getD j 0) ∧ Hid (Below w.heap.size w wr)) (fun u13 _ => n - (intOf u13).toNat)
    case atStart => exact ⟨0, rfl, by omega, fun j hj => by omega, Below.refl _ _⟩
    case round =>
      obtain ⟨i, rfl, hi, HE, HBi⟩ := hrel
      obtain ⟨wo, rfl⟩ : ∃ wo : World, wo = wr := ⟨_, rfl⟩
      by_cases hlt : i < n
      · have hltI : (i : Int) < (n : Int) := by omega
        obtain ⟨b, off, capx, hve, -, hb, hc⟩ := (HV.out.below HBi.out).open (by intro h0; have := HN.out.1; rw [h0] at this; simp at this; omega)
        simp only [Value.slice.injEq] at hve
        obtain ⟨rfl, -, rfl⟩ := hve
        obtain ⟨b2, off2, capx2, hve, -, hb2, hd⟩ := (HV2.out.below HBi.out).open (by intro h0; have := HN.out.2; rw [h0] at this; simp at this; omega)
        simp only [Value.slice.injEq] at hve
        obtain ⟨rfl, -, rfl⟩ := hve
        have c0 := hc i (by rw [HN.out.1]; exact hlt)
        have d0 := hd i (by rw [HN.out.2]; exact hlt)
        obtain ⟨x, hx⟩ : ∃ x, l.getD i 0 = x := ⟨_, rfl⟩
        obtain ⟨y, hy⟩ : ∃ x, m.getD i 0 = x := ⟨_, rfl⟩
        rw [hx] at c0
        rw [hy] at d0
        have HXY := Lib.hid (And.intro hx hy)
        clear hc hd hx hy
        go_upto_region 6 with fail
        have Xc0 := ext_cell _ _ (hb) _ c0
        have Xd0 := ext_cell _ _ (hb2) _ d0
        clear c0 d0
        refine wp_region_ext wo (by kernel_rfl) (by kernel_rfl) (Below.refl _ _) ?_
        repeat (go_big_quiet_step (fail))
        refine wpQuiet_nil ?_
        intro _ hw'
        obtain ⟨n9, rfl⟩ := hw'
        have HB9 := Lib.hid (below_then HBi.out n9.below)
        generalize n9.wd = w9 at *
        clear Xc0 Xd0 hb hb2
        by_cases hxy : x = y
        · subst hxy
          go_wp2_with fail
          go_roundw
          case rel => exact ⟨i + 1, by go_num, by omega, fun j hj => by
            by_cases e : j = i
            · rw [e, HXY.out.1, HXY.out.2]
            · exact HE.out j (by omega), HB9⟩
          case measure => simp [intOf]; omega
        · have hq1 : (x != y) = true := by simpa using hxy
          have hr : rb = false := HNO.out i (by rw [HXY.out.1, HXY.out.2]; exact hxy)
          subst hr
          go_wp2
          go_ret
          exact ⟨rfl, HB9.out⟩
      · have hge : ¬ (i : Int) < (n : Int) := by omega
        have hr : rb = true := HYES.out HL.out fun j hj => HE.out j (by rw [HN.out.1] at hj; omega)
        subst hr
        go_wp2
        go_ret
        exact ⟨rfl, HBi.out⟩
  · have hq : ((l.length : Int) != (m.length : Int)) = true := by simp; omega
    have hr : rb = false := HLEN.out hl
    subst hr
    clear hl
    go_enter Try.func69, Try.ntmps69
    go_wp2
    go_ret
    exact ⟨rfl, Below.refl _ _⟩
set_option maxRecDepth 100000 in
set_option maxHeartbeats 16000000 in
theorem qequal_any (c d : ChanM) (u u2 : Value) (w : World) (hu : SlI w .u64 u c.buf) (hu2 : SlI w .u64 u2 d.buf) : Calls Try.prog 55 #[.agg #[.int .i64 c.cap, u, .bool c.closed], .agg #[.int .i64 d.cap, u2, .bool d.closed]] w fun e w' => e = .returned (.bool (chEqB c d)) ∧ Below w.heap.size w w' := by
  obtain ⟨cc, bf, cl⟩ := c
  obtain ⟨cc2, bf2, cl2⟩ := d
  dsimp only at *
  have TE := Lib.hid fun w' (hb : Below w.heap.size w w') => equalU_any u u2 bf bf2 w' (hu.below hb) (hu2.below hb)
  obtain ⟨rb, hrb⟩ : ∃ b, chEqB ⟨cc, bf, cl⟩ ⟨cc2, bf2, cl2⟩ = b := ⟨_, rfl⟩
  rw [hrb]
  unfold chEqB at hrb
  dsimp only at hrb
  obtain ⟨b1, hb1⟩ : ∃ b, (cc == cc2) = b := ⟨_, rfl⟩
  obtain ⟨b3, hb3⟩ : ∃ b, (bf == bf2) = b := ⟨_, rfl⟩
  rw [hb1, hb3] at hrb
  rw [hb3] at TE
  have HRB := Lib.hid hrb
  obtain ⟨ua, uc, rfl, -⟩ := hu.len
  obtain ⟨ua2, uc2, rfl, -⟩ := hu2.len
  clear hu hu2 hrb hb3
  obtain ⟨W, hW, HB, R0, R1, hz⟩ := two_new w (.cells #[.int .i64 cc, .slice ua bf.length uc, .bool cl] 69) (.cells #[.int .i64 cc2, .slice ua2 bf2.length uc2, .bool cl2] 69)
  have HW := Lib.hid hW
  clear hW
  go_enter Try.func55, Try.ntmps55
  go_upto_region 1 with fail
  rw [HW.out]
  clear HW
  obtain ⟨x0_0, x0_1, x0_2⟩ := rowc3 R0.out
  obtain ⟨x1_0, x1_1, x1_2⟩ := rowc3 R1.out
  cases b1 with
  | false =>
    have hr : rb = false := by rw [← HRB.out]; rfl
    subst hr
    clear HRB
    go_wp2
    go_ret
    exact ⟨rfl, HB.out⟩
  | true =>
    cases cl <;> cases cl2
    · skip
      have HR : Hid (rb = b3) := by show _ = _; rw [← HRB.out]; rfl
      clear HRB
      go_wp2_with fail
      refine (TE.out _ HB.out).mono ?_; rintro e w1 ⟨rfl, hb1'⟩
      have HB1 := Lib.hid (below_then HB.out hb1')
      clear hb1' x0_0 x0_1 x0_2 x1_0 x1_1 x1_2
      go_wp2
      go_ret
      exact ⟨by rw [HR.out]; rfl, HB1.out⟩
    · skip
      have hr : rb = false := by rw [← HRB.out]; rfl
      subst hr
      clear HRB
      go_wp2
      go_ret
      exact ⟨rfl, HB.out⟩
    · skip
      have hr : rb = false := by rw [← HRB.out]; rfl
      subst hr
      clear HRB
      go_wp2
      go_ret
      exact ⟨rfl, HB.out⟩
    · skip
      have HR : Hid (rb = b3) := by show _ = _; rw [← HRB.out]; rfl
      clear HRB
      go_wp2_with fail
      refine (TE.out _ HB.out).mono ?_; rintro e w1 ⟨rfl, hb1'⟩
      have HB1 := Lib.hid (below_then HB.out hb1')
      clear hb1' x0_0 x0_1 x0_2 x1_0 x1_1 x1_2
      go_wp2
      go_ret
      exact ⟨by rw [HR.out]; rfl, HB1.out⟩
end Go.Proofs.Ytckjdlphilpgfaa
/- What the program makes of a memory: words, lists, time. -/
namespace Go.Proofs.Ytckjdlphilpgfaa
open Go.ChangeShapes Go.WideShapes Go.ChangeAt Go.RowKit
set_option maxRecDepth 100000

def zeroMem : Array Value := #[.slice none 0 0, .slice none 0 0, .int .i64 0]
end Go.Proofs.Ytckjdlphilpgfaa
/- What the program makes of a memory by an access to a word or to a list. -/
namespace Go.Proofs.Ytckjdlphilpgfaa
open Go.ChangeShapes Go.WideShapes Go.ChangeAt Go.RowKit
set_option maxRecDepth 100000

theorem ne_beq {x c : Int} (h : x ≠ c) : (x == c) = false := by simpa using h
theorem hasB_true {n : Nat} {x : Int} (h : hasB n x = true) : ∃ i : Nat, x = i ∧ i < n := by
  simp only [hasB, Bool.and_eq_true, decide_eq_true_eq] at h
  exact ⟨x.toNat, by omega, by omega⟩
theorem results_cells2 {fn : Func} {P : Program} {p q : Tmp} {t1 t2 : TypeId} (h : fn.results = #[.cell p t1, .cell q t2]) (tmps : Array Value) (w : World) (g1 g2 : Nat) (u1 u2 : TypeId) (c1 c2 : Array Value) (f1 f2 : Nat × Nat) (d1 d2 : TypeDesc)
    (hp : tmps.getD p undef = .pointer (some ⟨g1, 0, none⟩)) (hq : tmps.getD q undef = .pointer (some ⟨g2, 0, none⟩)) (hg1 : w.heap[g1]? = some (.cells c1 u1 f1)) (hg2 : w.heap[g2]? = some (.cells c2 u2 f2))
    (hu1 : P.underlying t1 = some d1) (hd1 : (match d1 with | .struct _ | .array _ _ => true | _ => false) = true) (hi1 : (P.info? t1).map (·.size) = some c1.size)
    (hu2 : P.underlying t2 = some d2) (hd2 : (match d2 with | .struct _ | .array _ _ => true | _ => false) = true) (hi2 : (P.info? t2).map (·.size) = some c2.size) :
    (results fn tmps).run P w = .ok (.tuple #[.agg c1, .agg c2]) w := by
  have hp' : tmps[p]?.getD undef = .pointer (some ⟨g1, 0, none⟩) := by simpa using hp
  have hq' : tmps[q]?.getD undef = .pointer (some ⟨g2, 0, none⟩) := by simpa using hq
  simp [results, h, hp', hq', asAddr, run_loadVar_row w g1 u1 t1 c1 f1 d1 hg1 hu1 hd1 hi1, run_loadVar_row w g2 u2 t2 c2 f2 d2 hg2 hu2 hd2 hi2]
theorem results_cells3 {fn : Func} {P : Program} {p q u : Tmp} {t1 t2 : TypeId} (h : fn.results = #[.cell p t1, .cell q t2, .tmp u]) (tmps : Array Value) (w : World) (g1 g2 : Nat) (u1 u2 : TypeId) (c1 c2 : Array Value) (f1 f2 : Nat × Nat) (d1 d2 : TypeDesc)
    (hp : tmps.getD p undef = .pointer (some ⟨g1, 0, none⟩)) (hq : tmps.getD q undef = .pointer (some ⟨g2, 0, none⟩)) (hg1 : w.heap[g1]? = some (.cells c1 u1 f1)) (hg2 : w.heap[g2]? = some (.cells c2 u2 f2))
    (hu1 : P.underlying t1 = some d1) (hd1 : (match d1 with | .struct _ | .array _ _ => true | _ => false) = true) (hi1 : (P.info? t1).map (·.size) = some c1.size)
    (hu2 : P.underlying t2 = some d2) (hd2 : (match d2 with | .struct _ | .array _ _ => true | _ => false) = true) (hi2 : (P.info? t2).map (·.size) = some c2.size) (x : Value) (hx : tmps.getD u undef = x) :
    (results fn tmps).run P w = .ok (.tuple #[.agg c1, .agg c2, x]) w := by
  have hp' : tmps[p]?.getD undef = .pointer (some ⟨g1, 0, none⟩) := by simpa using hp
  have hq' : tmps[q]?.getD undef = .pointer (some ⟨g2, 0, none⟩) := by simpa using hq
  have hx' : tmps[u]?.getD undef = x := by simpa using hx
  simp [results, h, hp', hq', hx', asAddr, run_loadVar_row w g1 u1 t1 c1 f1 d1 hg1 hu1 hd1 hi1, run_loadVar_row w g2 u2 t2 c2 f2 d2 hg2 hu2 hd2 hi2]
theorem heap_alloc4 (w : World) (A B C D : Obj) : let W := (((w.alloc A).alloc B).alloc C).alloc D
    W.heap[w.heap.size]? = some A ∧ W.heap[w.heap.size + 1]? = some B ∧ W.heap[w.heap.size + 2]? = some C ∧ W.heap[w.heap.size + 3]? = some D ∧ W.heap.size = w.heap.size + 4 ∧ Below w.heap.size w W := by
  intro W
  have hs : ((w.alloc A).alloc B).heap.size = w.heap.size + 2 := by simp
  have hb := below_new (below_new (Below.refl ((w.alloc A).alloc B).heap.size ((w.alloc A).alloc B)) C) D
  have e2 := heap_alloc2_old ((w.alloc A).alloc B) C D
  have e3 := heap_alloc2_new ((w.alloc A).alloc B) C D
  rw [hs] at e2 e3 hb
  exact ⟨(hb.block _ (by omega)).trans (heap_alloc2_old w A B), (hb.block _ (by omega)).trans (heap_alloc2_new w A B), e2, e3, by simp [W], below_new (below_new (below_new (below_new (Below.refl _ _) _) _) _) _⟩
theorem store3 {w : World} {g : Nat} {T : TypeId} {v0 v1 v2 : Value} (h : w.heap[g]? = some (.cells #[v0, v1, v2] T (0, 0))) (u0 u1 u2 : Value) :
    (((w.setCell ⟨g, 0, none⟩ u0).setCell ⟨g, 1, none⟩ u1).setCell ⟨g, 2, none⟩ u2).heap[g]? = some (.cells #[u0, u1, u2] T (0, 0)) := by
  have h1 := heap_setCell_same w g 0 _ _ u0 h
  have h2 := heap_setCell_same _ g 1 _ _ u1 h1
  have h3 := heap_setCell_same _ g 2 _ _ u2 h2
  simpa using h3
theorem store4 {w : World} {g : Nat} {T : TypeId} {v0 v1 v2 v3 : Value} (h : w.heap[g]? = some (.cells #[v0, v1, v2, v3] T (0, 0))) (u0 u1 u2 u3 : Value) :
    ((((w.setCell ⟨g, 0, none⟩ u0).setCell ⟨g, 1, none⟩ u1).setCell ⟨g, 2, none⟩ u2).setCell ⟨g, 3, none⟩ u3).heap[g]? = some (.cells #[u0, u1, u2, u3] T (0, 0)) := by
  have h1 := heap_setCell_same w g 0 _ _ u0 h
  have h2 := heap_setCell_same _ g 1 _ _ u1 h1
  have h3 := heap_setCell_same _ g 2 _ _ u2 h2
  have h4 := heap_setCell_same _ g 3 _ _ u3 h3
  simpa using h4
/-- seven stores into two rows -/
def put34 (w : World) (g : Nat) (u0 u1 u2 r0 r1 r2 r3 : Value) : World :=
  (((((((w.setCell ⟨g, 0, none⟩ u0).setCell ⟨g, 1, none⟩ u1).setCell ⟨g, 2, none⟩ u2).setCell ⟨g + 1, 0, none⟩ r0).setCell ⟨g + 1, 1, none⟩ r1).setCell ⟨g + 1, 2, none⟩ r2).setCell ⟨g + 1, 3, none⟩ r3).drew
theorem put34_rows {w : World} {g : Nat} {T T' : TypeId} {v0 v1 v2 q0 q1 q2 q3 : Value} (h : w.heap[g]? = some (.cells #[v0, v1, v2] T (0, 0))) (h' : w.heap[g + 1]? = some (.cells #[q0, q1, q2, q3] T' (0, 0))) (u0 u1 u2 r0 r1 r2 r3 : Value) :
    (put34 w g u0 u1 u2 r0 r1 r2 r3).heap[g]? = some (.cells #[u0, u1, u2] T (0, 0)) ∧ (put34 w g u0 u1 u2 r0 r1 r2 r3).heap[g + 1]? = some (.cells #[r0, r1, r2, r3] T' (0, 0)) := by
  have o : ∀ (x : World) (j : Nat) (u : Value), (x.setCell ⟨g, j, none⟩ u).heap[g + 1]? = x.heap[g + 1]? := fun x j u => heap_setCell_other x ⟨g, j, none⟩ (g + 1) u (by simp)
  have o' : ∀ (x : World) (j : Nat) (u : Value), (x.setCell ⟨g + 1, j, none⟩ u).heap[g]? = x.heap[g]? := fun x j u => heap_setCell_other x ⟨g + 1, j, none⟩ g u (by simp)
  unfold put34
  rw [heap_drew]
  refine ⟨?_, store4 (v0 := q0) (v1 := q1) (v2 := q2) (v3 := q3) ?_ r0 r1 r2 r3⟩
  · rw [o', o', o', o']; exact store3 h u0 u1 u2
  · rw [o, o, o]; exact h'
theorem put34_below {B : Nat} {a w : World} {g : Nat} (h : Below B a w) (hg : B ≤ g) (u0 u1 u2 r0 r1 r2 r3 : Value) : Below B a (put34 w g u0 u1 u2 r0 r1 r2 r3) := by
  unfold put34
  exact below_drewN ((((((((h.setCell (p := ⟨g, 0, none⟩) hg u0).setCell (p := ⟨g, 1, none⟩) hg u1).setCell (p := ⟨g, 2, none⟩) hg u2).setCell (p := ⟨g + 1, 0, none⟩) (Nat.le_succ_of_le hg) r0).setCell (p := ⟨g + 1, 1, none⟩) (Nat.le_succ_of_le hg) r1).setCell (p := ⟨g + 1, 2, none⟩) (Nat.le_succ_of_le hg) r2).setCell (p := ⟨g + 1, 3, none⟩) (Nat.le_succ_of_le hg) r3)) 1
def zeroAns : Array Value := #[.int .u64 0, .bool false, .bool false, .slice none 0 0]
/-- a memory and an answer are handed back -/
def PairR (G : World → Prop) (w : World) (r : MemM × AnsM) (e : Ending) (w' : World) : Prop :=
  ∃ v' b', e = .returned (.tuple #[v', b']) ∧ StM (Nx G w w') v' r.1 ∧ StA (Nx G w w') b' r.2 ∧ Below w.heap.size w w'
theorem word_none {m : MemM} {a : AccM} (h : hasB m.words.length a.addr = false) : wordE m a = (m, ansZ) := by simp [wordE, h]
theorem word_put {m : MemM} {k ad old nw til : Int} (h : hasB m.words.length ad = true) (hk : k = 2 ∨ k = 6) : wordE m ⟨k, ad, old, nw, til⟩ = (⟨m.words.set ad.toNat nw, m.lists, m.tick⟩, ansZ) := by simp [wordE, h, hk]
theorem word_cas {m : MemM} {ad old nw til : Int} (h : hasB m.words.length ad = true) (hk : m.words.getD ad.toNat 0 = old) : wordE m ⟨3, ad, old, nw, til⟩ = (⟨m.words.set ad.toNat nw, m.lists, m.tick⟩, ⟨m.words.getD ad.toNat 0, true, false, []⟩) := by unfold wordE; simp only [h]; simp only [List.getD_eq_getElem?_getD] at *; simp [hk]
theorem word_miss {m : MemM} {ad old nw til : Int} (h : hasB m.words.length ad = true) (hk : m.words.getD ad.toNat 0 ≠ old) : wordE m ⟨3, ad, old, nw, til⟩ = (m, ⟨m.words.getD ad.toNat 0, false, false, []⟩) := by unfold wordE; simp only [h]; simp only [List.getD_eq_getElem?_getD] at *; simp [hk]
theorem word_wait {m : MemM} {ad old nw til : Int} (h : hasB m.words.length ad = true) : wordE m ⟨4, ad, old, nw, til⟩ = (m, ⟨m.words.getD ad.toNat 0, false, m.words.getD ad.toNat 0 == old, []⟩) := by unfold wordE; simp [h]
theorem word_load {m : MemM} {k ad old nw til : Int} (h : hasB m.words.length ad = true) (h2 : k ≠ 2) (h3 : k ≠ 3) (h4 : k ≠ 4) (h6 : k ≠ 6) : wordE m ⟨k, ad, old, nw, til⟩ = (m, ⟨m.words.getD ad.toNat 0, false, false, []⟩) := by unfold wordE; simp [h, h2, h3, h4, h6]
/-- the memory's parts in a world -/
theorem StM.open {G : World → Prop} {v : Value} {m : MemM} (h : StM G v m) (w : World) (hG : G w) : ∃ a cap a2 cap2, v = .agg #[.slice a m.words.length cap, .slice a2 m.lists.length cap2, .int .i64 m.tick] := by
  obtain ⟨vw, vl, us, rfl, hall⟩ := h
  obtain ⟨h1, h2⟩ := hall w hG
  obtain ⟨a, cap, rfl, -⟩ := h1.len
  obtain ⟨a2, cap2, rfl, -⟩ := h2.len
  exact ⟨_, _, _, _, rfl⟩
theorem StM.words {G : World → Prop} {a a2 : Option Addr} {n cap n2 cap2 : Nat} {t : Int} {m : MemM} (h : StM G (.agg #[.slice a n cap, .slice a2 n2 cap2, .int .i64 t]) m) (w : World) (hG : G w) : SlI w .u64 (.slice a n cap) m.words := by
  obtain ⟨vw, vl, us, e, hall⟩ := h
  obtain ⟨h1, h2⟩ := hall w hG
  simp only [Value.agg.injEq, Array.mk.injEq, List.cons.injEq, and_true] at e
  rw [e.1]; exact h1
theorem StM.listsOf {G : World → Prop} {a a2 : Option Addr} {n cap n2 cap2 : Nat} {t : Int} {m : MemM} (h : StM G (.agg #[.slice a n cap, .slice a2 n2 cap2, .int .i64 t]) m) : ∃ us, ∀ w, G w → SlL w (.slice a2 n2 cap2) us m.lists := by
  obtain ⟨vw, vl, us, e, hall⟩ := h
  simp only [Value.agg.injEq, Array.mk.injEq, List.cons.injEq, and_true] at e
  exact ⟨us, fun w hG => by rw [e.2.1]; exact (hall w hG).2⟩
end Go.Proofs.Ytckjdlphilpgfaa
/- What the functions that only read return (draws brought into range, searches, comparisons). -/
namespace Go.Proofs.Ytckjdlphilpgfaa
open Go.ChangeShapes Go.WideShapes Go.ChangeAt Go.RowKit
set_option maxRecDepth 100000

def fdN (x : Int) (l : List Int) : Nat := if fd x l < l.length then fd x l else 0
def fdB (x : Int) (l : List Int) : Bool := decide (fd x l < l.length)
def fdI (x : Int) (l : List Int) : Int := if fd x l < l.length then (fd x l : Int) else -1
theorem fdN_hit {x : Int} {l : List Int} {k : Nat} {A B : Prop} (h : A → B → fd x l = k) (a : A) (b : B) (hlt : k < l.length) : fdN x l = k ∧ fdB x l = true ∧ fdI x l = k := by
  have e := h a b
  unfold fdN fdB fdI; rw [e]; simp [hlt]
theorem fdN_miss {x : Int} {l : List Int} (h : fd x l = l.length) : fdN x l = 0 ∧ fdB x l = false ∧ fdI x l = -1 := by
  unfold fdN fdB fdI; rw [h]; simp
end Go.Proofs.Ytckjdlphilpgfaa
/- Two memories, two answers that read the same are the same by the document. -/
namespace Go.Proofs.Ytckjdlphilpgfaa
open Go.ChangeShapes Go.WideShapes Go.ChangeAt Go.RowKit
set_option maxRecDepth 100000

theorem sameWords_any (u v : Value) (l m : List Int) (w : World) (hl : SlI w .u64 u l) (hm : SlI w .u64 v m) :
    Calls Try.prog 43 #[u, v] w fun e w' => ∃ n, e = .returned (.bool (decide (l = m))) ∧ w.drewN n = w' := by
  have hmx := hl.1
  have hmx2 := hm.1
  obtain ⟨_, _, a, cap, rfl, h4, h5⟩ := hl
  obtain ⟨_, _, a', cap', rfl, h4', h5'⟩ := hm
  clear h4 h4'
  by_cases hll : l.length = m.length
  · have hq : ((l.length : Int) != (m.length : Int)) = false := by simp [hll]
    have HL := Lib.hid hll
    have HS := Lib.hid (ext_same l m hll)
    clear hll
    go_enter Try.func43, Try.ntmps43
    go_wp2
    go_loopw [5] (fun c wr => ∃ k n : Nat, k ≤ l.length ∧ c = .int .i64 k ∧ wr = w.drewN n ∧ Hid (∀ j, j < k → l.getD j 0 = m.getD j 0)) (fun c _ => l.length - (intOf c).toNat)
    case atStart => exact ⟨0, 0, by omega, rfl, rfl, fun j hj => by omega⟩
    case round =>
      obtain ⟨k, n, hk, rfl, rfl, hno⟩ := hrel
      by_cases hlt : k < l.length
      · obtain ⟨b, off, rfl, _, hc⟩ := h5 k hlt
        obtain ⟨b', off', rfl, _, hc'⟩ := h5' k (by rw [← HL.out]; exact hlt)
        have hlt' : k < m.length := by rw [← HL.out]; exact hlt
        have H5 := Lib.hid h5
        have H5' := Lib.hid h5'
        clear h5 h5'
        generalize hy : l.getD k 0 = y at hc
        generalize hz : m.getD k 0 = z at hc'
        have Hy := Lib.hid hy
        have Hz := Lib.hid hz
        clear hy hz
        by_cases hyx : y = z
        · subst hyx
          go_wp2
          go_quiet (fail)
          go_wp2
          go_roundw
          case rel => exact ⟨k + 1, n + nq, by omega, by go_num, rfl, fun j hj => by
            by_cases e : j = k
            · rw [e, Hy.out, Hz.out]
            · exact hno.out j (by omega)⟩
          case measure => simp [intOf]; omega
        · have hq2 : (y == z) = false := by simpa using hyx
          go_wp2
          go_quiet (fail)
          go_wp2
          go_ret
          exact ⟨n + nq, ret_bool (by symm; apply decide_eq_false; intro e; apply hyx; rw [← Hy.out, ← Hz.out, e]), (World.drewN_drewN w n nq).symm⟩
      · have e : k = l.length := by omega
        have E := Lib.hid e
        clear e
        go_wp2
        go_ret
        exact ⟨n, ret_bool (by symm; exact decide_eq_true (HS.out fun j hj => hno.out j (by rw [E.out]; exact hj))), rfl⟩
  · have hq : ((l.length : Int) != (m.length : Int)) = true := by simpa using fun h => hll (by omega)
    have hr := Lib.hid (show decide (l = m) = false from decide_eq_false (by rintro rfl; exact hll rfl))
    clear hll
    go_enter Try.func43, Try.ntmps43
    go_wp2
    go_ret
    exact ⟨0, by rw [hr.out]; rfl, rfl⟩
end Go.Proofs.Ytckjdlphilpgfaa
/- Layer 14: the reference's Same. -/
namespace Go.Proofs.Ytckjdlphilpgfaa
open Go.ChangeShapes Go.WideShapes Go.ChangeAt Go.RowKit
set_option maxRecDepth 100000

set_option maxRecDepth 100000 in
set_option maxHeartbeats 16000000 in
theorem rSame_any (v v2 : Value) (l m : List ChanM) (w : World) (hv : SlH w v l) (hv2 : SlH w v2 m) : Calls Try.prog 17 #[v, v2] w fun e w' => e = .returned (.bool (sameB l m)) ∧ Below w.heap.size w w' := by
  have HV := Lib.hid hv
  have HV2 := Lib.hid hv2
  obtain ⟨rb, hrb⟩ : ∃ b, sameB l m = b := ⟨_, rfl⟩
  have HLEN := Lib.hid fun (h : l.length ≠ m.length) => sameB_len h
  have HNO := Lib.hid fun i (hi : i < l.length) (h : chEqB (l.getD i noChan) (m.getD i noChan) = false) => sameB_no (m := m) hi h
  have HYES := Lib.hid fun (h : l.length = m.length) (h2 : ∀ i, i < l.length → chEqB (l.getD i noChan) (m.getD i noChan) = true) => sameB_yes h h2
  rw [hrb] at HLEN HNO HYES ⊢
  obtain ⟨a, cap, hve, -⟩ := hv.len
  subst hve
  obtain ⟨a2, cap2, hve, -⟩ := hv2.len
  subst hve
  have hm1 := hv.bound
  clear hv hv2 hrb
  by_cases hl : l.length = m.length
  · have HL := Lib.hid hl
    have hq : ((l.length : Int) != (m.length : Int)) = false := by simp [hl]
    obtain ⟨n, hn⟩ : ∃ n, l.length = n := ⟨_, rfl⟩
    have hn2 : m.length = n := by rw [← hl, hn]
    rw [hn] at hq hm1
    rw [hn2] at hq
    rw [hn] at HV ⊢
    rw [hn2] at HV2 ⊢
    have HN := Lib.hid (And.intro hn hn2)
    clear hl hn hn2
    go_enter Try.func17, Try.ntmps17
    go_wp2_with fail
    go_loopw [5] (fun u17 wr => ∃ i : Nat, u17 = .int .i64 i ∧ i ≤ n ∧ Hid (∀ j, j < i → chEqB (l.getD j noChan) (m.getD j noChan) = true) ∧ Hid (Below w.heap.size w wr)) (fun u17 _ => n - (intOf u17).toNat)
    case atStart => exact ⟨0, rfl, by omega, fun j hj => by omega, Below.refl _ _⟩
    case round =>
      obtain ⟨i, rfl, hi, HE, HBi⟩ := hrel
      obtain ⟨wo, rfl⟩ : ∃ wo : World, wo = wr := ⟨_, rfl⟩
      by_cases hlt : i < n
      · have hltI : (i : Int) < (n : Int) := by omega
        obtain ⟨b, off, capx, u, hve, hb, c0, c1, c2, hu⟩ := (HV.out.below HBi.out).at i (by rw [HN.out.1]; exact hlt)
        rw [HN.out.1] at hve
        simp only [Value.slice.injEq] at hve
        obtain ⟨rfl, -, rfl⟩ := hve
        obtain ⟨b2, off2, capx2, u2, hve, hb2, d0, d1, d2, hu2⟩ := (HV2.out.below HBi.out).at i (by rw [HN.out.2]; exact hlt)
        rw [HN.out.2] at hve
        simp only [Value.slice.injEq] at hve
        obtain ⟨rfl, -, rfl⟩ := hve
        obtain ⟨⟨cc, bf, cl⟩, hx⟩ : ∃ c, l.getD i noChan = c := ⟨_, rfl⟩
        obtain ⟨⟨cc2, bf2, cl2⟩, hy⟩ : ∃ c, m.getD i noChan = c := ⟨_, rfl⟩
        rw [hx] at c0 c2 hu
        rw [hy] at d0 d2 hu2
        dsimp only at c0 c2 hu d0 d2 hu2
        obtain ⟨ua, uc, rfl, -⟩ := hu.len
        obtain ⟨ua2, uc2, rfl, -⟩ := hu2.len
        have HXY := Lib.hid (And.intro hx hy)
        have TS := Lib.hid fun w' (hb : Below wo.heap.size wo w') => (sameWords_any _ _ bf bf2 w' (hu.below hb) (hu2.below hb)).mono fun e w2 (h : ∃ n, e = _ ∧ w'.drewN n = w2) => (show e = _ ∧ ∃ n, w'.drewN n = w2 from by obtain ⟨n, h1, h2⟩ := h; exact ⟨h1, n, h2⟩)
        obtain ⟨b1, hb1⟩ : ∃ b, (cc != cc2) = b := ⟨_, rfl⟩
        obtain ⟨b2q, hb2q⟩ : ∃ b, (cl != cl2) = b := ⟨_, rfl⟩
        obtain ⟨b3, hb3⟩ : ∃ b, decide (bf = bf2) = b := ⟨_, rfl⟩
        rw [hb3] at TS
        have HQ : Hid (chEqB ⟨cc, bf, cl⟩ ⟨cc2, bf2, cl2⟩ = (!b1 && (!b2q && b3))) := by
          show _ = _
          unfold chEqB
          dsimp only
          have hdec : (bf == bf2) = decide (bf = bf2) := by rw [Bool.eq_iff_iff]; simp
          rw [← hb1, ← hb2q, ← hb3, hdec]
          cases cl <;> cases cl2 <;> simp [bne]
        clear hx hy hu hu2 hb3
        cases b1 with
        | true =>
          go_upto_region 6 with fail
          have Xc0 := ext_cell _ _ (hb) _ c0
          have Xc1 := ext_cell _ _ (hb) _ c1
          have Xc2 := ext_cell _ _ (hb) _ c2
          have Xd0 := ext_cell _ _ (hb2) _ d0
          have Xd1 := ext_cell _ _ (hb2) _ d1
          have Xd2 := ext_cell _ _ (hb2) _ d2
          clear c0 c1 c2 d0 d1 d2
          refine wp_region_ext wo (by kernel_rfl) (by kernel_rfl) (Below.refl _ _) ?_
          repeat (go_big_quiet_step (first | (go_at_call 43; with_reducible exact calls_ext_draw (TS.out _ (Ext.below _)))))
          refine wpQuiet_nil ?_
          intro _ hw'
          obtain ⟨n9, rfl⟩ := hw'
          have HB9 := Lib.hid (below_then HBi.out n9.below)
          generalize n9.wd = w9 at *
          clear Xc0 Xc1 Xc2 Xd0 Xd1 Xd2 hb hb2 TS
          have HQ : Hid (chEqB ⟨cc, bf, cl⟩ ⟨cc2, bf2, cl2⟩ = false) := by show _ = _; rw [HQ.out]; rfl
          have hr : rb = false := HNO.out i (by rw [HN.out.1]; exact hlt) (by rw [HXY.out.1, HXY.out.2]; exact HQ.out)
          subst hr
          go_wp2
          go_ret
          exact ⟨rfl, HB9.out⟩
        | false =>
          cases cl <;> cases cl2
          · cases b3 with
            | false =>
              go_upto_region 6 with fail
              have Xc0 := ext_cell _ _ (hb) _ c0
              have Xc1 := ext_cell _ _ (hb) _ c1
              have Xc2 := ext_cell _ _ (hb) _ c2
              have Xd0 := ext_cell _ _ (hb2) _ d0
              have Xd1 := ext_cell _ _ (hb2) _ d1
              have Xd2 := ext_cell _ _ (hb2) _ d2
              clear c0 c1 c2 d0 d1 d2
              refine wp_region_ext wo (by kernel_rfl) (by kernel_rfl) (Below.refl _ _) ?_
              repeat (go_big_quiet_step (first | (go_at_call 43; with_reducible exact calls_ext_draw (TS.out _ (Ext.below _)))))
              refine wpQuiet_nil ?_
              intro _ hw'
              obtain ⟨n9, rfl⟩ := hw'
              have HB9 := Lib.hid (below_then HBi.out n9.below)
              generalize n9.wd = w9 at *
              clear Xc0 Xc1 Xc2 Xd0 Xd1 Xd2 hb hb2 TS
              have hq9 := HQ.out; rw [← hb2q] at hq9; have HQ := Lib.hid (hq9.trans (show _ = false from rfl))
              have hr : rb = false := HNO.out i (by rw [HN.out.1]; exact hlt) (by rw [HXY.out.1, HXY.out.2]; exact HQ.out)
              subst hr
              go_wp2
              go_ret
              exact ⟨rfl, HB9.out⟩
            | true =>
              go_upto_region 6 with fail
              have Xc0 := ext_cell _ _ (hb) _ c0
              have Xc1 := ext_cell _ _ (hb) _ c1
              have Xc2 := ext_cell _ _ (hb) _ c2
              have Xd0 := ext_cell _ _ (hb2) _ d0
              have Xd1 := ext_cell _ _ (hb2) _ d1
              have Xd2 := ext_cell _ _ (hb2) _ d2
              clear c0 c1 c2 d0 d1 d2
              refine wp_region_ext wo (by kernel_rfl) (by kernel_rfl) (Below.refl _ _) ?_
              repeat (go_big_quiet_step (first | (go_at_call 43; with_reducible exact calls_ext_draw (TS.out _ (Ext.below _)))))
              refine wpQuiet_nil ?_
              intro _ hw'
              obtain ⟨n9, rfl⟩ := hw'
              have HB9 := Lib.hid (below_then HBi.out n9.below)
              generalize n9.wd = w9 at *
              clear Xc0 Xc1 Xc2 Xd0 Xd1 Xd2 hb hb2 TS
              have hq9 := HQ.out; rw [← hb2q] at hq9; have HQ := Lib.hid (hq9.trans (show _ = true from rfl))
              go_wp2_with fail
              go_roundw
              case rel => exact ⟨i + 1, by go_num, by omega, fun j hj => by
                by_cases e : j = i
                · rw [e, HXY.out.1, HXY.out.2]; exact HQ.out
                · exact HE.out j (by omega), HB9⟩
              case measure => simp [intOf]; omega
          · skip
            go_upto_region 6 with fail
            have Xc0 := ext_cell _ _ (hb) _ c0
            have Xc1 := ext_cell _ _ (hb) _ c1
            have Xc2 := ext_cell _ _ (hb) _ c2
            have Xd0 := ext_cell _ _ (hb2) _ d0
            have Xd1 := ext_cell _ _ (hb2) _ d1
            have Xd2 := ext_cell _ _ (hb2) _ d2
            clear c0 c1 c2 d0 d1 d2
            refine wp_region_ext wo (by kernel_rfl) (by kernel_rfl) (Below.refl _ _) ?_
            repeat (go_big_quiet_step (first | (go_at_call 43; with_reducible exact calls_ext_draw (TS.out _ (Ext.below _)))))
            refine wpQuiet_nil ?_
            intro _ hw'
            obtain ⟨n9, rfl⟩ := hw'
            have HB9 := Lib.hid (below_then HBi.out n9.below)
            generalize n9.wd = w9 at *
            clear Xc0 Xc1 Xc2 Xd0 Xd1 Xd2 hb hb2 TS
            have hq9 := HQ.out; rw [← hb2q] at hq9; have HQ := Lib.hid (hq9.trans (show _ = false from rfl))
            have hr : rb = false := HNO.out i (by rw [HN.out.1]; exact hlt) (by rw [HXY.out.1, HXY.out.2]; exact HQ.out)
            subst hr
            go_wp2
            go_ret
            exact ⟨rfl, HB9.out⟩
          · skip
            go_upto_region 6 with fail
            have Xc0 := ext_cell _ _ (hb) _ c0
            have Xc1 := ext_cell _ _ (hb) _ c1
            have Xc2 := ext_cell _ _ (hb) _ c2
            have Xd0 := ext_cell _ _ (hb2) _ d0
            have Xd1 := ext_cell _ _ (hb2) _ d1
            have Xd2 := ext_cell _ _ (hb2) _ d2
            clear c0 c1 c2 d0 d1 d2
            refine wp_region_ext wo (by kernel_rfl) (by kernel_rfl) (Below.refl _ _) ?_
            repeat (go_big_quiet_step (first | (go_at_call 43; with_reducible exact calls_ext_draw (TS.out _ (Ext.below _)))))
            refine wpQuiet_nil ?_
            intro _ hw'
            obtain ⟨n9, rfl⟩ := hw'
            have HB9 := Lib.hid (below_then HBi.out n9.below)
            generalize n9.wd = w9 at *
            clear Xc0 Xc1 Xc2 Xd0 Xd1 Xd2 hb hb2 TS
            have hq9 := HQ.out; rw [← hb2q] at hq9; have HQ := Lib.hid (hq9.trans (show _ = false from rfl))
            have hr : rb = false := HNO.out i (by rw [HN.out.1]; exact hlt) (by rw [HXY.out.1, HXY.out.2]; exact HQ.out)
            subst hr
            go_wp2
            go_ret
            exact ⟨rfl, HB9.out⟩
          · cases b3 with
            | false =>
              go_upto_region 6 with fail
              have Xc0 := ext_cell _ _ (hb) _ c0
              have Xc1 := ext_cell _ _ (hb) _ c1
              have Xc2 := ext_cell _ _ (hb) _ c2
              have Xd0 := ext_cell _ _ (hb2) _ d0
              have Xd1 := ext_cell _ _ (hb2) _ d1
              have Xd2 := ext_cell _ _ (hb2) _ d2
              clear c0 c1 c2 d0 d1 d2
              refine wp_region_ext wo (by kernel_rfl) (by kernel_rfl) (Below.refl _ _) ?_
              repeat (go_big_quiet_step (first | (go_at_call 43; with_reducible exact calls_ext_draw (TS.out _ (Ext.below _)))))
              refine wpQuiet_nil ?_
              intro _ hw'
              obtain ⟨n9, rfl⟩ := hw'
              have HB9 := Lib.hid (below_then HBi.out n9.below)
              generalize n9.wd = w9 at *
              clear Xc0 Xc1 Xc2 Xd0 Xd1 Xd2 hb hb2 TS
              have hq9 := HQ.out; rw [← hb2q] at hq9; have HQ := Lib.hid (hq9.trans (show _ = false from rfl))
              have hr : rb = false := HNO.out i (by rw [HN.out.1]; exact hlt) (by rw [HXY.out.1, HXY.out.2]; exact HQ.out)
              subst hr
              go_wp2
              go_ret
              exact ⟨rfl, HB9.out⟩
            | true =>
              go_upto_region 6 with fail
              have Xc0 := ext_cell _ _ (hb) _ c0
              have Xc1 := ext_cell _ _ (hb) _ c1
              have Xc2 := ext_cell _ _ (hb) _ c2
              have Xd0 := ext_cell _ _ (hb2) _ d0
              have Xd1 := ext_cell _ _ (hb2) _ d1
              have Xd2 := ext_cell _ _ (hb2) _ d2
              clear c0 c1 c2 d0 d1 d2
              refine wp_region_ext wo (by kernel_rfl) (by kernel_rfl) (Below.refl _ _) ?_
              repeat (go_big_quiet_step (first | (go_at_call 43; with_reducible exact calls_ext_draw (TS.out _ (Ext.below _)))))
              refine wpQuiet_nil ?_
              intro _ hw'
              obtain ⟨n9, rfl⟩ := hw'
              have HB9 := Lib.hid (below_then HBi.out n9.below)
              generalize n9.wd = w9 at *
              clear Xc0 Xc1 Xc2 Xd0 Xd1 Xd2 hb hb2 TS
              have hq9 := HQ.out; rw [← hb2q] at hq9; have HQ := Lib.hid (hq9.trans (show _ = true from rfl))
              go_wp2_with fail
              go_roundw
              case rel => exact ⟨i + 1, by go_num, by omega, fun j hj => by
                by_cases e : j = i
                · rw [e, HXY.out.1, HXY.out.2]; exact HQ.out
                · exact HE.out j (by omega), HB9⟩
              case measure => simp [intOf]; omega
      · have hge : ¬ (i : Int) < (n : Int) := by omega
        have hr : rb = true := HYES.out HL.out fun j hj => HE.out j (by rw [HN.out.1] at hj; omega)
        subst hr
        go_wp2
        go_ret
        exact ⟨rfl, HBi.out⟩
  · have hq : ((l.length : Int) != (m.length : Int)) = true := by simp; omega
    have hr : rb = false := HLEN.out hl
    subst hr
    clear hl
    go_enter Try.func17, Try.ntmps17
    go_wp2
    go_ret
    exact ⟨rfl, Below.refl _ _⟩
end Go.Proofs.Ytckjdlphilpgfaa
