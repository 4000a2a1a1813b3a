/- When an access is granted. -/
import Derived.Test.YtipjfcjdefdoeaaMmA
import Derived.Deep.DeepCutAuto
import Derived.Test.YtipjfcjdefdoeaaStill
namespace Go.Proofs.Ytipjfcjdefdoeaa
open Go.ChangeShapes Go.WideShapes Go.ChangeAt Go.RowKit
set_option maxRecDepth 100000

theorem grant_wait {m : MemM} {a : AccM} (h : a.kind = 4) : grantB m a = (!hasB m.words.length a.addr || m.words.getD a.addr.toNat 0 != a.old || comeB m.tick a.til) := by simp [grantB, h]
theorem grant_other {m : MemM} {a : AccM} (h : a.kind ≠ 4) : grantB m a = (decide (1 ≤ a.kind) && decide (a.kind ≤ 9)) := by simp [grantB, h]
theorem hid_drew {B : Nat} {W w : World} (h : Hid (Below B W w)) : Hid (Below B W w.drew) := below_drewN h.out 1
theorem hid_then {W w w2 : World} (h : Hid (Below W.heap.size W w)) (h2 : Below w.heap.size w w2) : Hid (Below W.heap.size W w2) := below_then h.out h2
theorem hid_mem {W w : World} {v : Value} {m : MemM} (h : MemV W v m) (h2 : Hid (Below W.heap.size W w)) : MemV w v m := h.below h2.out
set_option maxHeartbeats 2000000 in
theorem granted_any (v : Value) (m : MemM) (a : AccM) (w : World) (h : MemV w v m) (hm : m.fits) (ha : a.ok) :
    Calls Try.prog 51 #[v, accV a] w fun e w' => e = .returned (.bool (grantB m a)) ∧ Below w.heap.size w w' := by
  have hasword := hasWord_any
  obtain ⟨vw, vl, us, rfl, h1, h2⟩ := h
  have hwl := hm.words
  obtain ⟨a1, cap, rfl, -⟩ := h1.len
  obtain ⟨a2, cap2, rfl, -⟩ := h2.len
  have HT := Lib.hid ha.til
  obtain ⟨W, hW⟩ : ∃ W, (w.alloc (.cells #[.slice a1 m.words.length cap, .slice a2 m.lists.length cap2, .int .i64 m.tick] 29)).alloc (.cells #[.int .i64 a.kind, .int .i64 a.addr, .int .u64 a.old, .int .u64 a.new, .int .i64 a.til] 34) = W := ⟨_, rfl⟩
  have HB : Hid (Below w.heap.size w W) := hW ▸ below_new (below_new (Below.refl w.heap.size w) _) _
  have hz : w.heap.size + 2 ≤ W.heap.size := by rw [← hW]; simp
  have R0 : Hid (W.heap[w.heap.size]? = some (.cells #[.slice a1 m.words.length cap, .slice a2 m.lists.length cap2, .int .i64 m.tick] 29 (0, 0))) := hW ▸ heap_alloc2_old _ _ _
  have R1 : Hid (W.heap[w.heap.size + 1]? = some (.cells #[.int .i64 a.kind, .int .i64 a.addr, .int .u64 a.old, .int .u64 a.new, .int .i64 a.til] 34 (0, 0))) := hW ▸ heap_alloc2_new _ _ _
  have HW := Lib.hid hW
  have HV : Hid (MemV W (.agg #[.slice a1 m.words.length cap, .slice a2 m.lists.length cap2, .int .i64 m.tick]) m) := ⟨_, _, us, rfl, h1.below HB.out, h2.below HB.out⟩
  have H1 := Lib.hid (h1.below HB.out)
  have HHW := Lib.hid fun v w' h => hasword v m a.addr w' h
  have HHC := Lib.hid fun v w' h => hasCome_any v m a.til w' h HT.out
  clear h1 h2 hm ha hW
  obtain ⟨x0, x1, x2⟩ := rowc3 R0.out
  obtain ⟨y0, y1, y2, y3, y4⟩ := rowc5 R1.out
  by_cases h4 : a.kind = 4
  · have HG := Lib.hid (grant_wait (m := m) h4)
    obtain ⟨k, ad, old, nw, til⟩ := a
    simp only at h4
    subst h4
    unfold accV
    dsimp only at *
    go_enter Try.func51, Try.ntmps51
    go_upto_region 1 with fail
    rw [HW.out]
    clear HW
    go_upto_region 3 with fail
    have X0 := ext_cell _ _ (by omega) _ x0
    have X1 := ext_cell _ _ (by omega) _ x1
    have X2 := ext_cell _ _ (by omega) _ x2
    have Y1 := ext_cell _ _ (by omega) _ y1
    have Y2 := ext_cell _ _ (by omega) _ y2
    have Y4 := ext_cell _ _ (by omega) _ y4
    cases hb : hasB m.words.length ad with
    | false =>
      rw [hb] at HHW
      have HGV : Hid (grantB m ⟨4, ad, old, nw, til⟩ = true) := HG.out.trans (by rw [hb]; simp)
      clear hb HG
      refine wp_region_ext W (by kernel_rfl) (by kernel_rfl) (Below.refl _ _) ?_
      repeat (go_big_quiet_step (first | (go_at_call 66; exact calls_ext (HHW.out _ _ (HV.out.below (Ext.below _)))) | (go_at_call 67; exact calls_ext (HHC.out _ _ (HV.out.below (Ext.below _))))))
      refine wpQuiet_nil ?_
      intro _ hw'
      obtain ⟨⟨w2, hw2⟩, hw''⟩ := hw'
      subst hw''
      have HB2 := Lib.hid (HB.out.trans (hw2.mono (by omega)))
      clear hw2
      go_wp2
      go_ret
      exact ⟨ret_bool HGV.out.symm, HB2.out⟩
    | true =>
      obtain ⟨i, rfl, hi⟩ := hasB_true hb
      rw [hb] at HHW
      have HGV : Hid (grantB m ⟨4, i, old, nw, til⟩ = (m.words.getD i 0 != old || comeB m.tick til)) := HG.out.trans (by rw [hb]; simp)
      clear hb HG
      obtain ⟨b, off, cap', e, hcap, hblt, hcells⟩ := H1.out.open (by rintro h0; rw [h0] at hi; simp at hi)
      have hck := hcells i hi
      simp only [Value.slice.injEq] at e
      obtain ⟨rfl, -, rfl⟩ := e
      have hiI : (i : Int) < m.words.length := by omega
      have hi0 : (0 : Int) ≤ i := by omega
      obtain ⟨y, hy⟩ : ∃ y, m.words.getD i 0 = y := ⟨_, rfl⟩
      rw [hy] at hck
      rw [hy] at HGV
      have K0 := ext_cell _ _ hblt _ hck
      clear hcells hy
      by_cases hyo : y = old
      · subst hyo
        have hne : (y != y) = false := by simp
        have HGW := Lib.hid (HGV.out.trans (by rw [hne]; rfl : (y != y || comeB m.tick til) = comeB m.tick til))
        clear HGV
        generalize comeB m.tick til = cb at *
        refine wp_region_ext W (by kernel_rfl) (by kernel_rfl) (Below.refl _ _) ?_
        repeat (go_big_quiet_step (first | (go_at_call 66; exact calls_ext (HHW.out _ _ (HV.out.below (Ext.below _)))) | (go_at_call 67; exact calls_ext (HHC.out _ _ (HV.out.below (Ext.below _))))))
        refine wpQuiet_nil ?_
        intro _ hw'
        obtain ⟨⟨w2, hw2⟩, hw''⟩ := hw'
        subst hw''
        have HB2 := Lib.hid (HB.out.trans (hw2.mono (by omega)))
        clear hw2
        go_wp2
        go_ret
        exact ⟨ret_bool HGW.out.symm, HB2.out⟩

      · have hne : (y != old) = true := by simpa using hyo
        have HGW := Lib.hid (HGV.out.trans (by rw [hne]; rfl : (y != old || comeB m.tick til) = true))
        clear hyo HGV
        refine wp_region_ext W (by kernel_rfl) (by kernel_rfl) (Below.refl _ _) ?_
        repeat (go_big_quiet_step (first | (go_at_call 66; exact calls_ext (HHW.out _ _ (HV.out.below (Ext.below _)))) | (go_at_call 67; exact calls_ext (HHC.out _ _ (HV.out.below (Ext.below _))))))
        refine wpQuiet_nil ?_
        intro _ hw'
        obtain ⟨⟨w2, hw2⟩, hw''⟩ := hw'
        subst hw''
        have HB2 := Lib.hid (HB.out.trans (hw2.mono (by omega)))
        clear hw2
        go_wp2
        go_ret
        exact ⟨ret_bool HGW.out.symm, HB2.out⟩
  · have HG := Lib.hid (grant_other (m := m) h4)
    obtain ⟨k, ad, old, nw, til⟩ := a
    dsimp only at *
    unfold accV
    dsimp only
    by_cases hr : 1 ≤ k ∧ k ≤ 9
    · have HGV : Hid (grantB m ⟨k, ad, old, nw, til⟩ = true) := HG.out.trans (by simp [hr.1, hr.2])
      clear HG HHC HHW
      rcases (show k = 1 ∨ k = 2 ∨ k = 3 ∨ k = 5 ∨ k = 6 ∨ k = 7 ∨ k = 8 ∨ k = 9 by omega) with rfl | rfl | rfl | rfl | rfl | rfl | rfl | rfl
      all_goals
        clear h4 hr
        go_enter Try.func51, Try.ntmps51
        go_upto_region 1 with fail
        rw [HW.out]
        clear HW
        go_wp2
        go_ret
        exact ⟨ret_bool HGV.out.symm, HB.out⟩
    · have HGV : Hid (grantB m ⟨k, ad, old, nw, til⟩ = false) := HG.out.trans (by simp; omega)
      clear HG HHC HHW
      have k1 := ne_beq (show k ≠ 1 by omega)
      have k2 := ne_beq (show k ≠ 2 by omega)
      have k3 := ne_beq (show k ≠ 3 by omega)
      have k4 := ne_beq (show k ≠ 4 by omega)
      have k5 := ne_beq (show k ≠ 5 by omega)
      have k6 := ne_beq (show k ≠ 6 by omega)
      have k7 := ne_beq (show k ≠ 7 by omega)
      have k8 := ne_beq (show k ≠ 8 by omega)
      have k9 := ne_beq (show k ≠ 9 by omega)
      clear h4 hr
      go_enter Try.func51, Try.ntmps51
      go_upto_region 1 with fail
      rw [HW.out]
      clear HW
      go_wp2
      go_ret
      exact ⟨ret_bool HGV.out.symm, HB.out⟩
set_option maxHeartbeats 2000000 in
theorem rgranted_any (v : Value) (m : MemM) (a : AccM) (w : World) (h : MemV w v m) (hm : m.fits) (ha : a.ok) :
    Calls Try.prog 33 #[v, accV a] w fun e w' => e = .returned (.bool (grantB m a)) ∧ Below w.heap.size w w' := by
  have hasword := rword_any
  obtain ⟨vw, vl, us, rfl, h1, h2⟩ := h
  have hwl := hm.words
  obtain ⟨a1, cap, rfl, -⟩ := h1.len
  obtain ⟨a2, cap2, rfl, -⟩ := h2.len
  have HT := Lib.hid ha.til
  obtain ⟨W, hW⟩ : ∃ W, (w.alloc (.cells #[.slice a1 m.words.length cap, .slice a2 m.lists.length cap2, .int .i64 m.tick] 29)).alloc (.cells #[.int .i64 a.kind, .int .i64 a.addr, .int .u64 a.old, .int .u64 a.new, .int .i64 a.til] 34) = W := ⟨_, rfl⟩
  have HB : Hid (Below w.heap.size w W) := hW ▸ below_new (below_new (Below.refl w.heap.size w) _) _
  have hz : w.heap.size + 2 ≤ W.heap.size := by rw [← hW]; simp
  have R0 : Hid (W.heap[w.heap.size]? = some (.cells #[.slice a1 m.words.length cap, .slice a2 m.lists.length cap2, .int .i64 m.tick] 29 (0, 0))) := hW ▸ heap_alloc2_old _ _ _
  have R1 : Hid (W.heap[w.heap.size + 1]? = some (.cells #[.int .i64 a.kind, .int .i64 a.addr, .int .u64 a.old, .int .u64 a.new, .int .i64 a.til] 34 (0, 0))) := hW ▸ heap_alloc2_new _ _ _
  have HW := Lib.hid hW
  have HV : Hid (MemV W (.agg #[.slice a1 m.words.length cap, .slice a2 m.lists.length cap2, .int .i64 m.tick]) m) := ⟨_, _, us, rfl, h1.below HB.out, h2.below HB.out⟩
  have H1 := Lib.hid (h1.below HB.out)
  have HHW := Lib.hid fun v w' h => hasword v m a.addr w' h
  have HHC := Lib.hid fun v w' h => hasCome_any v m a.til w' h HT.out
  clear h1 h2 hm ha hW
  obtain ⟨x0, x1, x2⟩ := rowc3 R0.out
  obtain ⟨y0, y1, y2, y3, y4⟩ := rowc5 R1.out
  by_cases h4 : a.kind = 4
  · have HG := Lib.hid (grant_wait (m := m) h4)
    obtain ⟨k, ad, old, nw, til⟩ := a
    simp only at h4
    subst h4
    unfold accV
    dsimp only at *
    go_enter Try.func33, Try.ntmps33
    go_upto_region 1 with fail
    rw [HW.out]
    clear HW
    go_upto_region 2 with fail
    have X0 := ext_cell _ _ (by omega) _ x0
    have X1 := ext_cell _ _ (by omega) _ x1
    have X2 := ext_cell _ _ (by omega) _ x2
    have Y1 := ext_cell _ _ (by omega) _ y1
    have Y2 := ext_cell _ _ (by omega) _ y2
    have Y4 := ext_cell _ _ (by omega) _ y4
    cases hb : hasB m.words.length ad with
    | false =>
      rw [hb] at HHW
      have HGV : Hid (grantB m ⟨4, ad, old, nw, til⟩ = true) := HG.out.trans (by rw [hb]; simp)
      clear hb HG
      refine wp_region_ext W (by kernel_rfl) (by kernel_rfl) (Below.refl _ _) ?_
      repeat (go_big_quiet_step (first | (go_at_call 37; exact calls_ext (HHW.out _ _ (HV.out.below (Ext.below _))))))
      refine wpQuiet_nil ?_
      intro _ hw'
      obtain ⟨⟨w2, hw2⟩, hw''⟩ := hw'
      subst hw''
      have HB2 := Lib.hid (HB.out.trans (hw2.mono (by omega)))
      clear hw2
      go_wp2
      go_ret
      exact ⟨ret_bool HGV.out.symm, HB2.out⟩
    | true =>
      obtain ⟨i, rfl, hi⟩ := hasB_true hb
      rw [hb] at HHW
      have HGV : Hid (grantB m ⟨4, i, old, nw, til⟩ = (m.words.getD i 0 != old || comeB m.tick til)) := HG.out.trans (by rw [hb]; simp)
      clear hb HG
      obtain ⟨b, off, cap', e, hcap, hblt, hcells⟩ := H1.out.open (by rintro h0; rw [h0] at hi; simp at hi)
      have hck := hcells i hi
      simp only [Value.slice.injEq] at e
      obtain ⟨rfl, -, rfl⟩ := e
      have hiI : (i : Int) < m.words.length := by omega
      have hi0 : (0 : Int) ≤ i := by omega
      obtain ⟨y, hy⟩ : ∃ y, m.words.getD i 0 = y := ⟨_, rfl⟩
      rw [hy] at hck
      rw [hy] at HGV
      have K0 := ext_cell _ _ hblt _ hck
      clear hcells hy
      by_cases hyo : y = old
      · subst hyo
        have hne : (y != y) = false := by simp
        have HGW := Lib.hid (HGV.out.trans (by rw [hne]; rfl : (y != y || comeB m.tick til) = comeB m.tick til))
        clear HGV
        have HTW := HT.out
        by_cases h0 : 0 < til
        · have hd : decide (0 < til) = true := by simpa using h0
          have hwi : IntKind.i64.wrap (til - 1) = til - 1 := by rw [IntKind.wrap_i64] at HTW ⊢; omega
          have HGX := Lib.hid (HGW.out.trans (by simp [comeB, h0] : comeB m.tick til = decide (til - 1 ≤ m.tick)))
          clear HTW HGW HT
          refine wp_region_ext W (by kernel_rfl) (by kernel_rfl) (Below.refl _ _) ?_
          repeat (go_big_quiet_step (first | (go_at_call 37; exact calls_ext (HHW.out _ _ (HV.out.below (Ext.below _))))))
          refine wpQuiet_nil ?_
          intro _ hw'
          obtain ⟨⟨w2, hw2⟩, hw''⟩ := hw'
          subst hw''
          have HB2 := Lib.hid (HB.out.trans (hw2.mono (by omega)))
          clear hw2
          go_wp2
          go_ret
          exact ⟨ret_bool HGX.out.symm, HB2.out⟩
        · have hd : decide (0 < til) = false := by simpa using h0
          have HGX := Lib.hid (HGW.out.trans (by simp only [comeB, hd, Bool.false_and] : comeB m.tick til = false))
          clear HTW HGW HT
          refine wp_region_ext W (by kernel_rfl) (by kernel_rfl) (Below.refl _ _) ?_
          repeat (go_big_quiet_step (first | (go_at_call 37; exact calls_ext (HHW.out _ _ (HV.out.below (Ext.below _))))))
          refine wpQuiet_nil ?_
          intro _ hw'
          obtain ⟨⟨w2, hw2⟩, hw''⟩ := hw'
          subst hw''
          have HB2 := Lib.hid (HB.out.trans (hw2.mono (by omega)))
          clear hw2
          go_wp2
          go_ret
          exact ⟨ret_bool HGX.out.symm, HB2.out⟩

      · have hne : (y != old) = true := by simpa using hyo
        have HGW := Lib.hid (HGV.out.trans (by rw [hne]; rfl : (y != old || comeB m.tick til) = true))
        clear hyo HGV
        refine wp_region_ext W (by kernel_rfl) (by kernel_rfl) (Below.refl _ _) ?_
        repeat (go_big_quiet_step (first | (go_at_call 37; exact calls_ext (HHW.out _ _ (HV.out.below (Ext.below _))))))
        refine wpQuiet_nil ?_
        intro _ hw'
        obtain ⟨⟨w2, hw2⟩, hw''⟩ := hw'
        subst hw''
        have HB2 := Lib.hid (HB.out.trans (hw2.mono (by omega)))
        clear hw2
        go_wp2
        go_ret
        exact ⟨ret_bool HGW.out.symm, HB2.out⟩
  · have HG := Lib.hid (grant_other (m := m) h4)
    obtain ⟨k, ad, old, nw, til⟩ := a
    dsimp only at *
    unfold accV
    dsimp only
    have k4 := ne_beq h4
    clear h4
    by_cases h1 : 1 ≤ k
    · have hd : decide (1 ≤ k) = true := by simpa using h1
      go_enter Try.func33, Try.ntmps33
      go_upto_region 1 with fail
      rw [HW.out]
      clear HW
      go_wp2
      go_ret
      exact ⟨ret_bool (by rw [HG.out, hd]; simp), HB.out⟩
    · have hd : decide (1 ≤ k) = false := by simpa using h1
      go_enter Try.func33, Try.ntmps33
      go_upto_region 1 with fail
      rw [HW.out]
      clear HW
      go_wp2
      go_ret
      exact ⟨ret_bool (by rw [HG.out, hd]; simp), HB.out⟩
end Go.Proofs.Ytipjfcjdefdoeaa
