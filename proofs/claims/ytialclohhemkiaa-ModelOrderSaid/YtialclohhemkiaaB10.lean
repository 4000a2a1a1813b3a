import Derived.Deep.DeepCutAuto
import Derived.Deep.CutBlock
import Derived.Test.YtialclohhemkiaaB06
import Derived.Test.YtialclohhemkiaaB08
import Derived.Test.YtialclohhemkiaaB09
set_option linter.unusedVariables false
set_option linter.unusedSimpArgs false
/- Layer 14: the case that a result names. -/
namespace Go.Proofs.Ytialclohhemkiaa
open Go.ChangeShapes Go.WideShapes Go.ChangeAt Go.RowKit
set_option maxRecDepth 100000

/-- what chosen answers, where lc is what is asked for -/
def ChosQ (lc : Option CaseM) (w : World) (e : Ending) (w' : World) : Prop := ∃ x b, e = .returned (.tuple #[caseW x, .bool b]) ∧ ((b = true ∧ lc = some x) ∨ (b = false ∧ lc = none)) ∧ Below w.heap.size w w'
set_option maxRecDepth 100000 in
set_option maxHeartbeats 16000000 in
theorem mchosen_any (v : Value) (op : OpM) (r : ResM) (w : World) (h : OpV w v op) : Calls Try.prog 86 #[v, resW r] w (ChosQ (chosenE op r) w) := by
  have TS := Lib.hid fun w' (hb : Below w.heap.size w w') => rsingle_any v op w' (h.below hb)
  obtain ⟨vc, vd, rfl, hc, hd⟩ := h
  obtain ⟨lc, hlc⟩ : ∃ l, chosenE op r = l := ⟨_, rfl⟩
  rw [hlc]
  have HLC := Lib.hid hlc
  clear hlc
  obtain ⟨kd, md, ch, vl, dl, cs, ds⟩ := op
  obtain ⟨rk, rc, rv, rok, nm⟩ := r
  unfold resW
  dsimp only at *
  obtain ⟨a3, cap3, rfl⟩ := hc.len
  obtain ⟨a4, cap4, rfl, -⟩ := hd.len
  have HSC := Lib.hid fun w' (hb : Below w.heap.size w w') => hc.below hb
  have hlb := hc.1
  clear hc hd
  obtain ⟨W, hW, HB, R0, R1, R2, hz⟩ := three_new w (.cells #[.int .i64 kd, .int .i64 md, .int .i64 ch, .int .u64 vl, .int .i64 dl, .slice a3 cs.length cap3, .slice a4 ds.length cap4] 38) (.cells #[.int .i64 rk, .int .i64 rc, .int .u64 rv, .bool rok, .int .i64 nm] 25) (.cells #[.bool false, .int .i64 0, .int .u64 0] 74)
  have HW := Lib.hid hW
  clear hW
  go_enter Try.func86, Try.ntmps86
  go_upto_region 1 with fail
  rw [HW.out]
  clear HW
  obtain ⟨x0_0, x0_1, x0_2, x0_3, x0_4, x0_5, x0_6⟩ := rowc7 R0.out
  obtain ⟨x1_0, x1_1, x1_2, x1_3, x1_4⟩ := rowc5 R1.out
  by_cases h4 : kd = 4
  · subst h4
    have HL : Hid (lc = if rc < 0 ∨ (cs.length : Int) ≤ rc then none else some (cs.getD rc.toNat noCase)) := by
      show _ = _
      rw [← HLC.out]
      unfold chosenE
      rw [if_pos rfl]
    clear HLC TS
    by_cases h0 : rc < 0
    · have hl : lc = none := by rw [HL.out, if_pos (.inl h0)]
      subst hl
      go_wp2_with (refine wpList_store_row rfl 74 _ _ rfl (w.heap.size + 2) _ rfl rfl 74 #[.bool false, .int .i64 0, .int .u64 0] R2.out (by kernel_rfl) rfl (by simp [Value.oneCell']) ?_)
      refine bodyPost_ret (v := .tuple #[.agg #[.bool false, .int .i64 0, .int .u64 0], .bool false]) (results_cell_tmp Try.results86 _ _ (w.heap.size + 2) 74 _ (0, 0) _ rfl (setRow_heap _ _ _ _ 74 (0, 0) R2.out) Try.underlying74 rfl (by kernel_rfl) _ rfl) rfl ?_
      unfold ChosQ
      exact ⟨noCase, false, rfl, .inr ⟨rfl, rfl⟩, row_below HB.out (by omega) _⟩
    by_cases h1 : (cs.length : Int) ≤ rc
    · have hl : lc = none := by rw [HL.out, if_pos (.inr h1)]
      subst hl
      go_wp2_with (refine wpList_store_row rfl 74 _ _ rfl (w.heap.size + 2) _ rfl rfl 74 #[.bool false, .int .i64 0, .int .u64 0] R2.out (by kernel_rfl) rfl (by simp [Value.oneCell']) ?_)
      refine bodyPost_ret (v := .tuple #[.agg #[.bool false, .int .i64 0, .int .u64 0], .bool false]) (results_cell_tmp Try.results86 _ _ (w.heap.size + 2) 74 _ (0, 0) _ rfl (setRow_heap _ _ _ _ 74 (0, 0) R2.out) Try.underlying74 rfl (by kernel_rfl) _ rfl) rfl ?_
      unfold ChosQ
      exact ⟨noCase, false, rfl, .inr ⟨rfl, rfl⟩, row_below HB.out (by omega) _⟩
    have hl : lc = some (cs.getD rc.toNat noCase) := by rw [HL.out, if_neg (by omega)]
    obtain ⟨i, hi⟩ : ∃ i : Nat, rc = (i : Int) := ⟨rc.toNat, by omega⟩
    have hil : i < cs.length := by omega
    have hiI : (i : Int) < (cs.length : Int) := by omega
    have hnl : ¬ (cs.length : Int) ≤ (i : Int) := by omega
    rw [hi, Int.toNat_natCast] at hl
    obtain ⟨-, -, a', cap', hve, -, hcell⟩ := HSC.out W HB.out
    simp only [Value.slice.injEq, true_and] at hve
    obtain ⟨rfl, rfl⟩ := hve
    obtain ⟨b, off, rfl, hbl, hca⟩ := hcell i hil
    obtain ⟨⟨s1, s2, s3⟩, hx⟩ : ∃ x, cs.getD i noCase = x := ⟨_, rfl⟩
    rw [hx] at hca hl
    obtain ⟨c0, c1, c2⟩ := hca
    dsimp only at c0 c1 c2
    rw [hi] at x1_1
    subst hl
    clear hcell hx HL HSC h0 h1
    rw [hi]
    clear hi
    go_wp2_with (refine wpList_store_row rfl 74 _ _ rfl (w.heap.size + 2) _ rfl rfl 74 #[.bool false, .int .i64 0, .int .u64 0] R2.out (by kernel_rfl) rfl (by simp [Value.oneCell']) ?_)
    refine bodyPost_ret (v := .tuple #[.agg #[.bool s1, .int .i64 s2, .int .u64 s3], .bool true]) (results_cell_tmp Try.results86 _ _ (w.heap.size + 2) 74 _ (0, 0) _ rfl (setRow_heap _ _ _ _ 74 (0, 0) R2.out) Try.underlying74 rfl (by kernel_rfl) _ rfl) rfl ?_
    unfold ChosQ
    exact ⟨⟨s1, s2, s3⟩, true, rfl, .inl ⟨rfl, rfl⟩, row_below HB.out (by omega) _⟩
  have hq4 : (kd == 4) = false := by simpa using h4
  obtain ⟨sb, hsb⟩ : ∃ b, sgB ⟨kd, md, ch, vl, dl, cs, ds⟩ = b := ⟨_, rfl⟩
  obtain ⟨⟨s1, s2, s3⟩, hsc⟩ : ∃ c, sgC ⟨kd, md, ch, vl, dl, cs, ds⟩ = c := ⟨_, rfl⟩
  rw [hsb, hsc] at TS
  have HL : Hid (lc = if sb = true ∧ rc = -1 then some ⟨s1, s2, s3⟩ else none) := by
    show _ = _
    rw [← HLC.out]
    unfold chosenE
    rw [if_neg h4]
    show (if oneB _ = true ∧ rc = -1 then some (oneC _) else none) = _
    rw [← hsb, ← hsc]
    rfl
  unfold caseW at TS
  dsimp only at TS
  clear hsb hsc HLC h4 HSC
  go_wp2_with fail
  refine (TS.out _ HB.out).mono ?_; rintro e w1 ⟨rfl, hb1⟩
  have HB1 := Lib.hid (below_then HB.out hb1)
  have R1b := Lib.hid ((hb1.block (w.heap.size + 1) (Array.getElem?_eq_some_iff.1 R1.out).1).trans R1.out)
  have R2b := Lib.hid ((hb1.block (w.heap.size + 2) (Array.getElem?_eq_some_iff.1 R2.out).1).trans R2.out)
  clear x0_0 x0_1 x0_2 x0_3 x0_4 x0_5 x0_6 x1_0 x1_1 x1_2 x1_3 x1_4 hb1 hq4 TS
  obtain ⟨Wx, hWx⟩ : ∃ Wx, (w1.alloc (.cells #[.bool false, .int .i64 0, .int .u64 0] 74)).setRow w1.heap.size #[.bool s1, .int .i64 s2, .int .u64 s3] = Wx := ⟨_, rfl⟩
  have Nx : Hid ((w1.alloc (.cells #[.bool false, .int .i64 0, .int .u64 0] 74)).heap[w1.heap.size]? = some (.cells #[.bool false, .int .i64 0, .int .u64 0] 74 (0, 0))) := heap_alloc_new _ _
  have HBx : Hid (Below w1.heap.size w1 Wx) := hWx ▸ row_below (below_new (Below.refl _ _) _) (Nat.le_refl _) _
  have Rx : Hid (Wx.heap[w1.heap.size]? = some (.cells #[.bool s1, .int .i64 s2, .int .u64 s3] 74 (0, 0))) := hWx ▸ setRow_heap _ _ _ _ _ (0, 0) Nx.out
  have HWx := Lib.hid hWx
  clear hWx
  go_upto_region 6 with (refine wpList_store_row rfl 74 _ _ rfl (w1.heap.size) _ rfl rfl 74 #[.bool false, .int .i64 0, .int .u64 0] Nx.out (by kernel_rfl) rfl (by simp [Value.oneCell']) ?_)
  rw [HWx.out]
  try simp only [Act.put]
  clear HWx Nx
  obtain ⟨X, hX⟩ : ∃ X, w1.heap.size = X := ⟨_, rfl⟩
  rw [hX] at Rx
  rw [hX]
  clear hX
  have HBX := Lib.hid (below_then HB1.out HBx.out)
  have R1c := Lib.hid ((HBx.out.block (w.heap.size + 1) (Array.getElem?_eq_some_iff.1 R1b.out).1).trans R1b.out)
  have R2c := Lib.hid ((HBx.out.block (w.heap.size + 2) (Array.getElem?_eq_some_iff.1 R2b.out).1).trans R2b.out)
  obtain ⟨bq, hbq⟩ : ∃ b, (rc == -1) = b := ⟨_, rfl⟩
  have HL2 : Hid (lc = if sb = true ∧ bq = true then some ⟨s1, s2, s3⟩ else none) := by
    show _ = _
    rw [HL.out, ← hbq]
    simp
  clear HL
  have KSx : Hid (∀ w', Below Wx.heap.size Wx w' → (fun w' : World => w'.cell? ⟨X, 0, none⟩ = some (.bool s1) ∧ w'.cell? ⟨X, 1, none⟩ = some (.int .i64 s2) ∧ w'.cell? ⟨X, 2, none⟩ = some (.int .u64 s3) ∧ w'.cell? ⟨w.heap.size + 1, 1, none⟩ = some (.int .i64 rc)) w') := fun w' hb => by
    obtain ⟨z0, z1, z2⟩ := rowc3 ((hb.block X (Array.getElem?_eq_some_iff.1 Rx.out).1).trans Rx.out)
    obtain ⟨-, q1, -⟩ := rowc5 ((hb.block (w.heap.size + 1) (Array.getElem?_eq_some_iff.1 R1c.out).1).trans R1c.out)
    exact ⟨z0, z1, z2, q1⟩
  have hfin : ∀ (u9 : World), Below Wx.heap.size Wx u9 → ∀ b, (b = (sb && bq)) → ChosQ lc w (.returned (.tuple #[caseW ⟨s1, s2, s3⟩, .bool b])) (u9.setRow (w.heap.size + 2) #[.bool s1, .int .i64 s2, .int .u64 s3]) := fun u9 hb b hbe => by
    refine ⟨⟨s1, s2, s3⟩, b, rfl, ?_, row_below (below_then HBX.out hb) (by omega) _⟩
    rw [HL2.out, hbe]
    cases sb <;> cases bq <;> simp
  have HFIN := Lib.hid hfin
  clear hfin HL2
  cases sb with
  | true =>
    refine untilK KSx 7 9 (by kernel_rfl) rfl ?_
    obtain ⟨u0, hu0, HU0⟩ := drew_pack Wx
    rw [hu0]
    clear hu0
    have hSU0 := KSx.out _ HU0.out
    refine tkU (v := ?_) 0 la0 hSU0 (by kernel_rfl) (fun _ _ _ h => h) rfl ?_ ?_
    rotate_left
    · (intro w hSw; (try dsimp only at hSw); go_simp <;> with_reducible rfl)
    simp only [Act.put, List.setIfInBounds_toArray, List.set_cons_zero, List.set_cons_succ]
    refine wpAnyU_takeW (v := ?_) 1 la1 (by kernel_rfl) (by kernel_rfl) (by kernel_rfl) (by kernel_rfl) (fun _ _ _ h => h) (fun _ => hSU0) rfl ?_ ?_
    rotate_left
    · (intro w; go_simp <;> with_reducible rfl)
    simp only [Act.put, List.setIfInBounds_toArray, List.set_cons_zero, List.set_cons_succ]
    refine tkU (v := ?_) 2 la2 hSU0 (by kernel_rfl) (fun _ _ _ h => h) rfl ?_ ?_
    rotate_left
    · (intro w hSw; (try dsimp only at hSw); go_simp <;> with_reducible rfl)
    simp only [Act.put, List.setIfInBounds_toArray, List.set_cons_zero, List.set_cons_succ]
    refine wpAnyU_ready (rs := [3, 7]) (by kernel_rfl) rfl ?_
    refine AllReadyU.consG la3 (fun K hK => ?_) ?_
    · obtain ⟨d0, d1, d2, d3⟩ := KSx.out _ HU0.out
      go_simp
      clear d0 d1 d2 d3
      refine hK.out _ _ ?_ (fun hSU1 => ?_)
      · exact hSU0
      clear hK K hSU0
      try simp only [Act.put, List.setIfInBounds_toArray, List.set_cons_zero, List.set_cons_succ]
      refine wpAnyU_ready (rs := [4, 7]) (by kernel_rfl) rfl ?_
      refine AllReadyU.consG la4 (fun K hK => ?_) ?_
      · obtain ⟨d0, d1, d2, d3⟩ := KSx.out _ HU0.out
        go_simp
        clear d0 d1 d2 d3
        refine hK.out _ _ ?_ (fun hSU2 => ?_)
        · exact hSU1
        clear hK K hSU1
        try simp only [Act.put, List.setIfInBounds_toArray, List.set_cons_zero, List.set_cons_succ]
        refine wpAnyU_ready (rs := [5, 7]) (by kernel_rfl) rfl ?_
        refine AllReadyU.consG la5 (fun K hK => ?_) ?_
        · obtain ⟨d0, d1, d2, d3⟩ := KSx.out _ HU0.out
          go_simp
          clear d0 d1 d2 d3
          refine hK.out _ _ ?_ (fun hSU3 => ?_)
          · exact hSU2
          clear hK K hSU2
          try simp only [Act.put, List.setIfInBounds_toArray, List.set_cons_zero, List.set_cons_succ]
          refine wpAnyU_takeW (v := ?_) 6 la6 (by kernel_rfl) (by kernel_rfl) (by kernel_rfl) (by kernel_rfl) (fun _ _ _ h => h) (fun _ => hSU3) rfl ?_ ?_
          rotate_left
          · (intro w; go_simp <;> with_reducible rfl)
          simp only [Act.put, List.setIfInBounds_toArray, List.set_cons_zero, List.set_cons_succ]
          refine wpAnyU_ready (rs := [7]) (by kernel_rfl) rfl ?_
          refine AllReadyU.free la7 rfl (by kernel_rfl) (fun K hK => ?_) ?_
          · have ZR := Lib.hid ((HU0.out.block (w.heap.size + 2) (Array.getElem?_eq_some_iff.1 R2c.out).1).trans R2c.out)
            refine step_store_row rfl 74 _ _ rfl (w.heap.size + 2) _ rfl rfl 74 #[.bool false, .int .i64 0, .int .u64 0] ZR.out (by kernel_rfl) rfl (by simp [Value.oneCell']) ?_
            refine hK.out _ _ ?_
            clear hK K hSU3
            try simp only [Act.put, List.setIfInBounds_toArray, List.set_cons_zero, List.set_cons_succ]
            refine wpAnyU_takeW (v := ?_) 8 la8 (by kernel_rfl) (by kernel_rfl) (by kernel_rfl) (by kernel_rfl) (fun _ _ _ h => h) (past_k (by kernel_rfl)) rfl ?_ ?_
            rotate_left
            · (intro w; go_simp <;> with_reducible rfl)
            simp only [Act.put, List.setIfInBounds_toArray, List.set_cons_zero, List.set_cons_succ]
            refine wpAnyU_done (by kernel_rfl) ?_ _
            go_wp2_with fail
            refine bodyPost_ret (v := .tuple #[.agg #[.bool s1, .int .i64 s2, .int .u64 s3], .bool bq]) (results_cell_tmp Try.results86 _ _ (w.heap.size + 2) 74 _ (0, 0) _ rfl (setRow_heap _ _ _ _ 74 (0, 0) ZR.out) Try.underlying74 rfl (by kernel_rfl) _ (by first | rfl | simp [hbq])) rfl ?_
            exact HFIN.out _ HU0.out _ (by simp)
          exact AllReadyU.nil
        refine AllReadyU.free la7 rfl (by kernel_rfl) (fun K hK => ?_) ?_
        · have ZR := Lib.hid ((HU0.out.block (w.heap.size + 2) (Array.getElem?_eq_some_iff.1 R2c.out).1).trans R2c.out)
          refine step_store_row rfl 74 _ _ rfl (w.heap.size + 2) _ rfl rfl 74 #[.bool false, .int .i64 0, .int .u64 0] ZR.out (by kernel_rfl) rfl (by simp [Value.oneCell']) ?_
          refine hK.out _ _ ?_
          clear hK K hSU2
          try simp only [Act.put, List.setIfInBounds_toArray, List.set_cons_zero, List.set_cons_succ]
          refine wpAnyU_ready (rs := [5]) (by kernel_rfl) rfl ?_
          refine AllReadyU.freeG la5 (by kernel_rfl) (fun K hK => ?_) ?_
          · obtain ⟨-, d3, -⟩ := rowc5 ((setRow_other u0 (w.heap.size + 2) (w.heap.size + 1) #[.bool s1, .int .i64 s2, .int .u64 s3] (by omega)).trans ((HU0.out.block (w.heap.size + 1) (Array.getElem?_eq_some_iff.1 R1c.out).1).trans R1c.out))
            go_simp
            clear d3
            refine hK.out _ _ ?_
            clear hK K
            try simp only [Act.put, List.setIfInBounds_toArray, List.set_cons_zero, List.set_cons_succ]
            refine wpAnyU_takeW (v := ?_) 6 la6 (by kernel_rfl) (by kernel_rfl) (by kernel_rfl) (by kernel_rfl) (fun _ _ _ h => h) (past_k (by kernel_rfl)) rfl ?_ ?_
            rotate_left
            · (intro w; go_simp <;> with_reducible rfl)
            simp only [Act.put, List.setIfInBounds_toArray, List.set_cons_zero, List.set_cons_succ]
            refine wpAnyU_takeW (v := ?_) 8 la8 (by kernel_rfl) (by kernel_rfl) (by kernel_rfl) (by kernel_rfl) (fun _ _ _ h => h) (past_k (by kernel_rfl)) rfl ?_ ?_
            rotate_left
            · (intro w; go_simp <;> with_reducible rfl)
            simp only [Act.put, List.setIfInBounds_toArray, List.set_cons_zero, List.set_cons_succ]
            refine wpAnyU_done (by kernel_rfl) ?_ _
            go_wp2_with fail
            refine bodyPost_ret (v := .tuple #[.agg #[.bool s1, .int .i64 s2, .int .u64 s3], .bool bq]) (results_cell_tmp Try.results86 _ _ (w.heap.size + 2) 74 _ (0, 0) _ rfl (setRow_heap _ _ _ _ 74 (0, 0) ZR.out) Try.underlying74 rfl (by kernel_rfl) _ (by first | rfl | simp [hbq])) rfl ?_
            exact HFIN.out _ HU0.out _ (by simp)
          exact AllReadyU.nil
        exact AllReadyU.nil
      refine AllReadyU.free la7 rfl (by kernel_rfl) (fun K hK => ?_) ?_
      · have ZR := Lib.hid ((HU0.out.block (w.heap.size + 2) (Array.getElem?_eq_some_iff.1 R2c.out).1).trans R2c.out)
        refine step_store_row rfl 74 _ _ rfl (w.heap.size + 2) _ rfl rfl 74 #[.bool false, .int .i64 0, .int .u64 0] ZR.out (by kernel_rfl) rfl (by simp [Value.oneCell']) ?_
        refine hK.out _ _ ?_
        clear hK K hSU1
        try simp only [Act.put, List.setIfInBounds_toArray, List.set_cons_zero, List.set_cons_succ]
        refine wpAnyU_ready (rs := [4]) (by kernel_rfl) rfl ?_
        refine AllReadyU.freeG la4 (by kernel_rfl) (fun K hK => ?_) ?_
        · obtain ⟨-, d3, -⟩ := rowc5 ((setRow_other u0 (w.heap.size + 2) (w.heap.size + 1) #[.bool s1, .int .i64 s2, .int .u64 s3] (by omega)).trans ((HU0.out.block (w.heap.size + 1) (Array.getElem?_eq_some_iff.1 R1c.out).1).trans R1c.out))
          go_simp
          clear d3
          refine hK.out _ _ ?_
          clear hK K
          try simp only [Act.put, List.setIfInBounds_toArray, List.set_cons_zero, List.set_cons_succ]
          refine wpAnyU_ready (rs := [5]) (by kernel_rfl) rfl ?_
          refine AllReadyU.freeG la5 (by kernel_rfl) (fun K hK => ?_) ?_
          · obtain ⟨-, d3, -⟩ := rowc5 ((setRow_other u0 (w.heap.size + 2) (w.heap.size + 1) #[.bool s1, .int .i64 s2, .int .u64 s3] (by omega)).trans ((HU0.out.block (w.heap.size + 1) (Array.getElem?_eq_some_iff.1 R1c.out).1).trans R1c.out))
            go_simp
            clear d3
            refine hK.out _ _ ?_
            clear hK K
            try simp only [Act.put, List.setIfInBounds_toArray, List.set_cons_zero, List.set_cons_succ]
            refine wpAnyU_takeW (v := ?_) 6 la6 (by kernel_rfl) (by kernel_rfl) (by kernel_rfl) (by kernel_rfl) (fun _ _ _ h => h) (past_k (by kernel_rfl)) rfl ?_ ?_
            rotate_left
            · (intro w; go_simp <;> with_reducible rfl)
            simp only [Act.put, List.setIfInBounds_toArray, List.set_cons_zero, List.set_cons_succ]
            refine wpAnyU_takeW (v := ?_) 8 la8 (by kernel_rfl) (by kernel_rfl) (by kernel_rfl) (by kernel_rfl) (fun _ _ _ h => h) (past_k (by kernel_rfl)) rfl ?_ ?_
            rotate_left
            · (intro w; go_simp <;> with_reducible rfl)
            simp only [Act.put, List.setIfInBounds_toArray, List.set_cons_zero, List.set_cons_succ]
            refine wpAnyU_done (by kernel_rfl) ?_ _
            go_wp2_with fail
            refine bodyPost_ret (v := .tuple #[.agg #[.bool s1, .int .i64 s2, .int .u64 s3], .bool bq]) (results_cell_tmp Try.results86 _ _ (w.heap.size + 2) 74 _ (0, 0) _ rfl (setRow_heap _ _ _ _ 74 (0, 0) ZR.out) Try.underlying74 rfl (by kernel_rfl) _ (by first | rfl | simp [hbq])) rfl ?_
            exact HFIN.out _ HU0.out _ (by simp)
          exact AllReadyU.nil
        exact AllReadyU.nil
      exact AllReadyU.nil
    refine AllReadyU.free la7 rfl (by kernel_rfl) (fun K hK => ?_) ?_
    · have ZR := Lib.hid ((HU0.out.block (w.heap.size + 2) (Array.getElem?_eq_some_iff.1 R2c.out).1).trans R2c.out)
      refine step_store_row rfl 74 _ _ rfl (w.heap.size + 2) _ rfl rfl 74 #[.bool false, .int .i64 0, .int .u64 0] ZR.out (by kernel_rfl) rfl (by simp [Value.oneCell']) ?_
      refine hK.out _ _ ?_
      clear hK K hSU0
      try simp only [Act.put, List.setIfInBounds_toArray, List.set_cons_zero, List.set_cons_succ]
      refine wpAnyU_ready (rs := [3]) (by kernel_rfl) rfl ?_
      refine AllReadyU.freeG la3 (by kernel_rfl) (fun K hK => ?_) ?_
      · obtain ⟨-, d3, -⟩ := rowc5 ((setRow_other u0 (w.heap.size + 2) (w.heap.size + 1) #[.bool s1, .int .i64 s2, .int .u64 s3] (by omega)).trans ((HU0.out.block (w.heap.size + 1) (Array.getElem?_eq_some_iff.1 R1c.out).1).trans R1c.out))
        go_simp
        clear d3
        refine hK.out _ _ ?_
        clear hK K
        try simp only [Act.put, List.setIfInBounds_toArray, List.set_cons_zero, List.set_cons_succ]
        refine wpAnyU_ready (rs := [4]) (by kernel_rfl) rfl ?_
        refine AllReadyU.freeG la4 (by kernel_rfl) (fun K hK => ?_) ?_
        · obtain ⟨-, d3, -⟩ := rowc5 ((setRow_other u0 (w.heap.size + 2) (w.heap.size + 1) #[.bool s1, .int .i64 s2, .int .u64 s3] (by omega)).trans ((HU0.out.block (w.heap.size + 1) (Array.getElem?_eq_some_iff.1 R1c.out).1).trans R1c.out))
          go_simp
          clear d3
          refine hK.out _ _ ?_
          clear hK K
          try simp only [Act.put, List.setIfInBounds_toArray, List.set_cons_zero, List.set_cons_succ]
          refine wpAnyU_ready (rs := [5]) (by kernel_rfl) rfl ?_
          refine AllReadyU.freeG la5 (by kernel_rfl) (fun K hK => ?_) ?_
          · obtain ⟨-, d3, -⟩ := rowc5 ((setRow_other u0 (w.heap.size + 2) (w.heap.size + 1) #[.bool s1, .int .i64 s2, .int .u64 s3] (by omega)).trans ((HU0.out.block (w.heap.size + 1) (Array.getElem?_eq_some_iff.1 R1c.out).1).trans R1c.out))
            go_simp
            clear d3
            refine hK.out _ _ ?_
            clear hK K
            try simp only [Act.put, List.setIfInBounds_toArray, List.set_cons_zero, List.set_cons_succ]
            refine wpAnyU_takeW (v := ?_) 6 la6 (by kernel_rfl) (by kernel_rfl) (by kernel_rfl) (by kernel_rfl) (fun _ _ _ h => h) (past_k (by kernel_rfl)) rfl ?_ ?_
            rotate_left
            · (intro w; go_simp <;> with_reducible rfl)
            simp only [Act.put, List.setIfInBounds_toArray, List.set_cons_zero, List.set_cons_succ]
            refine wpAnyU_takeW (v := ?_) 8 la8 (by kernel_rfl) (by kernel_rfl) (by kernel_rfl) (by kernel_rfl) (fun _ _ _ h => h) (past_k (by kernel_rfl)) rfl ?_ ?_
            rotate_left
            · (intro w; go_simp <;> with_reducible rfl)
            simp only [Act.put, List.setIfInBounds_toArray, List.set_cons_zero, List.set_cons_succ]
            refine wpAnyU_done (by kernel_rfl) ?_ _
            go_wp2_with fail
            refine bodyPost_ret (v := .tuple #[.agg #[.bool s1, .int .i64 s2, .int .u64 s3], .bool bq]) (results_cell_tmp Try.results86 _ _ (w.heap.size + 2) 74 _ (0, 0) _ rfl (setRow_heap _ _ _ _ 74 (0, 0) ZR.out) Try.underlying74 rfl (by kernel_rfl) _ (by first | rfl | simp [hbq])) rfl ?_
            exact HFIN.out _ HU0.out _ (by simp)
          exact AllReadyU.nil
        exact AllReadyU.nil
      exact AllReadyU.nil
    exact AllReadyU.nil
  | false =>
    refine wp_region_until (fun w' : World => w'.cell? ⟨X, 0, none⟩ = some (.bool s1) ∧ w'.cell? ⟨X, 1, none⟩ = some (.int .i64 s2) ∧ w'.cell? ⟨X, 2, none⟩ = some (.int .u64 s3) ∧ w'.cell? ⟨w.heap.size + 1, 1, none⟩ = some (.int .i64 rc)) 7 9 (by kernel_rfl) rfl ?_
    obtain ⟨u0, hu0, HU0⟩ := drew_pack Wx
    rw [hu0]
    clear hu0
    have hSU0 := KSx.out _ HU0.out
    refine tkU (v := ?_) 0 la0 hSU0 (by kernel_rfl) (fun _ _ _ h => h) rfl ?_ ?_
    rotate_left
    · (intro w hSw; (try dsimp only at hSw); go_simp <;> with_reducible rfl)
    simp only [Act.put, List.setIfInBounds_toArray, List.set_cons_zero, List.set_cons_succ]
    refine wpAnyU_takeW (v := ?_) 1 la1 (by kernel_rfl) (by kernel_rfl) (by kernel_rfl) (by kernel_rfl) (fun _ _ _ h => h) (fun _ => hSU0) rfl ?_ ?_
    rotate_left
    · (intro w; go_simp <;> with_reducible rfl)
    simp only [Act.put, List.setIfInBounds_toArray, List.set_cons_zero, List.set_cons_succ]
    refine tkU (v := ?_) 2 la2 hSU0 (by kernel_rfl) (fun _ _ _ h => h) rfl ?_ ?_
    rotate_left
    · (intro w hSw; (try dsimp only at hSw); go_simp <;> with_reducible rfl)
    simp only [Act.put, List.setIfInBounds_toArray, List.set_cons_zero, List.set_cons_succ]
    refine wpAnyU_ready (rs := [3, 7]) (by kernel_rfl) rfl ?_
    refine AllReadyU.consG la3 (fun K hK => ?_) ?_
    · obtain ⟨d0, d1, d2, d3⟩ := KSx.out _ HU0.out
      go_simp
      clear d0 d1 d2 d3
      refine hK.out _ _ ?_ (fun hSU1 => ?_)
      · exact hSU0
      clear hK K hSU0
      try simp only [Act.put, List.setIfInBounds_toArray, List.set_cons_zero, List.set_cons_succ]
      refine wpAnyU_ready (rs := [4, 7]) (by kernel_rfl) rfl ?_
      refine AllReadyU.consG la4 (fun K hK => ?_) ?_
      · obtain ⟨d0, d1, d2, d3⟩ := KSx.out _ HU0.out
        go_simp
        clear d0 d1 d2 d3
        refine hK.out _ _ ?_ (fun hSU2 => ?_)
        · exact hSU1
        clear hK K hSU1
        try simp only [Act.put, List.setIfInBounds_toArray, List.set_cons_zero, List.set_cons_succ]
        refine wpAnyU_ready (rs := [5, 7]) (by kernel_rfl) rfl ?_
        refine AllReadyU.consG la5 (fun K hK => ?_) ?_
        · obtain ⟨d0, d1, d2, d3⟩ := KSx.out _ HU0.out
          go_simp
          clear d0 d1 d2 d3
          refine hK.out _ _ ?_ (fun hSU3 => ?_)
          · exact hSU2
          clear hK K hSU2
          try simp only [Act.put, List.setIfInBounds_toArray, List.set_cons_zero, List.set_cons_succ]
          refine wpAnyU_takeW (v := ?_) 6 la6 (by kernel_rfl) (by kernel_rfl) (by kernel_rfl) (by kernel_rfl) (fun _ _ _ h => h) (fun _ => hSU3) rfl ?_ ?_
          rotate_left
          · (intro w; go_simp <;> with_reducible rfl)
          simp only [Act.put, List.setIfInBounds_toArray, List.set_cons_zero, List.set_cons_succ]
          refine wpAnyU_ready (rs := [7]) (by kernel_rfl) rfl ?_
          refine AllReadyU.free la7 rfl (by kernel_rfl) (fun K hK => ?_) ?_
          · have ZR := Lib.hid ((HU0.out.block (w.heap.size + 2) (Array.getElem?_eq_some_iff.1 R2c.out).1).trans R2c.out)
            refine step_store_row rfl 74 _ _ rfl (w.heap.size + 2) _ rfl rfl 74 #[.bool false, .int .i64 0, .int .u64 0] ZR.out (by kernel_rfl) rfl (by simp [Value.oneCell']) ?_
            refine hK.out _ _ ?_
            clear hK K hSU3
            try simp only [Act.put, List.setIfInBounds_toArray, List.set_cons_zero, List.set_cons_succ]
            refine wpAnyU_takeW (v := ?_) 8 la8 (by kernel_rfl) (by kernel_rfl) (by kernel_rfl) (by kernel_rfl) (fun _ _ _ h => h) (past_k (by kernel_rfl)) rfl ?_ ?_
            rotate_left
            · (intro w; go_simp <;> with_reducible rfl)
            simp only [Act.put, List.setIfInBounds_toArray, List.set_cons_zero, List.set_cons_succ]
            refine wpAnyU_done (by kernel_rfl) ?_ _
            go_wp2_with fail
            refine bodyPost_ret (v := .tuple #[.agg #[.bool s1, .int .i64 s2, .int .u64 s3], .bool false]) (results_cell_tmp Try.results86 _ _ (w.heap.size + 2) 74 _ (0, 0) _ rfl (setRow_heap _ _ _ _ 74 (0, 0) ZR.out) Try.underlying74 rfl (by kernel_rfl) _ (by first | rfl | simp [hbq])) rfl ?_
            exact HFIN.out _ HU0.out _ (by simp)
          exact AllReadyU.nil
        refine AllReadyU.free la7 rfl (by kernel_rfl) (fun K hK => ?_) ?_
        · have ZR := Lib.hid ((HU0.out.block (w.heap.size + 2) (Array.getElem?_eq_some_iff.1 R2c.out).1).trans R2c.out)
          refine step_store_row rfl 74 _ _ rfl (w.heap.size + 2) _ rfl rfl 74 #[.bool false, .int .i64 0, .int .u64 0] ZR.out (by kernel_rfl) rfl (by simp [Value.oneCell']) ?_
          refine hK.out _ _ ?_
          clear hK K hSU2
          try simp only [Act.put, List.setIfInBounds_toArray, List.set_cons_zero, List.set_cons_succ]
          refine wpAnyU_ready (rs := [5]) (by kernel_rfl) rfl ?_
          refine AllReadyU.freeG la5 (by kernel_rfl) (fun K hK => ?_) ?_
          · obtain ⟨-, d3, -⟩ := rowc5 ((setRow_other u0 (w.heap.size + 2) (w.heap.size + 1) #[.bool s1, .int .i64 s2, .int .u64 s3] (by omega)).trans ((HU0.out.block (w.heap.size + 1) (Array.getElem?_eq_some_iff.1 R1c.out).1).trans R1c.out))
            go_simp
            clear d3
            refine hK.out _ _ ?_
            clear hK K
            try simp only [Act.put, List.setIfInBounds_toArray, List.set_cons_zero, List.set_cons_succ]
            refine wpAnyU_takeW (v := ?_) 6 la6 (by kernel_rfl) (by kernel_rfl) (by kernel_rfl) (by kernel_rfl) (fun _ _ _ h => h) (past_k (by kernel_rfl)) rfl ?_ ?_
            rotate_left
            · (intro w; go_simp <;> with_reducible rfl)
            simp only [Act.put, List.setIfInBounds_toArray, List.set_cons_zero, List.set_cons_succ]
            refine wpAnyU_takeW (v := ?_) 8 la8 (by kernel_rfl) (by kernel_rfl) (by kernel_rfl) (by kernel_rfl) (fun _ _ _ h => h) (past_k (by kernel_rfl)) rfl ?_ ?_
            rotate_left
            · (intro w; go_simp <;> with_reducible rfl)
            simp only [Act.put, List.setIfInBounds_toArray, List.set_cons_zero, List.set_cons_succ]
            refine wpAnyU_done (by kernel_rfl) ?_ _
            go_wp2_with fail
            refine bodyPost_ret (v := .tuple #[.agg #[.bool s1, .int .i64 s2, .int .u64 s3], .bool false]) (results_cell_tmp Try.results86 _ _ (w.heap.size + 2) 74 _ (0, 0) _ rfl (setRow_heap _ _ _ _ 74 (0, 0) ZR.out) Try.underlying74 rfl (by kernel_rfl) _ (by first | rfl | simp [hbq])) rfl ?_
            exact HFIN.out _ HU0.out _ (by simp)
          exact AllReadyU.nil
        exact AllReadyU.nil
      refine AllReadyU.free la7 rfl (by kernel_rfl) (fun K hK => ?_) ?_
      · have ZR := Lib.hid ((HU0.out.block (w.heap.size + 2) (Array.getElem?_eq_some_iff.1 R2c.out).1).trans R2c.out)
        refine step_store_row rfl 74 _ _ rfl (w.heap.size + 2) _ rfl rfl 74 #[.bool false, .int .i64 0, .int .u64 0] ZR.out (by kernel_rfl) rfl (by simp [Value.oneCell']) ?_
        refine hK.out _ _ ?_
        clear hK K hSU1
        try simp only [Act.put, List.setIfInBounds_toArray, List.set_cons_zero, List.set_cons_succ]
        refine wpAnyU_ready (rs := [4]) (by kernel_rfl) rfl ?_
        refine AllReadyU.freeG la4 (by kernel_rfl) (fun K hK => ?_) ?_
        · obtain ⟨-, d3, -⟩ := rowc5 ((setRow_other u0 (w.heap.size + 2) (w.heap.size + 1) #[.bool s1, .int .i64 s2, .int .u64 s3] (by omega)).trans ((HU0.out.block (w.heap.size + 1) (Array.getElem?_eq_some_iff.1 R1c.out).1).trans R1c.out))
          go_simp
          clear d3
          refine hK.out _ _ ?_
          clear hK K
          try simp only [Act.put, List.setIfInBounds_toArray, List.set_cons_zero, List.set_cons_succ]
          refine wpAnyU_ready (rs := [5]) (by kernel_rfl) rfl ?_
          refine AllReadyU.freeG la5 (by kernel_rfl) (fun K hK => ?_) ?_
          · obtain ⟨-, d3, -⟩ := rowc5 ((setRow_other u0 (w.heap.size + 2) (w.heap.size + 1) #[.bool s1, .int .i64 s2, .int .u64 s3] (by omega)).trans ((HU0.out.block (w.heap.size + 1) (Array.getElem?_eq_some_iff.1 R1c.out).1).trans R1c.out))
            go_simp
            clear d3
            refine hK.out _ _ ?_
            clear hK K
            try simp only [Act.put, List.setIfInBounds_toArray, List.set_cons_zero, List.set_cons_succ]
            refine wpAnyU_takeW (v := ?_) 6 la6 (by kernel_rfl) (by kernel_rfl) (by kernel_rfl) (by kernel_rfl) (fun _ _ _ h => h) (past_k (by kernel_rfl)) rfl ?_ ?_
            rotate_left
            · (intro w; go_simp <;> with_reducible rfl)
            simp only [Act.put, List.setIfInBounds_toArray, List.set_cons_zero, List.set_cons_succ]
            refine wpAnyU_takeW (v := ?_) 8 la8 (by kernel_rfl) (by kernel_rfl) (by kernel_rfl) (by kernel_rfl) (fun _ _ _ h => h) (past_k (by kernel_rfl)) rfl ?_ ?_
            rotate_left
            · (intro w; go_simp <;> with_reducible rfl)
            simp only [Act.put, List.setIfInBounds_toArray, List.set_cons_zero, List.set_cons_succ]
            refine wpAnyU_done (by kernel_rfl) ?_ _
            go_wp2_with fail
            refine bodyPost_ret (v := .tuple #[.agg #[.bool s1, .int .i64 s2, .int .u64 s3], .bool false]) (results_cell_tmp Try.results86 _ _ (w.heap.size + 2) 74 _ (0, 0) _ rfl (setRow_heap _ _ _ _ 74 (0, 0) ZR.out) Try.underlying74 rfl (by kernel_rfl) _ (by first | rfl | simp [hbq])) rfl ?_
            exact HFIN.out _ HU0.out _ (by simp)
          exact AllReadyU.nil
        exact AllReadyU.nil
      exact AllReadyU.nil
    refine AllReadyU.free la7 rfl (by kernel_rfl) (fun K hK => ?_) ?_
    · have ZR := Lib.hid ((HU0.out.block (w.heap.size + 2) (Array.getElem?_eq_some_iff.1 R2c.out).1).trans R2c.out)
      refine step_store_row rfl 74 _ _ rfl (w.heap.size + 2) _ rfl rfl 74 #[.bool false, .int .i64 0, .int .u64 0] ZR.out (by kernel_rfl) rfl (by simp [Value.oneCell']) ?_
      refine hK.out _ _ ?_
      clear hK K hSU0
      try simp only [Act.put, List.setIfInBounds_toArray, List.set_cons_zero, List.set_cons_succ]
      refine wpAnyU_ready (rs := [3]) (by kernel_rfl) rfl ?_
      refine AllReadyU.freeG la3 (by kernel_rfl) (fun K hK => ?_) ?_
      · obtain ⟨-, d3, -⟩ := rowc5 ((setRow_other u0 (w.heap.size + 2) (w.heap.size + 1) #[.bool s1, .int .i64 s2, .int .u64 s3] (by omega)).trans ((HU0.out.block (w.heap.size + 1) (Array.getElem?_eq_some_iff.1 R1c.out).1).trans R1c.out))
        go_simp
        clear d3
        refine hK.out _ _ ?_
        clear hK K
        try simp only [Act.put, List.setIfInBounds_toArray, List.set_cons_zero, List.set_cons_succ]
        refine wpAnyU_ready (rs := [4]) (by kernel_rfl) rfl ?_
        refine AllReadyU.freeG la4 (by kernel_rfl) (fun K hK => ?_) ?_
        · obtain ⟨-, d3, -⟩ := rowc5 ((setRow_other u0 (w.heap.size + 2) (w.heap.size + 1) #[.bool s1, .int .i64 s2, .int .u64 s3] (by omega)).trans ((HU0.out.block (w.heap.size + 1) (Array.getElem?_eq_some_iff.1 R1c.out).1).trans R1c.out))
          go_simp
          clear d3
          refine hK.out _ _ ?_
          clear hK K
          try simp only [Act.put, List.setIfInBounds_toArray, List.set_cons_zero, List.set_cons_succ]
          refine wpAnyU_ready (rs := [5]) (by kernel_rfl) rfl ?_
          refine AllReadyU.freeG la5 (by kernel_rfl) (fun K hK => ?_) ?_
          · obtain ⟨-, d3, -⟩ := rowc5 ((setRow_other u0 (w.heap.size + 2) (w.heap.size + 1) #[.bool s1, .int .i64 s2, .int .u64 s3] (by omega)).trans ((HU0.out.block (w.heap.size + 1) (Array.getElem?_eq_some_iff.1 R1c.out).1).trans R1c.out))
            go_simp
            clear d3
            refine hK.out _ _ ?_
            clear hK K
            try simp only [Act.put, List.setIfInBounds_toArray, List.set_cons_zero, List.set_cons_succ]
            refine wpAnyU_takeW (v := ?_) 6 la6 (by kernel_rfl) (by kernel_rfl) (by kernel_rfl) (by kernel_rfl) (fun _ _ _ h => h) (past_k (by kernel_rfl)) rfl ?_ ?_
            rotate_left
            · (intro w; go_simp <;> with_reducible rfl)
            simp only [Act.put, List.setIfInBounds_toArray, List.set_cons_zero, List.set_cons_succ]
            refine wpAnyU_takeW (v := ?_) 8 la8 (by kernel_rfl) (by kernel_rfl) (by kernel_rfl) (by kernel_rfl) (fun _ _ _ h => h) (past_k (by kernel_rfl)) rfl ?_ ?_
            rotate_left
            · (intro w; go_simp <;> with_reducible rfl)
            simp only [Act.put, List.setIfInBounds_toArray, List.set_cons_zero, List.set_cons_succ]
            refine wpAnyU_done (by kernel_rfl) ?_ _
            go_wp2_with fail
            refine bodyPost_ret (v := .tuple #[.agg #[.bool s1, .int .i64 s2, .int .u64 s3], .bool false]) (results_cell_tmp Try.results86 _ _ (w.heap.size + 2) 74 _ (0, 0) _ rfl (setRow_heap _ _ _ _ 74 (0, 0) ZR.out) Try.underlying74 rfl (by kernel_rfl) _ (by first | rfl | simp [hbq])) rfl ?_
            exact HFIN.out _ HU0.out _ (by simp)
          exact AllReadyU.nil
        exact AllReadyU.nil
      exact AllReadyU.nil
    exact AllReadyU.nil
end Go.Proofs.Ytialclohhemkiaa
