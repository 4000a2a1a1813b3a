/- Layer 6: the chapter's example. -/
import Derived.Test.YtipjfcjdefdoeaaTc
import Derived.Test.YtipjfcjdefdoeaaIe
import Derived.Test.YtipjfcjdefdoeaaRu
import Derived.Deep.DeepCutAuto
namespace Go.Proofs.Ytipjfcjdefdoeaa
open Go.ChangeShapes Go.WideShapes Go.ChangeAt Go.RowKit
set_option maxRecDepth 100000

theorem good_small {th k : Int} (h : 0 ≤ th ∧ th ≤ 9) (hk : 0 ≤ k ∧ k ≤ 9) : ItemM.good ⟨th, ⟨k, 3, 0, 0, 0⟩, 0, false⟩ :=
  ⟨by show th = IntKind.i64.wrap th; rw [IntKind.wrap_i64]; omega, ⟨by show k = IntKind.i64.wrap k; rw [IntKind.wrap_i64]; omega, (by show (3 : Int) = IntKind.i64.wrap 3; decide), (by show (0 : Int) = IntKind.u64.wrap 0; decide), (by show (0 : Int) = IntKind.u64.wrap 0; decide), (by show (0 : Int) = IntKind.i64.wrap 0; decide)⟩, (by show (0 : Int) = IntKind.u64.wrap 0; decide)⟩
set_option maxHeartbeats 16000000 in
theorem awake6_any (w : World) : Calls Try.prog 7 #[] w fun e w' => e = .returned (.bool true) ∧ Below w.heap.size w w' := by
  have T1 := Lib.hid fun w' => conflict_any ⟨0, ⟨6, 3, 0, 0, 0⟩, 0, false⟩ ⟨1, ⟨5, 3, 0, 0, 0⟩, 0, false⟩ w' (good_small (by decide) (by decide)) (good_small (by decide) (by decide))
  have T2 := Lib.hid fun w' => conflict_any ⟨0, ⟨2, 3, 0, 0, 0⟩, 0, false⟩ ⟨1, ⟨1, 3, 0, 0, 0⟩, 0, false⟩ w' (good_small (by decide) (by decide)) (good_small (by decide) (by decide))
  have T3 := Lib.hid fun w' => place_any ⟨0, ⟨6, 3, 0, 0, 0⟩, 0, false⟩ w' (good_small (by decide) (by decide))
  rw [show conflictE ⟨0, ⟨6, 3, 0, 0, 0⟩, 0, false⟩ ⟨1, ⟨5, 3, 0, 0, 0⟩, 0, false⟩ = true by decide] at T1
  rw [show conflictE ⟨0, ⟨2, 3, 0, 0, 0⟩, 0, false⟩ ⟨1, ⟨1, 3, 0, 0, 0⟩, 0, false⟩ = false by decide] at T2
  rw [show placeE ⟨0, ⟨6, 3, 0, 0, 0⟩, 0, false⟩ = 3 by decide] at T3
  unfold itemV at T1 T2 T3
  dsimp only at T1 T2 T3
  obtain ⟨W1, hW1⟩ : ∃ W1, (w.alloc (.cells zeroItem 42)).setRow w.heap.size #[.int .i64 0, .int .i64 6, .int .i64 3, .int .u64 0, .int .u64 0, .int .i64 0, .int .u64 0, .bool false] = W1 := ⟨_, rfl⟩
  have N1 : Hid ((w.alloc (.cells zeroItem 42)).heap[w.heap.size]? = some (.cells zeroItem 42 (0, 0))) := heap_alloc_new _ _
  have HB1 : Hid (Below w.heap.size w W1) := hW1 ▸ row_below (below_new (Below.refl _ _) _) (Nat.le_refl _) _
  have R1 : Hid (W1.heap[w.heap.size]? = some (.cells #[.int .i64 0, .int .i64 6, .int .i64 3, .int .u64 0, .int .u64 0, .int .i64 0, .int .u64 0, .bool false] 42 (0, 0))) := hW1 ▸ setRow_heap _ _ _ _ _ (0, 0) N1.out
  have HW1 := Lib.hid hW1
  clear hW1
  obtain ⟨W2, hW2⟩ : ∃ W2, (W1.alloc (.cells zeroItem 42)).setRow W1.heap.size #[.int .i64 1, .int .i64 5, .int .i64 3, .int .u64 0, .int .u64 0, .int .i64 0, .int .u64 0, .bool false] = W2 := ⟨_, rfl⟩
  have N2 : Hid ((W1.alloc (.cells zeroItem 42)).heap[W1.heap.size]? = some (.cells zeroItem 42 (0, 0))) := heap_alloc_new _ _
  have hB2 : Hid (Below W1.heap.size W1 W2) := hW2 ▸ row_below (below_new (Below.refl _ _) _) (Nat.le_refl _) _
  have R2 : Hid (W2.heap[W1.heap.size]? = some (.cells #[.int .i64 1, .int .i64 5, .int .i64 3, .int .u64 0, .int .u64 0, .int .i64 0, .int .u64 0, .bool false] 42 (0, 0))) := hW2 ▸ setRow_heap _ _ _ _ _ (0, 0) N2.out
  have HW2 := Lib.hid hW2
  clear hW2
  have hA1 : w.heap.size < W1.heap.size := (Array.getElem?_eq_some_iff.1 R1.out).1
  have R1' := Lib.hid ((hB2.out.block w.heap.size hA1).trans R1.out)
  have HB2 := Lib.hid (below_then HB1.out hB2.out)
  clear R1 hB2 HB1
  go_enter Try.func7, Try.ntmps7
  go_upto_region 2 with (refine wpList_store_row rfl 42 _ _ rfl (w.heap.size) _ rfl rfl 42 zeroItem N1.out (by kernel_rfl) rfl (by simp [Value.oneCell']) ?_)
  rw [show (#[.int .i64 0, .int .i64 0, .int .i64 0, .int .u64 0, .int .u64 0, .int .i64 0, .int .u64 0, .bool false] : Array Value) = zeroItem from rfl, HW1.out]
  clear HW1 N1
  go_upto_region 3 with (refine wpList_store_row rfl 42 _ _ rfl (W1.heap.size) _ rfl rfl 42 zeroItem N2.out (by kernel_rfl) rfl (by simp [Value.oneCell']) ?_)
  rw [show (#[.int .i64 0, .int .i64 0, .int .i64 0, .int .u64 0, .int .u64 0, .int .i64 0, .int .u64 0, .bool false] : Array Value) = zeroItem from rfl, HW2.out]
  clear HW2 N2 hA1
  try simp only [Act.put]
  have hwA : Hid (w.heap.size ≤ w.heap.size) := Nat.le_refl _
  obtain ⟨A, hA⟩ : ∃ A, w.heap.size = A := ⟨_, rfl⟩
  rw [hA] at R1' HB2 ⊢
  generalize W1.heap.size = B at *
  have hA2 : A < W2.heap.size := (Array.getElem?_eq_some_iff.1 R1'.out).1
  have hB2 : B < W2.heap.size := (Array.getElem?_eq_some_iff.1 R2.out).1
  obtain ⟨x0, x1, x2, x3, x4, x5, x6, x7⟩ := rowc8 R1'.out
  obtain ⟨y0, y1, y2, y3, y4, y5, y6, y7⟩ := rowc8 R2.out
  have KS : Hid (∀ w', Below W2.heap.size W2 w' → (fun w' : World => (w'.cell? ⟨A, 0, none⟩ = some (.int .i64 0) ∧ w'.cell? ⟨A, 1, none⟩ = some (.int .i64 6) ∧ w'.cell? ⟨A, 2, none⟩ = some (.int .i64 3) ∧ w'.cell? ⟨A, 3, none⟩ = some (.int .u64 0) ∧ w'.cell? ⟨A, 4, none⟩ = some (.int .u64 0) ∧ w'.cell? ⟨A, 5, none⟩ = some (.int .i64 0) ∧ w'.cell? ⟨A, 6, none⟩ = some (.int .u64 0) ∧ w'.cell? ⟨A, 7, none⟩ = some (.bool false)) ∧ (w'.cell? ⟨B, 0, none⟩ = some (.int .i64 1) ∧ w'.cell? ⟨B, 1, none⟩ = some (.int .i64 5) ∧ w'.cell? ⟨B, 2, none⟩ = some (.int .i64 3) ∧ w'.cell? ⟨B, 3, none⟩ = some (.int .u64 0) ∧ w'.cell? ⟨B, 4, none⟩ = some (.int .u64 0) ∧ w'.cell? ⟨B, 5, none⟩ = some (.int .i64 0) ∧ w'.cell? ⟨B, 6, none⟩ = some (.int .u64 0) ∧ w'.cell? ⟨B, 7, none⟩ = some (.bool false))) w') := fun w' hb => ⟨⟨(hb.cell (p := ⟨A, 0, none⟩) hA2).trans x0, (hb.cell (p := ⟨A, 1, none⟩) hA2).trans x1, (hb.cell (p := ⟨A, 2, none⟩) hA2).trans x2, (hb.cell (p := ⟨A, 3, none⟩) hA2).trans x3, (hb.cell (p := ⟨A, 4, none⟩) hA2).trans x4, (hb.cell (p := ⟨A, 5, none⟩) hA2).trans x5, (hb.cell (p := ⟨A, 6, none⟩) hA2).trans x6, (hb.cell (p := ⟨A, 7, none⟩) hA2).trans x7⟩, (hb.cell (p := ⟨B, 0, none⟩) hB2).trans y0, (hb.cell (p := ⟨B, 1, none⟩) hB2).trans y1, (hb.cell (p := ⟨B, 2, none⟩) hB2).trans y2, (hb.cell (p := ⟨B, 3, none⟩) hB2).trans y3, (hb.cell (p := ⟨B, 4, none⟩) hB2).trans y4, (hb.cell (p := ⟨B, 5, none⟩) hB2).trans y5, (hb.cell (p := ⟨B, 6, none⟩) hB2).trans y6, (hb.cell (p := ⟨B, 7, none⟩) hB2).trans y7⟩
  clear x0 x1 x2 x3 x4 x5 x6 x7 y0 y1 y2 y3 y4 y5 y6 y7
  go_cut [3, 4] (fun s3 s4 wx => ∃ C D : Nat, s3 = .pointer (some ⟨C, 0, none⟩) ∧ s4 = .pointer (some ⟨D, 0, none⟩) ∧ Hid (W2.heap.size ≤ C) ∧ Hid (W2.heap.size ≤ D) ∧ Hid (C ≠ D) ∧ Hid (wx.heap[C]? = some (.cells #[.int .i64 0, .int .i64 6, .int .i64 3, .int .u64 0, .int .u64 0, .int .i64 0, .int .u64 0, .bool false] 42 (0, 0))) ∧ Hid (wx.heap[D]? = some (.cells #[.int .i64 1, .int .i64 5, .int .i64 3, .int .u64 0, .int .u64 0, .int .i64 0, .int .u64 0, .bool false] 42 (0, 0))) ∧ Hid (Below W2.heap.size W2 wx))
  case first =>
    refine wp_region_until (fun w' : World => (w'.cell? ⟨A, 0, none⟩ = some (.int .i64 0) ∧ w'.cell? ⟨A, 1, none⟩ = some (.int .i64 6) ∧ w'.cell? ⟨A, 2, none⟩ = some (.int .i64 3) ∧ w'.cell? ⟨A, 3, none⟩ = some (.int .u64 0) ∧ w'.cell? ⟨A, 4, none⟩ = some (.int .u64 0) ∧ w'.cell? ⟨A, 5, none⟩ = some (.int .i64 0) ∧ w'.cell? ⟨A, 6, none⟩ = some (.int .u64 0) ∧ w'.cell? ⟨A, 7, none⟩ = some (.bool false)) ∧ (w'.cell? ⟨B, 0, none⟩ = some (.int .i64 1) ∧ w'.cell? ⟨B, 1, none⟩ = some (.int .i64 5) ∧ w'.cell? ⟨B, 2, none⟩ = some (.int .i64 3) ∧ w'.cell? ⟨B, 3, none⟩ = some (.int .u64 0) ∧ w'.cell? ⟨B, 4, none⟩ = some (.int .u64 0) ∧ w'.cell? ⟨B, 5, none⟩ = some (.int .i64 0) ∧ w'.cell? ⟨B, 6, none⟩ = some (.int .u64 0) ∧ w'.cell? ⟨B, 7, none⟩ = some (.bool false))) 5 6 (by kernel_rfl) rfl ?_
    obtain ⟨u0, hu0, HU0⟩ := drew_pack W2
    rw [hu0]
    clear hu0
    have hSU0 : (fun w' : World => (w'.cell? ⟨A, 0, none⟩ = some (.int .i64 0) ∧ w'.cell? ⟨A, 1, none⟩ = some (.int .i64 6) ∧ w'.cell? ⟨A, 2, none⟩ = some (.int .i64 3) ∧ w'.cell? ⟨A, 3, none⟩ = some (.int .u64 0) ∧ w'.cell? ⟨A, 4, none⟩ = some (.int .u64 0) ∧ w'.cell? ⟨A, 5, none⟩ = some (.int .i64 0) ∧ w'.cell? ⟨A, 6, none⟩ = some (.int .u64 0) ∧ w'.cell? ⟨A, 7, none⟩ = some (.bool false)) ∧ (w'.cell? ⟨B, 0, none⟩ = some (.int .i64 1) ∧ w'.cell? ⟨B, 1, none⟩ = some (.int .i64 5) ∧ w'.cell? ⟨B, 2, none⟩ = some (.int .i64 3) ∧ w'.cell? ⟨B, 3, none⟩ = some (.int .u64 0) ∧ w'.cell? ⟨B, 4, none⟩ = some (.int .u64 0) ∧ w'.cell? ⟨B, 5, none⟩ = some (.int .i64 0) ∧ w'.cell? ⟨B, 6, none⟩ = some (.int .u64 0) ∧ w'.cell? ⟨B, 7, none⟩ = some (.bool false))) (u0) := KS.out _ HU0.out
    refine wpAnyU_take (v := ?_) 0 ListAt.zero (by kernel_rfl) (by kernel_rfl) (by kernel_rfl) (by kernel_rfl) (by kernel_rfl) (fun _ _ _ h => h) hSU0 rfl ?_ ?_
    rotate_left
    · (intro w hSw; (try dsimp only at hSw); go_simp <;> with_reducible rfl)
    simp only [Act.put, List.setIfInBounds_toArray, List.set_cons_zero, List.set_cons_succ]
    refine wpAnyU_take (v := ?_) 1 (ListAt.succ ListAt.zero) (by kernel_rfl) (by kernel_rfl) (by kernel_rfl) (by kernel_rfl) (by kernel_rfl) (fun _ _ _ h => h) hSU0 rfl ?_ ?_
    rotate_left
    · (intro w hSw; (try dsimp only at hSw); go_simp <;> with_reducible rfl)
    simp only [Act.put, List.setIfInBounds_toArray, List.set_cons_zero, List.set_cons_succ]
    refine wpAnyU_ready (rs := [2, 3]) (by kernel_rfl) rfl ?_
    refine AllReadyU.cons (ListAt.succ (ListAt.succ ListAt.zero)) rfl (fun K hK => ?_) ?_
    · go_simp
      obtain ⟨u1, C, hv, hbC, RC, hbv, ltC⟩ := alloc_pack u0 (.cells zeroItem 42)
      rw [show (#[.int .i64 0, .int .i64 0, .int .i64 0, .int .u64 0, .int .u64 0, .int .i64 0, .int .u64 0, .bool false] : Array Value) = zeroItem from rfl, hv, hbC]
      have geC : Hid (W2.heap.size ≤ C) := hbC ▸ HU0.out.size
      have HU1 := Lib.hid (below_then HU0.out hbv.out)
      clear hbv hv hbC HU0
      refine hK.out _ _ ?_ (fun hSU1 => ?_)
      · exact KS.out _ HU1.out
      clear hK K hSU0
      try simp only [Act.put, List.setIfInBounds_toArray, List.set_cons_zero, List.set_cons_succ]
      refine wpAnyU_ready (rs := [3]) (by kernel_rfl) rfl ?_
      refine AllReadyU.cons (ListAt.succ (ListAt.succ (ListAt.succ ListAt.zero))) rfl (fun K hK => ?_) ?_
      · go_simp
        obtain ⟨u2, D, hv, hbD, RD, hbv, ltD⟩ := alloc_pack u1 (.cells zeroItem 42)
        rw [show (#[.int .i64 0, .int .i64 0, .int .i64 0, .int .u64 0, .int .u64 0, .int .i64 0, .int .u64 0, .bool false] : Array Value) = zeroItem from rfl, hv, hbD]
        have geD : Hid (W2.heap.size ≤ D) := hbD ▸ HU1.out.size
        have neCD : Hid (C ≠ D) := Nat.ne_of_lt (hbD ▸ ltC.out)
        have RC := Lib.hid ((hbv.out.block C ltC.out).trans RC.out)
        have HU2 := Lib.hid (below_then HU1.out hbv.out)
        clear hbv hv hbD HU1
        refine hK.out _ _ ?_ (fun hSU2 => ?_)
        · exact KS.out _ HU2.out
        clear hK K hSU1
        try simp only [Act.put, List.setIfInBounds_toArray, List.set_cons_zero, List.set_cons_succ]
        refine wpAnyU_ready (rs := [4]) (by kernel_rfl) rfl ?_
        refine AllReadyU.cons (ListAt.succ (ListAt.succ (ListAt.succ (ListAt.succ ListAt.zero)))) rfl (fun K hK => ?_) ?_
        · have hCD : C ≠ D := by first | exact neCD.out | exact neDC.out.symm
          have HCD := Lib.hid hCD
          clear hCD
          refine step_store_row rfl 42 _ _ rfl C _ rfl rfl 42 zeroItem RC.out (by kernel_rfl) rfl (by simp [Value.oneCell']) ?_
          have RD' := Lib.hid ((setRow_other u2 C D #[.int .i64 0, .int .i64 6, .int .i64 3, .int .u64 0, .int .u64 0, .int .i64 0, .int .u64 0, .bool false] (Ne.symm HCD.out)).trans RD.out)
          have RC' := Lib.hid (setRow_heap u2 C _ #[.int .i64 0, .int .i64 6, .int .i64 3, .int .u64 0, .int .u64 0, .int .i64 0, .int .u64 0, .bool false] _ (0, 0) RC.out)
          have HU3 := Lib.hid (row_below HU2.out geC.out #[.int .i64 0, .int .i64 6, .int .i64 3, .int .u64 0, .int .u64 0, .int .i64 0, .int .u64 0, .bool false])
          generalize u2.setRow C #[.int .i64 0, .int .i64 6, .int .i64 3, .int .u64 0, .int .u64 0, .int .i64 0, .int .u64 0, .bool false] = u3 at *
          refine hK.out _ _ ?_ (fun hSU3 => ?_)
          · exact KS.out _ HU3.out
          clear hK K hSU2
          try simp only [Act.put, List.setIfInBounds_toArray, List.set_cons_zero, List.set_cons_succ]
          refine wpAnyU_ready (rs := [5]) (by kernel_rfl) rfl ?_
          refine AllReadyU.free (ListAt.succ (ListAt.succ (ListAt.succ (ListAt.succ (ListAt.succ ListAt.zero))))) rfl (by kernel_rfl) (fun K hK => ?_) ?_
          · refine step_store_row rfl 42 _ _ rfl D _ rfl rfl 42 zeroItem RD'.out (by kernel_rfl) rfl (by simp [Value.oneCell']) ?_
            have RC2 := Lib.hid ((setRow_other u3 D C #[.int .i64 1, .int .i64 5, .int .i64 3, .int .u64 0, .int .u64 0, .int .i64 0, .int .u64 0, .bool false] HCD.out).trans RC'.out)
            have RD2 := Lib.hid (setRow_heap u3 D _ #[.int .i64 1, .int .i64 5, .int .i64 3, .int .u64 0, .int .u64 0, .int .i64 0, .int .u64 0, .bool false] _ (0, 0) RD'.out)
            have HU4 := Lib.hid (row_below HU3.out geD.out #[.int .i64 1, .int .i64 5, .int .i64 3, .int .u64 0, .int .u64 0, .int .i64 0, .int .u64 0, .bool false])
            generalize u3.setRow D #[.int .i64 1, .int .i64 5, .int .i64 3, .int .u64 0, .int .u64 0, .int .i64 0, .int .u64 0, .bool false] = u4 at *
            refine hK.out _ _ ?_
            clear hK K hSU3
            try simp only [Act.put, List.setIfInBounds_toArray, List.set_cons_zero, List.set_cons_succ]
            refine wpAnyU_done (by kernel_rfl) ?_ _
            go_wp2_with fail
            go_meet
            exact ⟨C, D, rfl, rfl, geC, geD, HCD, RC2, RD2, HU4⟩
          exact AllReadyU.nil
        exact AllReadyU.nil
      exact AllReadyU.nil
    refine AllReadyU.cons (ListAt.succ (ListAt.succ (ListAt.succ ListAt.zero))) rfl (fun K hK => ?_) ?_
    · go_simp
      obtain ⟨u1, D, hv, hbD, RD, hbv, ltD⟩ := alloc_pack u0 (.cells zeroItem 42)
      rw [show (#[.int .i64 0, .int .i64 0, .int .i64 0, .int .u64 0, .int .u64 0, .int .i64 0, .int .u64 0, .bool false] : Array Value) = zeroItem from rfl, hv, hbD]
      have geD : Hid (W2.heap.size ≤ D) := hbD ▸ HU0.out.size
      have HU1 := Lib.hid (below_then HU0.out hbv.out)
      clear hbv hv hbD HU0
      refine hK.out _ _ ?_ (fun hSU4 => ?_)
      · exact KS.out _ HU1.out
      clear hK K hSU0
      try simp only [Act.put, List.setIfInBounds_toArray, List.set_cons_zero, List.set_cons_succ]
      refine wpAnyU_ready (rs := [2]) (by kernel_rfl) rfl ?_
      refine AllReadyU.cons (ListAt.succ (ListAt.succ ListAt.zero)) rfl (fun K hK => ?_) ?_
      · go_simp
        obtain ⟨u2, C, hv, hbC, RC, hbv, ltC⟩ := alloc_pack u1 (.cells zeroItem 42)
        rw [show (#[.int .i64 0, .int .i64 0, .int .i64 0, .int .u64 0, .int .u64 0, .int .i64 0, .int .u64 0, .bool false] : Array Value) = zeroItem from rfl, hv, hbC]
        have geC : Hid (W2.heap.size ≤ C) := hbC ▸ HU1.out.size
        have neDC : Hid (D ≠ C) := Nat.ne_of_lt (hbC ▸ ltD.out)
        have RD := Lib.hid ((hbv.out.block D ltD.out).trans RD.out)
        have HU2 := Lib.hid (below_then HU1.out hbv.out)
        clear hbv hv hbC HU1
        refine hK.out _ _ ?_ (fun hSU5 => ?_)
        · exact KS.out _ HU2.out
        clear hK K hSU4
        try simp only [Act.put, List.setIfInBounds_toArray, List.set_cons_zero, List.set_cons_succ]
        refine wpAnyU_ready (rs := [4]) (by kernel_rfl) rfl ?_
        refine AllReadyU.cons (ListAt.succ (ListAt.succ (ListAt.succ (ListAt.succ ListAt.zero)))) rfl (fun K hK => ?_) ?_
        · have hCD : C ≠ D := by first | exact neCD.out | exact neDC.out.symm
          have HCD := Lib.hid hCD
          clear hCD
          refine step_store_row rfl 42 _ _ rfl C _ rfl rfl 42 zeroItem RC.out (by kernel_rfl) rfl (by simp [Value.oneCell']) ?_
          have RD' := Lib.hid ((setRow_other u2 C D #[.int .i64 0, .int .i64 6, .int .i64 3, .int .u64 0, .int .u64 0, .int .i64 0, .int .u64 0, .bool false] (Ne.symm HCD.out)).trans RD.out)
          have RC' := Lib.hid (setRow_heap u2 C _ #[.int .i64 0, .int .i64 6, .int .i64 3, .int .u64 0, .int .u64 0, .int .i64 0, .int .u64 0, .bool false] _ (0, 0) RC.out)
          have HU3 := Lib.hid (row_below HU2.out geC.out #[.int .i64 0, .int .i64 6, .int .i64 3, .int .u64 0, .int .u64 0, .int .i64 0, .int .u64 0, .bool false])
          generalize u2.setRow C #[.int .i64 0, .int .i64 6, .int .i64 3, .int .u64 0, .int .u64 0, .int .i64 0, .int .u64 0, .bool false] = u3 at *
          refine hK.out _ _ ?_ (fun hSU6 => ?_)
          · exact KS.out _ HU3.out
          clear hK K hSU5
          try simp only [Act.put, List.setIfInBounds_toArray, List.set_cons_zero, List.set_cons_succ]
          refine wpAnyU_ready (rs := [5]) (by kernel_rfl) rfl ?_
          refine AllReadyU.free (ListAt.succ (ListAt.succ (ListAt.succ (ListAt.succ (ListAt.succ ListAt.zero))))) rfl (by kernel_rfl) (fun K hK => ?_) ?_
          · refine step_store_row rfl 42 _ _ rfl D _ rfl rfl 42 zeroItem RD'.out (by kernel_rfl) rfl (by simp [Value.oneCell']) ?_
            have RC2 := Lib.hid ((setRow_other u3 D C #[.int .i64 1, .int .i64 5, .int .i64 3, .int .u64 0, .int .u64 0, .int .i64 0, .int .u64 0, .bool false] HCD.out).trans RC'.out)
            have RD2 := Lib.hid (setRow_heap u3 D _ #[.int .i64 1, .int .i64 5, .int .i64 3, .int .u64 0, .int .u64 0, .int .i64 0, .int .u64 0, .bool false] _ (0, 0) RD'.out)
            have HU4 := Lib.hid (row_below HU3.out geD.out #[.int .i64 1, .int .i64 5, .int .i64 3, .int .u64 0, .int .u64 0, .int .i64 0, .int .u64 0, .bool false])
            generalize u3.setRow D #[.int .i64 1, .int .i64 5, .int .i64 3, .int .u64 0, .int .u64 0, .int .i64 0, .int .u64 0, .bool false] = u4 at *
            refine hK.out _ _ ?_
            clear hK K hSU6
            try simp only [Act.put, List.setIfInBounds_toArray, List.set_cons_zero, List.set_cons_succ]
            refine wpAnyU_done (by kernel_rfl) ?_ _
            go_wp2_with fail
            go_meet
            exact ⟨C, D, rfl, rfl, geC, geD, HCD, RC2, RD2, HU4⟩
          exact AllReadyU.nil
        exact AllReadyU.nil
      exact AllReadyU.nil
    exact AllReadyU.nil
  case rest =>
    obtain ⟨C, D, rfl, rfl, geC, geD, HCD, RC, RD, HU⟩ := hcut
    obtain ⟨u4, rfl⟩ : ∃ u4 : World, u4 = wc := ⟨_, rfl⟩
    obtain ⟨x0, x1, x2, x3, x4, x5, x6, x7⟩ := rowc8 RC.out
    obtain ⟨y0, y1, y2, y3, y4, y5, y6, y7⟩ := rowc8 RD.out
    have fC := frozen_of_row _ _ 1 _ _ RC.out
    have hCD := HCD.out
    have r1 := heap_setCell_same u4 C 1 _ _ (.int .i64 2) RC.out
    simp at r1
    have r2 := (heap_setCell_other u4 ⟨C, 1, none⟩ D (.int .i64 2) (Ne.symm hCD)).trans RD.out
    have fD := frozen_of_row _ _ 1 _ _ r2
    have z1 := cell_of_row _ _ 1 _ _ _ r2
    have r3 := heap_setCell_same (u4.setCell ⟨C, 1, none⟩ (.int .i64 2)) D 1 _ _ (.int .i64 1) r2
    simp at r3
    have r4 := (heap_setCell_other (u4.setCell ⟨C, 1, none⟩ (.int .i64 2)) ⟨D, 1, none⟩ C (.int .i64 1) hCD).trans r1
    have RX := Lib.hid r4
    have RY := Lib.hid r3
    have hgeC := geC.out
    have hgeD := geD.out
    have HB5 : Hid (Below W2.heap.size W2 ((u4.setCell ⟨C, 1, none⟩ (.int .i64 2)).setCell ⟨D, 1, none⟩ (.int .i64 1))) := (HU.out.setCell (p := ⟨C, 1, none⟩) hgeC _).setCell (p := ⟨D, 1, none⟩) hgeD _
    clear r1 r2 r3 r4 hCD HCD RC RD HU geC geD hgeC hgeD
    go_upto_region 5 with fail
    generalize (u4.setCell ⟨C, 1, none⟩ (.int .i64 2)).setCell ⟨D, 1, none⟩ (.int .i64 1) = u5 at *
    try simp only [Act.put]
    clear z1 fC fD x0 x1 x2 x3 x4 x5 x6 x7 y0 y1 y2 y3 y4 y5 y6 y7
    have QA := Lib.hid ((HB5.out.block A hA2).trans R1'.out)
    have QB := Lib.hid ((HB5.out.block B hB2).trans R2.out)
    have HB6 := Lib.hid (below_then (hA ▸ HB2.out) HB5.out)
    have lA : A < u5.heap.size := Nat.lt_of_lt_of_le hA2 HB5.out.size
    have lB : B < u5.heap.size := Nat.lt_of_lt_of_le hB2 HB5.out.size
    have lC : C < u5.heap.size := (Array.getElem?_eq_some_iff.1 RX.out).1
    have lD : D < u5.heap.size := (Array.getElem?_eq_some_iff.1 RY.out).1
    obtain ⟨x0, x1, x2, x3, x4, x5, x6, x7⟩ := rowc8 QA.out
    obtain ⟨y0, y1, y2, y3, y4, y5, y6, y7⟩ := rowc8 QB.out
    go_wp2_with fail
    refine (T1.out _).mono ?_; rintro e v1 ⟨rfl, hb1⟩
    have QA1 := Lib.hid ((hb1.block A lA).trans QA.out)
    have lA1 : A < v1.heap.size := Nat.lt_of_lt_of_le lA hb1.size
    have QC1 := (hb1.block C lC).trans RX.out
    have QD1 := (hb1.block D lD).trans RY.out
    have HB7 := Lib.hid (below_then HB6.out hb1)
    clear hb1 x0 x1 x2 x3 x4 x5 x6 x7 y0 y1 y2 y3 y4 y5 y6 y7
    obtain ⟨x0, x1, x2, x3, x4, x5, x6, x7⟩ := rowc8 QC1
    obtain ⟨y0, y1, y2, y3, y4, y5, y6, y7⟩ := rowc8 QD1
    clear QC1 QD1
    go_wp2_with fail
    refine (T2.out _).mono ?_; rintro e v2 ⟨rfl, hb2⟩
    have QA2 := (hb2.block A lA1).trans QA1.out
    have HB8 := Lib.hid (below_then HB7.out hb2)
    clear hb2 x0 x1 x2 x3 x4 x5 x6 x7 y0 y1 y2 y3 y4 y5 y6 y7
    obtain ⟨x0, x1, x2, x3, x4, x5, x6, x7⟩ := rowc8 QA2
    clear QA2
    go_wp2_with fail
    refine (T3.out _).mono ?_; rintro e v3 ⟨rfl, hb3⟩
    have HB9 := Lib.hid (below_then HB8.out hb3)
    go_wp2
    go_ret
    exact ⟨rfl, HB9.out⟩
end Go.Proofs.Ytipjfcjdefdoeaa
