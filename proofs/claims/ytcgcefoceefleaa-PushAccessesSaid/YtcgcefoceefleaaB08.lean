import Derived.Deep.DeepCutAuto
import Derived.Test.YtcgcefoceefleaaB05
import Derived.Test.YtcgcefoceefleaaB06
import Derived.Test.YtcgcefoceefleaaB02
import Derived.Test.YtcgcefoceefleaaB07
set_option linter.unusedVariables false
set_option linter.unusedSimpArgs false
/- The document's small machines: New, access, end, and Next and Resume of Take and Release. -/
namespace Go.Proofs.Ytcgcefoceefleaa
open Go.ChangeShapes Go.WideShapes Go.ChangeAt Go.RowKit
set_option maxRecDepth 100000

theorem rowc14 {w : World} {g : Nat} {T : TypeId} {v0 v1 v2 v3 v4 v5 v6 v7 v8 v9 v10 v11 v12 v13 : Value} (h : w.heap[g]? = some (.cells #[v0, v1, v2, v3, v4, v5, v6, v7, v8, v9, v10, v11, v12, v13] T (0, 0))) :
    w.cell? ⟨g, 0, none⟩ = some v0 ∧ w.cell? ⟨g, 1, none⟩ = some v1 ∧ w.cell? ⟨g, 2, none⟩ = some v2 ∧ w.cell? ⟨g, 3, none⟩ = some v3 ∧ w.cell? ⟨g, 4, none⟩ = some v4 ∧ w.cell? ⟨g, 5, none⟩ = some v5 ∧ w.cell? ⟨g, 6, none⟩ = some v6 ∧ w.cell? ⟨g, 7, none⟩ = some v7 ∧ w.cell? ⟨g, 8, none⟩ = some v8 ∧ w.cell? ⟨g, 9, none⟩ = some v9 ∧ w.cell? ⟨g, 10, none⟩ = some v10 ∧ w.cell? ⟨g, 11, none⟩ = some v11 ∧ w.cell? ⟨g, 12, none⟩ = some v12 ∧ w.cell? ⟨g, 13, none⟩ = some v13 :=
  ⟨cell_of_row _ _ 0 _ _ _ h, cell_of_row _ _ 1 _ _ _ h, cell_of_row _ _ 2 _ _ _ h, cell_of_row _ _ 3 _ _ _ h, cell_of_row _ _ 4 _ _ _ h, cell_of_row _ _ 5 _ _ _ h, cell_of_row _ _ 6 _ _ _ h, cell_of_row _ _ 7 _ _ _ h, cell_of_row _ _ 8 _ _ _ h, cell_of_row _ _ 9 _ _ _ h, cell_of_row _ _ 10 _ _ _ h, cell_of_row _ _ 11 _ _ _ h, cell_of_row _ _ 12 _ _ _ h, cell_of_row _ _ 13 _ _ _ h⟩
theorem two_new (w : World) (a b : Obj) : ∃ W, (w.alloc a).alloc b = W ∧ Hid (Below w.heap.size w W) ∧ Hid (W.heap[w.heap.size]? = some a) ∧ Hid (W.heap[w.heap.size + 1]? = some b) ∧ w.heap.size + 2 = W.heap.size :=
  ⟨_, rfl, below_new (below_new (Below.refl w.heap.size w) _) _, heap_alloc2_old _ _ _, heap_alloc2_new _ _ _, by simp⟩
theorem three_new (w : World) (a b c : Obj) : ∃ W, ((w.alloc a).alloc b).alloc c = W ∧ Hid (Below w.heap.size w W) ∧ Hid (W.heap[w.heap.size]? = some a) ∧ Hid (W.heap[w.heap.size + 1]? = some b) ∧ Hid (W.heap[w.heap.size + 2]? = some c) ∧ w.heap.size + 3 = W.heap.size := by
  refine ⟨_, rfl, below_new (below_new (below_new (Below.refl w.heap.size w) _) _) _, Lib.hid ?_, Lib.hid ?_, Lib.hid ?_, by simp⟩
  · rw [heap_alloc_old _ _ (by simp <;> omega), heap_alloc_old _ _ (by simp <;> omega), heap_alloc_new]
  · rw [heap_alloc_old _ _ (by simp <;> omega)]
    have := heap_alloc_new (w.alloc a) b
    simpa using this
  · have := heap_alloc_new ((w.alloc a).alloc b) c
    simpa using this
set_option maxHeartbeats 4000000 in
theorem access_any (k ad o n : Int) (w : World) : Calls Try.prog 51 #[.int .i64 k, .int .i64 ad, .int .u64 o, .int .u64 n] w fun e w' => e = .returned (accV ⟨k, ad, o, n, 0⟩) ∧ Below w.heap.size w w' := by
  obtain ⟨W, hW⟩ : ∃ W, w.alloc (.cells #[.int .i64 0, .int .i64 0, .int .u64 0, .int .u64 0, .int .i64 0] 75) = W := ⟨_, rfl⟩
  have HB : Hid (Below w.heap.size w W) := hW ▸ below_new (Below.refl w.heap.size w) _
  have R0 : Hid (W.heap[w.heap.size]? = some (.cells #[.int .i64 0, .int .i64 0, .int .u64 0, .int .u64 0, .int .i64 0] 75 (0, 0))) := hW ▸ heap_alloc_new _ _
  have HW := Lib.hid hW
  clear hW
  go_enter Try.func51, Try.ntmps51
  go_upto_region 1 with fail
  rw [HW.out]
  clear HW
  go_wp2_with (refine wpList_store_row rfl 75 _ _ rfl (w.heap.size) _ rfl rfl 75 #[.int .i64 0, .int .i64 0, .int .u64 0, .int .u64 0, .int .i64 0] R0.out (by kernel_rfl) rfl (by simp [Value.oneCell']) ?_)
  refine bodyPost_ret (v := accV ⟨k, ad, o, n, 0⟩) (results_cell_row Try.results51 _ _ (w.heap.size) 75 _ (0, 0) _ rfl (setRow_heap _ _ _ _ 75 (0, 0) R0.out) Try.underlying75 rfl (by kernel_rfl)) rfl ?_
  exact ⟨rfl, row_below HB.out (Nat.le_refl _) _⟩
set_option maxHeartbeats 4000000 in
theorem machNew_any (a a2 : Option Addr) (cap cap2 : Nat) (c : ConfM) (what ch th : Int) (w : World) : Calls Try.prog 21 #[.agg #[.slice a c.caps.length cap, .slice a2 c.starts.length cap2, .int .i64 c.threads], .int .i64 what, .int .i64 ch, .int .i64 th] w fun e w' => e = .returned (.agg (machL (.slice a c.caps.length cap) (.slice a2 c.starts.length cap2) c.threads ⟨what, 1, ch, th, 0, 0, 0, 0, 0, 0, 0⟩).toArray) ∧ Below w.heap.size w w' := by
  obtain ⟨W, hW, HB, R0, R1, hz⟩ := two_new w (.cells #[.slice a c.caps.length cap, .slice a2 c.starts.length cap2, .int .i64 c.threads] 36) (.cells #[.int .i64 0, .int .i64 0, .slice none 0 0, .slice none 0 0, .int .i64 0, .int .i64 0, .int .i64 0, .int .i64 0, .int .i64 0, .int .u64 0, .int .u64 0, .int .u64 0, .int .i64 0, .int .u64 0] 56)
  have HW := Lib.hid hW
  clear hW
  go_enter Try.func21, Try.ntmps21
  go_upto_region 1 with fail
  rw [HW.out]
  clear HW
  obtain ⟨x0, x1, x2⟩ := rowc3 R0.out
  go_wp2_with (refine wpList_store_row rfl 56 _ _ rfl (w.heap.size + 1) _ rfl rfl 56 #[.int .i64 0, .int .i64 0, .slice none 0 0, .slice none 0 0, .int .i64 0, .int .i64 0, .int .i64 0, .int .i64 0, .int .i64 0, .int .u64 0, .int .u64 0, .int .u64 0, .int .i64 0, .int .u64 0] R1.out (by kernel_rfl) rfl (by simp [Value.oneCell']) ?_)
  refine bodyPost_ret (v := .agg (machL (.slice a c.caps.length cap) (.slice a2 c.starts.length cap2) c.threads ⟨what, 1, ch, th, 0, 0, 0, 0, 0, 0, 0⟩).toArray) (results_cell_row Try.results21 _ _ (w.heap.size + 1) 56 _ (0, 0) _ rfl (setRow_heap _ _ _ _ 56 (0, 0) R1.out) Try.underlying56 rfl (by kernel_rfl)) rfl ?_
  exact ⟨rfl, row_below HB.out (by omega) _⟩
set_option maxHeartbeats 4000000 in
theorem machNext_end (a a2 : Option Addr) (cap cap2 : Nat) (c : ConfM) (m : MachM) (hp : m.pl = 0) (w : World) : Calls Try.prog 26 #[(.agg (machL (.slice a c.caps.length cap) (.slice a2 c.starts.length cap2) c.threads m).toArray)] w fun e w' => e = .returned (accV ⟨0, 0, 0, 0, 0⟩) ∧ Below w.heap.size w w' := by
  obtain ⟨W, hW, HB, R0, R1, hz⟩ := two_new w (.cells #[.int .i64 m.what, .int .i64 0, .slice a c.caps.length cap, .slice a2 c.starts.length cap2, .int .i64 c.threads, .int .i64 m.chan, .int .i64 m.thr, .int .i64 m.idx, .int .i64 m.kind, .int .u64 m.val, .int .u64 m.t, .int .u64 m.h, .int .i64 m.ok, .int .u64 m.ov] 56) (.cells #[.int .i64 0, .int .i64 0, .int .u64 0, .int .u64 0, .int .i64 0] 75)
  have HW := Lib.hid hW
  clear hW
  unfold machL
  rw [hp]
  clear hp
  go_enter Try.func26, Try.ntmps26
  go_upto_region 1 with fail
  rw [HW.out]
  clear HW
  obtain ⟨x0, x1, x2, x3, x4, x5, x6, x7, x8, x9, x10, x11, x12, x13⟩ := rowc14 R0.out
  go_wp2_with (refine wpList_store_row rfl 75 _ _ rfl (w.heap.size + 1) _ rfl rfl 75 #[.int .i64 0, .int .i64 0, .int .u64 0, .int .u64 0, .int .i64 0] R1.out (by kernel_rfl) rfl (by simp [Value.oneCell']) ?_)
  refine bodyPost_ret (v := accV ⟨0, 0, 0, 0, 0⟩) (results_cell_row Try.results26 _ _ (w.heap.size + 1) 75 _ (0, 0) _ rfl (setRow_heap _ _ _ _ 75 (0, 0) R1.out) Try.underlying75 rfl (by kernel_rfl)) rfl ?_
  exact ⟨rfl, row_below HB.out (by omega) _⟩
set_option maxRecDepth 100000 in
set_option maxHeartbeats 16000000 in
theorem machNext_take (a a2 : Option Addr) (cap cap2 : Nat) (c : ConfM) (m : MachM) (k : Nat) (hk : k < c.caps.length) (hg : c.good) (hw : m.what = 1) (hc : m.chan = k) (hp : m.pl = 1) (w : World) (hv : ConfV w (.agg #[.slice a c.caps.length cap, .slice a2 c.starts.length cap2, .int .i64 c.threads]) c) : Calls Try.prog 26 #[(.agg (machL (.slice a c.caps.length cap) (.slice a2 c.starts.length cap2) c.threads m).toArray)] w fun e w' => e = .returned (accV ⟨3, c.base k + 2, 0, 1, 0⟩) ∧ Below w.heap.size w w' := by
  have HV := Lib.hid hv
  clear hv
  obtain ⟨W, hW, HB, R0, R1, hz⟩ := two_new w (.cells #[.int .i64 1, .int .i64 1, .slice a c.caps.length cap, .slice a2 c.starts.length cap2, .int .i64 c.threads, .int .i64 k, .int .i64 m.thr, .int .i64 m.idx, .int .i64 m.kind, .int .u64 m.val, .int .u64 m.t, .int .u64 m.h, .int .i64 m.ok, .int .u64 m.ov] 56) (.cells #[.int .i64 0, .int .i64 0, .int .u64 0, .int .u64 0, .int .i64 0] 75)
  have HW := Lib.hid hW
  clear hW
  have hl := hg.len
  have hn := hg.base8 k (Nat.le_of_lt hk)
  unfold machL
  rw [hw, hc]
  clear hw hc
  rw [hp]
  clear hp
  go_enter Try.func26, Try.ntmps26
  go_upto_region 1 with fail
  rw [HW.out]
  clear HW
  obtain ⟨x0, x1, x2, x3, x4, x5, x6, x7, x8, x9, x10, x11, x12, x13⟩ := rowc14 R0.out
  go_upto_region 3 with fail
  have h0W : w.heap.size < W.heap.size := by omega
  have KS : Hid (∀ w', Below W.heap.size W w' → (fun w' : World => w'.cell? ⟨w.heap.size, 2, none⟩ = some (.slice a c.caps.length cap) ∧ w'.cell? ⟨w.heap.size, 3, none⟩ = some (.slice a2 c.starts.length cap2) ∧ w'.cell? ⟨w.heap.size, 4, none⟩ = some (.int .i64 c.threads) ∧ w'.cell? ⟨w.heap.size, 5, none⟩ = some (.int .i64 k) ∧ w'.cell? ⟨w.heap.size, 6, none⟩ = some (.int .i64 m.thr)) w') := fun w' hb => by
    obtain ⟨z0, z1, z2, z3, z4, z5, z6, z7, z8, z9, z10, z11, z12, z13⟩ := rowc14 ((hb.block _ h0W).trans R0.out)
    exact ⟨z2, z3, z4, z5, z6⟩
  clear x0 x1 x2 x3 x4 x5 x6 x7 x8 x9 x10 x11 x12 x13
  go_cut [3, 4, 5] (fun s3 s4 s5 wx => ∃ bX : Nat, s3 = .pointer (some ⟨bX, 0, none⟩) ∧ s4 = .int .i64 k ∧ s5 = .int .i64 m.thr ∧ Hid (wx.heap[bX]? = some (.cells #[.slice a c.caps.length cap, .slice a2 c.starts.length cap2, .int .i64 c.threads] 36 (0, 0))) ∧ Hid (Below W.heap.size W wx) ∧ Hid (W.heap.size ≤ bX))
  case first =>
    refine untilK KS 9 10 (by kernel_rfl) rfl ?_
    obtain ⟨u0, hu0, HU0⟩ := drew_pack W
    rw [hu0]
    clear hu0
    have hSU0 := KS.out _ HU0.out
    refine tkU (v := ?_) 0 la0 hSU0 (by kernel_rfl) (fun _ _ _ h => h) rfl ?_ ?_
    rotate_left
    · (intro w hSw; (try dsimp only at hSw); go_simp <;> with_reducible rfl)
    simp only [Act.put, List.setIfInBounds_toArray, List.set_cons_zero, List.set_cons_succ]
    refine tkU (v := ?_) 1 la1 hSU0 (by kernel_rfl) (fun _ _ _ h => h) rfl ?_ ?_
    rotate_left
    · (intro w hSw; (try dsimp only at hSw); go_simp <;> with_reducible rfl)
    simp only [Act.put, List.setIfInBounds_toArray, List.set_cons_zero, List.set_cons_succ]
    refine tkU (v := ?_) 2 la2 hSU0 (by kernel_rfl) (fun _ _ _ h => h) rfl ?_ ?_
    rotate_left
    · (intro w hSw; (try dsimp only at hSw); go_simp <;> with_reducible rfl)
    simp only [Act.put, List.setIfInBounds_toArray, List.set_cons_zero, List.set_cons_succ]
    refine tkU (v := ?_) 3 la3 hSU0 (by kernel_rfl) (fun _ _ _ h => h) rfl ?_ ?_
    rotate_left
    · (intro w hSw; (try dsimp only at hSw); go_simp <;> with_reducible rfl)
    simp only [Act.put, List.setIfInBounds_toArray, List.set_cons_zero, List.set_cons_succ]
    refine tkU (v := ?_) 4 la4 hSU0 (by kernel_rfl) (fun _ _ _ h => h) rfl ?_ ?_
    rotate_left
    · (intro w hSw; (try dsimp only at hSw); go_simp <;> with_reducible rfl)
    simp only [Act.put, List.setIfInBounds_toArray, List.set_cons_zero, List.set_cons_succ]
    refine tkU (v := ?_) 5 la5 hSU0 (by kernel_rfl) (fun _ _ _ h => h) rfl ?_ ?_
    rotate_left
    · (intro w hSw; (try dsimp only at hSw); go_simp <;> with_reducible rfl)
    simp only [Act.put, List.setIfInBounds_toArray, List.set_cons_zero, List.set_cons_succ]
    refine wpAnyU_ready (rs := [6]) (by kernel_rfl) rfl ?_
    refine AllReadyU.cons la6 rfl (fun K hK => ?_) ?_
    · go_simp
      obtain ⟨u1, bX, hv, hXe, RX, hbX, ltX⟩ := alloc_pack u0 (.cells #[.slice none 0 0, .slice none 0 0, .int .i64 0] 36)
      rw [hv, hXe]
      have HU1 := Lib.hid (below_then HU0.out hbX.out)
      have hbXw : Hid (W.heap.size ≤ bX) := hXe ▸ HU0.out.size
      clear hv hXe hbX
      refine hK.out _ _ ?_ (fun hSU1 => ?_)
      · exact KS.out _ HU1.out
      clear hK K hSU0
      try simp only [Act.put, List.setIfInBounds_toArray, List.set_cons_zero, List.set_cons_succ]
      refine wpAnyU_ready (rs := [7]) (by kernel_rfl) rfl ?_
      refine AllReadyU.cons la7 rfl (fun K hK => ?_) ?_
      · refine step_store_row rfl 36 _ _ rfl bX _ rfl rfl 36 #[.slice none 0 0, .slice none 0 0, .int .i64 0] RX.out (by kernel_rfl) rfl (by simp [Value.oneCell']) ?_
        have R3 := Lib.hid (setRow_heap u1 bX _ #[.slice a c.caps.length cap, .slice a2 c.starts.length cap2, .int .i64 c.threads] _ (0, 0) RX.out)
        have HU3 := Lib.hid (row_below HU1.out hbXw.out #[.slice a c.caps.length cap, .slice a2 c.starts.length cap2, .int .i64 c.threads])
        generalize u1.setRow bX #[.slice a c.caps.length cap, .slice a2 c.starts.length cap2, .int .i64 c.threads] = u3 at *
        refine hK.out _ _ ?_ (fun hSU2 => ?_)
        · exact KS.out _ HU3.out
        clear hK K hSU1
        try simp only [Act.put, List.setIfInBounds_toArray, List.set_cons_zero, List.set_cons_succ]
        refine tkU (v := ?_) 8 la8 hSU2 (by kernel_rfl) (fun _ _ _ h => h) rfl ?_ ?_
        rotate_left
        · (intro w hSw; (try dsimp only at hSw); go_simp <;> with_reducible rfl)
        simp only [Act.put, List.setIfInBounds_toArray, List.set_cons_zero, List.set_cons_succ]
        refine wpAnyU_ready (rs := [9]) (by kernel_rfl) rfl ?_
        refine AllReadyU.free la9 rfl (by kernel_rfl) (fun K hK => ?_) ?_
        · go_simp
          refine hK.out _ _ ?_
          clear hK K hSU2
          try simp only [Act.put, List.setIfInBounds_toArray, List.set_cons_zero, List.set_cons_succ]
          refine wpAnyU_done (by kernel_rfl) ?_ _
          go_wp2_with fail
          go_meet
          exact ⟨bX, rfl, rfl, rfl, R3, HU3, hbXw⟩
        exact AllReadyU.nil
      exact AllReadyU.nil
    exact AllReadyU.nil
  case rest =>
    obtain ⟨bX, rfl, rfl, rfl, RX, HB3, hbX⟩ := hcut
    obtain ⟨w3, rfl⟩ : ∃ w3 : World, w3 = wc := ⟨_, rfl⟩
    have HV3 := Lib.hid (HV.out.below (below_then HB.out HB3.out))
    have hXl : bX < w3.heap.size := (Array.getElem?_eq_some_iff.1 RX.out).1
    have KS4 : Hid (∀ w', Below w3.heap.size w3 w' → (fun w' : World => w'.cell? ⟨bX, 0, none⟩ = some (.slice a c.caps.length cap) ∧ w'.cell? ⟨bX, 1, none⟩ = some (.slice a2 c.starts.length cap2) ∧ w'.cell? ⟨bX, 2, none⟩ = some (.int .i64 c.threads)) w') := fun w' hb => rowc3 ((hb.block bX hXl).trans RX.out)
    have TT := Lib.hid fun w' (hb : Below w3.heap.size w3 w') => rtail_any _ c k w' (HV3.out.below hb) (Nat.le_of_lt hk) hg
    have TH := Lib.hid fun w' (hb : Below w3.heap.size w3 w') => rheadW_any _ c k hk w' (HV3.out.below hb) hg
    clear KS
    go_upto_region 4 with fail
    go_cut [6, 7] (fun s6 s7 wx => s6 = .int .i64 (c.base k) ∧ s7 = .int .i64 (c.base k + 1) ∧ Hid (Below w3.heap.size w3 wx))
    case first =>
      refine untilK KS4 7 8 (by kernel_rfl) rfl ?_
      obtain ⟨u0, hu0, HU0⟩ := drew_pack w3
      rw [hu0]
      clear hu0
      have hSU0 := KS4.out _ HU0.out
      refine tkU (v := ?_) 0 la0 hSU0 (by kernel_rfl) (fun _ _ _ h => h) rfl ?_ ?_
      rotate_left
      · (intro w hSw; (try dsimp only at hSw); go_simp <;> with_reducible rfl)
      simp only [Act.put, List.setIfInBounds_toArray, List.set_cons_zero, List.set_cons_succ]
      refine tkU (v := ?_) 1 la1 hSU0 (by kernel_rfl) (fun _ _ _ h => h) rfl ?_ ?_
      rotate_left
      · (intro w hSw; (try dsimp only at hSw); go_simp <;> with_reducible rfl)
      simp only [Act.put, List.setIfInBounds_toArray, List.set_cons_zero, List.set_cons_succ]
      refine tkU (v := ?_) 3 la3 hSU0 (by kernel_rfl) (fun _ _ _ h => h) rfl ?_ ?_
      rotate_left
      · (intro w hSw; (try dsimp only at hSw); go_simp <;> with_reducible rfl)
      simp only [Act.put, List.setIfInBounds_toArray, List.set_cons_zero, List.set_cons_succ]
      refine tkU (v := ?_) 4 la4 hSU0 (by kernel_rfl) (fun _ _ _ h => h) rfl ?_ ?_
      rotate_left
      · (intro w hSw; (try dsimp only at hSw); go_simp <;> with_reducible rfl)
      simp only [Act.put, List.setIfInBounds_toArray, List.set_cons_zero, List.set_cons_succ]
      refine wpAnyU_ready (rs := [2]) (by kernel_rfl) rfl ?_
      refine AllReadyU.cons la2 rfl (fun K hK => ?_) ?_
      · go_simp
        go_at_call 43
        refine (TT.out _ HU0.out).mono ?_
        rintro e u1 ⟨rfl, hb1⟩
        have HU1 := Lib.hid (below_then HU0.out hb1)
        clear hb1
        refine hK.out _ _ ?_ (fun hSU1 => ?_)
        · exact KS4.out _ HU1.out
        clear hK K hSU0
        try simp only [Act.put, List.setIfInBounds_toArray, List.set_cons_zero, List.set_cons_succ]
        refine wpAnyU_ready (rs := [5]) (by kernel_rfl) rfl ?_
        refine AllReadyU.cons la5 rfl (fun K hK => ?_) ?_
        · go_simp
          go_at_call 44
          refine (TH.out _ HU1.out).mono ?_
          rintro e u2 ⟨rfl, hb2⟩
          have HU2 := Lib.hid (below_then HU1.out hb2)
          clear hb2
          refine hK.out _ _ ?_ (fun hSU2 => ?_)
          · exact KS4.out _ HU2.out
          clear hK K hSU1
          try simp only [Act.put, List.setIfInBounds_toArray, List.set_cons_zero, List.set_cons_succ]
          refine tkU (v := ?_) 6 la6 hSU2 (by kernel_rfl) (fun _ _ _ h => h) rfl ?_ ?_
          rotate_left
          · (intro w hSw; (try dsimp only at hSw); go_simp <;> with_reducible rfl)
          simp only [Act.put, List.setIfInBounds_toArray, List.set_cons_zero, List.set_cons_succ]
          refine wpAnyU_ready (rs := [7]) (by kernel_rfl) rfl ?_
          refine AllReadyU.free la7 rfl (by kernel_rfl) (fun K hK => ?_) ?_
          · go_simp
            refine hK.out _ _ ?_
            clear hK K hSU2
            try simp only [Act.put, List.setIfInBounds_toArray, List.set_cons_zero, List.set_cons_succ]
            refine wpAnyU_done (by kernel_rfl) ?_ _
            go_wp2_with fail
            go_meet
            exact ⟨rfl, rfl, HU2⟩
          exact AllReadyU.nil
        exact AllReadyU.nil
      exact AllReadyU.nil
    case rest =>
      obtain ⟨rfl, rfl, HB4⟩ := hcut
      obtain ⟨w4, rfl⟩ : ∃ w3 : World, w3 = wc := ⟨_, rfl⟩
      have HB34 := Lib.hid (below_then HB3.out HB4.out)
      have R0' := Lib.hid ((HB34.out.block _ h0W).trans R0.out)
      have R1' := Lib.hid ((HB34.out.block (w.heap.size + 1) (by omega)).trans R1.out)
      have RX' := Lib.hid ((HB4.out.block bX hXl).trans RX.out)
      have HV4 := Lib.hid (HV3.out.below HB4.out)
      clear TT TH KS4
      obtain ⟨x0, x1, x2, x3, x4, x5, x6, x7, x8, x9, x10, x11, x12, x13⟩ := rowc14 R0'.out
      obtain ⟨y0, y1, y2⟩ := rowc3 RX'.out
      go_wp2_with fail
      refine (rlockW_any _ c k hk _ HV4.out hg).mono ?_; rintro e w5 ⟨rfl, hb5⟩
      have HB5 := Lib.hid hb5
      clear hb5
      go_wp2_with fail
      refine (access_any _ _ _ _ _).mono ?_; rintro e w6 ⟨rfl, hb6⟩
      have HF := Lib.hid (below_then HB5.out hb6)
      clear hb6
      unfold accV
      dsimp only
      have R1f := Lib.hid ((HF.out.block (w.heap.size + 1) (by have := HB34.out.size; omega)).trans R1'.out)
      clear x0 x1 x2 x3 x4 x5 x6 x7 x8 x9 x10 x11 x12 x13 y0 y1 y2
      go_wp2_with (refine wpList_store_row rfl 75 _ _ rfl (w.heap.size + 1) _ rfl rfl 75 #[.int .i64 0, .int .i64 0, .int .u64 0, .int .u64 0, .int .i64 0] R1f.out (by kernel_rfl) rfl (by simp [Value.oneCell']) ?_)
      refine bodyPost_ret (v := accV ⟨3, c.base k + 2, 0, 1, 0⟩) (results_cell_row Try.results26 _ _ (w.heap.size + 1) 75 _ (0, 0) _ rfl (setRow_heap _ _ _ _ 75 (0, 0) R1f.out) Try.underlying75 rfl (by kernel_rfl)) rfl ?_
      exact ⟨rfl, row_below (below_then HB.out (below_then HB34.out HF.out)) (by omega) _⟩
set_option maxRecDepth 100000 in
set_option maxHeartbeats 16000000 in
theorem machNext_release (a a2 : Option Addr) (cap cap2 : Nat) (c : ConfM) (m : MachM) (k : Nat) (hk : k < c.caps.length) (hg : c.good) (hw : m.what = 2) (hc : m.chan = k) (hp : m.pl = 1) (w : World) (hv : ConfV w (.agg #[.slice a c.caps.length cap, .slice a2 c.starts.length cap2, .int .i64 c.threads]) c) : Calls Try.prog 26 #[(.agg (machL (.slice a c.caps.length cap) (.slice a2 c.starts.length cap2) c.threads m).toArray)] w fun e w' => e = .returned (accV ⟨2, c.base k + 2, 0, 0, 0⟩) ∧ Below w.heap.size w w' := by
  have HV := Lib.hid hv
  clear hv
  obtain ⟨W, hW, HB, R0, R1, hz⟩ := two_new w (.cells #[.int .i64 2, .int .i64 1, .slice a c.caps.length cap, .slice a2 c.starts.length cap2, .int .i64 c.threads, .int .i64 k, .int .i64 m.thr, .int .i64 m.idx, .int .i64 m.kind, .int .u64 m.val, .int .u64 m.t, .int .u64 m.h, .int .i64 m.ok, .int .u64 m.ov] 56) (.cells #[.int .i64 0, .int .i64 0, .int .u64 0, .int .u64 0, .int .i64 0] 75)
  have HW := Lib.hid hW
  clear hW
  have hl := hg.len
  have hn := hg.base8 k (Nat.le_of_lt hk)
  unfold machL
  rw [hw, hc]
  clear hw hc
  rw [hp]
  clear hp
  go_enter Try.func26, Try.ntmps26
  go_upto_region 1 with fail
  rw [HW.out]
  clear HW
  obtain ⟨x0, x1, x2, x3, x4, x5, x6, x7, x8, x9, x10, x11, x12, x13⟩ := rowc14 R0.out
  go_upto_region 3 with fail
  have h0W : w.heap.size < W.heap.size := by omega
  have KS : Hid (∀ w', Below W.heap.size W w' → (fun w' : World => w'.cell? ⟨w.heap.size, 2, none⟩ = some (.slice a c.caps.length cap) ∧ w'.cell? ⟨w.heap.size, 3, none⟩ = some (.slice a2 c.starts.length cap2) ∧ w'.cell? ⟨w.heap.size, 4, none⟩ = some (.int .i64 c.threads) ∧ w'.cell? ⟨w.heap.size, 5, none⟩ = some (.int .i64 k) ∧ w'.cell? ⟨w.heap.size, 6, none⟩ = some (.int .i64 m.thr)) w') := fun w' hb => by
    obtain ⟨z0, z1, z2, z3, z4, z5, z6, z7, z8, z9, z10, z11, z12, z13⟩ := rowc14 ((hb.block _ h0W).trans R0.out)
    exact ⟨z2, z3, z4, z5, z6⟩
  clear x0 x1 x2 x3 x4 x5 x6 x7 x8 x9 x10 x11 x12 x13
  go_cut [3, 4, 5] (fun s3 s4 s5 wx => ∃ bX : Nat, s3 = .pointer (some ⟨bX, 0, none⟩) ∧ s4 = .int .i64 k ∧ s5 = .int .i64 m.thr ∧ Hid (wx.heap[bX]? = some (.cells #[.slice a c.caps.length cap, .slice a2 c.starts.length cap2, .int .i64 c.threads] 36 (0, 0))) ∧ Hid (Below W.heap.size W wx) ∧ Hid (W.heap.size ≤ bX))
  case first =>
    refine untilK KS 9 10 (by kernel_rfl) rfl ?_
    obtain ⟨u0, hu0, HU0⟩ := drew_pack W
    rw [hu0]
    clear hu0
    have hSU0 := KS.out _ HU0.out
    refine tkU (v := ?_) 0 la0 hSU0 (by kernel_rfl) (fun _ _ _ h => h) rfl ?_ ?_
    rotate_left
    · (intro w hSw; (try dsimp only at hSw); go_simp <;> with_reducible rfl)
    simp only [Act.put, List.setIfInBounds_toArray, List.set_cons_zero, List.set_cons_succ]
    refine tkU (v := ?_) 1 la1 hSU0 (by kernel_rfl) (fun _ _ _ h => h) rfl ?_ ?_
    rotate_left
    · (intro w hSw; (try dsimp only at hSw); go_simp <;> with_reducible rfl)
    simp only [Act.put, List.setIfInBounds_toArray, List.set_cons_zero, List.set_cons_succ]
    refine tkU (v := ?_) 2 la2 hSU0 (by kernel_rfl) (fun _ _ _ h => h) rfl ?_ ?_
    rotate_left
    · (intro w hSw; (try dsimp only at hSw); go_simp <;> with_reducible rfl)
    simp only [Act.put, List.setIfInBounds_toArray, List.set_cons_zero, List.set_cons_succ]
    refine tkU (v := ?_) 3 la3 hSU0 (by kernel_rfl) (fun _ _ _ h => h) rfl ?_ ?_
    rotate_left
    · (intro w hSw; (try dsimp only at hSw); go_simp <;> with_reducible rfl)
    simp only [Act.put, List.setIfInBounds_toArray, List.set_cons_zero, List.set_cons_succ]
    refine tkU (v := ?_) 4 la4 hSU0 (by kernel_rfl) (fun _ _ _ h => h) rfl ?_ ?_
    rotate_left
    · (intro w hSw; (try dsimp only at hSw); go_simp <;> with_reducible rfl)
    simp only [Act.put, List.setIfInBounds_toArray, List.set_cons_zero, List.set_cons_succ]
    refine tkU (v := ?_) 5 la5 hSU0 (by kernel_rfl) (fun _ _ _ h => h) rfl ?_ ?_
    rotate_left
    · (intro w hSw; (try dsimp only at hSw); go_simp <;> with_reducible rfl)
    simp only [Act.put, List.setIfInBounds_toArray, List.set_cons_zero, List.set_cons_succ]
    refine wpAnyU_ready (rs := [6]) (by kernel_rfl) rfl ?_
    refine AllReadyU.cons la6 rfl (fun K hK => ?_) ?_
    · go_simp
      obtain ⟨u1, bX, hv, hXe, RX, hbX, ltX⟩ := alloc_pack u0 (.cells #[.slice none 0 0, .slice none 0 0, .int .i64 0] 36)
      rw [hv, hXe]
      have HU1 := Lib.hid (below_then HU0.out hbX.out)
      have hbXw : Hid (W.heap.size ≤ bX) := hXe ▸ HU0.out.size
      clear hv hXe hbX
      refine hK.out _ _ ?_ (fun hSU1 => ?_)
      · exact KS.out _ HU1.out
      clear hK K hSU0
      try simp only [Act.put, List.setIfInBounds_toArray, List.set_cons_zero, List.set_cons_succ]
      refine wpAnyU_ready (rs := [7]) (by kernel_rfl) rfl ?_
      refine AllReadyU.cons la7 rfl (fun K hK => ?_) ?_
      · refine step_store_row rfl 36 _ _ rfl bX _ rfl rfl 36 #[.slice none 0 0, .slice none 0 0, .int .i64 0] RX.out (by kernel_rfl) rfl (by simp [Value.oneCell']) ?_
        have R3 := Lib.hid (setRow_heap u1 bX _ #[.slice a c.caps.length cap, .slice a2 c.starts.length cap2, .int .i64 c.threads] _ (0, 0) RX.out)
        have HU3 := Lib.hid (row_below HU1.out hbXw.out #[.slice a c.caps.length cap, .slice a2 c.starts.length cap2, .int .i64 c.threads])
        generalize u1.setRow bX #[.slice a c.caps.length cap, .slice a2 c.starts.length cap2, .int .i64 c.threads] = u3 at *
        refine hK.out _ _ ?_ (fun hSU2 => ?_)
        · exact KS.out _ HU3.out
        clear hK K hSU1
        try simp only [Act.put, List.setIfInBounds_toArray, List.set_cons_zero, List.set_cons_succ]
        refine tkU (v := ?_) 8 la8 hSU2 (by kernel_rfl) (fun _ _ _ h => h) rfl ?_ ?_
        rotate_left
        · (intro w hSw; (try dsimp only at hSw); go_simp <;> with_reducible rfl)
        simp only [Act.put, List.setIfInBounds_toArray, List.set_cons_zero, List.set_cons_succ]
        refine wpAnyU_ready (rs := [9]) (by kernel_rfl) rfl ?_
        refine AllReadyU.free la9 rfl (by kernel_rfl) (fun K hK => ?_) ?_
        · go_simp
          refine hK.out _ _ ?_
          clear hK K hSU2
          try simp only [Act.put, List.setIfInBounds_toArray, List.set_cons_zero, List.set_cons_succ]
          refine wpAnyU_done (by kernel_rfl) ?_ _
          go_wp2_with fail
          go_meet
          exact ⟨bX, rfl, rfl, rfl, R3, HU3, hbXw⟩
        exact AllReadyU.nil
      exact AllReadyU.nil
    exact AllReadyU.nil
  case rest =>
    obtain ⟨bX, rfl, rfl, rfl, RX, HB3, hbX⟩ := hcut
    obtain ⟨w3, rfl⟩ : ∃ w3 : World, w3 = wc := ⟨_, rfl⟩
    have HV3 := Lib.hid (HV.out.below (below_then HB.out HB3.out))
    have hXl : bX < w3.heap.size := (Array.getElem?_eq_some_iff.1 RX.out).1
    have KS4 : Hid (∀ w', Below w3.heap.size w3 w' → (fun w' : World => w'.cell? ⟨bX, 0, none⟩ = some (.slice a c.caps.length cap) ∧ w'.cell? ⟨bX, 1, none⟩ = some (.slice a2 c.starts.length cap2) ∧ w'.cell? ⟨bX, 2, none⟩ = some (.int .i64 c.threads)) w') := fun w' hb => rowc3 ((hb.block bX hXl).trans RX.out)
    have TT := Lib.hid fun w' (hb : Below w3.heap.size w3 w') => rtail_any _ c k w' (HV3.out.below hb) (Nat.le_of_lt hk) hg
    have TH := Lib.hid fun w' (hb : Below w3.heap.size w3 w') => rheadW_any _ c k hk w' (HV3.out.below hb) hg
    clear KS
    go_upto_region 4 with fail
    go_cut [6, 7] (fun s6 s7 wx => s6 = .int .i64 (c.base k) ∧ s7 = .int .i64 (c.base k + 1) ∧ Hid (Below w3.heap.size w3 wx))
    case first =>
      refine untilK KS4 7 8 (by kernel_rfl) rfl ?_
      obtain ⟨u0, hu0, HU0⟩ := drew_pack w3
      rw [hu0]
      clear hu0
      have hSU0 := KS4.out _ HU0.out
      refine tkU (v := ?_) 0 la0 hSU0 (by kernel_rfl) (fun _ _ _ h => h) rfl ?_ ?_
      rotate_left
      · (intro w hSw; (try dsimp only at hSw); go_simp <;> with_reducible rfl)
      simp only [Act.put, List.setIfInBounds_toArray, List.set_cons_zero, List.set_cons_succ]
      refine tkU (v := ?_) 1 la1 hSU0 (by kernel_rfl) (fun _ _ _ h => h) rfl ?_ ?_
      rotate_left
      · (intro w hSw; (try dsimp only at hSw); go_simp <;> with_reducible rfl)
      simp only [Act.put, List.setIfInBounds_toArray, List.set_cons_zero, List.set_cons_succ]
      refine tkU (v := ?_) 3 la3 hSU0 (by kernel_rfl) (fun _ _ _ h => h) rfl ?_ ?_
      rotate_left
      · (intro w hSw; (try dsimp only at hSw); go_simp <;> with_reducible rfl)
      simp only [Act.put, List.setIfInBounds_toArray, List.set_cons_zero, List.set_cons_succ]
      refine tkU (v := ?_) 4 la4 hSU0 (by kernel_rfl) (fun _ _ _ h => h) rfl ?_ ?_
      rotate_left
      · (intro w hSw; (try dsimp only at hSw); go_simp <;> with_reducible rfl)
      simp only [Act.put, List.setIfInBounds_toArray, List.set_cons_zero, List.set_cons_succ]
      refine wpAnyU_ready (rs := [2]) (by kernel_rfl) rfl ?_
      refine AllReadyU.cons la2 rfl (fun K hK => ?_) ?_
      · go_simp
        go_at_call 43
        refine (TT.out _ HU0.out).mono ?_
        rintro e u1 ⟨rfl, hb1⟩
        have HU1 := Lib.hid (below_then HU0.out hb1)
        clear hb1
        refine hK.out _ _ ?_ (fun hSU1 => ?_)
        · exact KS4.out _ HU1.out
        clear hK K hSU0
        try simp only [Act.put, List.setIfInBounds_toArray, List.set_cons_zero, List.set_cons_succ]
        refine wpAnyU_ready (rs := [5]) (by kernel_rfl) rfl ?_
        refine AllReadyU.cons la5 rfl (fun K hK => ?_) ?_
        · go_simp
          go_at_call 44
          refine (TH.out _ HU1.out).mono ?_
          rintro e u2 ⟨rfl, hb2⟩
          have HU2 := Lib.hid (below_then HU1.out hb2)
          clear hb2
          refine hK.out _ _ ?_ (fun hSU2 => ?_)
          · exact KS4.out _ HU2.out
          clear hK K hSU1
          try simp only [Act.put, List.setIfInBounds_toArray, List.set_cons_zero, List.set_cons_succ]
          refine tkU (v := ?_) 6 la6 hSU2 (by kernel_rfl) (fun _ _ _ h => h) rfl ?_ ?_
          rotate_left
          · (intro w hSw; (try dsimp only at hSw); go_simp <;> with_reducible rfl)
          simp only [Act.put, List.setIfInBounds_toArray, List.set_cons_zero, List.set_cons_succ]
          refine wpAnyU_ready (rs := [7]) (by kernel_rfl) rfl ?_
          refine AllReadyU.free la7 rfl (by kernel_rfl) (fun K hK => ?_) ?_
          · go_simp
            refine hK.out _ _ ?_
            clear hK K hSU2
            try simp only [Act.put, List.setIfInBounds_toArray, List.set_cons_zero, List.set_cons_succ]
            refine wpAnyU_done (by kernel_rfl) ?_ _
            go_wp2_with fail
            go_meet
            exact ⟨rfl, rfl, HU2⟩
          exact AllReadyU.nil
        exact AllReadyU.nil
      exact AllReadyU.nil
    case rest =>
      obtain ⟨rfl, rfl, HB4⟩ := hcut
      obtain ⟨w4, rfl⟩ : ∃ w3 : World, w3 = wc := ⟨_, rfl⟩
      have HB34 := Lib.hid (below_then HB3.out HB4.out)
      have R0' := Lib.hid ((HB34.out.block _ h0W).trans R0.out)
      have R1' := Lib.hid ((HB34.out.block (w.heap.size + 1) (by omega)).trans R1.out)
      have RX' := Lib.hid ((HB4.out.block bX hXl).trans RX.out)
      have HV4 := Lib.hid (HV3.out.below HB4.out)
      clear TT TH KS4
      obtain ⟨x0, x1, x2, x3, x4, x5, x6, x7, x8, x9, x10, x11, x12, x13⟩ := rowc14 R0'.out
      obtain ⟨y0, y1, y2⟩ := rowc3 RX'.out
      go_wp2_with fail
      refine (rlockW_any _ c k hk _ HV4.out hg).mono ?_; rintro e w5 ⟨rfl, hb5⟩
      have HB5 := Lib.hid hb5
      clear hb5
      go_wp2_with fail
      refine (access_any _ _ _ _ _).mono ?_; rintro e w6 ⟨rfl, hb6⟩
      have HF := Lib.hid (below_then HB5.out hb6)
      clear hb6
      unfold accV
      dsimp only
      have R1f := Lib.hid ((HF.out.block (w.heap.size + 1) (by have := HB34.out.size; omega)).trans R1'.out)
      clear x0 x1 x2 x3 x4 x5 x6 x7 x8 x9 x10 x11 x12 x13 y0 y1 y2
      go_wp2_with (refine wpList_store_row rfl 75 _ _ rfl (w.heap.size + 1) _ rfl rfl 75 #[.int .i64 0, .int .i64 0, .int .u64 0, .int .u64 0, .int .i64 0] R1f.out (by kernel_rfl) rfl (by simp [Value.oneCell']) ?_)
      refine bodyPost_ret (v := accV ⟨2, c.base k + 2, 0, 0, 0⟩) (results_cell_row Try.results26 _ _ (w.heap.size + 1) 75 _ (0, 0) _ rfl (setRow_heap _ _ _ _ 75 (0, 0) R1f.out) Try.underlying75 rfl (by kernel_rfl)) rfl ?_
      exact ⟨rfl, row_below (below_then HB.out (below_then HB34.out HF.out)) (by omega) _⟩
end Go.Proofs.Ytcgcefoceefleaa
