import Derived.Laws.CopyOwn
import Derived.Deep.OwnRows
import Derived.Test.YtjnlkemdaffgbaaB16
import Derived.Test.YtjnlkemdaffgbaaB05
import Derived.Test.YtjnlkemdaffgbaaB02
import Derived.Test.YtjnlkemdaffgbaaB04
import Derived.Test.YtjnlkemdaffgbaaB06
import Derived.Test.YtjnlkemdaffgbaaB01
import Derived.Test.YtjnlkemdaffgbaaB11
set_option linter.unusedVariables false
set_option linter.unusedSimpArgs false
/- Layer 11: the program's machine that counts: its small functions. -/
namespace Go.Proofs.Ytjnlkemdaffgbaa
open Go.ChangeShapes Go.WideShapes Go.ChangeAt Go.RowKit
set_option maxRecDepth 100000

theorem one_new (w : World) (a : Obj) : ∃ W, w.alloc a = W ∧ Hid (Below w.heap.size w W) ∧ Hid (W.heap[w.heap.size]? = some a) ∧ w.heap.size + 1 = W.heap.size :=
  ⟨_, rfl, below_new (Below.refl w.heap.size w) _, heap_alloc_new _ _, by simp⟩
theorem sl2_at {w : World} {k : IntKind} {b : Nat} {x y : Int} {T : TypeId} (h : w.heap[b]? = some (.cells #[.int k x, .int k y] T (0, 0))) (hx : x = k.wrap x) (hy : y = k.wrap y) : SlI w k (.slice (some ⟨b, 0, none⟩) 2 2) [x, y] := by
  refine ⟨by simp, by intro u hu; simp at hu; rcases hu with rfl | rfl; exact hx; exact hy, _, 2, rfl, Nat.le_refl _, fun t ht => ⟨b, 0, rfl, (Array.getElem?_eq_some_iff.1 h).1, ?_⟩⟩
  have h2 : t = 0 ∨ t = 1 := by simp at ht; omega
  rcases h2 with rfl | rfl
  · exact cell_of_row _ _ 0 _ _ _ h
  · exact cell_of_row _ _ 1 _ _ _ h
def puL (code pc : Int) (W L : Value) : List Value := [.int .i64 code, .int .i64 pc, W, L, .slice none 0 0]
/-- the slices of a machine -/
structure PuV (w : World) (c : ConfM) (k : Nat) (t h : Int) (W L : Value) : Prop where
  W : SlI w .u64 W [t, h]
  L : SlI w .i64 L [c.base k, c.base k + 1]
theorem PuV.below {w w' : World} {c : ConfM} {k : Nat} {t h : Int} {W L : Value} (hv : PuV w c k t h W L) (hb : Below w.heap.size w w') : PuV w' c k t h W L := ⟨hv.W.below hb, hv.L.below hb⟩
/-- its cells -/
theorem PuV.open {w : World} {c : ConfM} {k : Nat} {t h : Int} {W L : Value} (hv : PuV w c k t h W L) :
    ∃ wb wo wc lb lo lc, W = .slice (some ⟨wb, wo, none⟩) 2 wc ∧ L = .slice (some ⟨lb, lo, none⟩) 2 lc ∧ wb < w.heap.size ∧ lb < w.heap.size ∧ w.cell? ⟨wb, wo, none⟩ = some (.int .u64 t) ∧ w.cell? ⟨wb, wo + 1, none⟩ = some (.int .u64 h) ∧ w.cell? ⟨lb, lo, none⟩ = some (.int .i64 (c.base k)) ∧ w.cell? ⟨lb, lo + 1, none⟩ = some (.int .i64 (c.base k + 1)) := by
  obtain ⟨wb, wo, wc, e1, -, h1, h2⟩ := hv.W.open (by simp)
  obtain ⟨lb, lo, lc, e2, -, h3, h4⟩ := hv.L.open (by simp)
  exact ⟨wb, wo, wc, lb, lo, lc, e1, e2, h1, h3, h2 0 (by simp), h2 1 (by simp), h4 0 (by simp), h4 1 (by simp)⟩
set_option maxRecDepth 100000 in
set_option maxHeartbeats 16000000 in
theorem from_any (pc : Int) (c : ConfM) (k : Nat) (t h : Int) (W L : Value) (w : World) (hv : PuV w c k t h W L) : Calls Try.prog 35 #[.agg (puL 0 pc W L).toArray] w fun e w' => e = .returned (.agg #[.int .i64 pc, .int .i64 (c.base k), .int .i64 (c.base k + 1), .int .u64 t, .int .u64 h]) ∧ Below w.heap.size w w' := by
  obtain ⟨wb, wo, wc, lb, lo, lc, rfl, rfl, hwb, hlb, hw0, hw1, hl0, hl1⟩ := hv.open
  unfold puL
  try dsimp only
  obtain ⟨hd, hhd⟩ : ∃ hd, c.base k + 1 = hd := ⟨_, rfl⟩
  rw [hhd] at hl1
  try rw [hhd]
  obtain ⟨tl, htl⟩ : ∃ tl, c.base k = tl := ⟨_, rfl⟩
  rw [htl] at hl0
  try rw [htl]
  clear hhd htl
  have HK0 := Lib.hid (hw0)
  have hbk0 : wb < w.heap.size := hwb
  have HK1 := Lib.hid (hw1)
  have hbk1 : wb < w.heap.size := hwb
  have HK2 := Lib.hid (hl0)
  have hbk2 : lb < w.heap.size := hlb
  have HK3 := Lib.hid (hl1)
  have hbk3 : lb < w.heap.size := hlb
  obtain ⟨W, hW, HB, R0, R1, hz⟩ := two_new w (.cells #[.int .i64 0, .int .i64 pc, .slice (some ⟨wb, wo, none⟩) 2 wc, .slice (some ⟨lb, lo, none⟩) 2 lc, .slice none 0 0] 61) (.cells #[.int .i64 0, .int .i64 0, .int .i64 0, .int .u64 0, .int .u64 0] 85)
  have HW := Lib.hid hW
  clear hW
  go_enter Try.func35, Try.ntmps35
  go_upto_region 1 with fail
  rw [HW.out]
  clear HW
  obtain ⟨x0_0, x0_1, x0_2, x0_3, x0_4⟩ := rowc5 R0.out
  have ck0 := (HB.out.cell (p := ⟨wb, wo, none⟩) hbk0).trans HK0.out
  have ck1 := (HB.out.cell (p := ⟨wb, wo + 1, none⟩) hbk1).trans HK1.out
  have ck2 := (HB.out.cell (p := ⟨lb, lo, none⟩) hbk2).trans HK2.out
  have ck3 := (HB.out.cell (p := ⟨lb, lo + 1, none⟩) hbk3).trans HK3.out
  go_upto_region 3 with fail
  have KSd : Hid (∀ w', Below W.heap.size W w' → (fun w' : World => (w'.cell? ⟨w.heap.size, 0, none⟩ = some (.int .i64 0) ∧ w'.cell? ⟨w.heap.size, 1, none⟩ = some (.int .i64 pc) ∧ w'.cell? ⟨w.heap.size, 2, none⟩ = some (.slice (some ⟨wb, wo, none⟩) 2 wc) ∧ w'.cell? ⟨w.heap.size, 3, none⟩ = some (.slice (some ⟨lb, lo, none⟩) 2 lc) ∧ w'.cell? ⟨w.heap.size, 4, none⟩ = some (.slice none 0 0)) ∧ w'.cell? ⟨wb, wo, none⟩ = some (.int .u64 t) ∧ w'.cell? ⟨wb, wo + 1, none⟩ = some (.int .u64 h) ∧ w'.cell? ⟨lb, lo, none⟩ = some (.int .i64 tl) ∧ w'.cell? ⟨lb, lo + 1, none⟩ = some (.int .i64 hd)) w') := fun w' hb => ⟨rowc5 ((hb.block _ (ltR R0)).trans R0.out), (hb.cell (p := ⟨wb, wo, none⟩) (Nat.lt_of_lt_of_le hbk0 HB.out.size)).trans ((HB.out.cell (p := ⟨wb, wo, none⟩) hbk0).trans HK0.out), (hb.cell (p := ⟨wb, wo + 1, none⟩) (Nat.lt_of_lt_of_le hbk1 HB.out.size)).trans ((HB.out.cell (p := ⟨wb, wo + 1, none⟩) hbk1).trans HK1.out), (hb.cell (p := ⟨lb, lo, none⟩) (Nat.lt_of_lt_of_le hbk2 HB.out.size)).trans ((HB.out.cell (p := ⟨lb, lo, none⟩) hbk2).trans HK2.out), (hb.cell (p := ⟨lb, lo + 1, none⟩) (Nat.lt_of_lt_of_le hbk3 HB.out.size)).trans ((HB.out.cell (p := ⟨lb, lo + 1, none⟩) hbk3).trans HK3.out)⟩
  clear x0_0 x0_1 x0_2 x0_3 x0_4 ck0 ck1 ck2 ck3
  refine untilK KSd 19 20 (by kernel_rfl) rfl ?_
  obtain ⟨u0, hu0, HU0⟩ := drew_pack W
  rw [hu0]
  clear hu0
  have hSU0 := KSd.out _ HU0.out
  refine tkU (v := ?_) 0 la0 hSU0 (by kernel_rfl) (fun _ _ _ h => h) rfl ?_ ?_
  rotate_left
  · (intro w hSw; (try dsimp only at hSw); go_simp <;> with_reducible rfl)
  simp only [Act.put, List.setIfInBounds_toArray, List.set_cons_zero, List.set_cons_succ]
  refine tkU (v := ?_) 1 la1 hSU0 (by kernel_rfl) (fun _ _ _ h => h) rfl ?_ ?_
  rotate_left
  · (intro w hSw; (try dsimp only at hSw); go_simp <;> with_reducible rfl)
  simp only [Act.put, List.setIfInBounds_toArray, List.set_cons_zero, List.set_cons_succ]
  refine tkU (v := ?_) 2 la2 hSU0 (by kernel_rfl) (fun _ _ _ h => h) rfl ?_ ?_
  rotate_left
  · (intro w hSw; (try dsimp only at hSw); go_simp <;> with_reducible rfl)
  simp only [Act.put, List.setIfInBounds_toArray, List.set_cons_zero, List.set_cons_succ]
  refine tkU (v := ?_) 3 la3 hSU0 (by kernel_rfl) (fun _ _ _ h => h) rfl ?_ ?_
  rotate_left
  · (intro w hSw; (try dsimp only at hSw); go_simp <;> with_reducible rfl)
  simp only [Act.put, List.setIfInBounds_toArray, List.set_cons_zero, List.set_cons_succ]
  refine tkU (v := ?_) 4 la4 hSU0 (by kernel_rfl) (fun _ _ _ h => h) rfl ?_ ?_
  rotate_left
  · (intro w hSw; (try dsimp only at hSw); go_simp <;> with_reducible rfl)
  simp only [Act.put, List.setIfInBounds_toArray, List.set_cons_zero, List.set_cons_succ]
  refine tkU (v := ?_) 5 la5 hSU0 (by kernel_rfl) (fun _ _ _ h => h) rfl ?_ ?_
  rotate_left
  · (intro w hSw; (try dsimp only at hSw); go_simp <;> with_reducible rfl)
  simp only [Act.put, List.setIfInBounds_toArray, List.set_cons_zero, List.set_cons_succ]
  refine tkU (v := ?_) 6 la6 hSU0 (by kernel_rfl) (fun _ _ _ h => h) rfl ?_ ?_
  rotate_left
  · (intro w hSw; (try dsimp only at hSw); go_simp <;> with_reducible rfl)
  simp only [Act.put, List.setIfInBounds_toArray, List.set_cons_zero, List.set_cons_succ]
  refine tkU (v := ?_) 7 la7 hSU0 (by kernel_rfl) (fun _ _ _ h => h) rfl ?_ ?_
  rotate_left
  · (intro w hSw; (try dsimp only at hSw); go_simp <;> with_reducible rfl)
  simp only [Act.put, List.setIfInBounds_toArray, List.set_cons_zero, List.set_cons_succ]
  refine tkU (v := ?_) 8 la8 hSU0 (by kernel_rfl) (fun _ _ _ h => h) rfl ?_ ?_
  rotate_left
  · (intro w hSw; (try dsimp only at hSw); go_simp <;> with_reducible rfl)
  simp only [Act.put, List.setIfInBounds_toArray, List.set_cons_zero, List.set_cons_succ]
  refine tkU (v := ?_) 9 la9 hSU0 (by kernel_rfl) (fun _ _ _ h => h) rfl ?_ ?_
  rotate_left
  · (intro w hSw; (try dsimp only at hSw); go_simp <;> with_reducible rfl)
  simp only [Act.put, List.setIfInBounds_toArray, List.set_cons_zero, List.set_cons_succ]
  refine tkU (v := ?_) 10 la10 hSU0 (by kernel_rfl) (fun _ _ _ h => h) rfl ?_ ?_
  rotate_left
  · (intro w hSw; (try dsimp only at hSw); go_simp <;> with_reducible rfl)
  simp only [Act.put, List.setIfInBounds_toArray, List.set_cons_zero, List.set_cons_succ]
  refine tkU (v := ?_) 11 la11 hSU0 (by kernel_rfl) (fun _ _ _ h => h) rfl ?_ ?_
  rotate_left
  · (intro w hSw; (try dsimp only at hSw); go_simp <;> with_reducible rfl)
  simp only [Act.put, List.setIfInBounds_toArray, List.set_cons_zero, List.set_cons_succ]
  refine tkU (v := ?_) 12 la12 hSU0 (by kernel_rfl) (fun _ _ _ h => h) rfl ?_ ?_
  rotate_left
  · (intro w hSw; (try dsimp only at hSw); go_simp <;> with_reducible rfl)
  simp only [Act.put, List.setIfInBounds_toArray, List.set_cons_zero, List.set_cons_succ]
  refine tkU (v := ?_) 13 la13 hSU0 (by kernel_rfl) (fun _ _ _ h => h) rfl ?_ ?_
  rotate_left
  · (intro w hSw; (try dsimp only at hSw); go_simp <;> with_reducible rfl)
  simp only [Act.put, List.setIfInBounds_toArray, List.set_cons_zero, List.set_cons_succ]
  refine tkU (v := ?_) 14 la14 hSU0 (by kernel_rfl) (fun _ _ _ h => h) rfl ?_ ?_
  rotate_left
  · (intro w hSw; (try dsimp only at hSw); go_simp <;> with_reducible rfl)
  simp only [Act.put, List.setIfInBounds_toArray, List.set_cons_zero, List.set_cons_succ]
  refine tkU (v := ?_) 15 la15 hSU0 (by kernel_rfl) (fun _ _ _ h => h) rfl ?_ ?_
  rotate_left
  · (intro w hSw; (try dsimp only at hSw); go_simp <;> with_reducible rfl)
  simp only [Act.put, List.setIfInBounds_toArray, List.set_cons_zero, List.set_cons_succ]
  refine tkU (v := ?_) 16 la16 hSU0 (by kernel_rfl) (fun _ _ _ h => h) rfl ?_ ?_
  rotate_left
  · (intro w hSw; (try dsimp only at hSw); go_simp <;> with_reducible rfl)
  simp only [Act.put, List.setIfInBounds_toArray, List.set_cons_zero, List.set_cons_succ]
  refine tkU (v := ?_) 17 la17 hSU0 (by kernel_rfl) (fun _ _ _ h => h) rfl ?_ ?_
  rotate_left
  · (intro w hSw; (try dsimp only at hSw); go_simp <;> with_reducible rfl)
  simp only [Act.put, List.setIfInBounds_toArray, List.set_cons_zero, List.set_cons_succ]
  refine tkU (v := ?_) 18 la18 hSU0 (by kernel_rfl) (fun _ _ _ h => h) rfl ?_ ?_
  rotate_left
  · (intro w hSw; (try dsimp only at hSw); go_simp <;> with_reducible rfl)
  simp only [Act.put, List.setIfInBounds_toArray, List.set_cons_zero, List.set_cons_succ]
  refine wpAnyU_ready (rs := [19]) (by kernel_rfl) rfl ?_
  refine AllReadyU.free la19 rfl (by kernel_rfl) (fun K hK => ?_) ?_
  · have ZR := keepR HU0.out R1
    refine step_store_row rfl 85 _ _ rfl (w.heap.size + 1) _ rfl rfl 85 #[.int .i64 0, .int .i64 0, .int .i64 0, .int .u64 0, .int .u64 0] ZR.out (by kernel_rfl) rfl (by simp [Value.oneCell']) ?_
    refine hK.out _ _ ?_
    clear hK K hSU0
    try simp only [Act.put, List.setIfInBounds_toArray, List.set_cons_zero, List.set_cons_succ]
    refine wpAnyU_done (by kernel_rfl) ?_ _
    go_wp2_with fail
    refine bodyPost_ret (v := .agg #[.int .i64 pc, .int .i64 tl, .int .i64 hd, .int .u64 t, .int .u64 h]) (results_cell_row Try.results35 _ _ (w.heap.size + 1) 85 _ (0, 0) _ rfl (setRow_heap _ _ _ _ 85 (0, 0) ZR.out) Try.underlying85 rfl (by kernel_rfl)) rfl ?_
    exact ⟨rfl, row_below (below_then HB.out HU0.out) (by omega) _⟩
  exact AllReadyU.nil
set_option maxRecDepth 100000 in
set_option maxHeartbeats 16000000 in
theorem frame_any (p tl hd st sh : Int) (w : World) : Calls Try.prog 37 #[.agg #[.int .i64 p, .int .i64 tl, .int .i64 hd, .int .u64 st, .int .u64 sh]] w fun e w' => ∃ nb nl, e = .returned (.agg #[.int .i64 0, .int .i64 p, .slice (some ⟨nb, 0, none⟩) 2 2, .slice (some ⟨nl, 0, none⟩) 2 2, .slice none 0 0]) ∧ Hid (w'.heap[nb]? = some (.cells #[.int .u64 st, .int .u64 sh] 27 (0, 0))) ∧ Hid (w'.heap[nl]? = some (.cells #[.int .i64 tl, .int .i64 hd] 3 (0, 0))) ∧ Hid (w.heap.size ≤ nb) ∧ Hid (w.heap.size ≤ nl) ∧ Below w.heap.size w w' := by
  obtain ⟨W, hW, HB, R0, R1, hz⟩ := two_new w (.cells #[.int .i64 p, .int .i64 tl, .int .i64 hd, .int .u64 st, .int .u64 sh] 85) (.cells #[.int .i64 0, .int .i64 0, .slice none 0 0, .slice none 0 0, .slice none 0 0] 61)
  have HW := Lib.hid hW
  clear hW
  go_enter Try.func37, Try.ntmps37
  go_upto_region 1 with fail
  rw [HW.out]
  clear HW
  obtain ⟨x0_0, x0_1, x0_2, x0_3, x0_4⟩ := rowc5 R0.out
  have hlt0 : w.heap.size < W.heap.size := by omega
  obtain ⟨W2, nb, hv1, hX1, RN, hbn, ltn⟩ := alloc_pack W (.cells #[.int .u64 st, .int .u64 sh] 27)
  obtain ⟨W3, nl, hv2, hX2, RL, hbl, ltl⟩ := alloc_pack W2 (.cells #[.int .i64 tl, .int .i64 hd] 3)
  have hzn : Hid (w.heap.size + 1 < nb) := by show _ < _; omega
  have hsz2 := hbn.out.size
  have hzl : Hid (w.heap.size + 1 < nl ∧ nb < nl) := by have h5 := (ltR RN); show _ ∧ _; omega
  have RN3 := keepR hbl.out RN
  have HBx := Lib.hid (below_then HB.out hbn.out)
  have HB3 := Lib.hid (below_then HBx.out hbl.out)
  have R1x := keepR hbn.out R1
  have R1b := keepR hbl.out R1x
  have HXL : Hid (W.heap.size + 1 = nl) := by show _ = _; rw [← hX2, ← hv1]; simp
  have HV1 := Lib.hid hv1
  have HX1 := Lib.hid hX1
  have HV2 := Lib.hid hv2
  have HX2 := Lib.hid hX2
  clear hv1 hX1 hv2 hX2 hsz2 RN R1x HBx hbn hbl ltn ltl hz
  go_wp2_with (first | (rw [HV1.out, HV2.out, HXL.out, HX1.out]; refine wpList_store_row rfl 61 _ _ rfl (w.heap.size + 1) _ rfl rfl 61 #[.int .i64 0, .int .i64 0, .slice none 0 0, .slice none 0 0, .slice none 0 0] R1b.out (by kernel_rfl) rfl (by simp [Value.oneCell']) ?_))
  refine bodyPost_ret (v := .agg #[.int .i64 0, .int .i64 p, .slice (some ⟨nb, 0, none⟩) 2 2, .slice (some ⟨nl, 0, none⟩) 2 2, .slice none 0 0]) (results_cell_row Try.results37 _ _ (w.heap.size + 1) 61 _ (0, 0) _ rfl (setRow_heap _ _ _ _ 61 (0, 0) R1b.out) Try.underlying61 rfl (by kernel_rfl)) rfl ?_
  exact ⟨nb, nl, rfl, Lib.hid ((setRow_other _ (w.heap.size + 1) nb _ (by have := hzn.out; omega)).trans RN3.out), Lib.hid ((setRow_other _ (w.heap.size + 1) nl _ (by have := hzl.out; omega)).trans RL.out), Lib.hid (by have := hzn.out; show _ ≤ _; omega), Lib.hid (by have := hzl.out; show _ ≤ _; omega), row_below HB3.out (by omega) _⟩
set_option maxRecDepth 100000 in
set_option maxHeartbeats 16000000 in
theorem behindTail_any (p tl hd st sh v : Int) (w : World) : Calls Try.prog 36 #[.agg #[.int .i64 p, .int .i64 tl, .int .i64 hd, .int .u64 st, .int .u64 sh], .int .u64 v] w fun e w' => e = .returned (.agg #[.int .i64 2, .int .i64 tl, .int .i64 hd, .int .u64 v, .int .u64 sh]) ∧ Below w.heap.size w w' := by
  obtain ⟨W, hW, HB, R0, R1, hz⟩ := two_new w (.cells #[.int .i64 p, .int .i64 tl, .int .i64 hd, .int .u64 st, .int .u64 sh] 85) (.cells #[.int .i64 0, .int .i64 0, .int .i64 0, .int .u64 0, .int .u64 0] 85)
  have HW := Lib.hid hW
  clear hW
  go_enter Try.func36, Try.ntmps36
  go_upto_region 1 with fail
  rw [HW.out]
  clear HW
  obtain ⟨x0_0, x0_1, x0_2, x0_3, x0_4⟩ := rowc5 R0.out
  have fz := frozen_of_row W w.heap.size 0 _ _ R0.out
  have r1 := heap_setCell_same W w.heap.size 0 _ _ (.int .i64 2) R0.out
  simp at r1
  have fz2 := frozen_of_row (W.setCell ⟨w.heap.size, 0, none⟩ (.int .i64 2)) w.heap.size 3 _ _ r1
  have r2 := heap_setCell_same (W.setCell ⟨w.heap.size, 0, none⟩ (.int .i64 2)) w.heap.size 3 _ _ (.int .u64 v) r1
  simp at r2
  have Q0 := Lib.hid r2
  clear r2
  have q1 := (heap_setCell_other W ⟨w.heap.size, 0, none⟩ (w.heap.size + 1) (.int .i64 2) (by show w.heap.size + 1 ≠ w.heap.size; omega)).trans R1.out
  have Q1 := Lib.hid ((heap_setCell_other (W.setCell ⟨w.heap.size, 0, none⟩ (.int .i64 2)) ⟨w.heap.size, 3, none⟩ (w.heap.size + 1) (.int .u64 v) (by show w.heap.size + 1 ≠ w.heap.size; omega)).trans q1)
  have hb1 := HB.out.setCell (p := ⟨w.heap.size, 0, none⟩) (by show w.heap.size ≤ w.heap.size; omega) (.int .i64 2)
  have HB1 := Lib.hid (hb1.setCell (p := ⟨w.heap.size, 3, none⟩) (by show w.heap.size ≤ w.heap.size; omega) (.int .u64 v))
  obtain ⟨W1, hW1⟩ : ∃ W1, (W.setCell ⟨w.heap.size, 0, none⟩ (.int .i64 2)).setCell ⟨w.heap.size, 3, none⟩ (.int .u64 v) = W1 := ⟨_, rfl⟩
  rw [hW1] at Q0 Q1 HB1
  have HW1 := Lib.hid hW1
  clear hW1 q1 hb1
  obtain ⟨z0, z1, z2, z3, z4⟩ := rowc5 r1
  clear r1
  go_upto_region 2 with fail
  rw [HW1.out]
  clear x0_0 x0_1 x0_2 x0_3 x0_4
  clear z0 z1 z2 z3 z4 fz fz2 HW1
  obtain ⟨x0_0, x0_1, x0_2, x0_3, x0_4⟩ := rowc5 Q0.out
  go_wp2_with (refine wpList_store_row rfl 85 _ _ rfl (w.heap.size + 1) _ rfl rfl 85 #[.int .i64 0, .int .i64 0, .int .i64 0, .int .u64 0, .int .u64 0] Q1.out (by kernel_rfl) rfl (by simp [Value.oneCell']) ?_)
  refine bodyPost_ret (v := .agg #[.int .i64 2, .int .i64 tl, .int .i64 hd, .int .u64 v, .int .u64 sh]) (results_cell_row Try.results36 _ _ (w.heap.size + 1) 85 _ (0, 0) _ rfl (setRow_heap _ _ _ _ 85 (0, 0) Q1.out) Try.underlying85 rfl (by kernel_rfl)) rfl ?_
  exact ⟨rfl, row_below HB1.out (by omega) _⟩
set_option maxRecDepth 100000 in
set_option maxHeartbeats 16000000 in
theorem behindHead_any (p tl hd st sh v : Int) (w : World) : Calls Try.prog 38 #[.agg #[.int .i64 p, .int .i64 tl, .int .i64 hd, .int .u64 st, .int .u64 sh], .int .u64 v] w fun e w' => e = .returned (.agg #[.int .i64 3, .int .i64 tl, .int .i64 hd, .int .u64 st, .int .u64 v]) ∧ Below w.heap.size w w' := by
  obtain ⟨W, hW, HB, R0, R1, hz⟩ := two_new w (.cells #[.int .i64 p, .int .i64 tl, .int .i64 hd, .int .u64 st, .int .u64 sh] 85) (.cells #[.int .i64 0, .int .i64 0, .int .i64 0, .int .u64 0, .int .u64 0] 85)
  have HW := Lib.hid hW
  clear hW
  go_enter Try.func38, Try.ntmps38
  go_upto_region 1 with fail
  rw [HW.out]
  clear HW
  obtain ⟨x0_0, x0_1, x0_2, x0_3, x0_4⟩ := rowc5 R0.out
  have fz := frozen_of_row W w.heap.size 0 _ _ R0.out
  have r1 := heap_setCell_same W w.heap.size 0 _ _ (.int .i64 3) R0.out
  simp at r1
  have fz2 := frozen_of_row (W.setCell ⟨w.heap.size, 0, none⟩ (.int .i64 3)) w.heap.size 4 _ _ r1
  have r2 := heap_setCell_same (W.setCell ⟨w.heap.size, 0, none⟩ (.int .i64 3)) w.heap.size 4 _ _ (.int .u64 v) r1
  simp at r2
  have Q0 := Lib.hid r2
  clear r2
  have q1 := (heap_setCell_other W ⟨w.heap.size, 0, none⟩ (w.heap.size + 1) (.int .i64 3) (by show w.heap.size + 1 ≠ w.heap.size; omega)).trans R1.out
  have Q1 := Lib.hid ((heap_setCell_other (W.setCell ⟨w.heap.size, 0, none⟩ (.int .i64 3)) ⟨w.heap.size, 4, none⟩ (w.heap.size + 1) (.int .u64 v) (by show w.heap.size + 1 ≠ w.heap.size; omega)).trans q1)
  have hb1 := HB.out.setCell (p := ⟨w.heap.size, 0, none⟩) (by show w.heap.size ≤ w.heap.size; omega) (.int .i64 3)
  have HB1 := Lib.hid (hb1.setCell (p := ⟨w.heap.size, 4, none⟩) (by show w.heap.size ≤ w.heap.size; omega) (.int .u64 v))
  obtain ⟨W1, hW1⟩ : ∃ W1, (W.setCell ⟨w.heap.size, 0, none⟩ (.int .i64 3)).setCell ⟨w.heap.size, 4, none⟩ (.int .u64 v) = W1 := ⟨_, rfl⟩
  rw [hW1] at Q0 Q1 HB1
  have HW1 := Lib.hid hW1
  clear hW1 q1 hb1
  obtain ⟨z0, z1, z2, z3, z4⟩ := rowc5 r1
  clear r1
  go_upto_region 2 with fail
  rw [HW1.out]
  clear x0_0 x0_1 x0_2 x0_3 x0_4
  clear z0 z1 z2 z3 z4 fz fz2 HW1
  obtain ⟨x0_0, x0_1, x0_2, x0_3, x0_4⟩ := rowc5 Q0.out
  go_wp2_with (refine wpList_store_row rfl 85 _ _ rfl (w.heap.size + 1) _ rfl rfl 85 #[.int .i64 0, .int .i64 0, .int .i64 0, .int .u64 0, .int .u64 0] Q1.out (by kernel_rfl) rfl (by simp [Value.oneCell']) ?_)
  refine bodyPost_ret (v := .agg #[.int .i64 3, .int .i64 tl, .int .i64 hd, .int .u64 st, .int .u64 v]) (results_cell_row Try.results38 _ _ (w.heap.size + 1) 85 _ (0, 0) _ rfl (setRow_heap _ _ _ _ 85 (0, 0) Q1.out) Try.underlying85 rfl (by kernel_rfl)) rfl ?_
  exact ⟨rfl, row_below HB1.out (by omega) _⟩
set_option maxRecDepth 100000 in
set_option maxHeartbeats 16000000 in
theorem behindAll_any (p tl hd st sh : Int) (w : World) : Calls Try.prog 39 #[.agg #[.int .i64 p, .int .i64 tl, .int .i64 hd, .int .u64 st, .int .u64 sh]] w fun e w' => e = .returned (.agg #[.int .i64 4, .int .i64 tl, .int .i64 hd, .int .u64 st, .int .u64 sh]) ∧ Below w.heap.size w w' := by
  obtain ⟨W, hW, HB, R0, R1, hz⟩ := two_new w (.cells #[.int .i64 p, .int .i64 tl, .int .i64 hd, .int .u64 st, .int .u64 sh] 85) (.cells #[.int .i64 0, .int .i64 0, .int .i64 0, .int .u64 0, .int .u64 0] 85)
  have HW := Lib.hid hW
  clear hW
  go_enter Try.func39, Try.ntmps39
  go_upto_region 1 with fail
  rw [HW.out]
  clear HW
  obtain ⟨x0_0, x0_1, x0_2, x0_3, x0_4⟩ := rowc5 R0.out
  have fz := frozen_of_row W w.heap.size 0 _ _ R0.out
  have r1 := heap_setCell_same W w.heap.size 0 _ _ (.int .i64 4) R0.out
  simp at r1
  have P1_0 := Lib.hid r1
  clear r1
  have P1_1 := Lib.hid ((heap_setCell_other W ⟨w.heap.size, 0, none⟩ (w.heap.size + 1) (.int .i64 4) (by show w.heap.size + 1 ≠ w.heap.size; omega)).trans R1.out)
  have HB1 := Lib.hid (HB.out.setCell (p := ⟨w.heap.size, 0, none⟩) (by show w.heap.size ≤ w.heap.size; omega) (.int .i64 4))
  obtain ⟨W1, hW1⟩ : ∃ W1, W.setCell ⟨w.heap.size, 0, none⟩ (.int .i64 4) = W1 := ⟨_, rfl⟩
  rw [hW1] at P1_0 P1_1 HB1
  have HW1 := Lib.hid hW1
  clear hW1
  go_upto_region 2 with fail
  rw [HW1.out]
  clear x0_0 x0_1 x0_2 x0_3 x0_4
  clear fz HW1
  obtain ⟨x0_0, x0_1, x0_2, x0_3, x0_4⟩ := rowc5 P1_0.out
  go_wp2_with (refine wpList_store_row rfl 85 _ _ rfl (w.heap.size + 1) _ rfl rfl 85 #[.int .i64 0, .int .i64 0, .int .i64 0, .int .u64 0, .int .u64 0] P1_1.out (by kernel_rfl) rfl (by simp [Value.oneCell']) ?_)
  refine bodyPost_ret (v := .agg #[.int .i64 4, .int .i64 tl, .int .i64 hd, .int .u64 st, .int .u64 sh]) (results_cell_row Try.results39 _ _ (w.heap.size + 1) 85 _ (0, 0) _ rfl (setRow_heap _ _ _ _ 85 (0, 0) P1_1.out) Try.underlying85 rfl (by kernel_rfl)) rfl ?_
  exact ⟨rfl, row_below HB1.out (by omega) _⟩
set_option maxRecDepth 100000 in
set_option maxHeartbeats 16000000 in
theorem ahead_any (p tl hd st sh : Int) (w : World) : Calls Try.prog 40 #[.agg #[.int .i64 p, .int .i64 tl, .int .i64 hd, .int .u64 st, .int .u64 sh]] w fun e w' => e = .returned (.int .u64 (restI (st / 2) sh)) ∧ Below w.heap.size w w' := by
  have TS := Lib.hid fun w' => seq_any st w'
  obtain ⟨n, hn⟩ : ∃ n, restI (st / 2) sh = n := ⟨_, rfl⟩
  obtain ⟨q, hq⟩ : ∃ q, st / 2 = q := ⟨_, rfl⟩
  rw [hq] at TS hn
  rw [show restI (st / 2) sh = n from hq ▸ hn]
  have hm : (IntKind.u64.wrap (q - sh)).tmod 9223372036854775808 = n := by rw [← hn, Int.tmod_eq_emod_of_nonneg (by rw [IntKind.wrap_u64]; omega), IntKind.wrap_u64]; unfold restI; omega
  clear hn hq
  obtain ⟨W, hW, HB, R0, hz⟩ := one_new w (.cells #[.int .i64 p, .int .i64 tl, .int .i64 hd, .int .u64 st, .int .u64 sh] 85)
  have HW := Lib.hid hW
  clear hW
  go_enter Try.func40, Try.ntmps40
  go_upto_region 1 with fail
  rw [HW.out]
  clear HW
  obtain ⟨x0_0, x0_1, x0_2, x0_3, x0_4⟩ := rowc5 R0.out
  have Xx0_0 := ext_cell _ _ (ltR R0) _ x0_0
  have Xx0_1 := ext_cell _ _ (ltR R0) _ x0_1
  have Xx0_2 := ext_cell _ _ (ltR R0) _ x0_2
  have Xx0_3 := ext_cell _ _ (ltR R0) _ x0_3
  have Xx0_4 := ext_cell _ _ (ltR R0) _ x0_4
  clear x0_0 x0_1 x0_2 x0_3 x0_4
  refine wp_region_ext W (by kernel_rfl) (by kernel_rfl) (Below.refl _ _) ?_
  repeat (go_big_quiet_step (first
    | (go_at_call 64; with_reducible exact calls_ext ((TS.out _).mono (fun e w' h => ⟨h.1, h.2 ▸ Below.refl _ _⟩)))))
  refine wpQuiet_nil ?_
  intro _ hw'
  obtain ⟨n9, rfl⟩ := hw'
  have P1_0 := keepR n9.below R0
  have HB1 := Lib.hid (below_then HB.out n9.below)
  generalize n9.wd = w1 at *
  clear Xx0_0 Xx0_1 Xx0_2 Xx0_3 Xx0_4
  obtain ⟨x0_0, x0_1, x0_2, x0_3, x0_4⟩ := rowc5 P1_0.out
  go_wp2_with fail
  go_ret
  exact ⟨by first | rfl | rw [hm], HB1.out⟩
end Go.Proofs.Ytjnlkemdaffgbaa
