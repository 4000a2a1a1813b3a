import Derived.Laws.CopyOwn
import Derived.Deep.OwnRows
import Derived.Test.YtmkngpjjimalhaaB17
import Derived.Test.YtmkngpjjimalhaaB06
import Derived.Test.YtmkngpjjimalhaaB05
import Derived.Test.YtmkngpjjimalhaaB03
import Derived.Test.YtmkngpjjimalhaaB08
import Derived.Test.YtmkngpjjimalhaaB02
set_option linter.unusedVariables false
set_option linter.unusedSimpArgs false
/- Layer 9: the program's machine that pops: its small functions. -/
namespace Go.Proofs.Ytmkngpjjimalhaa
open Go.ChangeShapes Go.WideShapes Go.ChangeAt Go.RowKit
set_option maxRecDepth 100000

theorem one_new (w : World) (a : Obj) : ∃ W, w.alloc a = W ∧ Hid (Below w.heap.size w W) ∧ Hid (W.heap[w.heap.size]? = some a) ∧ w.heap.size + 1 = W.heap.size :=
  ⟨_, rfl, below_new (Below.refl w.heap.size w) _, heap_alloc_new _ _, by simp⟩
theorem make3 (w' : World) : (Instr.makeSlice 34 (.int .i64 3) (.int .i64 3)).run Try.prog w' = .ok (.slice (some ⟨w'.heap.size, 0, none⟩) 3 3) (w'.alloc (.cells #[.int .u64 0, .int .u64 0, .int .u64 0] 27)) :=
by
  have e := run_make_row' (P := Try.prog) 34 27 (.int .u64 0) 8 Try.underlying34 Try.info_u64 rfl .i64 .i64 3 (by omega) (by omega) w'
  have hm : madeCells #[Value.int .u64 0] 3 = #[.int .u64 0, .int .u64 0, .int .u64 0] := Array.ext' (by rw [toList_madeCells_one]; rfl)
  rw [hm] at e
  exact e
theorem copy3 (w : World) (nb wb wo wc : Nat) (a b c : Value) (h t x : Int) (hn : w.heap[nb]? = some (.cells #[a, b, c] 27 (0, 0))) (h0 : w.cell? ⟨wb, wo, none⟩ = some (.int .u64 h)) (h1 : w.cell? ⟨wb, wo + 1, none⟩ = some (.int .u64 t)) (h2 : w.cell? ⟨wb, wo + 2, none⟩ = some (.int .u64 x)) :
    (Builtin.copy_ #[34, 34] 3 #[.slice (some ⟨nb, 0, none⟩) 3 3, .slice (some ⟨wb, wo, none⟩) 3 wc]).run Try.prog w = .ok (.int .i64 3) (w.setRow nb #[.int .u64 h, .int .u64 t, .int .u64 x]) := by
  obtain ⟨i0, hi, hz0, hz1, hz2⟩ := info_parts Try.info_u64
  have e := run_copy_row (P := Try.prog) w 34 34 3 27 nb 0 3 3 ⟨wb, wo, none⟩ 3 wc #[a, b, c] 27 [.int .u64 h, .int .u64 t, .int .u64 x] Try.underlying34 (by rw [hi]; simp [hz1]) hn rfl (fun j v hj => by
    match j, hj with
    | 0, hj => simp at hj; subst hj; simpa [Addr.add] using h0
    | 1, hj => simp at hj; subst hj; simpa [Addr.add] using h1
    | 2, hj => simp at hj; subst hj; simpa [Addr.add] using h2
    | j + 3, hj => simp at hj) (by simp) (by intro v hv; simp at hv; rcases hv with rfl | rfl | rfl <;> rfl)
  simpa [goInt] using e
theorem rowc1 {w : World} {g : Nat} {T : TypeId} {v0 : Value} (h : w.heap[g]? = some (.cells #[v0] T (0, 0))) : w.cell? ⟨g, 0, none⟩ = some v0 := cell_of_row _ _ 0 _ _ _ h
/-- the numbers in the List of a machine: Head, Tail, the capacity, and those of the slots -/
def ringL (c : ConfM) (k : Nat) : List Int := [c.base k + 1, c.base k, c.caps.getD k 0] ++ (List.range (2 * (c.size k).toNat)).map fun (i : Nat) => c.base k + 5 + (i : Int)
theorem ringL_length (c : ConfM) (k : Nat) : (ringL c k).length = 3 + 2 * (c.size k).toNat := by simp [ringL]; omega
theorem ringL_slot (c : ConfM) (k i : Nat) (h : i < 2 * (c.size k).toNat) : (ringL c k).getD (3 + i) 0 = c.base k + 5 + (i : Int) := by
  have e : 3 + i = i + 1 + 1 + 1 := by omega
  simp [ringL, e, h]
def puL (code pc : Int) (W L : Value) : List Value := [.int .i64 code, .int .i64 pc, W, L, .slice none 0 0]
def nilS : Value := .slice none 0 0
/-- the slices of a machine that is on its way -/
structure PuV (w : World) (c : ConfM) (k : Nat) (h t x : Int) (W L : Value) : Prop where
  W : SlI w .u64 W [h, t, x]
  L : SlI w .i64 L (ringL c k)
theorem PuV.below {w w' : World} {c : ConfM} {k : Nat} {h t x : Int} {W L : Value} (hv : PuV w c k h t x W L) (hb : Below w.heap.size w w') : PuV w' c k h t x W L := ⟨hv.W.below hb, hv.L.below hb⟩
/-- its cells -/
theorem PuV.open {w : World} {c : ConfM} {k : Nat} {h t x : Int} {W L : Value} (hv : PuV w c k h t x W L) :
    ∃ wb wo wc lb lo lc, W = .slice (some ⟨wb, wo, none⟩) 3 wc ∧ L = .slice (some ⟨lb, lo, none⟩) (ringL c k).length lc ∧ wb < w.heap.size ∧ lb < w.heap.size ∧ w.cell? ⟨wb, wo, none⟩ = some (.int .u64 h) ∧ w.cell? ⟨wb, wo + 1, none⟩ = some (.int .u64 t) ∧ w.cell? ⟨wb, wo + 2, none⟩ = some (.int .u64 x)
      ∧ w.cell? ⟨lb, lo, none⟩ = some (.int .i64 (c.base k + 1)) ∧ w.cell? ⟨lb, lo + 1, none⟩ = some (.int .i64 (c.base k)) ∧ w.cell? ⟨lb, lo + 2, none⟩ = some (.int .i64 (c.caps.getD k 0)) ∧ ∀ i, i < 2 * (c.size k).toNat → w.cell? ⟨lb, lo + (3 + i), none⟩ = some (.int .i64 (c.base k + 5 + (i : Int))) := by
  obtain ⟨wb, wo, wc, e1, -, h1, h2⟩ := hv.W.open (by simp)
  obtain ⟨lb, lo, lc, e2, -, h3, h4⟩ := hv.L.open (by simp [ringL])
  have hl := ringL_length c k
  refine ⟨wb, wo, wc, lb, lo, lc, e1, e2, h1, h3, h2 0 (by simp), h2 1 (by simp), h2 2 (by simp), h4 0 (by omega), h4 1 (by omega), h4 2 (by omega), fun i hi => ?_⟩
  rw [h4 (3 + i) (by omega), ringL_slot c k i hi]
set_option maxRecDepth 100000 in
set_option maxHeartbeats 16000000 in
theorem complete_run (code pc : Int) (wb wo wc lb lo ln lc : Nat) (hn : 5 ≤ ln) (w : World) : Calls Try.prog 33 #[.agg #[.int .i64 code, .int .i64 pc, .slice (some ⟨wb, wo, none⟩) 3 wc, .slice (some ⟨lb, lo, none⟩) ln lc, .slice none 0 0]] w fun e w' => e = .returned (.bool true) ∧ Below w.heap.size w w' := by
  have hnI : (5 : Int) ≤ (ln : Int) := by omega
  obtain ⟨W, hW, HB, R0, hz⟩ := one_new w (.cells #[.int .i64 code, .int .i64 pc, .slice (some ⟨wb, wo, none⟩) 3 wc, .slice (some ⟨lb, lo, none⟩) ln lc, .slice none 0 0] 60)
  have HW := Lib.hid hW
  clear hW
  go_enter Try.func33, Try.ntmps33
  go_upto_region 1 with fail
  rw [HW.out]
  clear HW
  obtain ⟨x0_0, x0_1, x0_2, x0_3, x0_4⟩ := rowc5 R0.out
  go_wp2
  go_ret
  exact ⟨rfl, HB.out⟩
set_option maxRecDepth 100000 in
set_option maxHeartbeats 16000000 in
theorem complete_not (code pc : Int) (wa : Option Addr) (wc : Nat) (L U : Value) (hL : ∃ a n c, L = .slice a n c) (hU : ∃ a n c, U = .slice a n c) (w : World) : Calls Try.prog 33 #[.agg #[.int .i64 code, .int .i64 pc, .slice wa 1 wc, L, U]] w fun e w' => e = .returned (.bool false) ∧ Below w.heap.size w w' := by
  obtain ⟨a, n, c, rfl⟩ := hL
  obtain ⟨a2, n2, c2, rfl⟩ := hU
  obtain ⟨W, hW, HB, R0, hz⟩ := one_new w (.cells #[.int .i64 code, .int .i64 pc, .slice wa 1 wc, .slice a n c, .slice a2 n2 c2] 60)
  have HW := Lib.hid hW
  clear hW
  go_enter Try.func33, Try.ntmps33
  go_upto_region 1 with fail
  rw [HW.out]
  clear HW
  obtain ⟨x0_0, x0_1, x0_2, x0_3, x0_4⟩ := rowc5 R0.out
  go_wp2
  go_ret
  exact ⟨rfl, HB.out⟩
set_option maxRecDepth 100000 in
set_option maxHeartbeats 16000000 in
theorem at_any (code pc q : Int) (a1 : Option Addr) (n1 c1 : Nat) (a2 : Option Addr) (n2 c2 : Nat) (w : World) : Calls Try.prog 35 #[.agg #[.int .i64 code, .int .i64 pc, .slice a1 n1 c1, .slice a2 n2 c2, .slice none 0 0], .int .i64 q] w fun e w' => e = .returned (.agg #[.int .i64 code, .int .i64 q, .slice a1 n1 c1, .slice a2 n2 c2, .slice none 0 0]) ∧ Below w.heap.size w w' := by
  obtain ⟨W, hW, HB, R0, R1, hz⟩ := two_new w (.cells #[.int .i64 code, .int .i64 pc, .slice a1 n1 c1, .slice a2 n2 c2, .slice none 0 0] 60) (.cells #[.int .i64 0, .int .i64 0, .slice none 0 0, .slice none 0 0, .slice none 0 0] 60)
  have HW := Lib.hid hW
  clear hW
  go_enter Try.func35, Try.ntmps35
  go_upto_region 1 with fail
  rw [HW.out]
  clear HW
  obtain ⟨x0_0, x0_1, x0_2, x0_3, x0_4⟩ := rowc5 R0.out
  have fz := frozen_of_row W w.heap.size 1 _ _ R0.out
  have r1 := heap_setCell_same W w.heap.size 1 _ _ (.int .i64 q) R0.out
  simp at r1
  have P1_0 := Lib.hid r1
  clear r1
  have P1_1 := Lib.hid ((heap_setCell_other W ⟨w.heap.size, 1, none⟩ (w.heap.size + 1) (.int .i64 q) (by show w.heap.size + 1 ≠ w.heap.size; omega)).trans R1.out)
  have HB1 := Lib.hid (HB.out.setCell (p := ⟨w.heap.size, 1, none⟩) (by show w.heap.size ≤ w.heap.size; omega) (.int .i64 q))
  obtain ⟨W1, hW1⟩ : ∃ W1, W.setCell ⟨w.heap.size, 1, none⟩ (.int .i64 q) = W1 := ⟨_, rfl⟩
  rw [hW1] at P1_0 P1_1 HB1
  have HW1 := Lib.hid hW1
  clear hW1
  go_upto_region 2 with fail
  rw [HW1.out]
  clear x0_0 x0_1 x0_2 x0_3 x0_4
  clear fz HW1
  obtain ⟨x0_0, x0_1, x0_2, x0_3, x0_4⟩ := rowc5 P1_0.out
  go_wp2_with (refine wpList_store_row rfl 60 _ _ rfl (w.heap.size + 1) _ rfl rfl 60 #[.int .i64 0, .int .i64 0, .slice none 0 0, .slice none 0 0, .slice none 0 0] P1_1.out (by kernel_rfl) rfl (by simp [Value.oneCell']) ?_)
  refine bodyPost_ret (v := .agg #[.int .i64 code, .int .i64 q, .slice a1 n1 c1, .slice a2 n2 c2, .slice none 0 0]) (results_cell_row Try.results35 _ _ (w.heap.size + 1) 60 _ (0, 0) _ rfl (setRow_heap _ _ _ _ 60 (0, 0) P1_1.out) Try.underlying60 rfl (by kernel_rfl)) rfl ?_
  exact ⟨rfl, row_below HB1.out (by omega) _⟩
set_option maxRecDepth 100000 in
set_option maxHeartbeats 16000000 in
theorem end_any (k x : Int) (w : World) : Calls Try.prog 34 #[.int .i64 k, .int .u64 x] w fun e w' => ∃ nb, e = .returned (.agg #[.int .i64 k, .int .i64 8, .slice (some ⟨nb, 0, none⟩) 1 1, .slice none 0 0, .slice none 0 0]) ∧ Hid (w'.heap[nb]? = some (.cells #[.int .u64 x] 27 (0, 0))) ∧ Hid (w.heap.size ≤ nb) ∧ Hid (Below w.heap.size w w') := by
  obtain ⟨W, hW, HB, R0, hz⟩ := one_new w (.cells #[.int .i64 0, .int .i64 0, .slice none 0 0, .slice none 0 0, .slice none 0 0] 60)
  have HW := Lib.hid hW
  clear hW
  go_enter Try.func34, Try.ntmps34
  go_upto_region 1 with fail
  rw [HW.out]
  clear HW
  obtain ⟨W2, nb, hv1, hX, RN, hbn, ltn⟩ := alloc_pack W (.cells #[.int .u64 x] 27)
  have R0b := keepR hbn.out R0
  have HB2 := Lib.hid (below_then HB.out hbn.out)
  have HV1 := Lib.hid hv1
  have hzn : Hid (w.heap.size < nb) := by show _ < _; omega
  have HX := Lib.hid hX
  clear hv1 hX
  go_wp2_with (first | (refine wpList_store_row rfl 60 _ _ rfl (w.heap.size) _ rfl rfl 60 #[.int .i64 0, .int .i64 0, .slice none 0 0, .slice none 0 0, .slice none 0 0] R0b.out (by kernel_rfl) rfl (by simp [Value.oneCell']) ?_) | (rw [HV1.out, HX.out]; refine wpList_store_row rfl 60 _ _ rfl (w.heap.size) _ rfl rfl 60 #[.int .i64 0, .int .i64 0, .slice none 0 0, .slice none 0 0, .slice none 0 0] R0b.out (by kernel_rfl) rfl (by simp [Value.oneCell']) ?_))
  refine bodyPost_ret (v := .agg #[.int .i64 k, .int .i64 8, .slice (some ⟨nb, 0, none⟩) 1 1, .slice none 0 0, .slice none 0 0]) (results_cell_row Try.results34 _ _ (w.heap.size) 60 _ (0, 0) _ rfl (setRow_heap _ _ _ _ 60 (0, 0) R0b.out) Try.underlying60 rfl (by kernel_rfl)) rfl ?_
  exact ⟨nb, rfl, Lib.hid ((setRow_other _ w.heap.size nb _ (by have := hzn.out; omega)).trans RN.out), Lib.hid (by have := hzn.out; show _ ≤ _; omega), Lib.hid (row_below HB2.out (Nat.le_refl _) _)⟩
set_option maxRecDepth 100000 in
set_option maxHeartbeats 16000000 in
theorem End_run (code pc : Int) (hpc : ¬ pc = 8) (W L U : Value) (hW : ∃ a n c, W = .slice a n c) (hL : ∃ a n c, L = .slice a n c) (hU : ∃ a n c, U = .slice a n c) (w : World) : Calls Try.prog 18 #[.agg #[.int .i64 code, .int .i64 pc, W, L, U]] w fun e w' => e = .returned (.tuple #[.agg #[.int .i64 0, .int .u64 0], .bool false]) ∧ Below w.heap.size w w' := by
  obtain ⟨a, n, c, rfl⟩ := hW
  obtain ⟨a2, n2, c2, rfl⟩ := hL
  obtain ⟨a3, n3, c3, rfl⟩ := hU
  obtain ⟨W, hW, HB, R0, R1, hz⟩ := two_new w (.cells #[.int .i64 code, .int .i64 pc, .slice a n c, .slice a2 n2 c2, .slice a3 n3 c3] 60) (.cells #[.int .i64 0, .int .u64 0] 54)
  have HW := Lib.hid hW
  clear hW
  go_enter Try.func18, Try.ntmps18
  go_upto_region 1 with fail
  rw [HW.out]
  clear HW
  obtain ⟨x0_0, x0_1, x0_2, x0_3, x0_4⟩ := rowc5 R0.out
  go_wp2_with (refine wpList_store_row rfl 54 _ _ rfl (w.heap.size + 1) _ rfl rfl 54 #[.int .i64 0, .int .u64 0] R1.out (by kernel_rfl) rfl (by simp [Value.oneCell']) ?_)
  clear x0_0 x0_1 x0_2 x0_3 x0_4
  refine bodyPost_ret (v := .tuple #[.agg #[.int .i64 0, .int .u64 0], .bool false]) (results_cell_tmp Try.results18 _ _ (w.heap.size + 1) 54 _ (0, 0) _ rfl (setRow_heap _ _ _ _ 54 (0, 0) R1.out) Try.underlying54 rfl (by kernel_rfl) _ rfl) rfl ?_
  exact ⟨rfl, row_below HB.out (by omega) _⟩
set_option maxRecDepth 100000 in
set_option maxHeartbeats 16000000 in
theorem End_end (code x : Int) (wb wo wc : Nat) (L U : Value) (hL : ∃ a n c, L = .slice a n c) (hU : ∃ a n c, U = .slice a n c) (w : World) (hwb : wb < w.heap.size) (hw0 : w.cell? ⟨wb, wo, none⟩ = some (.int .u64 x)) : Calls Try.prog 18 #[.agg #[.int .i64 code, .int .i64 8, .slice (some ⟨wb, wo, none⟩) 1 wc, L, U]] w fun e w' => e = .returned (.tuple #[.agg #[.int .i64 code, .int .u64 x], .bool true]) ∧ Below w.heap.size w w' := by
  obtain ⟨a2, n2, c2, rfl⟩ := hL
  obtain ⟨a3, n3, c3, rfl⟩ := hU
  have HK0 := Lib.hid (hw0)
  have hbk0 : wb < w.heap.size := hwb
  obtain ⟨W, hW, HB, R0, R1, hz⟩ := two_new w (.cells #[.int .i64 code, .int .i64 8, .slice (some ⟨wb, wo, none⟩) 1 wc, .slice a2 n2 c2, .slice a3 n3 c3] 60) (.cells #[.int .i64 0, .int .u64 0] 54)
  have HW := Lib.hid hW
  clear hW
  go_enter Try.func18, Try.ntmps18
  go_upto_region 1 with fail
  rw [HW.out]
  clear HW
  obtain ⟨x0_0, x0_1, x0_2, x0_3, x0_4⟩ := rowc5 R0.out
  have ck0 := (HB.out.cell (p := ⟨wb, wo, none⟩) hbk0).trans HK0.out
  go_upto_region 3 with fail
  have KSd : Hid (∀ w', Below W.heap.size W w' → (fun w' : World => (w'.cell? ⟨w.heap.size, 0, none⟩ = some (.int .i64 code) ∧ w'.cell? ⟨w.heap.size, 1, none⟩ = some (.int .i64 8) ∧ w'.cell? ⟨w.heap.size, 2, none⟩ = some (.slice (some ⟨wb, wo, none⟩) 1 wc) ∧ w'.cell? ⟨w.heap.size, 3, none⟩ = some (.slice a2 n2 c2) ∧ w'.cell? ⟨w.heap.size, 4, none⟩ = some (.slice a3 n3 c3)) ∧ w'.cell? ⟨wb, wo, none⟩ = some (.int .u64 x)) w') := fun w' hb => ⟨rowc5 ((hb.block _ (ltR R0)).trans R0.out), (hb.cell (p := ⟨wb, wo, none⟩) (Nat.lt_of_lt_of_le hbk0 HB.out.size)).trans ((HB.out.cell (p := ⟨wb, wo, none⟩) hbk0).trans HK0.out)⟩
  clear x0_0 x0_1 x0_2 x0_3 x0_4 ck0
  refine untilK KSd 7 9 (by kernel_rfl) rfl ?_
  obtain ⟨u0, hu0, HU0⟩ := drew_pack W
  rw [hu0]
  clear hu0
  have hSU0 := KSd.out _ HU0.out
  refine tkU (v := ?_) 0 la0 hSU0 (by kernel_rfl) (fun _ _ _ h => h) rfl ?_ ?_
  rotate_left
  · (intro w hSw; (try dsimp only at hSw); go_simp <;> with_reducible rfl)
  simp only [Act.put, List.setIfInBounds_toArray, List.set_cons_zero, List.set_cons_succ]
  refine tkU (v := ?_) 1 la1 hSU0 (by kernel_rfl) (fun _ _ _ h => h) rfl ?_ ?_
  rotate_left
  · (intro w hSw; (try dsimp only at hSw); go_simp <;> with_reducible rfl)
  simp only [Act.put, List.setIfInBounds_toArray, List.set_cons_zero, List.set_cons_succ]
  refine tkU (v := ?_) 2 la2 hSU0 (by kernel_rfl) (fun _ _ _ h => h) rfl ?_ ?_
  rotate_left
  · (intro w hSw; (try dsimp only at hSw); go_simp <;> with_reducible rfl)
  simp only [Act.put, List.setIfInBounds_toArray, List.set_cons_zero, List.set_cons_succ]
  refine tkU (v := ?_) 3 la3 hSU0 (by kernel_rfl) (fun _ _ _ h => h) rfl ?_ ?_
  rotate_left
  · (intro w hSw; (try dsimp only at hSw); go_simp <;> with_reducible rfl)
  simp only [Act.put, List.setIfInBounds_toArray, List.set_cons_zero, List.set_cons_succ]
  refine tkU (v := ?_) 4 la4 hSU0 (by kernel_rfl) (fun _ _ _ h => h) rfl ?_ ?_
  rotate_left
  · (intro w hSw; (try dsimp only at hSw); go_simp <;> with_reducible rfl)
  simp only [Act.put, List.setIfInBounds_toArray, List.set_cons_zero, List.set_cons_succ]
  refine tkU (v := ?_) 5 la5 hSU0 (by kernel_rfl) (fun _ _ _ h => h) rfl ?_ ?_
  rotate_left
  · (intro w hSw; (try dsimp only at hSw); go_simp <;> with_reducible rfl)
  simp only [Act.put, List.setIfInBounds_toArray, List.set_cons_zero, List.set_cons_succ]
  refine tkU (v := ?_) 6 la6 hSU0 (by kernel_rfl) (fun _ _ _ h => h) rfl ?_ ?_
  rotate_left
  · (intro w hSw; (try dsimp only at hSw); go_simp <;> with_reducible rfl)
  simp only [Act.put, List.setIfInBounds_toArray, List.set_cons_zero, List.set_cons_succ]
  refine wpAnyU_ready (rs := [7]) (by kernel_rfl) rfl ?_
  refine AllReadyU.free la7 rfl (by kernel_rfl) (fun K hK => ?_) ?_
  · have ZR := keepR HU0.out R1
    refine step_store_row rfl 54 _ _ rfl (w.heap.size + 1) _ rfl rfl 54 #[.int .i64 0, .int .u64 0] ZR.out (by kernel_rfl) rfl (by simp [Value.oneCell']) ?_
    refine hK.out _ _ ?_
    clear hK K hSU0
    try simp only [Act.put, List.setIfInBounds_toArray, List.set_cons_zero, List.set_cons_succ]
    refine wpAnyU_takeW (v := ?_) 8 la8 (by kernel_rfl) (by kernel_rfl) (by kernel_rfl) (by kernel_rfl) (fun _ _ _ h => h) (past_k (by kernel_rfl)) rfl ?_ ?_
    rotate_left
    · (intro w; go_simp <;> with_reducible rfl)
    simp only [Act.put, List.setIfInBounds_toArray, List.set_cons_zero, List.set_cons_succ]
    refine wpAnyU_done (by kernel_rfl) ?_ _
    go_wp2_with fail
    refine bodyPost_ret (v := .tuple #[.agg #[.int .i64 code, .int .u64 x], .bool true]) (results_cell_tmp Try.results18 _ _ (w.heap.size + 1) 54 _ (0, 0) _ rfl (setRow_heap _ _ _ _ 54 (0, 0) ZR.out) Try.underlying54 rfl (by kernel_rfl) _ rfl) rfl ?_
    exact ⟨rfl, row_below (below_then HB.out HU0.out) (by omega) _⟩
  exact AllReadyU.nil
set_option maxRecDepth 100000 in
set_option maxHeartbeats 16000000 in
theorem with0_any (code pc : Int) (wb wo wc lb lo ln lc : Nat) (h t x v : Int) (w : World) (hwb : wb < w.heap.size) (hw0 : w.cell? ⟨wb, wo, none⟩ = some (.int .u64 h)) (hw1 : w.cell? ⟨wb, wo + 1, none⟩ = some (.int .u64 t)) (hw2 : w.cell? ⟨wb, wo + 2, none⟩ = some (.int .u64 x)) : Calls Try.prog 36 #[.agg #[.int .i64 code, .int .i64 pc, .slice (some ⟨wb, wo, none⟩) 3 wc, .slice (some ⟨lb, lo, none⟩) ln lc, .slice none 0 0], .int .i64 0, .int .u64 v] w fun e w' => ∃ nb, e = .returned (.agg #[.int .i64 code, .int .i64 pc, .slice (some ⟨nb, 0, none⟩) 3 3, .slice (some ⟨lb, lo, none⟩) ln lc, .slice none 0 0]) ∧ Hid (w'.heap[nb]? = some (.cells #[.int .u64 v, .int .u64 t, .int .u64 x] 27 (0, 0))) ∧ Hid (w.heap.size ≤ nb) ∧ Hid (Below w.heap.size w w') := by
  have hmk := make3
  have HK0 := Lib.hid (hw0)
  have hbk0 : wb < w.heap.size := hwb
  have HK1 := Lib.hid (hw1)
  have hbk1 : wb < w.heap.size := hwb
  have HK2 := Lib.hid (hw2)
  have hbk2 : wb < w.heap.size := hwb
  obtain ⟨W, hW, HB, R0, R1, hz⟩ := two_new w (.cells #[.int .i64 code, .int .i64 pc, .slice (some ⟨wb, wo, none⟩) 3 wc, .slice (some ⟨lb, lo, none⟩) ln lc, .slice none 0 0] 60) (.cells #[.int .i64 0, .int .i64 0, .slice none 0 0, .slice none 0 0, .slice none 0 0] 60)
  have HW := Lib.hid hW
  clear hW
  go_enter Try.func36, Try.ntmps36
  go_upto_region 1 with fail
  rw [HW.out]
  clear HW
  obtain ⟨x0_0, x0_1, x0_2, x0_3, x0_4⟩ := rowc5 R0.out
  have ck0 := (HB.out.cell (p := ⟨wb, wo, none⟩) hbk0).trans HK0.out
  have ck1 := (HB.out.cell (p := ⟨wb, wo + 1, none⟩) hbk1).trans HK1.out
  have ck2 := (HB.out.cell (p := ⟨wb, wo + 2, none⟩) hbk2).trans HK2.out
  go_upto_region 2 with fail
  clear hmk
  obtain ⟨W2, nb, hv1, hX, RN, hbn, ltn⟩ := alloc_pack W (.cells #[.int .u64 0, .int .u64 0, .int .u64 0] 27)
  rw [hv1, hX]
  have hzn : Hid (w.heap.size + 1 < nb) := by show _ < _; omega
  clear hv1 hX
  have P1_0 := keepR hbn.out R0
  have P1_1 := keepR hbn.out R1
  have HB1 := Lib.hid (below_then HB.out hbn.out)
  clear x0_0 x0_1 x0_2 x0_3 x0_4 ck0 ck1 ck2
  obtain ⟨x0_0, x0_1, x0_2, x0_3, x0_4⟩ := rowc5 P1_0.out
  have ck0 := (HB1.out.cell (p := ⟨wb, wo, none⟩) hbk0).trans HK0.out
  have ck1 := (HB1.out.cell (p := ⟨wb, wo + 1, none⟩) hbk1).trans HK1.out
  have ck2 := (HB1.out.cell (p := ⟨wb, wo + 2, none⟩) hbk2).trans HK2.out
  have hcp := copy3 W2 nb wb wo wc _ _ _ h t x RN.out ck0 ck1 ck2
  obtain ⟨w3, hW3⟩ : ∃ w3, W2.setRow nb #[.int .u64 h, .int .u64 t, .int .u64 x] = w3 := ⟨_, rfl⟩
  have RN3 : Hid (w3.heap[nb]? = some (.cells #[.int .u64 h, .int .u64 t, .int .u64 x] 27 (0, 0))) := hW3 ▸ setRow_heap _ _ _ _ _ (0, 0) RN.out
  rw [hW3] at hcp
  go_upto_region 3 with fail
  clear hcp
  have P2_0 := Lib.hid (show w3.heap[w.heap.size]? = _ from hW3 ▸ (setRow_other W2 nb w.heap.size _ (by have := hzn.out; omega)).trans P1_0.out)
  have P2_1 := Lib.hid (show w3.heap[w.heap.size + 1]? = _ from hW3 ▸ (setRow_other W2 nb (w.heap.size + 1) _ (by have := hzn.out; omega)).trans P1_1.out)
  have HB2 : Hid (Below w.heap.size w w3) := hW3 ▸ row_below HB1.out (by have := hzn.out; omega) _
  clear hW3
  clear x0_0 x0_1 x0_2 x0_3 x0_4 ck0 ck1 ck2
  obtain ⟨x0_0, x0_1, x0_2, x0_3, x0_4⟩ := rowc5 P2_0.out
  have ck0 := (HB2.out.cell (p := ⟨wb, wo, none⟩) hbk0).trans HK0.out
  have ck1 := (HB2.out.cell (p := ⟨wb, wo + 1, none⟩) hbk1).trans HK1.out
  have ck2 := (HB2.out.cell (p := ⟨wb, wo + 2, none⟩) hbk2).trans HK2.out
  obtain ⟨n0, n1, n2⟩ := rowc3 RN3.out
  have fz := frozen_of_row w3 nb 0 _ _ RN3.out
  have r1 := heap_setCell_same w3 nb 0 _ _ (.int .u64 v) RN3.out
  simp at r1
  have RN4 := Lib.hid r1
  clear r1
  have Q4_0 := Lib.hid ((heap_setCell_other w3 ⟨nb, 0, none⟩ w.heap.size (.int .u64 v) (by have := hzn.out; show w.heap.size ≠ nb; omega)).trans P2_0.out)
  have Q4_1 := Lib.hid ((heap_setCell_other w3 ⟨nb, 0, none⟩ (w.heap.size + 1) (.int .u64 v) (by have := hzn.out; show w.heap.size + 1 ≠ nb; omega)).trans P2_1.out)
  have HB4 := Lib.hid (HB2.out.setCell (p := ⟨nb, 0, none⟩) (by have := hzn.out; show w.heap.size ≤ nb; omega) (.int .u64 v))
  obtain ⟨W4, hW4⟩ : ∃ W4, w3.setCell ⟨nb, 0, none⟩ (.int .u64 v) = W4 := ⟨_, rfl⟩
  rw [hW4] at RN4 Q4_0 Q4_1 HB4
  have HW4 := Lib.hid hW4
  clear hW4
  go_upto_region 4 with fail
  rw [HW4.out]
  clear x0_0 x0_1 x0_2 x0_3 x0_4 ck0 ck1 ck2
  clear fz HW4 n0 n1 n2
  obtain ⟨x0_0, x0_1, x0_2, x0_3, x0_4⟩ := rowc5 Q4_0.out
  have ck0 := (HB4.out.cell (p := ⟨wb, wo, none⟩) hbk0).trans HK0.out
  have ck1 := (HB4.out.cell (p := ⟨wb, wo + 1, none⟩) hbk1).trans HK1.out
  have ck2 := (HB4.out.cell (p := ⟨wb, wo + 2, none⟩) hbk2).trans HK2.out
  have RN5 := Lib.hid ((heap_setCell_other W4 ⟨w.heap.size, 2, none⟩ nb (.slice (some ⟨nb, 0, none⟩) 3 3) (by have := hzn.out; show nb ≠ w.heap.size; omega)).trans RN4.out)
  have fz := frozen_of_row W4 w.heap.size 2 _ _ Q4_0.out
  have r1 := heap_setCell_same W4 w.heap.size 2 _ _ (.slice (some ⟨nb, 0, none⟩) 3 3) Q4_0.out
  simp at r1
  have P5_0 := Lib.hid r1
  clear r1
  have P5_1 := Lib.hid ((heap_setCell_other W4 ⟨w.heap.size, 2, none⟩ (w.heap.size + 1) (.slice (some ⟨nb, 0, none⟩) 3 3) (by show w.heap.size + 1 ≠ w.heap.size; omega)).trans Q4_1.out)
  have HB5 := Lib.hid (HB4.out.setCell (p := ⟨w.heap.size, 2, none⟩) (by show w.heap.size ≤ w.heap.size; omega) (.slice (some ⟨nb, 0, none⟩) 3 3))
  obtain ⟨W5, hW5⟩ : ∃ W5, W4.setCell ⟨w.heap.size, 2, none⟩ (.slice (some ⟨nb, 0, none⟩) 3 3) = W5 := ⟨_, rfl⟩
  rw [hW5] at P5_0 P5_1 RN5 HB5
  have HW5 := Lib.hid hW5
  clear hW5
  go_upto_region 5 with fail
  rw [HW5.out]
  clear x0_0 x0_1 x0_2 x0_3 x0_4 ck0 ck1 ck2
  clear fz HW5
  obtain ⟨x0_0, x0_1, x0_2, x0_3, x0_4⟩ := rowc5 P5_0.out
  have ck0 := (HB5.out.cell (p := ⟨wb, wo, none⟩) hbk0).trans HK0.out
  have ck1 := (HB5.out.cell (p := ⟨wb, wo + 1, none⟩) hbk1).trans HK1.out
  have ck2 := (HB5.out.cell (p := ⟨wb, wo + 2, none⟩) hbk2).trans HK2.out
  go_wp2_with (refine wpList_store_row rfl 60 _ _ rfl (w.heap.size + 1) _ rfl rfl 60 #[.int .i64 0, .int .i64 0, .slice none 0 0, .slice none 0 0, .slice none 0 0] P5_1.out (by kernel_rfl) rfl (by simp [Value.oneCell']) ?_)
  refine bodyPost_ret (v := .agg #[.int .i64 code, .int .i64 pc, .slice (some ⟨nb, 0, none⟩) 3 3, .slice (some ⟨lb, lo, none⟩) ln lc, .slice none 0 0]) (results_cell_row Try.results36 _ _ (w.heap.size + 1) 60 _ (0, 0) _ rfl (setRow_heap _ _ _ _ 60 (0, 0) P5_1.out) Try.underlying60 rfl (by kernel_rfl)) rfl ?_
  exact ⟨nb, rfl, Lib.hid ((setRow_other _ (w.heap.size + 1) nb _ (by have := hzn.out; omega)).trans RN5.out), Lib.hid (by have := hzn.out; show w.heap.size ≤ nb; omega), Lib.hid (row_below HB5.out (by omega) _)⟩
set_option maxRecDepth 100000 in
set_option maxHeartbeats 16000000 in
theorem with1_any (code pc : Int) (wb wo wc lb lo ln lc : Nat) (h t x v : Int) (w : World) (hwb : wb < w.heap.size) (hw0 : w.cell? ⟨wb, wo, none⟩ = some (.int .u64 h)) (hw1 : w.cell? ⟨wb, wo + 1, none⟩ = some (.int .u64 t)) (hw2 : w.cell? ⟨wb, wo + 2, none⟩ = some (.int .u64 x)) : Calls Try.prog 36 #[.agg #[.int .i64 code, .int .i64 pc, .slice (some ⟨wb, wo, none⟩) 3 wc, .slice (some ⟨lb, lo, none⟩) ln lc, .slice none 0 0], .int .i64 1, .int .u64 v] w fun e w' => ∃ nb, e = .returned (.agg #[.int .i64 code, .int .i64 pc, .slice (some ⟨nb, 0, none⟩) 3 3, .slice (some ⟨lb, lo, none⟩) ln lc, .slice none 0 0]) ∧ Hid (w'.heap[nb]? = some (.cells #[.int .u64 h, .int .u64 v, .int .u64 x] 27 (0, 0))) ∧ Hid (w.heap.size ≤ nb) ∧ Hid (Below w.heap.size w w') := by
  have hmk := make3
  have HK0 := Lib.hid (hw0)
  have hbk0 : wb < w.heap.size := hwb
  have HK1 := Lib.hid (hw1)
  have hbk1 : wb < w.heap.size := hwb
  have HK2 := Lib.hid (hw2)
  have hbk2 : wb < w.heap.size := hwb
  obtain ⟨W, hW, HB, R0, R1, hz⟩ := two_new w (.cells #[.int .i64 code, .int .i64 pc, .slice (some ⟨wb, wo, none⟩) 3 wc, .slice (some ⟨lb, lo, none⟩) ln lc, .slice none 0 0] 60) (.cells #[.int .i64 0, .int .i64 0, .slice none 0 0, .slice none 0 0, .slice none 0 0] 60)
  have HW := Lib.hid hW
  clear hW
  go_enter Try.func36, Try.ntmps36
  go_upto_region 1 with fail
  rw [HW.out]
  clear HW
  obtain ⟨x0_0, x0_1, x0_2, x0_3, x0_4⟩ := rowc5 R0.out
  have ck0 := (HB.out.cell (p := ⟨wb, wo, none⟩) hbk0).trans HK0.out
  have ck1 := (HB.out.cell (p := ⟨wb, wo + 1, none⟩) hbk1).trans HK1.out
  have ck2 := (HB.out.cell (p := ⟨wb, wo + 2, none⟩) hbk2).trans HK2.out
  go_upto_region 2 with fail
  clear hmk
  obtain ⟨W2, nb, hv1, hX, RN, hbn, ltn⟩ := alloc_pack W (.cells #[.int .u64 0, .int .u64 0, .int .u64 0] 27)
  rw [hv1, hX]
  have hzn : Hid (w.heap.size + 1 < nb) := by show _ < _; omega
  clear hv1 hX
  have P1_0 := keepR hbn.out R0
  have P1_1 := keepR hbn.out R1
  have HB1 := Lib.hid (below_then HB.out hbn.out)
  clear x0_0 x0_1 x0_2 x0_3 x0_4 ck0 ck1 ck2
  obtain ⟨x0_0, x0_1, x0_2, x0_3, x0_4⟩ := rowc5 P1_0.out
  have ck0 := (HB1.out.cell (p := ⟨wb, wo, none⟩) hbk0).trans HK0.out
  have ck1 := (HB1.out.cell (p := ⟨wb, wo + 1, none⟩) hbk1).trans HK1.out
  have ck2 := (HB1.out.cell (p := ⟨wb, wo + 2, none⟩) hbk2).trans HK2.out
  have hcp := copy3 W2 nb wb wo wc _ _ _ h t x RN.out ck0 ck1 ck2
  obtain ⟨w3, hW3⟩ : ∃ w3, W2.setRow nb #[.int .u64 h, .int .u64 t, .int .u64 x] = w3 := ⟨_, rfl⟩
  have RN3 : Hid (w3.heap[nb]? = some (.cells #[.int .u64 h, .int .u64 t, .int .u64 x] 27 (0, 0))) := hW3 ▸ setRow_heap _ _ _ _ _ (0, 0) RN.out
  rw [hW3] at hcp
  go_upto_region 3 with fail
  clear hcp
  have P2_0 := Lib.hid (show w3.heap[w.heap.size]? = _ from hW3 ▸ (setRow_other W2 nb w.heap.size _ (by have := hzn.out; omega)).trans P1_0.out)
  have P2_1 := Lib.hid (show w3.heap[w.heap.size + 1]? = _ from hW3 ▸ (setRow_other W2 nb (w.heap.size + 1) _ (by have := hzn.out; omega)).trans P1_1.out)
  have HB2 : Hid (Below w.heap.size w w3) := hW3 ▸ row_below HB1.out (by have := hzn.out; omega) _
  clear hW3
  clear x0_0 x0_1 x0_2 x0_3 x0_4 ck0 ck1 ck2
  obtain ⟨x0_0, x0_1, x0_2, x0_3, x0_4⟩ := rowc5 P2_0.out
  have ck0 := (HB2.out.cell (p := ⟨wb, wo, none⟩) hbk0).trans HK0.out
  have ck1 := (HB2.out.cell (p := ⟨wb, wo + 1, none⟩) hbk1).trans HK1.out
  have ck2 := (HB2.out.cell (p := ⟨wb, wo + 2, none⟩) hbk2).trans HK2.out
  obtain ⟨n0, n1, n2⟩ := rowc3 RN3.out
  have fz := frozen_of_row w3 nb 1 _ _ RN3.out
  have r1 := heap_setCell_same w3 nb 1 _ _ (.int .u64 v) RN3.out
  simp at r1
  have RN4 := Lib.hid r1
  clear r1
  have Q4_0 := Lib.hid ((heap_setCell_other w3 ⟨nb, 1, none⟩ w.heap.size (.int .u64 v) (by have := hzn.out; show w.heap.size ≠ nb; omega)).trans P2_0.out)
  have Q4_1 := Lib.hid ((heap_setCell_other w3 ⟨nb, 1, none⟩ (w.heap.size + 1) (.int .u64 v) (by have := hzn.out; show w.heap.size + 1 ≠ nb; omega)).trans P2_1.out)
  have HB4 := Lib.hid (HB2.out.setCell (p := ⟨nb, 1, none⟩) (by have := hzn.out; show w.heap.size ≤ nb; omega) (.int .u64 v))
  obtain ⟨W4, hW4⟩ : ∃ W4, w3.setCell ⟨nb, 1, none⟩ (.int .u64 v) = W4 := ⟨_, rfl⟩
  rw [hW4] at RN4 Q4_0 Q4_1 HB4
  have HW4 := Lib.hid hW4
  clear hW4
  go_upto_region 4 with fail
  rw [HW4.out]
  clear x0_0 x0_1 x0_2 x0_3 x0_4 ck0 ck1 ck2
  clear fz HW4 n0 n1 n2
  obtain ⟨x0_0, x0_1, x0_2, x0_3, x0_4⟩ := rowc5 Q4_0.out
  have ck0 := (HB4.out.cell (p := ⟨wb, wo, none⟩) hbk0).trans HK0.out
  have ck1 := (HB4.out.cell (p := ⟨wb, wo + 1, none⟩) hbk1).trans HK1.out
  have ck2 := (HB4.out.cell (p := ⟨wb, wo + 2, none⟩) hbk2).trans HK2.out
  have RN5 := Lib.hid ((heap_setCell_other W4 ⟨w.heap.size, 2, none⟩ nb (.slice (some ⟨nb, 0, none⟩) 3 3) (by have := hzn.out; show nb ≠ w.heap.size; omega)).trans RN4.out)
  have fz := frozen_of_row W4 w.heap.size 2 _ _ Q4_0.out
  have r1 := heap_setCell_same W4 w.heap.size 2 _ _ (.slice (some ⟨nb, 0, none⟩) 3 3) Q4_0.out
  simp at r1
  have P5_0 := Lib.hid r1
  clear r1
  have P5_1 := Lib.hid ((heap_setCell_other W4 ⟨w.heap.size, 2, none⟩ (w.heap.size + 1) (.slice (some ⟨nb, 0, none⟩) 3 3) (by show w.heap.size + 1 ≠ w.heap.size; omega)).trans Q4_1.out)
  have HB5 := Lib.hid (HB4.out.setCell (p := ⟨w.heap.size, 2, none⟩) (by show w.heap.size ≤ w.heap.size; omega) (.slice (some ⟨nb, 0, none⟩) 3 3))
  obtain ⟨W5, hW5⟩ : ∃ W5, W4.setCell ⟨w.heap.size, 2, none⟩ (.slice (some ⟨nb, 0, none⟩) 3 3) = W5 := ⟨_, rfl⟩
  rw [hW5] at P5_0 P5_1 RN5 HB5
  have HW5 := Lib.hid hW5
  clear hW5
  go_upto_region 5 with fail
  rw [HW5.out]
  clear x0_0 x0_1 x0_2 x0_3 x0_4 ck0 ck1 ck2
  clear fz HW5
  obtain ⟨x0_0, x0_1, x0_2, x0_3, x0_4⟩ := rowc5 P5_0.out
  have ck0 := (HB5.out.cell (p := ⟨wb, wo, none⟩) hbk0).trans HK0.out
  have ck1 := (HB5.out.cell (p := ⟨wb, wo + 1, none⟩) hbk1).trans HK1.out
  have ck2 := (HB5.out.cell (p := ⟨wb, wo + 2, none⟩) hbk2).trans HK2.out
  go_wp2_with (refine wpList_store_row rfl 60 _ _ rfl (w.heap.size + 1) _ rfl rfl 60 #[.int .i64 0, .int .i64 0, .slice none 0 0, .slice none 0 0, .slice none 0 0] P5_1.out (by kernel_rfl) rfl (by simp [Value.oneCell']) ?_)
  refine bodyPost_ret (v := .agg #[.int .i64 code, .int .i64 pc, .slice (some ⟨nb, 0, none⟩) 3 3, .slice (some ⟨lb, lo, none⟩) ln lc, .slice none 0 0]) (results_cell_row Try.results36 _ _ (w.heap.size + 1) 60 _ (0, 0) _ rfl (setRow_heap _ _ _ _ 60 (0, 0) P5_1.out) Try.underlying60 rfl (by kernel_rfl)) rfl ?_
  exact ⟨nb, rfl, Lib.hid ((setRow_other _ (w.heap.size + 1) nb _ (by have := hzn.out; omega)).trans RN5.out), Lib.hid (by have := hzn.out; show w.heap.size ≤ nb; omega), Lib.hid (row_below HB5.out (by omega) _)⟩
set_option maxRecDepth 100000 in
set_option maxHeartbeats 16000000 in
theorem with2_any (code pc : Int) (wb wo wc lb lo ln lc : Nat) (h t x v : Int) (w : World) (hwb : wb < w.heap.size) (hw0 : w.cell? ⟨wb, wo, none⟩ = some (.int .u64 h)) (hw1 : w.cell? ⟨wb, wo + 1, none⟩ = some (.int .u64 t)) (hw2 : w.cell? ⟨wb, wo + 2, none⟩ = some (.int .u64 x)) : Calls Try.prog 36 #[.agg #[.int .i64 code, .int .i64 pc, .slice (some ⟨wb, wo, none⟩) 3 wc, .slice (some ⟨lb, lo, none⟩) ln lc, .slice none 0 0], .int .i64 2, .int .u64 v] w fun e w' => ∃ nb, e = .returned (.agg #[.int .i64 code, .int .i64 pc, .slice (some ⟨nb, 0, none⟩) 3 3, .slice (some ⟨lb, lo, none⟩) ln lc, .slice none 0 0]) ∧ Hid (w'.heap[nb]? = some (.cells #[.int .u64 h, .int .u64 t, .int .u64 v] 27 (0, 0))) ∧ Hid (w.heap.size ≤ nb) ∧ Hid (Below w.heap.size w w') := by
  have hmk := make3
  have HK0 := Lib.hid (hw0)
  have hbk0 : wb < w.heap.size := hwb
  have HK1 := Lib.hid (hw1)
  have hbk1 : wb < w.heap.size := hwb
  have HK2 := Lib.hid (hw2)
  have hbk2 : wb < w.heap.size := hwb
  obtain ⟨W, hW, HB, R0, R1, hz⟩ := two_new w (.cells #[.int .i64 code, .int .i64 pc, .slice (some ⟨wb, wo, none⟩) 3 wc, .slice (some ⟨lb, lo, none⟩) ln lc, .slice none 0 0] 60) (.cells #[.int .i64 0, .int .i64 0, .slice none 0 0, .slice none 0 0, .slice none 0 0] 60)
  have HW := Lib.hid hW
  clear hW
  go_enter Try.func36, Try.ntmps36
  go_upto_region 1 with fail
  rw [HW.out]
  clear HW
  obtain ⟨x0_0, x0_1, x0_2, x0_3, x0_4⟩ := rowc5 R0.out
  have ck0 := (HB.out.cell (p := ⟨wb, wo, none⟩) hbk0).trans HK0.out
  have ck1 := (HB.out.cell (p := ⟨wb, wo + 1, none⟩) hbk1).trans HK1.out
  have ck2 := (HB.out.cell (p := ⟨wb, wo + 2, none⟩) hbk2).trans HK2.out
  go_upto_region 2 with fail
  clear hmk
  obtain ⟨W2, nb, hv1, hX, RN, hbn, ltn⟩ := alloc_pack W (.cells #[.int .u64 0, .int .u64 0, .int .u64 0] 27)
  rw [hv1, hX]
  have hzn : Hid (w.heap.size + 1 < nb) := by show _ < _; omega
  clear hv1 hX
  have P1_0 := keepR hbn.out R0
  have P1_1 := keepR hbn.out R1
  have HB1 := Lib.hid (below_then HB.out hbn.out)
  clear x0_0 x0_1 x0_2 x0_3 x0_4 ck0 ck1 ck2
  obtain ⟨x0_0, x0_1, x0_2, x0_3, x0_4⟩ := rowc5 P1_0.out
  have ck0 := (HB1.out.cell (p := ⟨wb, wo, none⟩) hbk0).trans HK0.out
  have ck1 := (HB1.out.cell (p := ⟨wb, wo + 1, none⟩) hbk1).trans HK1.out
  have ck2 := (HB1.out.cell (p := ⟨wb, wo + 2, none⟩) hbk2).trans HK2.out
  have hcp := copy3 W2 nb wb wo wc _ _ _ h t x RN.out ck0 ck1 ck2
  obtain ⟨w3, hW3⟩ : ∃ w3, W2.setRow nb #[.int .u64 h, .int .u64 t, .int .u64 x] = w3 := ⟨_, rfl⟩
  have RN3 : Hid (w3.heap[nb]? = some (.cells #[.int .u64 h, .int .u64 t, .int .u64 x] 27 (0, 0))) := hW3 ▸ setRow_heap _ _ _ _ _ (0, 0) RN.out
  rw [hW3] at hcp
  go_upto_region 3 with fail
  clear hcp
  have P2_0 := Lib.hid (show w3.heap[w.heap.size]? = _ from hW3 ▸ (setRow_other W2 nb w.heap.size _ (by have := hzn.out; omega)).trans P1_0.out)
  have P2_1 := Lib.hid (show w3.heap[w.heap.size + 1]? = _ from hW3 ▸ (setRow_other W2 nb (w.heap.size + 1) _ (by have := hzn.out; omega)).trans P1_1.out)
  have HB2 : Hid (Below w.heap.size w w3) := hW3 ▸ row_below HB1.out (by have := hzn.out; omega) _
  clear hW3
  clear x0_0 x0_1 x0_2 x0_3 x0_4 ck0 ck1 ck2
  obtain ⟨x0_0, x0_1, x0_2, x0_3, x0_4⟩ := rowc5 P2_0.out
  have ck0 := (HB2.out.cell (p := ⟨wb, wo, none⟩) hbk0).trans HK0.out
  have ck1 := (HB2.out.cell (p := ⟨wb, wo + 1, none⟩) hbk1).trans HK1.out
  have ck2 := (HB2.out.cell (p := ⟨wb, wo + 2, none⟩) hbk2).trans HK2.out
  obtain ⟨n0, n1, n2⟩ := rowc3 RN3.out
  have fz := frozen_of_row w3 nb 2 _ _ RN3.out
  have r1 := heap_setCell_same w3 nb 2 _ _ (.int .u64 v) RN3.out
  simp at r1
  have RN4 := Lib.hid r1
  clear r1
  have Q4_0 := Lib.hid ((heap_setCell_other w3 ⟨nb, 2, none⟩ w.heap.size (.int .u64 v) (by have := hzn.out; show w.heap.size ≠ nb; omega)).trans P2_0.out)
  have Q4_1 := Lib.hid ((heap_setCell_other w3 ⟨nb, 2, none⟩ (w.heap.size + 1) (.int .u64 v) (by have := hzn.out; show w.heap.size + 1 ≠ nb; omega)).trans P2_1.out)
  have HB4 := Lib.hid (HB2.out.setCell (p := ⟨nb, 2, none⟩) (by have := hzn.out; show w.heap.size ≤ nb; omega) (.int .u64 v))
  obtain ⟨W4, hW4⟩ : ∃ W4, w3.setCell ⟨nb, 2, none⟩ (.int .u64 v) = W4 := ⟨_, rfl⟩
  rw [hW4] at RN4 Q4_0 Q4_1 HB4
  have HW4 := Lib.hid hW4
  clear hW4
  go_upto_region 4 with fail
  rw [HW4.out]
  clear x0_0 x0_1 x0_2 x0_3 x0_4 ck0 ck1 ck2
  clear fz HW4 n0 n1 n2
  obtain ⟨x0_0, x0_1, x0_2, x0_3, x0_4⟩ := rowc5 Q4_0.out
  have ck0 := (HB4.out.cell (p := ⟨wb, wo, none⟩) hbk0).trans HK0.out
  have ck1 := (HB4.out.cell (p := ⟨wb, wo + 1, none⟩) hbk1).trans HK1.out
  have ck2 := (HB4.out.cell (p := ⟨wb, wo + 2, none⟩) hbk2).trans HK2.out
  have RN5 := Lib.hid ((heap_setCell_other W4 ⟨w.heap.size, 2, none⟩ nb (.slice (some ⟨nb, 0, none⟩) 3 3) (by have := hzn.out; show nb ≠ w.heap.size; omega)).trans RN4.out)
  have fz := frozen_of_row W4 w.heap.size 2 _ _ Q4_0.out
  have r1 := heap_setCell_same W4 w.heap.size 2 _ _ (.slice (some ⟨nb, 0, none⟩) 3 3) Q4_0.out
  simp at r1
  have P5_0 := Lib.hid r1
  clear r1
  have P5_1 := Lib.hid ((heap_setCell_other W4 ⟨w.heap.size, 2, none⟩ (w.heap.size + 1) (.slice (some ⟨nb, 0, none⟩) 3 3) (by show w.heap.size + 1 ≠ w.heap.size; omega)).trans Q4_1.out)
  have HB5 := Lib.hid (HB4.out.setCell (p := ⟨w.heap.size, 2, none⟩) (by show w.heap.size ≤ w.heap.size; omega) (.slice (some ⟨nb, 0, none⟩) 3 3))
  obtain ⟨W5, hW5⟩ : ∃ W5, W4.setCell ⟨w.heap.size, 2, none⟩ (.slice (some ⟨nb, 0, none⟩) 3 3) = W5 := ⟨_, rfl⟩
  rw [hW5] at P5_0 P5_1 RN5 HB5
  have HW5 := Lib.hid hW5
  clear hW5
  go_upto_region 5 with fail
  rw [HW5.out]
  clear x0_0 x0_1 x0_2 x0_3 x0_4 ck0 ck1 ck2
  clear fz HW5
  obtain ⟨x0_0, x0_1, x0_2, x0_3, x0_4⟩ := rowc5 P5_0.out
  have ck0 := (HB5.out.cell (p := ⟨wb, wo, none⟩) hbk0).trans HK0.out
  have ck1 := (HB5.out.cell (p := ⟨wb, wo + 1, none⟩) hbk1).trans HK1.out
  have ck2 := (HB5.out.cell (p := ⟨wb, wo + 2, none⟩) hbk2).trans HK2.out
  go_wp2_with (refine wpList_store_row rfl 60 _ _ rfl (w.heap.size + 1) _ rfl rfl 60 #[.int .i64 0, .int .i64 0, .slice none 0 0, .slice none 0 0, .slice none 0 0] P5_1.out (by kernel_rfl) rfl (by simp [Value.oneCell']) ?_)
  refine bodyPost_ret (v := .agg #[.int .i64 code, .int .i64 pc, .slice (some ⟨nb, 0, none⟩) 3 3, .slice (some ⟨lb, lo, none⟩) ln lc, .slice none 0 0]) (results_cell_row Try.results36 _ _ (w.heap.size + 1) 60 _ (0, 0) _ rfl (setRow_heap _ _ _ _ 60 (0, 0) P5_1.out) Try.underlying60 rfl (by kernel_rfl)) rfl ?_
  exact ⟨nb, rfl, Lib.hid ((setRow_other _ (w.heap.size + 1) nb _ (by have := hzn.out; omega)).trans RN5.out), Lib.hid (by have := hzn.out; show w.heap.size ≤ nb; omega), Lib.hid (row_below HB5.out (by omega) _)⟩
set_option maxRecDepth 100000 in
set_option maxHeartbeats 16000000 in
theorem pslots_any (code pc : Int) (wa : Option Addr) (wn wc : Nat) (lb lo ln lc : Nat) (c : ConfM) (k : Nat) (hk : k < c.caps.length) (hg : c.good) (hln : ln = (ringL c k).length) (w : World) : Calls Try.prog 51 #[.agg #[.int .i64 code, .int .i64 pc, .slice wa wn wc, .slice (some ⟨lb, lo, none⟩) ln lc, .slice none 0 0]] w fun e w' => e = .returned (.int .i64 (c.size k)) ∧ Below w.heap.size w w' := by
  have hsz := hg.size k hk
  rw [ringL_length] at hln
  obtain ⟨sz, hsz2⟩ : ∃ sz, c.size k = sz := ⟨_, rfl⟩
  rw [hsz2] at hsz hln ⊢
  have hl1 : IntKind.i64.wrap ((ln : Int) - 3) = sz * 2 := by rw [IntKind.wrap_i64]; omega
  have hl2 : (sz * 2).tdiv 2 = sz := Int.mul_tdiv_cancel _ (by decide)
  have hl3 : IntKind.i64.wrap sz = sz := by rw [IntKind.wrap_i64]; omega
  clear hsz hsz2 hln hk hg
  obtain ⟨W, hW, HB, R0, hz⟩ := one_new w (.cells #[.int .i64 code, .int .i64 pc, .slice wa wn wc, .slice (some ⟨lb, lo, none⟩) ln lc, .slice none 0 0] 60)
  have HW := Lib.hid hW
  clear hW
  go_enter Try.func51, Try.ntmps51
  go_upto_region 1 with fail
  rw [HW.out]
  clear HW
  obtain ⟨x0_0, x0_1, x0_2, x0_3, x0_4⟩ := rowc5 R0.out
  go_wp2_with fail
  go_ret
  exact ⟨rfl, HB.out⟩
set_option maxRecDepth 100000 in
set_option maxHeartbeats 16000000 in
theorem ahead_any (code pc : Int) (wb wo wc lb lo ln lc : Nat) (h t : Int) (w : World) (hwb : wb < w.heap.size) (hw0 : w.cell? ⟨wb, wo, none⟩ = some (.int .u64 h)) (hw1 : w.cell? ⟨wb, wo + 1, none⟩ = some (.int .u64 t)) : Calls Try.prog 37 #[.agg #[.int .i64 code, .int .i64 pc, .slice (some ⟨wb, wo, none⟩) 3 wc, .slice (some ⟨lb, lo, none⟩) ln lc, .slice none 0 0]] w fun e w' => e = .returned (.int .u64 (restI (t / 2) h)) ∧ Below w.heap.size w w' := by
  have TS := Lib.hid fun w' => seq_any t w'
  obtain ⟨n, hn⟩ : ∃ n, restI (t / 2) h = n := ⟨_, rfl⟩
  obtain ⟨q, hq⟩ : ∃ q, t / 2 = q := ⟨_, rfl⟩
  rw [hq] at TS hn
  rw [show restI (t / 2) h = n from hq ▸ hn]
  have hm : (IntKind.u64.wrap (q - h)).tmod 9223372036854775808 = n := by rw [← hn, Int.tmod_eq_emod_of_nonneg (by rw [IntKind.wrap_u64]; omega), IntKind.wrap_u64]; unfold restI; omega
  clear hn hq
  have HK0 := Lib.hid (hw0)
  have hbk0 : wb < w.heap.size := hwb
  have HK1 := Lib.hid (hw1)
  have hbk1 : wb < w.heap.size := hwb
  obtain ⟨W, hW, HB, R0, hz⟩ := one_new w (.cells #[.int .i64 code, .int .i64 pc, .slice (some ⟨wb, wo, none⟩) 3 wc, .slice (some ⟨lb, lo, none⟩) ln lc, .slice none 0 0] 60)
  have HW := Lib.hid hW
  clear hW
  go_enter Try.func37, Try.ntmps37
  go_upto_region 1 with fail
  rw [HW.out]
  clear HW
  obtain ⟨x0_0, x0_1, x0_2, x0_3, x0_4⟩ := rowc5 R0.out
  have ck0 := (HB.out.cell (p := ⟨wb, wo, none⟩) hbk0).trans HK0.out
  have ck1 := (HB.out.cell (p := ⟨wb, wo + 1, none⟩) hbk1).trans HK1.out
  have Xx0_0 := ext_cell _ _ (ltR R0) _ x0_0
  have Xx0_1 := ext_cell _ _ (ltR R0) _ x0_1
  have Xx0_2 := ext_cell _ _ (ltR R0) _ x0_2
  have Xx0_3 := ext_cell _ _ (ltR R0) _ x0_3
  have Xx0_4 := ext_cell _ _ (ltR R0) _ x0_4
  have Xck0 := ext_cell _ _ (Nat.lt_of_lt_of_le hbk0 HB.out.size) _ ck0
  have Xck1 := ext_cell _ _ (Nat.lt_of_lt_of_le hbk1 HB.out.size) _ ck1
  clear x0_0 x0_1 x0_2 x0_3 x0_4 ck0 ck1
  refine wp_region_ext W (by kernel_rfl) (by kernel_rfl) (Below.refl _ _) ?_
  repeat (go_big_quiet_step (first
    | (go_at_call 64; with_reducible exact calls_ext ((TS.out _).mono (fun e w' h => ⟨h.1, h.2 ▸ Below.refl _ _⟩)))))
  refine wpQuiet_nil ?_
  intro _ hw'
  obtain ⟨n9, rfl⟩ := hw'
  have P1_0 := keepR n9.below R0
  have HB1 := Lib.hid (below_then HB.out n9.below)
  generalize n9.wd = w1 at *
  clear Xx0_0 Xx0_1 Xx0_2 Xx0_3 Xx0_4 Xck0 Xck1
  obtain ⟨x0_0, x0_1, x0_2, x0_3, x0_4⟩ := rowc5 P1_0.out
  have ck0 := (HB1.out.cell (p := ⟨wb, wo, none⟩) hbk0).trans HK0.out
  have ck1 := (HB1.out.cell (p := ⟨wb, wo + 1, none⟩) hbk1).trans HK1.out
  go_wp2_with fail
  go_ret
  exact ⟨by first | rfl | rw [hm], HB1.out⟩
set_option maxRecDepth 100000 in
set_option maxHeartbeats 16000000 in
theorem emptiness_true (t : Int) (w : World) (h0 : 0 ≤ t) (h1 : t < 18446744073709551616) (hcl : closedB t = true) : Calls Try.prog 38 #[.int .u64 t] w fun e w' => e = .returned (.int .i64 5) ∧ w = w' := by
  have TCL := Lib.hid fun w' => closed_any t w' h0 h1
  rw [hcl] at TCL
  clear hcl h0 h1
  go_enter Try.func38, Try.ntmps38
  go_wp2_with fail
  refine (TCL.out _).mono ?_; rintro e w' ⟨rfl, rfl⟩
  go_wp2_with fail
  go_ret
  exact ⟨rfl, rfl⟩
set_option maxRecDepth 100000 in
set_option maxHeartbeats 16000000 in
theorem emptiness_false (t : Int) (w : World) (h0 : 0 ≤ t) (h1 : t < 18446744073709551616) (hcl : closedB t = false) : Calls Try.prog 38 #[.int .u64 t] w fun e w' => e = .returned (.int .i64 3) ∧ w = w' := by
  have TCL := Lib.hid fun w' => closed_any t w' h0 h1
  rw [hcl] at TCL
  clear hcl h0 h1
  go_enter Try.func38, Try.ntmps38
  go_wp2_with fail
  refine (TCL.out _).mono ?_; rintro e w' ⟨rfl, rfl⟩
  go_wp2_with fail
  go_ret
  exact ⟨rfl, rfl⟩
set_option maxRecDepth 100000 in
set_option maxHeartbeats 16000000 in
theorem slotNumber0 (code pc : Int) (wb wo wc lb lo ln lc : Nat) (h : Int) (ht : U64 h) (c : ConfM) (k : Nat) (hk : k < c.caps.length) (hg : c.good) (hln : ln = (ringL c k).length) (w : World) (hwb : wb < w.heap.size) (hlb : lb < w.heap.size) (hw0 : w.cell? ⟨wb, wo, none⟩ = some (.int .u64 h)) (hsl : ∀ i, i < 2 * (c.size k).toNat → w.cell? ⟨lb, lo + (3 + i), none⟩ = some (.int .i64 (c.base k + 5 + (i : Int)))) : Calls Try.prog 50 #[.agg #[.int .i64 code, .int .i64 pc, .slice (some ⟨wb, wo, none⟩) 3 wc, .slice (some ⟨lb, lo, none⟩) ln lc, .slice none 0 0], .int .i64 0] w fun e w' => e = .returned (.int .i64 (c.slotW k h)) ∧ Below w.heap.size w w' := by
  have hsz := hg.size k hk
  have hs := slotI_lt h (c.size k) ht.1 hsz.1
  obtain ⟨sn, hsn⟩ : ∃ sn : Nat, slotI h (c.size k) = (sn : Int) := ⟨(slotI h (c.size k)).toNat, by omega⟩
  have TL := Lib.hid fun w' => slot_any h (c.size k) w' ht.1 ht.2 (by omega) (by omega)
  have TZ := Lib.hid fun w' => pslots_any code pc (some ⟨wb, wo, none⟩) 3 wc lb lo ln lc c k hk hg hln w'
  rw [ringL_length] at hln
  rw [hsn] at TL hs
  obtain ⟨sz, hsz2⟩ : ∃ sz, c.size k = sz := ⟨_, rfl⟩
  have hsv : c.slotW k h = c.base k + 5 + (sn : Int) * 2 := by rw [slotW_eq, hsn]
  rw [hsz2] at hsz hs hsl hln TL TZ
  obtain ⟨i1, hi1⟩ : ∃ i1 : Nat, IntKind.i64.wrap ((sn : Int) * 2) = (i1 : Int) := ⟨2 * sn, by rw [IntKind.wrap_i64]; omega⟩
  have hi1' : i1 = 2 * sn := by rw [IntKind.wrap_i64] at hi1; omega
  obtain ⟨i2, hi2⟩ : ∃ i2 : Nat, IntKind.i64.wrap (3 + (i1 : Int)) = (i2 : Int) := ⟨3 + i1, by rw [IntKind.wrap_i64]; omega⟩
  have hi2' : i2 = 3 + i1 := by rw [IntKind.wrap_i64] at hi2; omega
  obtain ⟨i3, hi3⟩ : ∃ i3 : Nat, IntKind.i64.wrap (i2 : Int) = (i3 : Int) := ⟨i2 + 0, by rw [IntKind.wrap_i64]; omega⟩
  have hi3' : i3 = i2 + 0 := by rw [IntKind.wrap_i64] at hi3; omega
  have hcell := hsl (2 * sn + 0) (by omega)
  rw [show lo + (3 + (2 * sn + 0)) = lo + i3 by omega] at hcell
  have hval : c.base k + 5 + ((2 * sn + 0 : Nat) : Int) = c.slotW k h := by rw [hsv]; omega
  rw [hval] at hcell
  obtain ⟨rv, hrv⟩ : ∃ rv, c.slotW k h = rv := ⟨_, rfl⟩
  rw [hrv] at hcell
  rw [hrv]
  have hi3b : (i3 : Int) < (ln : Int) := by omega
  clear hsl hsv hval hrv hsn hs hi1' hi2' hi3' hsz hsz2 hln ht hk hg
  have HK0 := Lib.hid (hw0)
  have hbk0 : wb < w.heap.size := hwb
  have HK1 := Lib.hid (hcell)
  have hbk1 : lb < w.heap.size := hlb
  obtain ⟨W, hW, HB, R0, hz⟩ := one_new w (.cells #[.int .i64 code, .int .i64 pc, .slice (some ⟨wb, wo, none⟩) 3 wc, .slice (some ⟨lb, lo, none⟩) ln lc, .slice none 0 0] 60)
  have HW := Lib.hid hW
  clear hW
  go_enter Try.func50, Try.ntmps50
  go_upto_region 1 with fail
  rw [HW.out]
  clear HW
  obtain ⟨x0_0, x0_1, x0_2, x0_3, x0_4⟩ := rowc5 R0.out
  have ck0 := (HB.out.cell (p := ⟨wb, wo, none⟩) hbk0).trans HK0.out
  have ck1 := (HB.out.cell (p := ⟨lb, lo + i3, none⟩) hbk1).trans HK1.out
  have Xx0_0 := ext_cell _ _ (ltR R0) _ x0_0
  have Xx0_1 := ext_cell _ _ (ltR R0) _ x0_1
  have Xx0_2 := ext_cell _ _ (ltR R0) _ x0_2
  have Xx0_3 := ext_cell _ _ (ltR R0) _ x0_3
  have Xx0_4 := ext_cell _ _ (ltR R0) _ x0_4
  have Xck0 := ext_cell _ _ (Nat.lt_of_lt_of_le hbk0 HB.out.size) _ ck0
  have Xck1 := ext_cell _ _ (Nat.lt_of_lt_of_le hbk1 HB.out.size) _ ck1
  clear x0_0 x0_1 x0_2 x0_3 x0_4 ck0 ck1
  refine wp_region_ext W (by kernel_rfl) (by kernel_rfl) (Below.refl _ _) ?_
  repeat (go_big_quiet_step (first
    | (go_at_call 51; with_reducible exact calls_ext (TZ.out _))
    | (go_at_call 71; with_reducible exact calls_ext ((TL.out _).mono (fun e w' h => ⟨h.1, h.2 ▸ Below.refl _ _⟩)))))
  refine wpQuiet_nil ?_
  intro _ hw'
  obtain ⟨n9, rfl⟩ := hw'
  have P1_0 := keepR n9.below R0
  have HB1 := Lib.hid (below_then HB.out n9.below)
  generalize n9.wd = w1 at *
  clear Xx0_0 Xx0_1 Xx0_2 Xx0_3 Xx0_4 Xck0 Xck1
  obtain ⟨x0_0, x0_1, x0_2, x0_3, x0_4⟩ := rowc5 P1_0.out
  have ck0 := (HB1.out.cell (p := ⟨wb, wo, none⟩) hbk0).trans HK0.out
  have ck1 := (HB1.out.cell (p := ⟨lb, lo + i3, none⟩) hbk1).trans HK1.out
  go_wp2_with fail
  go_ret
  exact ⟨rfl, HB1.out⟩
set_option maxRecDepth 100000 in
set_option maxHeartbeats 16000000 in
theorem slotNumber1 (code pc : Int) (wb wo wc lb lo ln lc : Nat) (h : Int) (ht : U64 h) (c : ConfM) (k : Nat) (hk : k < c.caps.length) (hg : c.good) (hln : ln = (ringL c k).length) (w : World) (hwb : wb < w.heap.size) (hlb : lb < w.heap.size) (hw0 : w.cell? ⟨wb, wo, none⟩ = some (.int .u64 h)) (hsl : ∀ i, i < 2 * (c.size k).toNat → w.cell? ⟨lb, lo + (3 + i), none⟩ = some (.int .i64 (c.base k + 5 + (i : Int)))) : Calls Try.prog 50 #[.agg #[.int .i64 code, .int .i64 pc, .slice (some ⟨wb, wo, none⟩) 3 wc, .slice (some ⟨lb, lo, none⟩) ln lc, .slice none 0 0], .int .i64 1] w fun e w' => e = .returned (.int .i64 (c.slotW k h + 1)) ∧ Below w.heap.size w w' := by
  have hsz := hg.size k hk
  have hs := slotI_lt h (c.size k) ht.1 hsz.1
  obtain ⟨sn, hsn⟩ : ∃ sn : Nat, slotI h (c.size k) = (sn : Int) := ⟨(slotI h (c.size k)).toNat, by omega⟩
  have TL := Lib.hid fun w' => slot_any h (c.size k) w' ht.1 ht.2 (by omega) (by omega)
  have TZ := Lib.hid fun w' => pslots_any code pc (some ⟨wb, wo, none⟩) 3 wc lb lo ln lc c k hk hg hln w'
  rw [ringL_length] at hln
  rw [hsn] at TL hs
  obtain ⟨sz, hsz2⟩ : ∃ sz, c.size k = sz := ⟨_, rfl⟩
  have hsv : c.slotW k h = c.base k + 5 + (sn : Int) * 2 := by rw [slotW_eq, hsn]
  rw [hsz2] at hsz hs hsl hln TL TZ
  obtain ⟨i1, hi1⟩ : ∃ i1 : Nat, IntKind.i64.wrap ((sn : Int) * 2) = (i1 : Int) := ⟨2 * sn, by rw [IntKind.wrap_i64]; omega⟩
  have hi1' : i1 = 2 * sn := by rw [IntKind.wrap_i64] at hi1; omega
  obtain ⟨i2, hi2⟩ : ∃ i2 : Nat, IntKind.i64.wrap (3 + (i1 : Int)) = (i2 : Int) := ⟨3 + i1, by rw [IntKind.wrap_i64]; omega⟩
  have hi2' : i2 = 3 + i1 := by rw [IntKind.wrap_i64] at hi2; omega
  obtain ⟨i3, hi3⟩ : ∃ i3 : Nat, IntKind.i64.wrap ((i2 : Int) + 1) = (i3 : Int) := ⟨i2 + 1, by rw [IntKind.wrap_i64]; omega⟩
  have hi3' : i3 = i2 + 1 := by rw [IntKind.wrap_i64] at hi3; omega
  have hcell := hsl (2 * sn + 1) (by omega)
  rw [show lo + (3 + (2 * sn + 1)) = lo + i3 by omega] at hcell
  have hval : c.base k + 5 + ((2 * sn + 1 : Nat) : Int) = c.slotW k h + 1 := by rw [hsv]; omega
  rw [hval] at hcell
  obtain ⟨rv, hrv⟩ : ∃ rv, c.slotW k h + 1 = rv := ⟨_, rfl⟩
  rw [hrv] at hcell
  rw [hrv]
  have hi3b : (i3 : Int) < (ln : Int) := by omega
  clear hsl hsv hval hrv hsn hs hi1' hi2' hi3' hsz hsz2 hln ht hk hg
  have HK0 := Lib.hid (hw0)
  have hbk0 : wb < w.heap.size := hwb
  have HK1 := Lib.hid (hcell)
  have hbk1 : lb < w.heap.size := hlb
  obtain ⟨W, hW, HB, R0, hz⟩ := one_new w (.cells #[.int .i64 code, .int .i64 pc, .slice (some ⟨wb, wo, none⟩) 3 wc, .slice (some ⟨lb, lo, none⟩) ln lc, .slice none 0 0] 60)
  have HW := Lib.hid hW
  clear hW
  go_enter Try.func50, Try.ntmps50
  go_upto_region 1 with fail
  rw [HW.out]
  clear HW
  obtain ⟨x0_0, x0_1, x0_2, x0_3, x0_4⟩ := rowc5 R0.out
  have ck0 := (HB.out.cell (p := ⟨wb, wo, none⟩) hbk0).trans HK0.out
  have ck1 := (HB.out.cell (p := ⟨lb, lo + i3, none⟩) hbk1).trans HK1.out
  have Xx0_0 := ext_cell _ _ (ltR R0) _ x0_0
  have Xx0_1 := ext_cell _ _ (ltR R0) _ x0_1
  have Xx0_2 := ext_cell _ _ (ltR R0) _ x0_2
  have Xx0_3 := ext_cell _ _ (ltR R0) _ x0_3
  have Xx0_4 := ext_cell _ _ (ltR R0) _ x0_4
  have Xck0 := ext_cell _ _ (Nat.lt_of_lt_of_le hbk0 HB.out.size) _ ck0
  have Xck1 := ext_cell _ _ (Nat.lt_of_lt_of_le hbk1 HB.out.size) _ ck1
  clear x0_0 x0_1 x0_2 x0_3 x0_4 ck0 ck1
  refine wp_region_ext W (by kernel_rfl) (by kernel_rfl) (Below.refl _ _) ?_
  repeat (go_big_quiet_step (first
    | (go_at_call 51; with_reducible exact calls_ext (TZ.out _))
    | (go_at_call 71; with_reducible exact calls_ext ((TL.out _).mono (fun e w' h => ⟨h.1, h.2 ▸ Below.refl _ _⟩)))))
  refine wpQuiet_nil ?_
  intro _ hw'
  obtain ⟨n9, rfl⟩ := hw'
  have P1_0 := keepR n9.below R0
  have HB1 := Lib.hid (below_then HB.out n9.below)
  generalize n9.wd = w1 at *
  clear Xx0_0 Xx0_1 Xx0_2 Xx0_3 Xx0_4 Xck0 Xck1
  obtain ⟨x0_0, x0_1, x0_2, x0_3, x0_4⟩ := rowc5 P1_0.out
  have ck0 := (HB1.out.cell (p := ⟨wb, wo, none⟩) hbk0).trans HK0.out
  have ck1 := (HB1.out.cell (p := ⟨lb, lo + i3, none⟩) hbk1).trans HK1.out
  go_wp2_with fail
  go_ret
  exact ⟨rfl, HB1.out⟩
end Go.Proofs.Ytmkngpjjimalhaa
