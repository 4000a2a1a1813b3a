
import Derived.Test.YtcgcefoceefleaaB22
import Derived.Test.YtcgcefoceefleaaB23
set_option linter.unusedVariables false
set_option linter.unusedSimpArgs false
/- Layer 8: Resume of the program's machine that pushes. -/
namespace Go.Proofs.Ytcgcefoceefleaa
open Go.ChangeShapes Go.WideShapes Go.ChangeAt Go.RowKit
set_option maxRecDepth 100000

set_option maxRecDepth 100000 in
set_option maxHeartbeats 16000000 in
theorem pRes1c (c : ConfM) (k : Nat) (hk : k < c.caps.length) (hg : c.good) (val t : Int) (ht : U64 t) (W L : Value) (w : World) (hv : PuV w c k val t W L) (b : Int) (p q : Bool) (aa : Option Addr) (n ac : Nat) (h0 : 0 ≤ b) (h1 : b < 18446744073709551616) (hcl : closedB b = true) : Calls Try.prog 16 #[.agg (puL 0 1 W L).toArray, .agg #[.int .u64 b, .bool p, .bool q, .slice aa n ac]] w fun e w' => e = .returned (.agg (puL 4 8 nilS nilS).toArray) ∧ Below w.heap.size w w' := by
  obtain ⟨wb, wo, wc, lb, lo, lc, rfl, rfl, hwb, hlb, hw0, hw1, hl0, hl1, hl2, hls⟩ := hv.open
  obtain ⟨ln, hln⟩ : ∃ ln, (ringL c k).length = ln := ⟨_, rfl⟩
  have hln5 : 5 ≤ ln := by rw [← hln, ringL_length]; have := hg.size k hk; omega
  rw [hln]
  have HK0 := Lib.hid (hw0)
  have hbk0 : wb < w.heap.size := hwb
  have HK1 := Lib.hid (hw1)
  have hbk1 : wb < w.heap.size := hwb
  have HK2 := Lib.hid (hl2)
  have hbk2 : lb < w.heap.size := hlb
  obtain ⟨W, hW, HB, R0, R1, R2, hz⟩ := three_new w (.cells #[.int .i64 0, .int .i64 1, .slice (some ⟨wb, wo, none⟩) 2 wc, .slice (some ⟨lb, lo, none⟩) ln lc, .slice none 0 0] 60) (.cells #[.int .u64 b, .bool p, .bool q, .slice aa n ac] 52) (.cells #[.int .i64 0, .int .i64 0, .slice none 0 0, .slice none 0 0, .slice none 0 0] 60)
  have HW := Lib.hid hW
  clear hW
  have TCM := Lib.hid fun w' => complete_run 0 1 wb wo wc lb lo ln lc hln5 w'
  have TEN := Lib.hid fun k w' => end_any k w'
  have TCL := Lib.hid fun w' => closed_any b w' h0 h1
  rw [hcl] at TCL
  clear hcl h0 h1
  clear hls
  unfold puL
  try dsimp only
  have hi1 : 1 < ln := by omega
  have hi2 : 2 < ln := by omega
  have hI2 : (2 : Int) < (ln : Int) := by omega
  clear ht hk hg hln5 hln
  go_enter Try.func16, Try.ntmps16
  go_wp2_with fail
  rw [HW.out]
  clear HW
  refine wp_scopes 4 fun f HF => ?_
  obtain ⟨x0_0, x0_1, x0_2, x0_3, x0_4⟩ := rowc5 R0.out
  obtain ⟨x1_0, x1_1, x1_2, x1_3⟩ := rowc4 R1.out
  have ck0 := (HB.out.cell (p := ⟨wb, wo, none⟩) hbk0).trans HK0.out
  have ck1 := (HB.out.cell (p := ⟨wb, wo + 1, none⟩) hbk1).trans HK1.out
  have ck2 := (HB.out.cell (p := ⟨lb, lo + 2, none⟩) hbk2).trans HK2.out
  go_wp2_with fail
  refine (TCM.out _).mono ?_; rintro e w1 ⟨rfl, hb1⟩
  have P1_0 := Lib.hid ((hb1.block w.heap.size (Array.getElem?_eq_some_iff.1 R0.out).1).trans R0.out)
  have P1_1 := Lib.hid ((hb1.block (w.heap.size + 1) (Array.getElem?_eq_some_iff.1 R1.out).1).trans R1.out)
  have P1_2 := Lib.hid ((hb1.block (w.heap.size + 2) (Array.getElem?_eq_some_iff.1 R2.out).1).trans R2.out)
  have HB1 := Lib.hid (below_then HB.out hb1)
  clear x0_0 x0_1 x0_2 x0_3 x0_4 x1_0 x1_1 x1_2 x1_3 ck0 ck1 ck2
  clear hb1
  obtain ⟨x0_0, x0_1, x0_2, x0_3, x0_4⟩ := rowc5 P1_0.out
  obtain ⟨x1_0, x1_1, x1_2, x1_3⟩ := rowc4 P1_1.out
  have ck0 := (HB1.out.cell (p := ⟨wb, wo, none⟩) hbk0).trans HK0.out
  have ck1 := (HB1.out.cell (p := ⟨wb, wo + 1, none⟩) hbk1).trans HK1.out
  have ck2 := (HB1.out.cell (p := ⟨lb, lo + 2, none⟩) hbk2).trans HK2.out
  go_wp2_with fail
  go_step3
  refine scopes_goto ((HF.out 0).trans rfl) ?_
  go_wp2_with fail
  refine (TCL.out _).mono ?_; rintro e w' ⟨rfl, rfl⟩
  go_wp2_with fail
  refine (TEN.out _ _).mono ?_; rintro e w2 ⟨rfl, hb2⟩
  have P2_0 := Lib.hid ((hb2.block w.heap.size (Array.getElem?_eq_some_iff.1 P1_0.out).1).trans P1_0.out)
  have P2_1 := Lib.hid ((hb2.block (w.heap.size + 1) (Array.getElem?_eq_some_iff.1 P1_1.out).1).trans P1_1.out)
  have P2_2 := Lib.hid ((hb2.block (w.heap.size + 2) (Array.getElem?_eq_some_iff.1 P1_2.out).1).trans P1_2.out)
  have HB2 := Lib.hid (below_then HB1.out hb2)
  clear x0_0 x0_1 x0_2 x0_3 x0_4 x1_0 x1_1 x1_2 x1_3 ck0 ck1 ck2
  clear hb2
  obtain ⟨x0_0, x0_1, x0_2, x0_3, x0_4⟩ := rowc5 P2_0.out
  obtain ⟨x1_0, x1_1, x1_2, x1_3⟩ := rowc4 P2_1.out
  have ck0 := (HB2.out.cell (p := ⟨wb, wo, none⟩) hbk0).trans HK0.out
  have ck1 := (HB2.out.cell (p := ⟨wb, wo + 1, none⟩) hbk1).trans HK1.out
  have ck2 := (HB2.out.cell (p := ⟨lb, lo + 2, none⟩) hbk2).trans HK2.out
  clear x0_0 x0_1 x0_2 x0_3 x0_4 x1_0 x1_1 x1_2 x1_3 ck0 ck1 ck2
  go_wp2_with (refine wpList_store_row rfl 60 _ _ rfl (w.heap.size + 2) _ rfl rfl 60 #[.int .i64 0, .int .i64 0, .slice none 0 0, .slice none 0 0, .slice none 0 0] P2_2.out (by kernel_rfl) rfl (by simp [Value.oneCell']) ?_)
  try rw [scopes_ret]
  refine bodyPost_ret (v := .agg #[.int .i64 4, .int .i64 8, .slice none 0 0, .slice none 0 0, .slice none 0 0]) (results_cell_row Try.results16 _ _ (w.heap.size + 2) 60 _ (0, 0) _ rfl (setRow_heap _ _ _ _ 60 (0, 0) P2_2.out) Try.underlying60 rfl (by kernel_rfl)) rfl ?_
  exact ⟨rfl, row_below HB2.out (by omega) _⟩
set_option maxRecDepth 100000 in
set_option maxHeartbeats 16000000 in
theorem pRes7 (c : ConfM) (k : Nat) (hk : k < c.caps.length) (hg : c.good) (val t : Int) (ht : U64 t) (W L : Value) (w : World) (hv : PuV w c k val t W L) (b : Int) (p q : Bool) (aa : Option Addr) (n ac : Nat) : Calls Try.prog 16 #[.agg (puL 0 7 W L).toArray, .agg #[.int .u64 b, .bool p, .bool q, .slice aa n ac]] w fun e w' => e = .returned (.agg (puL 1 8 nilS nilS).toArray) ∧ Below w.heap.size w w' := by
  obtain ⟨wb, wo, wc, lb, lo, lc, rfl, rfl, hwb, hlb, hw0, hw1, hl0, hl1, hl2, hls⟩ := hv.open
  obtain ⟨ln, hln⟩ : ∃ ln, (ringL c k).length = ln := ⟨_, rfl⟩
  have hln5 : 5 ≤ ln := by rw [← hln, ringL_length]; have := hg.size k hk; omega
  rw [hln]
  have HK0 := Lib.hid (hw0)
  have hbk0 : wb < w.heap.size := hwb
  have HK1 := Lib.hid (hw1)
  have hbk1 : wb < w.heap.size := hwb
  have HK2 := Lib.hid (hl2)
  have hbk2 : lb < w.heap.size := hlb
  obtain ⟨W, hW, HB, R0, R1, R2, hz⟩ := three_new w (.cells #[.int .i64 0, .int .i64 7, .slice (some ⟨wb, wo, none⟩) 2 wc, .slice (some ⟨lb, lo, none⟩) ln lc, .slice none 0 0] 60) (.cells #[.int .u64 b, .bool p, .bool q, .slice aa n ac] 52) (.cells #[.int .i64 0, .int .i64 0, .slice none 0 0, .slice none 0 0, .slice none 0 0] 60)
  have HW := Lib.hid hW
  clear hW
  have TCM := Lib.hid fun w' => complete_run 0 7 wb wo wc lb lo ln lc hln5 w'
  have TEN := Lib.hid fun k w' => end_any k w'
  clear hls
  unfold puL
  try dsimp only
  have hi1 : 1 < ln := by omega
  have hi2 : 2 < ln := by omega
  have hI2 : (2 : Int) < (ln : Int) := by omega
  clear ht hk hg hln5 hln
  go_enter Try.func16, Try.ntmps16
  go_wp2_with fail
  rw [HW.out]
  clear HW
  refine wp_scopes 4 fun f HF => ?_
  obtain ⟨x0_0, x0_1, x0_2, x0_3, x0_4⟩ := rowc5 R0.out
  obtain ⟨x1_0, x1_1, x1_2, x1_3⟩ := rowc4 R1.out
  have ck0 := (HB.out.cell (p := ⟨wb, wo, none⟩) hbk0).trans HK0.out
  have ck1 := (HB.out.cell (p := ⟨wb, wo + 1, none⟩) hbk1).trans HK1.out
  have ck2 := (HB.out.cell (p := ⟨lb, lo + 2, none⟩) hbk2).trans HK2.out
  go_wp2_with fail
  refine (TCM.out _).mono ?_; rintro e w1 ⟨rfl, hb1⟩
  have P1_0 := Lib.hid ((hb1.block w.heap.size (Array.getElem?_eq_some_iff.1 R0.out).1).trans R0.out)
  have P1_1 := Lib.hid ((hb1.block (w.heap.size + 1) (Array.getElem?_eq_some_iff.1 R1.out).1).trans R1.out)
  have P1_2 := Lib.hid ((hb1.block (w.heap.size + 2) (Array.getElem?_eq_some_iff.1 R2.out).1).trans R2.out)
  have HB1 := Lib.hid (below_then HB.out hb1)
  clear x0_0 x0_1 x0_2 x0_3 x0_4 x1_0 x1_1 x1_2 x1_3 ck0 ck1 ck2
  clear hb1
  obtain ⟨x0_0, x0_1, x0_2, x0_3, x0_4⟩ := rowc5 P1_0.out
  obtain ⟨x1_0, x1_1, x1_2, x1_3⟩ := rowc4 P1_1.out
  have ck0 := (HB1.out.cell (p := ⟨wb, wo, none⟩) hbk0).trans HK0.out
  have ck1 := (HB1.out.cell (p := ⟨wb, wo + 1, none⟩) hbk1).trans HK1.out
  have ck2 := (HB1.out.cell (p := ⟨lb, lo + 2, none⟩) hbk2).trans HK2.out
  go_wp2_with fail
  refine (TEN.out _ _).mono ?_; rintro e w2 ⟨rfl, hb2⟩
  have P2_0 := Lib.hid ((hb2.block w.heap.size (Array.getElem?_eq_some_iff.1 P1_0.out).1).trans P1_0.out)
  have P2_1 := Lib.hid ((hb2.block (w.heap.size + 1) (Array.getElem?_eq_some_iff.1 P1_1.out).1).trans P1_1.out)
  have P2_2 := Lib.hid ((hb2.block (w.heap.size + 2) (Array.getElem?_eq_some_iff.1 P1_2.out).1).trans P1_2.out)
  have HB2 := Lib.hid (below_then HB1.out hb2)
  clear x0_0 x0_1 x0_2 x0_3 x0_4 x1_0 x1_1 x1_2 x1_3 ck0 ck1 ck2
  clear hb2
  obtain ⟨x0_0, x0_1, x0_2, x0_3, x0_4⟩ := rowc5 P2_0.out
  obtain ⟨x1_0, x1_1, x1_2, x1_3⟩ := rowc4 P2_1.out
  have ck0 := (HB2.out.cell (p := ⟨wb, wo, none⟩) hbk0).trans HK0.out
  have ck1 := (HB2.out.cell (p := ⟨wb, wo + 1, none⟩) hbk1).trans HK1.out
  have ck2 := (HB2.out.cell (p := ⟨lb, lo + 2, none⟩) hbk2).trans HK2.out
  clear x0_0 x0_1 x0_2 x0_3 x0_4 x1_0 x1_1 x1_2 x1_3 ck0 ck1 ck2
  go_wp2_with (refine wpList_store_row rfl 60 _ _ rfl (w.heap.size + 2) _ rfl rfl 60 #[.int .i64 0, .int .i64 0, .slice none 0 0, .slice none 0 0, .slice none 0 0] P2_2.out (by kernel_rfl) rfl (by simp [Value.oneCell']) ?_)
  try rw [scopes_ret]
  refine bodyPost_ret (v := .agg #[.int .i64 1, .int .i64 8, .slice none 0 0, .slice none 0 0, .slice none 0 0]) (results_cell_row Try.results16 _ _ (w.heap.size + 2) 60 _ (0, 0) _ rfl (setRow_heap _ _ _ _ 60 (0, 0) P2_2.out) Try.underlying60 rfl (by kernel_rfl)) rfl ?_
  exact ⟨rfl, row_below HB2.out (by omega) _⟩
set_option maxRecDepth 100000 in
set_option maxHeartbeats 16000000 in
theorem pRes6 (c : ConfM) (k : Nat) (hk : k < c.caps.length) (hg : c.good) (val t : Int) (ht : U64 t) (W L : Value) (w : World) (hv : PuV w c k val t W L) (b : Int) (p q : Bool) (aa : Option Addr) (n ac : Nat) : Calls Try.prog 16 #[.agg (puL 0 6 W L).toArray, .agg #[.int .u64 b, .bool p, .bool q, .slice aa n ac]] w fun e w' => e = .returned (.agg (puL 0 7 W L).toArray) ∧ Below w.heap.size w w' := by
  obtain ⟨wb, wo, wc, lb, lo, lc, rfl, rfl, hwb, hlb, hw0, hw1, hl0, hl1, hl2, hls⟩ := hv.open
  obtain ⟨ln, hln⟩ : ∃ ln, (ringL c k).length = ln := ⟨_, rfl⟩
  have hln5 : 5 ≤ ln := by rw [← hln, ringL_length]; have := hg.size k hk; omega
  rw [hln]
  have HK0 := Lib.hid (hw0)
  have hbk0 : wb < w.heap.size := hwb
  have HK1 := Lib.hid (hw1)
  have hbk1 : wb < w.heap.size := hwb
  have HK2 := Lib.hid (hl2)
  have hbk2 : lb < w.heap.size := hlb
  obtain ⟨W, hW, HB, R0, R1, R2, hz⟩ := three_new w (.cells #[.int .i64 0, .int .i64 6, .slice (some ⟨wb, wo, none⟩) 2 wc, .slice (some ⟨lb, lo, none⟩) ln lc, .slice none 0 0] 60) (.cells #[.int .u64 b, .bool p, .bool q, .slice aa n ac] 52) (.cells #[.int .i64 0, .int .i64 0, .slice none 0 0, .slice none 0 0, .slice none 0 0] 60)
  have HW := Lib.hid hW
  clear hW
  have TCM := Lib.hid fun w' => complete_run 0 6 wb wo wc lb lo ln lc hln5 w'
  have TEN := Lib.hid fun k w' => end_any k w'
  clear hls
  unfold puL
  try dsimp only
  have hi1 : 1 < ln := by omega
  have hi2 : 2 < ln := by omega
  have hI2 : (2 : Int) < (ln : Int) := by omega
  clear ht hk hg hln5 hln
  go_enter Try.func16, Try.ntmps16
  go_wp2_with fail
  rw [HW.out]
  clear HW
  refine wp_scopes 4 fun f HF => ?_
  obtain ⟨x0_0, x0_1, x0_2, x0_3, x0_4⟩ := rowc5 R0.out
  obtain ⟨x1_0, x1_1, x1_2, x1_3⟩ := rowc4 R1.out
  have ck0 := (HB.out.cell (p := ⟨wb, wo, none⟩) hbk0).trans HK0.out
  have ck1 := (HB.out.cell (p := ⟨wb, wo + 1, none⟩) hbk1).trans HK1.out
  have ck2 := (HB.out.cell (p := ⟨lb, lo + 2, none⟩) hbk2).trans HK2.out
  go_wp2_with fail
  refine (TCM.out _).mono ?_; rintro e w1 ⟨rfl, hb1⟩
  have P1_0 := Lib.hid ((hb1.block w.heap.size (Array.getElem?_eq_some_iff.1 R0.out).1).trans R0.out)
  have P1_1 := Lib.hid ((hb1.block (w.heap.size + 1) (Array.getElem?_eq_some_iff.1 R1.out).1).trans R1.out)
  have P1_2 := Lib.hid ((hb1.block (w.heap.size + 2) (Array.getElem?_eq_some_iff.1 R2.out).1).trans R2.out)
  have HB1 := Lib.hid (below_then HB.out hb1)
  clear x0_0 x0_1 x0_2 x0_3 x0_4 x1_0 x1_1 x1_2 x1_3 ck0 ck1 ck2
  clear hb1
  obtain ⟨x0_0, x0_1, x0_2, x0_3, x0_4⟩ := rowc5 P1_0.out
  obtain ⟨x1_0, x1_1, x1_2, x1_3⟩ := rowc4 P1_1.out
  have ck0 := (HB1.out.cell (p := ⟨wb, wo, none⟩) hbk0).trans HK0.out
  have ck1 := (HB1.out.cell (p := ⟨wb, wo + 1, none⟩) hbk1).trans HK1.out
  have ck2 := (HB1.out.cell (p := ⟨lb, lo + 2, none⟩) hbk2).trans HK2.out
  go_wp2_with fail
  go_step3
  refine scopes_goto ((HF.out 5).trans rfl) ?_
  go_upto_region 35 with fail
  have fz := frozen_of_row w1 w.heap.size 1 _ _ P1_0.out
  have r1 := heap_setCell_same w1 w.heap.size 1 _ _ (.int .i64 7) P1_0.out
  simp at r1
  have P2_0 := Lib.hid r1
  clear r1
  have P2_1 := Lib.hid ((heap_setCell_other w1 ⟨w.heap.size, 1, none⟩ (w.heap.size + 1) (.int .i64 7) (by show w.heap.size + 1 ≠ w.heap.size; omega)).trans P1_1.out)
  have P2_2 := Lib.hid ((heap_setCell_other w1 ⟨w.heap.size, 1, none⟩ (w.heap.size + 2) (.int .i64 7) (by show w.heap.size + 2 ≠ w.heap.size; omega)).trans P1_2.out)
  have HB2 := Lib.hid (HB1.out.setCell (p := ⟨w.heap.size, 1, none⟩) (by show w.heap.size ≤ w.heap.size; omega) (.int .i64 7))
  obtain ⟨W2, hW2⟩ : ∃ W2, w1.setCell ⟨w.heap.size, 1, none⟩ (.int .i64 7) = W2 := ⟨_, rfl⟩
  rw [hW2] at P2_0 P2_1 P2_2 HB2
  have HW2 := Lib.hid hW2
  clear hW2
  go_upto_region 36 with fail
  rw [HW2.out]
  clear x0_0 x0_1 x0_2 x0_3 x0_4 x1_0 x1_1 x1_2 x1_3 ck0 ck1 ck2
  clear fz HW2
  obtain ⟨x0_0, x0_1, x0_2, x0_3, x0_4⟩ := rowc5 P2_0.out
  obtain ⟨x1_0, x1_1, x1_2, x1_3⟩ := rowc4 P2_1.out
  have ck0 := (HB2.out.cell (p := ⟨wb, wo, none⟩) hbk0).trans HK0.out
  have ck1 := (HB2.out.cell (p := ⟨wb, wo + 1, none⟩) hbk1).trans HK1.out
  have ck2 := (HB2.out.cell (p := ⟨lb, lo + 2, none⟩) hbk2).trans HK2.out
  go_wp2_with (refine wpList_store_row rfl 60 _ _ rfl (w.heap.size + 2) _ rfl rfl 60 #[.int .i64 0, .int .i64 0, .slice none 0 0, .slice none 0 0, .slice none 0 0] P2_2.out (by kernel_rfl) rfl (by simp [Value.oneCell']) ?_)
  try rw [scopes_ret]
  refine bodyPost_ret (v := .agg #[.int .i64 0, .int .i64 7, .slice (some ⟨wb, wo, none⟩) 2 wc, .slice (some ⟨lb, lo, none⟩) ln lc, .slice none 0 0]) (results_cell_row Try.results16 _ _ (w.heap.size + 2) 60 _ (0, 0) _ rfl (setRow_heap _ _ _ _ 60 (0, 0) P2_2.out) Try.underlying60 rfl (by kernel_rfl)) rfl ?_
  exact ⟨rfl, row_below HB2.out (by omega) _⟩
set_option maxRecDepth 100000 in
set_option maxHeartbeats 16000000 in
theorem pRes5k (c : ConfM) (k : Nat) (hk : k < c.caps.length) (hg : c.good) (val t : Int) (ht : U64 t) (W L : Value) (w : World) (hv : PuV w c k val t W L) (b : Int) (q : Bool) (aa : Option Addr) (n ac : Nat) : Calls Try.prog 16 #[.agg (puL 0 5 W L).toArray, .agg #[.int .u64 b, .bool true, .bool q, .slice aa n ac]] w fun e w' => e = .returned (.agg (puL 0 6 W L).toArray) ∧ Below w.heap.size w w' := by
  obtain ⟨wb, wo, wc, lb, lo, lc, rfl, rfl, hwb, hlb, hw0, hw1, hl0, hl1, hl2, hls⟩ := hv.open
  obtain ⟨ln, hln⟩ : ∃ ln, (ringL c k).length = ln := ⟨_, rfl⟩
  have hln5 : 5 ≤ ln := by rw [← hln, ringL_length]; have := hg.size k hk; omega
  rw [hln]
  have HK0 := Lib.hid (hw0)
  have hbk0 : wb < w.heap.size := hwb
  have HK1 := Lib.hid (hw1)
  have hbk1 : wb < w.heap.size := hwb
  have HK2 := Lib.hid (hl2)
  have hbk2 : lb < w.heap.size := hlb
  obtain ⟨W, hW, HB, R0, R1, R2, hz⟩ := three_new w (.cells #[.int .i64 0, .int .i64 5, .slice (some ⟨wb, wo, none⟩) 2 wc, .slice (some ⟨lb, lo, none⟩) ln lc, .slice none 0 0] 60) (.cells #[.int .u64 b, .bool true, .bool q, .slice aa n ac] 52) (.cells #[.int .i64 0, .int .i64 0, .slice none 0 0, .slice none 0 0, .slice none 0 0] 60)
  have HW := Lib.hid hW
  clear hW
  have TCM := Lib.hid fun w' => complete_run 0 5 wb wo wc lb lo ln lc hln5 w'
  have TEN := Lib.hid fun k w' => end_any k w'
  clear hls
  unfold puL
  try dsimp only
  have hi1 : 1 < ln := by omega
  have hi2 : 2 < ln := by omega
  have hI2 : (2 : Int) < (ln : Int) := by omega
  clear ht hk hg hln5 hln
  go_enter Try.func16, Try.ntmps16
  go_wp2_with fail
  rw [HW.out]
  clear HW
  refine wp_scopes 4 fun f HF => ?_
  obtain ⟨x0_0, x0_1, x0_2, x0_3, x0_4⟩ := rowc5 R0.out
  obtain ⟨x1_0, x1_1, x1_2, x1_3⟩ := rowc4 R1.out
  have ck0 := (HB.out.cell (p := ⟨wb, wo, none⟩) hbk0).trans HK0.out
  have ck1 := (HB.out.cell (p := ⟨wb, wo + 1, none⟩) hbk1).trans HK1.out
  have ck2 := (HB.out.cell (p := ⟨lb, lo + 2, none⟩) hbk2).trans HK2.out
  go_wp2_with fail
  refine (TCM.out _).mono ?_; rintro e w1 ⟨rfl, hb1⟩
  have P1_0 := Lib.hid ((hb1.block w.heap.size (Array.getElem?_eq_some_iff.1 R0.out).1).trans R0.out)
  have P1_1 := Lib.hid ((hb1.block (w.heap.size + 1) (Array.getElem?_eq_some_iff.1 R1.out).1).trans R1.out)
  have P1_2 := Lib.hid ((hb1.block (w.heap.size + 2) (Array.getElem?_eq_some_iff.1 R2.out).1).trans R2.out)
  have HB1 := Lib.hid (below_then HB.out hb1)
  clear x0_0 x0_1 x0_2 x0_3 x0_4 x1_0 x1_1 x1_2 x1_3 ck0 ck1 ck2
  clear hb1
  obtain ⟨x0_0, x0_1, x0_2, x0_3, x0_4⟩ := rowc5 P1_0.out
  obtain ⟨x1_0, x1_1, x1_2, x1_3⟩ := rowc4 P1_1.out
  have ck0 := (HB1.out.cell (p := ⟨wb, wo, none⟩) hbk0).trans HK0.out
  have ck1 := (HB1.out.cell (p := ⟨wb, wo + 1, none⟩) hbk1).trans HK1.out
  have ck2 := (HB1.out.cell (p := ⟨lb, lo + 2, none⟩) hbk2).trans HK2.out
  go_wp2_with fail
  go_step3
  refine scopes_goto ((HF.out 4).trans rfl) ?_
  go_upto_region 33 with fail
  have fz := frozen_of_row w1 w.heap.size 1 _ _ P1_0.out
  have r1 := heap_setCell_same w1 w.heap.size 1 _ _ (.int .i64 6) P1_0.out
  simp at r1
  have P2_0 := Lib.hid r1
  clear r1
  have P2_1 := Lib.hid ((heap_setCell_other w1 ⟨w.heap.size, 1, none⟩ (w.heap.size + 1) (.int .i64 6) (by show w.heap.size + 1 ≠ w.heap.size; omega)).trans P1_1.out)
  have P2_2 := Lib.hid ((heap_setCell_other w1 ⟨w.heap.size, 1, none⟩ (w.heap.size + 2) (.int .i64 6) (by show w.heap.size + 2 ≠ w.heap.size; omega)).trans P1_2.out)
  have HB2 := Lib.hid (HB1.out.setCell (p := ⟨w.heap.size, 1, none⟩) (by show w.heap.size ≤ w.heap.size; omega) (.int .i64 6))
  obtain ⟨W2, hW2⟩ : ∃ W2, w1.setCell ⟨w.heap.size, 1, none⟩ (.int .i64 6) = W2 := ⟨_, rfl⟩
  rw [hW2] at P2_0 P2_1 P2_2 HB2
  have HW2 := Lib.hid hW2
  clear hW2
  go_upto_region 34 with fail
  rw [HW2.out]
  clear x0_0 x0_1 x0_2 x0_3 x0_4 x1_0 x1_1 x1_2 x1_3 ck0 ck1 ck2
  clear fz HW2
  obtain ⟨x0_0, x0_1, x0_2, x0_3, x0_4⟩ := rowc5 P2_0.out
  obtain ⟨x1_0, x1_1, x1_2, x1_3⟩ := rowc4 P2_1.out
  have ck0 := (HB2.out.cell (p := ⟨wb, wo, none⟩) hbk0).trans HK0.out
  have ck1 := (HB2.out.cell (p := ⟨wb, wo + 1, none⟩) hbk1).trans HK1.out
  have ck2 := (HB2.out.cell (p := ⟨lb, lo + 2, none⟩) hbk2).trans HK2.out
  go_wp2_with (refine wpList_store_row rfl 60 _ _ rfl (w.heap.size + 2) _ rfl rfl 60 #[.int .i64 0, .int .i64 0, .slice none 0 0, .slice none 0 0, .slice none 0 0] P2_2.out (by kernel_rfl) rfl (by simp [Value.oneCell']) ?_)
  try rw [scopes_ret]
  refine bodyPost_ret (v := .agg #[.int .i64 0, .int .i64 6, .slice (some ⟨wb, wo, none⟩) 2 wc, .slice (some ⟨lb, lo, none⟩) ln lc, .slice none 0 0]) (results_cell_row Try.results16 _ _ (w.heap.size + 2) 60 _ (0, 0) _ rfl (setRow_heap _ _ _ _ 60 (0, 0) P2_2.out) Try.underlying60 rfl (by kernel_rfl)) rfl ?_
  exact ⟨rfl, row_below HB2.out (by omega) _⟩
set_option maxRecDepth 100000 in
set_option maxHeartbeats 16000000 in
theorem pRes5n (c : ConfM) (k : Nat) (hk : k < c.caps.length) (hg : c.good) (val t : Int) (ht : U64 t) (W L : Value) (w : World) (hv : PuV w c k val t W L) (b : Int) (q : Bool) (aa : Option Addr) (n ac : Nat) : Calls Try.prog 16 #[.agg (puL 0 5 W L).toArray, .agg #[.int .u64 b, .bool false, .bool q, .slice aa n ac]] w fun e w' => e = .returned (.agg (puL 0 1 W L).toArray) ∧ Below w.heap.size w w' := by
  obtain ⟨wb, wo, wc, lb, lo, lc, rfl, rfl, hwb, hlb, hw0, hw1, hl0, hl1, hl2, hls⟩ := hv.open
  obtain ⟨ln, hln⟩ : ∃ ln, (ringL c k).length = ln := ⟨_, rfl⟩
  have hln5 : 5 ≤ ln := by rw [← hln, ringL_length]; have := hg.size k hk; omega
  rw [hln]
  have HK0 := Lib.hid (hw0)
  have hbk0 : wb < w.heap.size := hwb
  have HK1 := Lib.hid (hw1)
  have hbk1 : wb < w.heap.size := hwb
  have HK2 := Lib.hid (hl2)
  have hbk2 : lb < w.heap.size := hlb
  obtain ⟨W, hW, HB, R0, R1, R2, hz⟩ := three_new w (.cells #[.int .i64 0, .int .i64 5, .slice (some ⟨wb, wo, none⟩) 2 wc, .slice (some ⟨lb, lo, none⟩) ln lc, .slice none 0 0] 60) (.cells #[.int .u64 b, .bool false, .bool q, .slice aa n ac] 52) (.cells #[.int .i64 0, .int .i64 0, .slice none 0 0, .slice none 0 0, .slice none 0 0] 60)
  have HW := Lib.hid hW
  clear hW
  have TCM := Lib.hid fun w' => complete_run 0 5 wb wo wc lb lo ln lc hln5 w'
  have TEN := Lib.hid fun k w' => end_any k w'
  clear hls
  unfold puL
  try dsimp only
  have hi1 : 1 < ln := by omega
  have hi2 : 2 < ln := by omega
  have hI2 : (2 : Int) < (ln : Int) := by omega
  clear ht hk hg hln5 hln
  go_enter Try.func16, Try.ntmps16
  go_wp2_with fail
  rw [HW.out]
  clear HW
  refine wp_scopes 4 fun f HF => ?_
  obtain ⟨x0_0, x0_1, x0_2, x0_3, x0_4⟩ := rowc5 R0.out
  obtain ⟨x1_0, x1_1, x1_2, x1_3⟩ := rowc4 R1.out
  have ck0 := (HB.out.cell (p := ⟨wb, wo, none⟩) hbk0).trans HK0.out
  have ck1 := (HB.out.cell (p := ⟨wb, wo + 1, none⟩) hbk1).trans HK1.out
  have ck2 := (HB.out.cell (p := ⟨lb, lo + 2, none⟩) hbk2).trans HK2.out
  go_wp2_with fail
  refine (TCM.out _).mono ?_; rintro e w1 ⟨rfl, hb1⟩
  have P1_0 := Lib.hid ((hb1.block w.heap.size (Array.getElem?_eq_some_iff.1 R0.out).1).trans R0.out)
  have P1_1 := Lib.hid ((hb1.block (w.heap.size + 1) (Array.getElem?_eq_some_iff.1 R1.out).1).trans R1.out)
  have P1_2 := Lib.hid ((hb1.block (w.heap.size + 2) (Array.getElem?_eq_some_iff.1 R2.out).1).trans R2.out)
  have HB1 := Lib.hid (below_then HB.out hb1)
  clear x0_0 x0_1 x0_2 x0_3 x0_4 x1_0 x1_1 x1_2 x1_3 ck0 ck1 ck2
  clear hb1
  obtain ⟨x0_0, x0_1, x0_2, x0_3, x0_4⟩ := rowc5 P1_0.out
  obtain ⟨x1_0, x1_1, x1_2, x1_3⟩ := rowc4 P1_1.out
  have ck0 := (HB1.out.cell (p := ⟨wb, wo, none⟩) hbk0).trans HK0.out
  have ck1 := (HB1.out.cell (p := ⟨wb, wo + 1, none⟩) hbk1).trans HK1.out
  have ck2 := (HB1.out.cell (p := ⟨lb, lo + 2, none⟩) hbk2).trans HK2.out
  go_wp2_with fail
  go_step3
  refine scopes_goto ((HF.out 4).trans rfl) ?_
  go_wp2_with fail
  go_step3
  refine scopes_goto ((HF.out 6).trans rfl) ?_
  go_upto_region 13 with fail
  have fz := frozen_of_row w1 w.heap.size 1 _ _ P1_0.out
  have r1 := heap_setCell_same w1 w.heap.size 1 _ _ (.int .i64 1) P1_0.out
  simp at r1
  have P2_0 := Lib.hid r1
  clear r1
  have P2_1 := Lib.hid ((heap_setCell_other w1 ⟨w.heap.size, 1, none⟩ (w.heap.size + 1) (.int .i64 1) (by show w.heap.size + 1 ≠ w.heap.size; omega)).trans P1_1.out)
  have P2_2 := Lib.hid ((heap_setCell_other w1 ⟨w.heap.size, 1, none⟩ (w.heap.size + 2) (.int .i64 1) (by show w.heap.size + 2 ≠ w.heap.size; omega)).trans P1_2.out)
  have HB2 := Lib.hid (HB1.out.setCell (p := ⟨w.heap.size, 1, none⟩) (by show w.heap.size ≤ w.heap.size; omega) (.int .i64 1))
  obtain ⟨W2, hW2⟩ : ∃ W2, w1.setCell ⟨w.heap.size, 1, none⟩ (.int .i64 1) = W2 := ⟨_, rfl⟩
  rw [hW2] at P2_0 P2_1 P2_2 HB2
  have HW2 := Lib.hid hW2
  clear hW2
  go_upto_region 14 with fail
  rw [HW2.out]
  clear x0_0 x0_1 x0_2 x0_3 x0_4 x1_0 x1_1 x1_2 x1_3 ck0 ck1 ck2
  clear fz HW2
  obtain ⟨x0_0, x0_1, x0_2, x0_3, x0_4⟩ := rowc5 P2_0.out
  obtain ⟨x1_0, x1_1, x1_2, x1_3⟩ := rowc4 P2_1.out
  have ck0 := (HB2.out.cell (p := ⟨wb, wo, none⟩) hbk0).trans HK0.out
  have ck1 := (HB2.out.cell (p := ⟨wb, wo + 1, none⟩) hbk1).trans HK1.out
  have ck2 := (HB2.out.cell (p := ⟨lb, lo + 2, none⟩) hbk2).trans HK2.out
  go_wp2_with (refine wpList_store_row rfl 60 _ _ rfl (w.heap.size + 2) _ rfl rfl 60 #[.int .i64 0, .int .i64 0, .slice none 0 0, .slice none 0 0, .slice none 0 0] P2_2.out (by kernel_rfl) rfl (by simp [Value.oneCell']) ?_)
  try rw [scopes_ret]
  refine bodyPost_ret (v := .agg #[.int .i64 0, .int .i64 1, .slice (some ⟨wb, wo, none⟩) 2 wc, .slice (some ⟨lb, lo, none⟩) ln lc, .slice none 0 0]) (results_cell_row Try.results16 _ _ (w.heap.size + 2) 60 _ (0, 0) _ rfl (setRow_heap _ _ _ _ 60 (0, 0) P2_2.out) Try.underlying60 rfl (by kernel_rfl)) rfl ?_
  exact ⟨rfl, row_below HB2.out (by omega) _⟩
set_option maxRecDepth 100000 in
set_option maxHeartbeats 16000000 in
theorem pRes1o (c : ConfM) (k : Nat) (hk : k < c.caps.length) (hg : c.good) (val t : Int) (ht : U64 t) (W L : Value) (w : World) (hv : PuV w c k val t W L) (b : Int) (p q : Bool) (aa : Option Addr) (n ac : Nat) (h0 : 0 ≤ b) (h1 : b < 18446744073709551616) (hcl : closedB b = false) : Calls Try.prog 16 #[.agg (puL 0 1 W L).toArray, .agg #[.int .u64 b, .bool p, .bool q, .slice aa n ac]] w fun e w' => ∃ nb, e = .returned (.agg (puL 0 2 (.slice (some ⟨nb, 0, none⟩) 2 2) L).toArray) ∧ Hid (w'.heap[nb]? = some (.cells #[.int .u64 val, .int .u64 b] 27 (0, 0))) ∧ Hid (w.heap.size ≤ nb) ∧ Hid (Below w.heap.size w w') := by
  obtain ⟨wb, wo, wc, lb, lo, lc, rfl, rfl, hwb, hlb, hw0, hw1, hl0, hl1, hl2, hls⟩ := hv.open
  obtain ⟨ln, hln⟩ : ∃ ln, (ringL c k).length = ln := ⟨_, rfl⟩
  have hln5 : 5 ≤ ln := by rw [← hln, ringL_length]; have := hg.size k hk; omega
  rw [hln]
  have HK0 := Lib.hid (hw0)
  have hbk0 : wb < w.heap.size := hwb
  have HK1 := Lib.hid (hw1)
  have hbk1 : wb < w.heap.size := hwb
  have HK2 := Lib.hid (hl2)
  have hbk2 : lb < w.heap.size := hlb
  obtain ⟨W, hW, HB, R0, R1, R2, hz⟩ := three_new w (.cells #[.int .i64 0, .int .i64 1, .slice (some ⟨wb, wo, none⟩) 2 wc, .slice (some ⟨lb, lo, none⟩) ln lc, .slice none 0 0] 60) (.cells #[.int .u64 b, .bool p, .bool q, .slice aa n ac] 52) (.cells #[.int .i64 0, .int .i64 0, .slice none 0 0, .slice none 0 0, .slice none 0 0] 60)
  have HW := Lib.hid hW
  clear hW
  have TCM := Lib.hid fun w' => complete_run 0 1 wb wo wc lb lo ln lc hln5 w'
  have TEN := Lib.hid fun k w' => end_any k w'
  have TCL := Lib.hid fun w' => closed_any b w' h0 h1
  rw [hcl] at TCL
  clear hcl h0 h1
  clear hls
  unfold puL
  try dsimp only
  have hi1 : 1 < ln := by omega
  have hi2 : 2 < ln := by omega
  have hI2 : (2 : Int) < (ln : Int) := by omega
  clear ht hk hg hln5 hln
  go_enter Try.func16, Try.ntmps16
  go_wp2_with fail
  rw [HW.out]
  clear HW
  refine wp_scopes 4 fun f HF => ?_
  obtain ⟨x0_0, x0_1, x0_2, x0_3, x0_4⟩ := rowc5 R0.out
  obtain ⟨x1_0, x1_1, x1_2, x1_3⟩ := rowc4 R1.out
  have ck0 := (HB.out.cell (p := ⟨wb, wo, none⟩) hbk0).trans HK0.out
  have ck1 := (HB.out.cell (p := ⟨wb, wo + 1, none⟩) hbk1).trans HK1.out
  have ck2 := (HB.out.cell (p := ⟨lb, lo + 2, none⟩) hbk2).trans HK2.out
  go_wp2_with fail
  refine (TCM.out _).mono ?_; rintro e w1 ⟨rfl, hb1⟩
  have P1_0 := Lib.hid ((hb1.block w.heap.size (Array.getElem?_eq_some_iff.1 R0.out).1).trans R0.out)
  have P1_1 := Lib.hid ((hb1.block (w.heap.size + 1) (Array.getElem?_eq_some_iff.1 R1.out).1).trans R1.out)
  have P1_2 := Lib.hid ((hb1.block (w.heap.size + 2) (Array.getElem?_eq_some_iff.1 R2.out).1).trans R2.out)
  have HB1 := Lib.hid (below_then HB.out hb1)
  clear x0_0 x0_1 x0_2 x0_3 x0_4 x1_0 x1_1 x1_2 x1_3 ck0 ck1 ck2
  clear hb1
  obtain ⟨x0_0, x0_1, x0_2, x0_3, x0_4⟩ := rowc5 P1_0.out
  obtain ⟨x1_0, x1_1, x1_2, x1_3⟩ := rowc4 P1_1.out
  have ck0 := (HB1.out.cell (p := ⟨wb, wo, none⟩) hbk0).trans HK0.out
  have ck1 := (HB1.out.cell (p := ⟨wb, wo + 1, none⟩) hbk1).trans HK1.out
  have ck2 := (HB1.out.cell (p := ⟨lb, lo + 2, none⟩) hbk2).trans HK2.out
  go_wp2_with fail
  go_step3
  refine scopes_goto ((HF.out 0).trans rfl) ?_
  go_wp2_with fail
  refine (TCL.out _).mono ?_; rintro e w' ⟨rfl, rfl⟩
  go_upto_region 17 with fail
  have KSn : Hid (∀ w', Below w1.heap.size w1 w' → (fun w' : World => (w'.cell? ⟨w.heap.size, 0, none⟩ = some (.int .i64 0) ∧ w'.cell? ⟨w.heap.size, 1, none⟩ = some (.int .i64 1) ∧ w'.cell? ⟨w.heap.size, 2, none⟩ = some (.slice (some ⟨wb, wo, none⟩) 2 wc) ∧ w'.cell? ⟨w.heap.size, 3, none⟩ = some (.slice (some ⟨lb, lo, none⟩) ln lc) ∧ w'.cell? ⟨w.heap.size, 4, none⟩ = some (.slice none 0 0)) ∧ (w'.cell? ⟨w.heap.size + 1, 0, none⟩ = some (.int .u64 b) ∧ w'.cell? ⟨w.heap.size + 1, 1, none⟩ = some (.bool p) ∧ w'.cell? ⟨w.heap.size + 1, 2, none⟩ = some (.bool q) ∧ w'.cell? ⟨w.heap.size + 1, 3, none⟩ = some (.slice aa n ac)) ∧ w'.cell? ⟨wb, wo, none⟩ = some (.int .u64 val) ∧ w'.cell? ⟨wb, wo + 1, none⟩ = some (.int .u64 t) ∧ w'.cell? ⟨lb, lo + 2, none⟩ = some (.int .i64 (c.caps.getD k 0))) w') := fun w' hb => ⟨rowc5 ((hb.block _ (Array.getElem?_eq_some_iff.1 P1_0.out).1).trans P1_0.out), rowc4 ((hb.block _ (Array.getElem?_eq_some_iff.1 P1_1.out).1).trans P1_1.out), (hb.cell (p := ⟨wb, wo, none⟩) (Nat.lt_of_lt_of_le hbk0 HB1.out.size)).trans ((HB1.out.cell (p := ⟨wb, wo, none⟩) hbk0).trans HK0.out), (hb.cell (p := ⟨wb, wo + 1, none⟩) (Nat.lt_of_lt_of_le hbk1 HB1.out.size)).trans ((HB1.out.cell (p := ⟨wb, wo + 1, none⟩) hbk1).trans HK1.out), (hb.cell (p := ⟨lb, lo + 2, none⟩) (Nat.lt_of_lt_of_le hbk2 HB1.out.size)).trans ((HB1.out.cell (p := ⟨lb, lo + 2, none⟩) hbk2).trans HK2.out)⟩
  clear x0_0 x0_1 x0_2 x0_3 x0_4 x1_0 x1_1 x1_2 x1_3 ck0 ck1 ck2
  go_cut [] (fun wx => ∃ nb : Nat, Hid (wx.heap[nb]? = some (.cells #[.int .u64 val, .int .u64 b] 27 (0, 0))) ∧ Hid (w.heap.size + 2 < nb) ∧ Hid (wx.heap[w.heap.size]? = some (.cells #[.int .i64 0, .int .i64 1, .slice (some ⟨nb, 0, none⟩) 2 2, .slice (some ⟨lb, lo, none⟩) ln lc, .slice none 0 0] 60 (0, 0))) ∧ Hid (wx.heap[w.heap.size + 1]? = some (.cells #[.int .u64 b, .bool p, .bool q, .slice aa n ac] 52 (0, 0))) ∧ Hid (wx.heap[w.heap.size + 2]? = some (.cells #[.int .i64 0, .int .i64 0, .slice none 0 0, .slice none 0 0, .slice none 0 0] 60 (0, 0))) ∧ Hid (Below w.heap.size w wx))
  case first =>
    refine untilK KSn 8 9 (by kernel_rfl) rfl ?_
    obtain ⟨u0, hu0, HU0⟩ := drew_pack w1
    rw [hu0]
    clear hu0
    have hSU0 := KSn.out _ HU0.out
    refine tkU (v := ?_) 0 la0 hSU0 (by kernel_rfl) (fun _ _ _ h => h) rfl ?_ ?_
    rotate_left
    · (intro w hSw; (try dsimp only at hSw); go_simp <;> with_reducible rfl)
    simp only [Act.put, List.setIfInBounds_toArray, List.set_cons_zero, List.set_cons_succ]
    refine tkU (v := ?_) 1 la1 hSU0 (by kernel_rfl) (fun _ _ _ h => h) rfl ?_ ?_
    rotate_left
    · (intro w hSw; (try dsimp only at hSw); go_simp <;> with_reducible rfl)
    simp only [Act.put, List.setIfInBounds_toArray, List.set_cons_zero, List.set_cons_succ]
    refine tkU (v := ?_) 2 la2 hSU0 (by kernel_rfl) (fun _ _ _ h => h) rfl ?_ ?_
    rotate_left
    · (intro w hSw; (try dsimp only at hSw); go_simp <;> with_reducible rfl)
    simp only [Act.put, List.setIfInBounds_toArray, List.set_cons_zero, List.set_cons_succ]
    refine tkU (v := ?_) 3 la3 hSU0 (by kernel_rfl) (fun _ _ _ h => h) rfl ?_ ?_
    rotate_left
    · (intro w hSw; (try dsimp only at hSw); go_simp <;> with_reducible rfl)
    simp only [Act.put, List.setIfInBounds_toArray, List.set_cons_zero, List.set_cons_succ]
    refine tkU (v := ?_) 4 la4 hSU0 (by kernel_rfl) (fun _ _ _ h => h) rfl ?_ ?_
    rotate_left
    · (intro w hSw; (try dsimp only at hSw); go_simp <;> with_reducible rfl)
    simp only [Act.put, List.setIfInBounds_toArray, List.set_cons_zero, List.set_cons_succ]
    refine tkU (v := ?_) 5 la5 hSU0 (by kernel_rfl) (fun _ _ _ h => h) rfl ?_ ?_
    rotate_left
    · (intro w hSw; (try dsimp only at hSw); go_simp <;> with_reducible rfl)
    simp only [Act.put, List.setIfInBounds_toArray, List.set_cons_zero, List.set_cons_succ]
    refine wpAnyU_ready (rs := [6]) (by kernel_rfl) rfl ?_
    refine AllReadyU.cons la6 rfl (fun K hK => ?_) ?_
    · go_simp
      obtain ⟨u1, nb, hv1, hX, RN, hbn, ltn⟩ := alloc_pack u0 (.cells #[.int .u64 val, .int .u64 b] 27)
      rw [hv1, hX]
      have gen : Hid (w.heap.size + 2 < nb) := by have h5 := HU0.out.size; have h6 := (Array.getElem?_eq_some_iff.1 P1_2.out).1; show w.heap.size + 2 < nb; omega
      have HU1 := Lib.hid (below_then HU0.out hbn.out)
      clear hv1 hX hbn
      refine hK.out _ _ ?_ (fun hSU1 => ?_)
      · exact KSn.out _ HU1.out
      clear hK K hSU0
      try simp only [Act.put, List.setIfInBounds_toArray, List.set_cons_zero, List.set_cons_succ]
      refine tkU (v := ?_) 7 la7 hSU1 (by kernel_rfl) (fun _ _ _ h => h) rfl ?_ ?_
      rotate_left
      · (intro w hSw; (try dsimp only at hSw); go_simp <;> with_reducible rfl)
      simp only [Act.put, List.setIfInBounds_toArray, List.set_cons_zero, List.set_cons_succ]
      refine wpAnyU_ready (rs := [8]) (by kernel_rfl) rfl ?_
      refine AllReadyU.free la8 rfl (by kernel_rfl) (fun K hK => ?_) ?_
      · have q0 := (HU1.out.block w.heap.size (Array.getElem?_eq_some_iff.1 P1_0.out).1).trans P1_0.out
        have fz := frozen_of_row _ _ 2 _ _ q0
        have r1 := heap_setCell_same _ w.heap.size 2 _ _ (.slice (some ⟨nb, 0, none⟩) 2 2) q0
        simp at r1
        have Q0 := Lib.hid r1
        have Q1 := Lib.hid ((heap_setCell_other u1 ⟨w.heap.size, 2, none⟩ (w.heap.size + 1) (.slice (some ⟨nb, 0, none⟩) 2 2) (by show w.heap.size + 1 ≠ w.heap.size; omega)).trans ((HU1.out.block (w.heap.size + 1) (Array.getElem?_eq_some_iff.1 P1_1.out).1).trans P1_1.out))
        have Q2 := Lib.hid ((heap_setCell_other u1 ⟨w.heap.size, 2, none⟩ (w.heap.size + 2) (.slice (some ⟨nb, 0, none⟩) 2 2) (by show w.heap.size + 2 ≠ w.heap.size; omega)).trans ((HU1.out.block (w.heap.size + 2) (Array.getElem?_eq_some_iff.1 P1_2.out).1).trans P1_2.out))
        have QN := Lib.hid ((heap_setCell_other u1 ⟨w.heap.size, 2, none⟩ nb (.slice (some ⟨nb, 0, none⟩) 2 2) (by have := gen.out; show nb ≠ w.heap.size; omega)).trans RN.out)
        have HU2 := Lib.hid ((below_then HB1.out HU1.out).setCell (p := ⟨w.heap.size, 2, none⟩) (Nat.le_refl _) (.slice (some ⟨nb, 0, none⟩) 2 2))
        clear r1
        have c2 := cell_of_row _ _ 2 _ _ _ q0
        simp at c2
        go_simp
        clear c2 fz q0
        refine hK.out _ _ ?_
        clear hK K hSU1
        try simp only [Act.put, List.setIfInBounds_toArray, List.set_cons_zero, List.set_cons_succ]
        refine wpAnyU_done (by kernel_rfl) ?_ _
        go_wp2_with fail
        go_meet
        exact ⟨nb, QN, gen, Q0, Q1, Q2, HU2⟩
      exact AllReadyU.nil
    exact AllReadyU.nil
  case rest =>
    obtain ⟨nb, RNB, hnb, PB_0, PB_1, PB_2, HBN⟩ := hcut
    obtain ⟨wz, rfl⟩ : ∃ w3 : World, w3 = wc := ⟨_, rfl⟩
    clear KSn
    obtain ⟨x0_0, x0_1, x0_2, x0_3, x0_4⟩ := rowc5 PB_0.out
    obtain ⟨x1_0, x1_1, x1_2, x1_3⟩ := rowc4 PB_1.out
    have ck0 := (HBN.out.cell (p := ⟨wb, wo, none⟩) hbk0).trans HK0.out
    have ck1 := (HBN.out.cell (p := ⟨wb, wo + 1, none⟩) hbk1).trans HK1.out
    have ck2 := (HBN.out.cell (p := ⟨lb, lo + 2, none⟩) hbk2).trans HK2.out
    go_upto_region 18 with fail
    have RNB2 := Lib.hid ((heap_setCell_other wz ⟨w.heap.size, 1, none⟩ nb (.int .i64 2) (by have := hnb.out; show nb ≠ w.heap.size; omega)).trans RNB.out)
    have fz := frozen_of_row wz w.heap.size 1 _ _ PB_0.out
    have r1 := heap_setCell_same wz w.heap.size 1 _ _ (.int .i64 2) PB_0.out
    simp at r1
    have P2_0 := Lib.hid r1
    clear r1
    have P2_1 := Lib.hid ((heap_setCell_other wz ⟨w.heap.size, 1, none⟩ (w.heap.size + 1) (.int .i64 2) (by show w.heap.size + 1 ≠ w.heap.size; omega)).trans PB_1.out)
    have P2_2 := Lib.hid ((heap_setCell_other wz ⟨w.heap.size, 1, none⟩ (w.heap.size + 2) (.int .i64 2) (by show w.heap.size + 2 ≠ w.heap.size; omega)).trans PB_2.out)
    have HB2 := Lib.hid (HBN.out.setCell (p := ⟨w.heap.size, 1, none⟩) (by show w.heap.size ≤ w.heap.size; omega) (.int .i64 2))
    obtain ⟨W2, hW2⟩ : ∃ W2, wz.setCell ⟨w.heap.size, 1, none⟩ (.int .i64 2) = W2 := ⟨_, rfl⟩
    rw [hW2] at P2_0 P2_1 P2_2 RNB2 HB2
    have HW2 := Lib.hid hW2
    clear hW2
    go_upto_region 19 with fail
    rw [HW2.out]
    clear x0_0 x0_1 x0_2 x0_3 x0_4 x1_0 x1_1 x1_2 x1_3 ck0 ck1 ck2
    clear fz HW2
    obtain ⟨x0_0, x0_1, x0_2, x0_3, x0_4⟩ := rowc5 P2_0.out
    obtain ⟨x1_0, x1_1, x1_2, x1_3⟩ := rowc4 P2_1.out
    have ck0 := (HB2.out.cell (p := ⟨wb, wo, none⟩) hbk0).trans HK0.out
    have ck1 := (HB2.out.cell (p := ⟨wb, wo + 1, none⟩) hbk1).trans HK1.out
    have ck2 := (HB2.out.cell (p := ⟨lb, lo + 2, none⟩) hbk2).trans HK2.out
    go_wp2_with (refine wpList_store_row rfl 60 _ _ rfl (w.heap.size + 2) _ rfl rfl 60 #[.int .i64 0, .int .i64 0, .slice none 0 0, .slice none 0 0, .slice none 0 0] P2_2.out (by kernel_rfl) rfl (by simp [Value.oneCell']) ?_)
    try rw [scopes_ret]
    refine bodyPost_ret (v := .agg #[.int .i64 0, .int .i64 2, .slice (some ⟨nb, 0, none⟩) 2 2, .slice (some ⟨lb, lo, none⟩) ln lc, .slice none 0 0]) (results_cell_row Try.results16 _ _ (w.heap.size + 2) 60 _ (0, 0) _ rfl (setRow_heap _ _ _ _ 60 (0, 0) P2_2.out) Try.underlying60 rfl (by kernel_rfl)) rfl ?_
    exact ⟨nb, rfl, Lib.hid ((setRow_other _ (w.heap.size + 2) nb _ (by have := hnb.out; omega)).trans RNB2.out), Lib.hid (by have := hnb.out; show w.heap.size ≤ nb; omega), Lib.hid (row_below HB2.out (by omega) _)⟩
set_option maxRecDepth 100000 in
set_option maxHeartbeats 16000000 in
theorem pRes2e (c : ConfM) (k : Nat) (hk : k < c.caps.length) (hg : c.good) (val t : Int) (ht : U64 t) (W L : Value) (w : World) (hv : PuV w c k val t W L) (b : Int) (p q : Bool) (aa : Option Addr) (n ac : Nat) (hn : restI (t / 2) b = c.caps.getD k 0) : Calls Try.prog 16 #[.agg (puL 0 2 W L).toArray, .agg #[.int .u64 b, .bool p, .bool q, .slice aa n ac]] w fun e w' => e = .returned (.agg (puL 0 3 W L).toArray) ∧ Below w.heap.size w w' := by
  obtain ⟨wb, wo, wc, lb, lo, lc, rfl, rfl, hwb, hlb, hw0, hw1, hl0, hl1, hl2, hls⟩ := hv.open
  obtain ⟨ln, hln⟩ : ∃ ln, (ringL c k).length = ln := ⟨_, rfl⟩
  have hln5 : 5 ≤ ln := by rw [← hln, ringL_length]; have := hg.size k hk; omega
  rw [hln]
  have HK0 := Lib.hid (hw0)
  have hbk0 : wb < w.heap.size := hwb
  have HK1 := Lib.hid (hw1)
  have hbk1 : wb < w.heap.size := hwb
  have HK2 := Lib.hid (hl2)
  have hbk2 : lb < w.heap.size := hlb
  obtain ⟨W, hW, HB, R0, R1, R2, hz⟩ := three_new w (.cells #[.int .i64 0, .int .i64 2, .slice (some ⟨wb, wo, none⟩) 2 wc, .slice (some ⟨lb, lo, none⟩) ln lc, .slice none 0 0] 60) (.cells #[.int .u64 b, .bool p, .bool q, .slice aa n ac] 52) (.cells #[.int .i64 0, .int .i64 0, .slice none 0 0, .slice none 0 0, .slice none 0 0] 60)
  have HW := Lib.hid hW
  clear hW
  have TCM := Lib.hid fun w' => complete_run 0 2 wb wo wc lb lo ln lc hln5 w'
  have TEN := Lib.hid fun k w' => end_any k w'
  have TBH := Lib.hid fun w' (hb : Below w.heap.size w w') => behind_any 0 2 wb wo wc lb lo ln lc t b w' (Nat.lt_of_lt_of_le hwb hb.size) ((hb.cell (p := ⟨wb, wo + 1, none⟩) hwb).trans hw1)
  obtain ⟨nn, hnn⟩ : ∃ nn, restI (t / 2) b = nn := ⟨_, rfl⟩
  have hcap := hg.cap k hk
  obtain ⟨kc, hkc⟩ : ∃ kc, c.caps.getD k 0 = kc := ⟨_, rfl⟩
  rw [hnn] at TBH
  rw [hkc] at hcap hl2 HK2 hn
  rw [hnn] at hn
  have hwk : IntKind.u64.wrap kc = kc := by rw [IntKind.wrap_u64]; omega
  have hwk2 : IntKind.i64.wrap kc = kc := by rw [IntKind.wrap_i64]; omega
  clear hnn hkc hcap
  clear hls
  unfold puL
  try dsimp only
  have hi1 : 1 < ln := by omega
  have hi2 : 2 < ln := by omega
  have hI2 : (2 : Int) < (ln : Int) := by omega
  clear ht hk hg hln5 hln
  go_enter Try.func16, Try.ntmps16
  go_wp2_with fail
  rw [HW.out]
  clear HW
  refine wp_scopes 4 fun f HF => ?_
  obtain ⟨x0_0, x0_1, x0_2, x0_3, x0_4⟩ := rowc5 R0.out
  obtain ⟨x1_0, x1_1, x1_2, x1_3⟩ := rowc4 R1.out
  have ck0 := (HB.out.cell (p := ⟨wb, wo, none⟩) hbk0).trans HK0.out
  have ck1 := (HB.out.cell (p := ⟨wb, wo + 1, none⟩) hbk1).trans HK1.out
  have ck2 := (HB.out.cell (p := ⟨lb, lo + 2, none⟩) hbk2).trans HK2.out
  go_wp2_with fail
  refine (TCM.out _).mono ?_; rintro e w1 ⟨rfl, hb1⟩
  have P1_0 := Lib.hid ((hb1.block w.heap.size (Array.getElem?_eq_some_iff.1 R0.out).1).trans R0.out)
  have P1_1 := Lib.hid ((hb1.block (w.heap.size + 1) (Array.getElem?_eq_some_iff.1 R1.out).1).trans R1.out)
  have P1_2 := Lib.hid ((hb1.block (w.heap.size + 2) (Array.getElem?_eq_some_iff.1 R2.out).1).trans R2.out)
  have HB1 := Lib.hid (below_then HB.out hb1)
  clear x0_0 x0_1 x0_2 x0_3 x0_4 x1_0 x1_1 x1_2 x1_3 ck0 ck1 ck2
  clear hb1
  obtain ⟨x0_0, x0_1, x0_2, x0_3, x0_4⟩ := rowc5 P1_0.out
  obtain ⟨x1_0, x1_1, x1_2, x1_3⟩ := rowc4 P1_1.out
  have ck0 := (HB1.out.cell (p := ⟨wb, wo, none⟩) hbk0).trans HK0.out
  have ck1 := (HB1.out.cell (p := ⟨wb, wo + 1, none⟩) hbk1).trans HK1.out
  have ck2 := (HB1.out.cell (p := ⟨lb, lo + 2, none⟩) hbk2).trans HK2.out
  obtain rfl := hn
  go_wp2_with fail
  go_step3
  refine scopes_goto ((HF.out 1).trans rfl) ?_
  go_upto_region 20 with fail
  have Xx0_0 := ext_cell _ _ (Array.getElem?_eq_some_iff.1 P1_0.out).1 _ x0_0
  have Xx0_1 := ext_cell _ _ (Array.getElem?_eq_some_iff.1 P1_0.out).1 _ x0_1
  have Xx0_2 := ext_cell _ _ (Array.getElem?_eq_some_iff.1 P1_0.out).1 _ x0_2
  have Xx0_3 := ext_cell _ _ (Array.getElem?_eq_some_iff.1 P1_0.out).1 _ x0_3
  have Xx0_4 := ext_cell _ _ (Array.getElem?_eq_some_iff.1 P1_0.out).1 _ x0_4
  have Xx1_0 := ext_cell _ _ (Array.getElem?_eq_some_iff.1 P1_1.out).1 _ x1_0
  have Xx1_1 := ext_cell _ _ (Array.getElem?_eq_some_iff.1 P1_1.out).1 _ x1_1
  have Xx1_2 := ext_cell _ _ (Array.getElem?_eq_some_iff.1 P1_1.out).1 _ x1_2
  have Xx1_3 := ext_cell _ _ (Array.getElem?_eq_some_iff.1 P1_1.out).1 _ x1_3
  have Xck0 := ext_cell _ _ (Nat.lt_of_lt_of_le hbk0 HB1.out.size) _ ck0
  have Xck1 := ext_cell _ _ (Nat.lt_of_lt_of_le hbk1 HB1.out.size) _ ck1
  have Xck2 := ext_cell _ _ (Nat.lt_of_lt_of_le hbk2 HB1.out.size) _ ck2
  clear x0_0 x0_1 x0_2 x0_3 x0_4 x1_0 x1_1 x1_2 x1_3 ck0 ck1 ck2
  refine wp_region_ext w1 (by kernel_rfl) (by kernel_rfl) (Below.refl _ _) ?_
  repeat (go_big_quiet_step (first
    | (go_at_call 36; with_reducible exact calls_ext (TBH.out _ (below_then HB1.out (Ext.below _))))))
  refine wpQuiet_nil ?_
  intro _ hw'
  obtain ⟨n9, rfl⟩ := hw'
  have P2_0 := Lib.hid ((n9.below.block w.heap.size (Array.getElem?_eq_some_iff.1 P1_0.out).1).trans P1_0.out)
  have P2_1 := Lib.hid ((n9.below.block (w.heap.size + 1) (Array.getElem?_eq_some_iff.1 P1_1.out).1).trans P1_1.out)
  have P2_2 := Lib.hid ((n9.below.block (w.heap.size + 2) (Array.getElem?_eq_some_iff.1 P1_2.out).1).trans P1_2.out)
  have HB2 := Lib.hid (below_then HB1.out n9.below)
  generalize n9.wd = w2 at *
  clear Xx0_0 Xx0_1 Xx0_2 Xx0_3 Xx0_4 Xx1_0 Xx1_1 Xx1_2 Xx1_3 Xck0 Xck1 Xck2
  obtain ⟨x0_0, x0_1, x0_2, x0_3, x0_4⟩ := rowc5 P2_0.out
  obtain ⟨x1_0, x1_1, x1_2, x1_3⟩ := rowc4 P2_1.out
  have ck0 := (HB2.out.cell (p := ⟨wb, wo, none⟩) hbk0).trans HK0.out
  have ck1 := (HB2.out.cell (p := ⟨wb, wo + 1, none⟩) hbk1).trans HK1.out
  have ck2 := (HB2.out.cell (p := ⟨lb, lo + 2, none⟩) hbk2).trans HK2.out
  go_upto_region 22 with fail
  have fz := frozen_of_row w2 w.heap.size 1 _ _ P2_0.out
  have r1 := heap_setCell_same w2 w.heap.size 1 _ _ (.int .i64 3) P2_0.out
  simp at r1
  have P3_0 := Lib.hid r1
  clear r1
  have P3_1 := Lib.hid ((heap_setCell_other w2 ⟨w.heap.size, 1, none⟩ (w.heap.size + 1) (.int .i64 3) (by show w.heap.size + 1 ≠ w.heap.size; omega)).trans P2_1.out)
  have P3_2 := Lib.hid ((heap_setCell_other w2 ⟨w.heap.size, 1, none⟩ (w.heap.size + 2) (.int .i64 3) (by show w.heap.size + 2 ≠ w.heap.size; omega)).trans P2_2.out)
  have HB3 := Lib.hid (HB2.out.setCell (p := ⟨w.heap.size, 1, none⟩) (by show w.heap.size ≤ w.heap.size; omega) (.int .i64 3))
  obtain ⟨W3, hW3⟩ : ∃ W3, w2.setCell ⟨w.heap.size, 1, none⟩ (.int .i64 3) = W3 := ⟨_, rfl⟩
  rw [hW3] at P3_0 P3_1 P3_2 HB3
  have HW3 := Lib.hid hW3
  clear hW3
  go_upto_region 23 with fail
  rw [HW3.out]
  clear x0_0 x0_1 x0_2 x0_3 x0_4 x1_0 x1_1 x1_2 x1_3 ck0 ck1 ck2
  clear fz HW3
  obtain ⟨x0_0, x0_1, x0_2, x0_3, x0_4⟩ := rowc5 P3_0.out
  obtain ⟨x1_0, x1_1, x1_2, x1_3⟩ := rowc4 P3_1.out
  have ck0 := (HB3.out.cell (p := ⟨wb, wo, none⟩) hbk0).trans HK0.out
  have ck1 := (HB3.out.cell (p := ⟨wb, wo + 1, none⟩) hbk1).trans HK1.out
  have ck2 := (HB3.out.cell (p := ⟨lb, lo + 2, none⟩) hbk2).trans HK2.out
  go_wp2_with (refine wpList_store_row rfl 60 _ _ rfl (w.heap.size + 2) _ rfl rfl 60 #[.int .i64 0, .int .i64 0, .slice none 0 0, .slice none 0 0, .slice none 0 0] P3_2.out (by kernel_rfl) rfl (by simp [Value.oneCell']) ?_)
  try rw [scopes_ret]
  refine bodyPost_ret (v := .agg #[.int .i64 0, .int .i64 3, .slice (some ⟨wb, wo, none⟩) 2 wc, .slice (some ⟨lb, lo, none⟩) ln lc, .slice none 0 0]) (results_cell_row Try.results16 _ _ (w.heap.size + 2) 60 _ (0, 0) _ rfl (setRow_heap _ _ _ _ 60 (0, 0) P3_2.out) Try.underlying60 rfl (by kernel_rfl)) rfl ?_
  exact ⟨rfl, row_below HB3.out (by omega) _⟩
set_option maxRecDepth 100000 in
set_option maxHeartbeats 16000000 in
theorem pRes2g (c : ConfM) (k : Nat) (hk : k < c.caps.length) (hg : c.good) (val t : Int) (ht : U64 t) (W L : Value) (w : World) (hv : PuV w c k val t W L) (b : Int) (p q : Bool) (aa : Option Addr) (n ac : Nat) (hn : c.caps.getD k 0 < restI (t / 2) b) : Calls Try.prog 16 #[.agg (puL 0 2 W L).toArray, .agg #[.int .u64 b, .bool p, .bool q, .slice aa n ac]] w fun e w' => e = .returned (.agg (puL 0 1 W L).toArray) ∧ Below w.heap.size w w' := by
  obtain ⟨wb, wo, wc, lb, lo, lc, rfl, rfl, hwb, hlb, hw0, hw1, hl0, hl1, hl2, hls⟩ := hv.open
  obtain ⟨ln, hln⟩ : ∃ ln, (ringL c k).length = ln := ⟨_, rfl⟩
  have hln5 : 5 ≤ ln := by rw [← hln, ringL_length]; have := hg.size k hk; omega
  rw [hln]
  have HK0 := Lib.hid (hw0)
  have hbk0 : wb < w.heap.size := hwb
  have HK1 := Lib.hid (hw1)
  have hbk1 : wb < w.heap.size := hwb
  have HK2 := Lib.hid (hl2)
  have hbk2 : lb < w.heap.size := hlb
  obtain ⟨W, hW, HB, R0, R1, R2, hz⟩ := three_new w (.cells #[.int .i64 0, .int .i64 2, .slice (some ⟨wb, wo, none⟩) 2 wc, .slice (some ⟨lb, lo, none⟩) ln lc, .slice none 0 0] 60) (.cells #[.int .u64 b, .bool p, .bool q, .slice aa n ac] 52) (.cells #[.int .i64 0, .int .i64 0, .slice none 0 0, .slice none 0 0, .slice none 0 0] 60)
  have HW := Lib.hid hW
  clear hW
  have TCM := Lib.hid fun w' => complete_run 0 2 wb wo wc lb lo ln lc hln5 w'
  have TEN := Lib.hid fun k w' => end_any k w'
  have TBH := Lib.hid fun w' (hb : Below w.heap.size w w') => behind_any 0 2 wb wo wc lb lo ln lc t b w' (Nat.lt_of_lt_of_le hwb hb.size) ((hb.cell (p := ⟨wb, wo + 1, none⟩) hwb).trans hw1)
  obtain ⟨nn, hnn⟩ : ∃ nn, restI (t / 2) b = nn := ⟨_, rfl⟩
  have hcap := hg.cap k hk
  obtain ⟨kc, hkc⟩ : ∃ kc, c.caps.getD k 0 = kc := ⟨_, rfl⟩
  rw [hnn] at TBH
  rw [hkc] at hcap hl2 HK2 hn
  rw [hnn] at hn
  have hwk : IntKind.u64.wrap kc = kc := by rw [IntKind.wrap_u64]; omega
  have hwk2 : IntKind.i64.wrap kc = kc := by rw [IntKind.wrap_i64]; omega
  clear hnn hkc hcap
  clear hls
  unfold puL
  try dsimp only
  have hi1 : 1 < ln := by omega
  have hi2 : 2 < ln := by omega
  have hI2 : (2 : Int) < (ln : Int) := by omega
  clear ht hk hg hln5 hln
  go_enter Try.func16, Try.ntmps16
  go_wp2_with fail
  rw [HW.out]
  clear HW
  refine wp_scopes 4 fun f HF => ?_
  obtain ⟨x0_0, x0_1, x0_2, x0_3, x0_4⟩ := rowc5 R0.out
  obtain ⟨x1_0, x1_1, x1_2, x1_3⟩ := rowc4 R1.out
  have ck0 := (HB.out.cell (p := ⟨wb, wo, none⟩) hbk0).trans HK0.out
  have ck1 := (HB.out.cell (p := ⟨wb, wo + 1, none⟩) hbk1).trans HK1.out
  have ck2 := (HB.out.cell (p := ⟨lb, lo + 2, none⟩) hbk2).trans HK2.out
  go_wp2_with fail
  refine (TCM.out _).mono ?_; rintro e w1 ⟨rfl, hb1⟩
  have P1_0 := Lib.hid ((hb1.block w.heap.size (Array.getElem?_eq_some_iff.1 R0.out).1).trans R0.out)
  have P1_1 := Lib.hid ((hb1.block (w.heap.size + 1) (Array.getElem?_eq_some_iff.1 R1.out).1).trans R1.out)
  have P1_2 := Lib.hid ((hb1.block (w.heap.size + 2) (Array.getElem?_eq_some_iff.1 R2.out).1).trans R2.out)
  have HB1 := Lib.hid (below_then HB.out hb1)
  clear x0_0 x0_1 x0_2 x0_3 x0_4 x1_0 x1_1 x1_2 x1_3 ck0 ck1 ck2
  clear hb1
  obtain ⟨x0_0, x0_1, x0_2, x0_3, x0_4⟩ := rowc5 P1_0.out
  obtain ⟨x1_0, x1_1, x1_2, x1_3⟩ := rowc4 P1_1.out
  have ck0 := (HB1.out.cell (p := ⟨wb, wo, none⟩) hbk0).trans HK0.out
  have ck1 := (HB1.out.cell (p := ⟨wb, wo + 1, none⟩) hbk1).trans HK1.out
  have ck2 := (HB1.out.cell (p := ⟨lb, lo + 2, none⟩) hbk2).trans HK2.out
  have hn1 : ¬ nn = kc := by omega
  go_wp2_with fail
  go_step3
  refine scopes_goto ((HF.out 1).trans rfl) ?_
  go_upto_region 20 with fail
  have Xx0_0 := ext_cell _ _ (Array.getElem?_eq_some_iff.1 P1_0.out).1 _ x0_0
  have Xx0_1 := ext_cell _ _ (Array.getElem?_eq_some_iff.1 P1_0.out).1 _ x0_1
  have Xx0_2 := ext_cell _ _ (Array.getElem?_eq_some_iff.1 P1_0.out).1 _ x0_2
  have Xx0_3 := ext_cell _ _ (Array.getElem?_eq_some_iff.1 P1_0.out).1 _ x0_3
  have Xx0_4 := ext_cell _ _ (Array.getElem?_eq_some_iff.1 P1_0.out).1 _ x0_4
  have Xx1_0 := ext_cell _ _ (Array.getElem?_eq_some_iff.1 P1_1.out).1 _ x1_0
  have Xx1_1 := ext_cell _ _ (Array.getElem?_eq_some_iff.1 P1_1.out).1 _ x1_1
  have Xx1_2 := ext_cell _ _ (Array.getElem?_eq_some_iff.1 P1_1.out).1 _ x1_2
  have Xx1_3 := ext_cell _ _ (Array.getElem?_eq_some_iff.1 P1_1.out).1 _ x1_3
  have Xck0 := ext_cell _ _ (Nat.lt_of_lt_of_le hbk0 HB1.out.size) _ ck0
  have Xck1 := ext_cell _ _ (Nat.lt_of_lt_of_le hbk1 HB1.out.size) _ ck1
  have Xck2 := ext_cell _ _ (Nat.lt_of_lt_of_le hbk2 HB1.out.size) _ ck2
  clear x0_0 x0_1 x0_2 x0_3 x0_4 x1_0 x1_1 x1_2 x1_3 ck0 ck1 ck2
  refine wp_region_ext w1 (by kernel_rfl) (by kernel_rfl) (Below.refl _ _) ?_
  repeat (go_big_quiet_step (first
    | (go_at_call 36; with_reducible exact calls_ext (TBH.out _ (below_then HB1.out (Ext.below _))))))
  refine wpQuiet_nil ?_
  intro _ hw'
  obtain ⟨n9, rfl⟩ := hw'
  have P2_0 := Lib.hid ((n9.below.block w.heap.size (Array.getElem?_eq_some_iff.1 P1_0.out).1).trans P1_0.out)
  have P2_1 := Lib.hid ((n9.below.block (w.heap.size + 1) (Array.getElem?_eq_some_iff.1 P1_1.out).1).trans P1_1.out)
  have P2_2 := Lib.hid ((n9.below.block (w.heap.size + 2) (Array.getElem?_eq_some_iff.1 P1_2.out).1).trans P1_2.out)
  have HB2 := Lib.hid (below_then HB1.out n9.below)
  generalize n9.wd = w2 at *
  clear Xx0_0 Xx0_1 Xx0_2 Xx0_3 Xx0_4 Xx1_0 Xx1_1 Xx1_2 Xx1_3 Xck0 Xck1 Xck2
  obtain ⟨x0_0, x0_1, x0_2, x0_3, x0_4⟩ := rowc5 P2_0.out
  obtain ⟨x1_0, x1_1, x1_2, x1_3⟩ := rowc4 P2_1.out
  have ck0 := (HB2.out.cell (p := ⟨wb, wo, none⟩) hbk0).trans HK0.out
  have ck1 := (HB2.out.cell (p := ⟨wb, wo + 1, none⟩) hbk1).trans HK1.out
  have ck2 := (HB2.out.cell (p := ⟨lb, lo + 2, none⟩) hbk2).trans HK2.out
  go_wp2_with fail
  go_step3
  refine scopes_goto ((HF.out 6).trans rfl) ?_
  go_upto_region 13 with fail
  have fz := frozen_of_row w2 w.heap.size 1 _ _ P2_0.out
  have r1 := heap_setCell_same w2 w.heap.size 1 _ _ (.int .i64 1) P2_0.out
  simp at r1
  have P3_0 := Lib.hid r1
  clear r1
  have P3_1 := Lib.hid ((heap_setCell_other w2 ⟨w.heap.size, 1, none⟩ (w.heap.size + 1) (.int .i64 1) (by show w.heap.size + 1 ≠ w.heap.size; omega)).trans P2_1.out)
  have P3_2 := Lib.hid ((heap_setCell_other w2 ⟨w.heap.size, 1, none⟩ (w.heap.size + 2) (.int .i64 1) (by show w.heap.size + 2 ≠ w.heap.size; omega)).trans P2_2.out)
  have HB3 := Lib.hid (HB2.out.setCell (p := ⟨w.heap.size, 1, none⟩) (by show w.heap.size ≤ w.heap.size; omega) (.int .i64 1))
  obtain ⟨W3, hW3⟩ : ∃ W3, w2.setCell ⟨w.heap.size, 1, none⟩ (.int .i64 1) = W3 := ⟨_, rfl⟩
  rw [hW3] at P3_0 P3_1 P3_2 HB3
  have HW3 := Lib.hid hW3
  clear hW3
  go_upto_region 14 with fail
  rw [HW3.out]
  clear x0_0 x0_1 x0_2 x0_3 x0_4 x1_0 x1_1 x1_2 x1_3 ck0 ck1 ck2
  clear fz HW3
  obtain ⟨x0_0, x0_1, x0_2, x0_3, x0_4⟩ := rowc5 P3_0.out
  obtain ⟨x1_0, x1_1, x1_2, x1_3⟩ := rowc4 P3_1.out
  have ck0 := (HB3.out.cell (p := ⟨wb, wo, none⟩) hbk0).trans HK0.out
  have ck1 := (HB3.out.cell (p := ⟨wb, wo + 1, none⟩) hbk1).trans HK1.out
  have ck2 := (HB3.out.cell (p := ⟨lb, lo + 2, none⟩) hbk2).trans HK2.out
  go_wp2_with (refine wpList_store_row rfl 60 _ _ rfl (w.heap.size + 2) _ rfl rfl 60 #[.int .i64 0, .int .i64 0, .slice none 0 0, .slice none 0 0, .slice none 0 0] P3_2.out (by kernel_rfl) rfl (by simp [Value.oneCell']) ?_)
  try rw [scopes_ret]
  refine bodyPost_ret (v := .agg #[.int .i64 0, .int .i64 1, .slice (some ⟨wb, wo, none⟩) 2 wc, .slice (some ⟨lb, lo, none⟩) ln lc, .slice none 0 0]) (results_cell_row Try.results16 _ _ (w.heap.size + 2) 60 _ (0, 0) _ rfl (setRow_heap _ _ _ _ 60 (0, 0) P3_2.out) Try.underlying60 rfl (by kernel_rfl)) rfl ?_
  exact ⟨rfl, row_below HB3.out (by omega) _⟩
set_option maxRecDepth 100000 in
set_option maxHeartbeats 16000000 in
theorem pRes2l (c : ConfM) (k : Nat) (hk : k < c.caps.length) (hg : c.good) (val t : Int) (ht : U64 t) (W L : Value) (w : World) (hv : PuV w c k val t W L) (b : Int) (p q : Bool) (aa : Option Addr) (n ac : Nat) (hn : restI (t / 2) b < c.caps.getD k 0) : Calls Try.prog 16 #[.agg (puL 0 2 W L).toArray, .agg #[.int .u64 b, .bool p, .bool q, .slice aa n ac]] w fun e w' => e = .returned (.agg (puL 0 4 W L).toArray) ∧ Below w.heap.size w w' := by
  obtain ⟨wb, wo, wc, lb, lo, lc, rfl, rfl, hwb, hlb, hw0, hw1, hl0, hl1, hl2, hls⟩ := hv.open
  obtain ⟨ln, hln⟩ : ∃ ln, (ringL c k).length = ln := ⟨_, rfl⟩
  have hln5 : 5 ≤ ln := by rw [← hln, ringL_length]; have := hg.size k hk; omega
  rw [hln]
  have HK0 := Lib.hid (hw0)
  have hbk0 : wb < w.heap.size := hwb
  have HK1 := Lib.hid (hw1)
  have hbk1 : wb < w.heap.size := hwb
  have HK2 := Lib.hid (hl2)
  have hbk2 : lb < w.heap.size := hlb
  obtain ⟨W, hW, HB, R0, R1, R2, hz⟩ := three_new w (.cells #[.int .i64 0, .int .i64 2, .slice (some ⟨wb, wo, none⟩) 2 wc, .slice (some ⟨lb, lo, none⟩) ln lc, .slice none 0 0] 60) (.cells #[.int .u64 b, .bool p, .bool q, .slice aa n ac] 52) (.cells #[.int .i64 0, .int .i64 0, .slice none 0 0, .slice none 0 0, .slice none 0 0] 60)
  have HW := Lib.hid hW
  clear hW
  have TCM := Lib.hid fun w' => complete_run 0 2 wb wo wc lb lo ln lc hln5 w'
  have TEN := Lib.hid fun k w' => end_any k w'
  have TBH := Lib.hid fun w' (hb : Below w.heap.size w w') => behind_any 0 2 wb wo wc lb lo ln lc t b w' (Nat.lt_of_lt_of_le hwb hb.size) ((hb.cell (p := ⟨wb, wo + 1, none⟩) hwb).trans hw1)
  obtain ⟨nn, hnn⟩ : ∃ nn, restI (t / 2) b = nn := ⟨_, rfl⟩
  have hcap := hg.cap k hk
  obtain ⟨kc, hkc⟩ : ∃ kc, c.caps.getD k 0 = kc := ⟨_, rfl⟩
  rw [hnn] at TBH
  rw [hkc] at hcap hl2 HK2 hn
  rw [hnn] at hn
  have hwk : IntKind.u64.wrap kc = kc := by rw [IntKind.wrap_u64]; omega
  have hwk2 : IntKind.i64.wrap kc = kc := by rw [IntKind.wrap_i64]; omega
  clear hnn hkc hcap
  clear hls
  unfold puL
  try dsimp only
  have hi1 : 1 < ln := by omega
  have hi2 : 2 < ln := by omega
  have hI2 : (2 : Int) < (ln : Int) := by omega
  clear ht hk hg hln5 hln
  go_enter Try.func16, Try.ntmps16
  go_wp2_with fail
  rw [HW.out]
  clear HW
  refine wp_scopes 4 fun f HF => ?_
  obtain ⟨x0_0, x0_1, x0_2, x0_3, x0_4⟩ := rowc5 R0.out
  obtain ⟨x1_0, x1_1, x1_2, x1_3⟩ := rowc4 R1.out
  have ck0 := (HB.out.cell (p := ⟨wb, wo, none⟩) hbk0).trans HK0.out
  have ck1 := (HB.out.cell (p := ⟨wb, wo + 1, none⟩) hbk1).trans HK1.out
  have ck2 := (HB.out.cell (p := ⟨lb, lo + 2, none⟩) hbk2).trans HK2.out
  go_wp2_with fail
  refine (TCM.out _).mono ?_; rintro e w1 ⟨rfl, hb1⟩
  have P1_0 := Lib.hid ((hb1.block w.heap.size (Array.getElem?_eq_some_iff.1 R0.out).1).trans R0.out)
  have P1_1 := Lib.hid ((hb1.block (w.heap.size + 1) (Array.getElem?_eq_some_iff.1 R1.out).1).trans R1.out)
  have P1_2 := Lib.hid ((hb1.block (w.heap.size + 2) (Array.getElem?_eq_some_iff.1 R2.out).1).trans R2.out)
  have HB1 := Lib.hid (below_then HB.out hb1)
  clear x0_0 x0_1 x0_2 x0_3 x0_4 x1_0 x1_1 x1_2 x1_3 ck0 ck1 ck2
  clear hb1
  obtain ⟨x0_0, x0_1, x0_2, x0_3, x0_4⟩ := rowc5 P1_0.out
  obtain ⟨x1_0, x1_1, x1_2, x1_3⟩ := rowc4 P1_1.out
  have ck0 := (HB1.out.cell (p := ⟨wb, wo, none⟩) hbk0).trans HK0.out
  have ck1 := (HB1.out.cell (p := ⟨wb, wo + 1, none⟩) hbk1).trans HK1.out
  have ck2 := (HB1.out.cell (p := ⟨lb, lo + 2, none⟩) hbk2).trans HK2.out
  have hn1 : ¬ nn = kc := by omega
  have hn2 : ¬ kc < nn := by omega
  clear hn
  go_wp2_with fail
  go_step3
  refine scopes_goto ((HF.out 1).trans rfl) ?_
  go_upto_region 20 with fail
  have Xx0_0 := ext_cell _ _ (Array.getElem?_eq_some_iff.1 P1_0.out).1 _ x0_0
  have Xx0_1 := ext_cell _ _ (Array.getElem?_eq_some_iff.1 P1_0.out).1 _ x0_1
  have Xx0_2 := ext_cell _ _ (Array.getElem?_eq_some_iff.1 P1_0.out).1 _ x0_2
  have Xx0_3 := ext_cell _ _ (Array.getElem?_eq_some_iff.1 P1_0.out).1 _ x0_3
  have Xx0_4 := ext_cell _ _ (Array.getElem?_eq_some_iff.1 P1_0.out).1 _ x0_4
  have Xx1_0 := ext_cell _ _ (Array.getElem?_eq_some_iff.1 P1_1.out).1 _ x1_0
  have Xx1_1 := ext_cell _ _ (Array.getElem?_eq_some_iff.1 P1_1.out).1 _ x1_1
  have Xx1_2 := ext_cell _ _ (Array.getElem?_eq_some_iff.1 P1_1.out).1 _ x1_2
  have Xx1_3 := ext_cell _ _ (Array.getElem?_eq_some_iff.1 P1_1.out).1 _ x1_3
  have Xck0 := ext_cell _ _ (Nat.lt_of_lt_of_le hbk0 HB1.out.size) _ ck0
  have Xck1 := ext_cell _ _ (Nat.lt_of_lt_of_le hbk1 HB1.out.size) _ ck1
  have Xck2 := ext_cell _ _ (Nat.lt_of_lt_of_le hbk2 HB1.out.size) _ ck2
  clear x0_0 x0_1 x0_2 x0_3 x0_4 x1_0 x1_1 x1_2 x1_3 ck0 ck1 ck2
  refine wp_region_ext w1 (by kernel_rfl) (by kernel_rfl) (Below.refl _ _) ?_
  repeat (go_big_quiet_step (first
    | (go_at_call 36; with_reducible exact calls_ext (TBH.out _ (below_then HB1.out (Ext.below _))))))
  refine wpQuiet_nil ?_
  intro _ hw'
  obtain ⟨n9, rfl⟩ := hw'
  have P2_0 := Lib.hid ((n9.below.block w.heap.size (Array.getElem?_eq_some_iff.1 P1_0.out).1).trans P1_0.out)
  have P2_1 := Lib.hid ((n9.below.block (w.heap.size + 1) (Array.getElem?_eq_some_iff.1 P1_1.out).1).trans P1_1.out)
  have P2_2 := Lib.hid ((n9.below.block (w.heap.size + 2) (Array.getElem?_eq_some_iff.1 P1_2.out).1).trans P1_2.out)
  have HB2 := Lib.hid (below_then HB1.out n9.below)
  generalize n9.wd = w2 at *
  clear Xx0_0 Xx0_1 Xx0_2 Xx0_3 Xx0_4 Xx1_0 Xx1_1 Xx1_2 Xx1_3 Xck0 Xck1 Xck2
  obtain ⟨x0_0, x0_1, x0_2, x0_3, x0_4⟩ := rowc5 P2_0.out
  obtain ⟨x1_0, x1_1, x1_2, x1_3⟩ := rowc4 P2_1.out
  have ck0 := (HB2.out.cell (p := ⟨wb, wo, none⟩) hbk0).trans HK0.out
  have ck1 := (HB2.out.cell (p := ⟨wb, wo + 1, none⟩) hbk1).trans HK1.out
  have ck2 := (HB2.out.cell (p := ⟨lb, lo + 2, none⟩) hbk2).trans HK2.out
  go_upto_region 25 with fail
  have fz := frozen_of_row w2 w.heap.size 1 _ _ P2_0.out
  have r1 := heap_setCell_same w2 w.heap.size 1 _ _ (.int .i64 4) P2_0.out
  simp at r1
  have P3_0 := Lib.hid r1
  clear r1
  have P3_1 := Lib.hid ((heap_setCell_other w2 ⟨w.heap.size, 1, none⟩ (w.heap.size + 1) (.int .i64 4) (by show w.heap.size + 1 ≠ w.heap.size; omega)).trans P2_1.out)
  have P3_2 := Lib.hid ((heap_setCell_other w2 ⟨w.heap.size, 1, none⟩ (w.heap.size + 2) (.int .i64 4) (by show w.heap.size + 2 ≠ w.heap.size; omega)).trans P2_2.out)
  have HB3 := Lib.hid (HB2.out.setCell (p := ⟨w.heap.size, 1, none⟩) (by show w.heap.size ≤ w.heap.size; omega) (.int .i64 4))
  obtain ⟨W3, hW3⟩ : ∃ W3, w2.setCell ⟨w.heap.size, 1, none⟩ (.int .i64 4) = W3 := ⟨_, rfl⟩
  rw [hW3] at P3_0 P3_1 P3_2 HB3
  have HW3 := Lib.hid hW3
  clear hW3
  go_upto_region 26 with fail
  rw [HW3.out]
  clear x0_0 x0_1 x0_2 x0_3 x0_4 x1_0 x1_1 x1_2 x1_3 ck0 ck1 ck2
  clear fz HW3
  obtain ⟨x0_0, x0_1, x0_2, x0_3, x0_4⟩ := rowc5 P3_0.out
  obtain ⟨x1_0, x1_1, x1_2, x1_3⟩ := rowc4 P3_1.out
  have ck0 := (HB3.out.cell (p := ⟨wb, wo, none⟩) hbk0).trans HK0.out
  have ck1 := (HB3.out.cell (p := ⟨wb, wo + 1, none⟩) hbk1).trans HK1.out
  have ck2 := (HB3.out.cell (p := ⟨lb, lo + 2, none⟩) hbk2).trans HK2.out
  go_wp2_with (refine wpList_store_row rfl 60 _ _ rfl (w.heap.size + 2) _ rfl rfl 60 #[.int .i64 0, .int .i64 0, .slice none 0 0, .slice none 0 0, .slice none 0 0] P3_2.out (by kernel_rfl) rfl (by simp [Value.oneCell']) ?_)
  try rw [scopes_ret]
  refine bodyPost_ret (v := .agg #[.int .i64 0, .int .i64 4, .slice (some ⟨wb, wo, none⟩) 2 wc, .slice (some ⟨lb, lo, none⟩) ln lc, .slice none 0 0]) (results_cell_row Try.results16 _ _ (w.heap.size + 2) 60 _ (0, 0) _ rfl (setRow_heap _ _ _ _ 60 (0, 0) P3_2.out) Try.underlying60 rfl (by kernel_rfl)) rfl ?_
  exact ⟨rfl, row_below HB3.out (by omega) _⟩
set_option maxRecDepth 100000 in
set_option maxHeartbeats 16000000 in
theorem pRes3f (c : ConfM) (k : Nat) (hk : k < c.caps.length) (hg : c.good) (val t : Int) (ht : U64 t) (W L : Value) (w : World) (hv : PuV w c k val t W L) (p q : Bool) (aa : Option Addr) (n ac : Nat) : Calls Try.prog 16 #[.agg (puL 0 3 W L).toArray, .agg #[.int .u64 t, .bool p, .bool q, .slice aa n ac]] w fun e w' => e = .returned (.agg (puL 2 8 nilS nilS).toArray) ∧ Below w.heap.size w w' := by
  obtain ⟨wb, wo, wc, lb, lo, lc, rfl, rfl, hwb, hlb, hw0, hw1, hl0, hl1, hl2, hls⟩ := hv.open
  obtain ⟨ln, hln⟩ : ∃ ln, (ringL c k).length = ln := ⟨_, rfl⟩
  have hln5 : 5 ≤ ln := by rw [← hln, ringL_length]; have := hg.size k hk; omega
  rw [hln]
  have HK0 := Lib.hid (hw0)
  have hbk0 : wb < w.heap.size := hwb
  have HK1 := Lib.hid (hw1)
  have hbk1 : wb < w.heap.size := hwb
  have HK2 := Lib.hid (hl2)
  have hbk2 : lb < w.heap.size := hlb
  obtain ⟨W, hW, HB, R0, R1, R2, hz⟩ := three_new w (.cells #[.int .i64 0, .int .i64 3, .slice (some ⟨wb, wo, none⟩) 2 wc, .slice (some ⟨lb, lo, none⟩) ln lc, .slice none 0 0] 60) (.cells #[.int .u64 t, .bool p, .bool q, .slice aa n ac] 52) (.cells #[.int .i64 0, .int .i64 0, .slice none 0 0, .slice none 0 0, .slice none 0 0] 60)
  have HW := Lib.hid hW
  clear hW
  have TCM := Lib.hid fun w' => complete_run 0 3 wb wo wc lb lo ln lc hln5 w'
  have TEN := Lib.hid fun k w' => end_any k w'
  clear hls
  unfold puL
  try dsimp only
  have hi1 : 1 < ln := by omega
  have hi2 : 2 < ln := by omega
  have hI2 : (2 : Int) < (ln : Int) := by omega
  clear ht hk hg hln5 hln
  go_enter Try.func16, Try.ntmps16
  go_wp2_with fail
  rw [HW.out]
  clear HW
  refine wp_scopes 4 fun f HF => ?_
  obtain ⟨x0_0, x0_1, x0_2, x0_3, x0_4⟩ := rowc5 R0.out
  obtain ⟨x1_0, x1_1, x1_2, x1_3⟩ := rowc4 R1.out
  have ck0 := (HB.out.cell (p := ⟨wb, wo, none⟩) hbk0).trans HK0.out
  have ck1 := (HB.out.cell (p := ⟨wb, wo + 1, none⟩) hbk1).trans HK1.out
  have ck2 := (HB.out.cell (p := ⟨lb, lo + 2, none⟩) hbk2).trans HK2.out
  go_wp2_with fail
  refine (TCM.out _).mono ?_; rintro e w1 ⟨rfl, hb1⟩
  have P1_0 := Lib.hid ((hb1.block w.heap.size (Array.getElem?_eq_some_iff.1 R0.out).1).trans R0.out)
  have P1_1 := Lib.hid ((hb1.block (w.heap.size + 1) (Array.getElem?_eq_some_iff.1 R1.out).1).trans R1.out)
  have P1_2 := Lib.hid ((hb1.block (w.heap.size + 2) (Array.getElem?_eq_some_iff.1 R2.out).1).trans R2.out)
  have HB1 := Lib.hid (below_then HB.out hb1)
  clear x0_0 x0_1 x0_2 x0_3 x0_4 x1_0 x1_1 x1_2 x1_3 ck0 ck1 ck2
  clear hb1
  obtain ⟨x0_0, x0_1, x0_2, x0_3, x0_4⟩ := rowc5 P1_0.out
  obtain ⟨x1_0, x1_1, x1_2, x1_3⟩ := rowc4 P1_1.out
  have ck0 := (HB1.out.cell (p := ⟨wb, wo, none⟩) hbk0).trans HK0.out
  have ck1 := (HB1.out.cell (p := ⟨wb, wo + 1, none⟩) hbk1).trans HK1.out
  have ck2 := (HB1.out.cell (p := ⟨lb, lo + 2, none⟩) hbk2).trans HK2.out
  go_wp2_with fail
  go_step3
  refine scopes_goto ((HF.out 2).trans rfl) ?_
  go_upto_region 27 with fail
  have Xx0_0 := ext_cell _ _ (Array.getElem?_eq_some_iff.1 P1_0.out).1 _ x0_0
  have Xx0_1 := ext_cell _ _ (Array.getElem?_eq_some_iff.1 P1_0.out).1 _ x0_1
  have Xx0_2 := ext_cell _ _ (Array.getElem?_eq_some_iff.1 P1_0.out).1 _ x0_2
  have Xx0_3 := ext_cell _ _ (Array.getElem?_eq_some_iff.1 P1_0.out).1 _ x0_3
  have Xx0_4 := ext_cell _ _ (Array.getElem?_eq_some_iff.1 P1_0.out).1 _ x0_4
  have Xx1_0 := ext_cell _ _ (Array.getElem?_eq_some_iff.1 P1_1.out).1 _ x1_0
  have Xx1_1 := ext_cell _ _ (Array.getElem?_eq_some_iff.1 P1_1.out).1 _ x1_1
  have Xx1_2 := ext_cell _ _ (Array.getElem?_eq_some_iff.1 P1_1.out).1 _ x1_2
  have Xx1_3 := ext_cell _ _ (Array.getElem?_eq_some_iff.1 P1_1.out).1 _ x1_3
  have Xck0 := ext_cell _ _ (Nat.lt_of_lt_of_le hbk0 HB1.out.size) _ ck0
  have Xck1 := ext_cell _ _ (Nat.lt_of_lt_of_le hbk1 HB1.out.size) _ ck1
  have Xck2 := ext_cell _ _ (Nat.lt_of_lt_of_le hbk2 HB1.out.size) _ ck2
  clear x0_0 x0_1 x0_2 x0_3 x0_4 x1_0 x1_1 x1_2 x1_3 ck0 ck1 ck2
  refine wp_region_ext w1 (by kernel_rfl) (by kernel_rfl) (Below.refl _ _) ?_
  repeat (go_big_quiet_step (fail))
  refine wpQuiet_nil ?_
  intro _ hw'
  obtain ⟨n9, rfl⟩ := hw'
  have P2_0 := Lib.hid ((n9.below.block w.heap.size (Array.getElem?_eq_some_iff.1 P1_0.out).1).trans P1_0.out)
  have P2_1 := Lib.hid ((n9.below.block (w.heap.size + 1) (Array.getElem?_eq_some_iff.1 P1_1.out).1).trans P1_1.out)
  have P2_2 := Lib.hid ((n9.below.block (w.heap.size + 2) (Array.getElem?_eq_some_iff.1 P1_2.out).1).trans P1_2.out)
  have HB2 := Lib.hid (below_then HB1.out n9.below)
  generalize n9.wd = w2 at *
  clear Xx0_0 Xx0_1 Xx0_2 Xx0_3 Xx0_4 Xx1_0 Xx1_1 Xx1_2 Xx1_3 Xck0 Xck1 Xck2
  obtain ⟨x0_0, x0_1, x0_2, x0_3, x0_4⟩ := rowc5 P2_0.out
  obtain ⟨x1_0, x1_1, x1_2, x1_3⟩ := rowc4 P2_1.out
  have ck0 := (HB2.out.cell (p := ⟨wb, wo, none⟩) hbk0).trans HK0.out
  have ck1 := (HB2.out.cell (p := ⟨wb, wo + 1, none⟩) hbk1).trans HK1.out
  have ck2 := (HB2.out.cell (p := ⟨lb, lo + 2, none⟩) hbk2).trans HK2.out
  go_wp2_with fail
  refine (TEN.out _ _).mono ?_; rintro e w3 ⟨rfl, hb3⟩
  have P3_0 := Lib.hid ((hb3.block w.heap.size (Array.getElem?_eq_some_iff.1 P2_0.out).1).trans P2_0.out)
  have P3_1 := Lib.hid ((hb3.block (w.heap.size + 1) (Array.getElem?_eq_some_iff.1 P2_1.out).1).trans P2_1.out)
  have P3_2 := Lib.hid ((hb3.block (w.heap.size + 2) (Array.getElem?_eq_some_iff.1 P2_2.out).1).trans P2_2.out)
  have HB3 := Lib.hid (below_then HB2.out hb3)
  clear x0_0 x0_1 x0_2 x0_3 x0_4 x1_0 x1_1 x1_2 x1_3 ck0 ck1 ck2
  clear hb3
  obtain ⟨x0_0, x0_1, x0_2, x0_3, x0_4⟩ := rowc5 P3_0.out
  obtain ⟨x1_0, x1_1, x1_2, x1_3⟩ := rowc4 P3_1.out
  have ck0 := (HB3.out.cell (p := ⟨wb, wo, none⟩) hbk0).trans HK0.out
  have ck1 := (HB3.out.cell (p := ⟨wb, wo + 1, none⟩) hbk1).trans HK1.out
  have ck2 := (HB3.out.cell (p := ⟨lb, lo + 2, none⟩) hbk2).trans HK2.out
  clear x0_0 x0_1 x0_2 x0_3 x0_4 x1_0 x1_1 x1_2 x1_3 ck0 ck1 ck2
  go_wp2_with (refine wpList_store_row rfl 60 _ _ rfl (w.heap.size + 2) _ rfl rfl 60 #[.int .i64 0, .int .i64 0, .slice none 0 0, .slice none 0 0, .slice none 0 0] P3_2.out (by kernel_rfl) rfl (by simp [Value.oneCell']) ?_)
  try rw [scopes_ret]
  refine bodyPost_ret (v := .agg #[.int .i64 2, .int .i64 8, .slice none 0 0, .slice none 0 0, .slice none 0 0]) (results_cell_row Try.results16 _ _ (w.heap.size + 2) 60 _ (0, 0) _ rfl (setRow_heap _ _ _ _ 60 (0, 0) P3_2.out) Try.underlying60 rfl (by kernel_rfl)) rfl ?_
  exact ⟨rfl, row_below HB3.out (by omega) _⟩
set_option maxRecDepth 100000 in
set_option maxHeartbeats 16000000 in
theorem pRes3c (c : ConfM) (k : Nat) (hk : k < c.caps.length) (hg : c.good) (val t : Int) (ht : U64 t) (W L : Value) (w : World) (hv : PuV w c k val t W L) (b : Int) (p q : Bool) (aa : Option Addr) (n ac : Nat) (hne : ¬ b = t) (h0 : 0 ≤ b) (h1 : b < 18446744073709551616) (hcl : closedB b = true) : Calls Try.prog 16 #[.agg (puL 0 3 W L).toArray, .agg #[.int .u64 b, .bool p, .bool q, .slice aa n ac]] w fun e w' => e = .returned (.agg (puL 4 8 nilS nilS).toArray) ∧ Below w.heap.size w w' := by
  obtain ⟨wb, wo, wc, lb, lo, lc, rfl, rfl, hwb, hlb, hw0, hw1, hl0, hl1, hl2, hls⟩ := hv.open
  obtain ⟨ln, hln⟩ : ∃ ln, (ringL c k).length = ln := ⟨_, rfl⟩
  have hln5 : 5 ≤ ln := by rw [← hln, ringL_length]; have := hg.size k hk; omega
  rw [hln]
  have HK0 := Lib.hid (hw0)
  have hbk0 : wb < w.heap.size := hwb
  have HK1 := Lib.hid (hw1)
  have hbk1 : wb < w.heap.size := hwb
  have HK2 := Lib.hid (hl2)
  have hbk2 : lb < w.heap.size := hlb
  obtain ⟨W, hW, HB, R0, R1, R2, hz⟩ := three_new w (.cells #[.int .i64 0, .int .i64 3, .slice (some ⟨wb, wo, none⟩) 2 wc, .slice (some ⟨lb, lo, none⟩) ln lc, .slice none 0 0] 60) (.cells #[.int .u64 b, .bool p, .bool q, .slice aa n ac] 52) (.cells #[.int .i64 0, .int .i64 0, .slice none 0 0, .slice none 0 0, .slice none 0 0] 60)
  have HW := Lib.hid hW
  clear hW
  have TCM := Lib.hid fun w' => complete_run 0 3 wb wo wc lb lo ln lc hln5 w'
  have TEN := Lib.hid fun k w' => end_any k w'
  have TCL := Lib.hid fun w' => closed_any b w' h0 h1
  rw [hcl] at TCL
  clear hcl h0 h1
  clear hls
  unfold puL
  try dsimp only
  have hi1 : 1 < ln := by omega
  have hi2 : 2 < ln := by omega
  have hI2 : (2 : Int) < (ln : Int) := by omega
  clear ht hk hg hln5 hln
  go_enter Try.func16, Try.ntmps16
  go_wp2_with fail
  rw [HW.out]
  clear HW
  refine wp_scopes 4 fun f HF => ?_
  obtain ⟨x0_0, x0_1, x0_2, x0_3, x0_4⟩ := rowc5 R0.out
  obtain ⟨x1_0, x1_1, x1_2, x1_3⟩ := rowc4 R1.out
  have ck0 := (HB.out.cell (p := ⟨wb, wo, none⟩) hbk0).trans HK0.out
  have ck1 := (HB.out.cell (p := ⟨wb, wo + 1, none⟩) hbk1).trans HK1.out
  have ck2 := (HB.out.cell (p := ⟨lb, lo + 2, none⟩) hbk2).trans HK2.out
  go_wp2_with fail
  refine (TCM.out _).mono ?_; rintro e w1 ⟨rfl, hb1⟩
  have P1_0 := Lib.hid ((hb1.block w.heap.size (Array.getElem?_eq_some_iff.1 R0.out).1).trans R0.out)
  have P1_1 := Lib.hid ((hb1.block (w.heap.size + 1) (Array.getElem?_eq_some_iff.1 R1.out).1).trans R1.out)
  have P1_2 := Lib.hid ((hb1.block (w.heap.size + 2) (Array.getElem?_eq_some_iff.1 R2.out).1).trans R2.out)
  have HB1 := Lib.hid (below_then HB.out hb1)
  clear x0_0 x0_1 x0_2 x0_3 x0_4 x1_0 x1_1 x1_2 x1_3 ck0 ck1 ck2
  clear hb1
  obtain ⟨x0_0, x0_1, x0_2, x0_3, x0_4⟩ := rowc5 P1_0.out
  obtain ⟨x1_0, x1_1, x1_2, x1_3⟩ := rowc4 P1_1.out
  have ck0 := (HB1.out.cell (p := ⟨wb, wo, none⟩) hbk0).trans HK0.out
  have ck1 := (HB1.out.cell (p := ⟨wb, wo + 1, none⟩) hbk1).trans HK1.out
  have ck2 := (HB1.out.cell (p := ⟨lb, lo + 2, none⟩) hbk2).trans HK2.out
  go_wp2_with fail
  go_step3
  refine scopes_goto ((HF.out 2).trans rfl) ?_
  go_upto_region 27 with fail
  have Xx0_0 := ext_cell _ _ (Array.getElem?_eq_some_iff.1 P1_0.out).1 _ x0_0
  have Xx0_1 := ext_cell _ _ (Array.getElem?_eq_some_iff.1 P1_0.out).1 _ x0_1
  have Xx0_2 := ext_cell _ _ (Array.getElem?_eq_some_iff.1 P1_0.out).1 _ x0_2
  have Xx0_3 := ext_cell _ _ (Array.getElem?_eq_some_iff.1 P1_0.out).1 _ x0_3
  have Xx0_4 := ext_cell _ _ (Array.getElem?_eq_some_iff.1 P1_0.out).1 _ x0_4
  have Xx1_0 := ext_cell _ _ (Array.getElem?_eq_some_iff.1 P1_1.out).1 _ x1_0
  have Xx1_1 := ext_cell _ _ (Array.getElem?_eq_some_iff.1 P1_1.out).1 _ x1_1
  have Xx1_2 := ext_cell _ _ (Array.getElem?_eq_some_iff.1 P1_1.out).1 _ x1_2
  have Xx1_3 := ext_cell _ _ (Array.getElem?_eq_some_iff.1 P1_1.out).1 _ x1_3
  have Xck0 := ext_cell _ _ (Nat.lt_of_lt_of_le hbk0 HB1.out.size) _ ck0
  have Xck1 := ext_cell _ _ (Nat.lt_of_lt_of_le hbk1 HB1.out.size) _ ck1
  have Xck2 := ext_cell _ _ (Nat.lt_of_lt_of_le hbk2 HB1.out.size) _ ck2
  clear x0_0 x0_1 x0_2 x0_3 x0_4 x1_0 x1_1 x1_2 x1_3 ck0 ck1 ck2
  refine wp_region_ext w1 (by kernel_rfl) (by kernel_rfl) (Below.refl _ _) ?_
  repeat (go_big_quiet_step (fail))
  refine wpQuiet_nil ?_
  intro _ hw'
  obtain ⟨n9, rfl⟩ := hw'
  have P2_0 := Lib.hid ((n9.below.block w.heap.size (Array.getElem?_eq_some_iff.1 P1_0.out).1).trans P1_0.out)
  have P2_1 := Lib.hid ((n9.below.block (w.heap.size + 1) (Array.getElem?_eq_some_iff.1 P1_1.out).1).trans P1_1.out)
  have P2_2 := Lib.hid ((n9.below.block (w.heap.size + 2) (Array.getElem?_eq_some_iff.1 P1_2.out).1).trans P1_2.out)
  have HB2 := Lib.hid (below_then HB1.out n9.below)
  generalize n9.wd = w2 at *
  clear Xx0_0 Xx0_1 Xx0_2 Xx0_3 Xx0_4 Xx1_0 Xx1_1 Xx1_2 Xx1_3 Xck0 Xck1 Xck2
  obtain ⟨x0_0, x0_1, x0_2, x0_3, x0_4⟩ := rowc5 P2_0.out
  obtain ⟨x1_0, x1_1, x1_2, x1_3⟩ := rowc4 P2_1.out
  have ck0 := (HB2.out.cell (p := ⟨wb, wo, none⟩) hbk0).trans HK0.out
  have ck1 := (HB2.out.cell (p := ⟨wb, wo + 1, none⟩) hbk1).trans HK1.out
  have ck2 := (HB2.out.cell (p := ⟨lb, lo + 2, none⟩) hbk2).trans HK2.out
  go_wp2_with fail
  go_step3
  refine scopes_goto ((HF.out 0).trans rfl) ?_
  go_wp2_with fail
  refine (TCL.out _).mono ?_; rintro e w' ⟨rfl, rfl⟩
  go_wp2_with fail
  refine (TEN.out _ _).mono ?_; rintro e w3 ⟨rfl, hb3⟩
  have P3_0 := Lib.hid ((hb3.block w.heap.size (Array.getElem?_eq_some_iff.1 P2_0.out).1).trans P2_0.out)
  have P3_1 := Lib.hid ((hb3.block (w.heap.size + 1) (Array.getElem?_eq_some_iff.1 P2_1.out).1).trans P2_1.out)
  have P3_2 := Lib.hid ((hb3.block (w.heap.size + 2) (Array.getElem?_eq_some_iff.1 P2_2.out).1).trans P2_2.out)
  have HB3 := Lib.hid (below_then HB2.out hb3)
  clear x0_0 x0_1 x0_2 x0_3 x0_4 x1_0 x1_1 x1_2 x1_3 ck0 ck1 ck2
  clear hb3
  obtain ⟨x0_0, x0_1, x0_2, x0_3, x0_4⟩ := rowc5 P3_0.out
  obtain ⟨x1_0, x1_1, x1_2, x1_3⟩ := rowc4 P3_1.out
  have ck0 := (HB3.out.cell (p := ⟨wb, wo, none⟩) hbk0).trans HK0.out
  have ck1 := (HB3.out.cell (p := ⟨wb, wo + 1, none⟩) hbk1).trans HK1.out
  have ck2 := (HB3.out.cell (p := ⟨lb, lo + 2, none⟩) hbk2).trans HK2.out
  clear x0_0 x0_1 x0_2 x0_3 x0_4 x1_0 x1_1 x1_2 x1_3 ck0 ck1 ck2
  go_wp2_with (refine wpList_store_row rfl 60 _ _ rfl (w.heap.size + 2) _ rfl rfl 60 #[.int .i64 0, .int .i64 0, .slice none 0 0, .slice none 0 0, .slice none 0 0] P3_2.out (by kernel_rfl) rfl (by simp [Value.oneCell']) ?_)
  try rw [scopes_ret]
  refine bodyPost_ret (v := .agg #[.int .i64 4, .int .i64 8, .slice none 0 0, .slice none 0 0, .slice none 0 0]) (results_cell_row Try.results16 _ _ (w.heap.size + 2) 60 _ (0, 0) _ rfl (setRow_heap _ _ _ _ 60 (0, 0) P3_2.out) Try.underlying60 rfl (by kernel_rfl)) rfl ?_
  exact ⟨rfl, row_below HB3.out (by omega) _⟩
set_option maxRecDepth 100000 in
set_option maxHeartbeats 16000000 in
theorem pRes3o (c : ConfM) (k : Nat) (hk : k < c.caps.length) (hg : c.good) (val t : Int) (ht : U64 t) (W L : Value) (w : World) (hv : PuV w c k val t W L) (b : Int) (p q : Bool) (aa : Option Addr) (n ac : Nat) (hne : ¬ b = t) (h0 : 0 ≤ b) (h1 : b < 18446744073709551616) (hcl : closedB b = false) : Calls Try.prog 16 #[.agg (puL 0 3 W L).toArray, .agg #[.int .u64 b, .bool p, .bool q, .slice aa n ac]] w fun e w' => ∃ nb, e = .returned (.agg (puL 0 2 (.slice (some ⟨nb, 0, none⟩) 2 2) L).toArray) ∧ Hid (w'.heap[nb]? = some (.cells #[.int .u64 val, .int .u64 b] 27 (0, 0))) ∧ Hid (w.heap.size ≤ nb) ∧ Hid (Below w.heap.size w w') := by
  obtain ⟨wb, wo, wc, lb, lo, lc, rfl, rfl, hwb, hlb, hw0, hw1, hl0, hl1, hl2, hls⟩ := hv.open
  obtain ⟨ln, hln⟩ : ∃ ln, (ringL c k).length = ln := ⟨_, rfl⟩
  have hln5 : 5 ≤ ln := by rw [← hln, ringL_length]; have := hg.size k hk; omega
  rw [hln]
  have HK0 := Lib.hid (hw0)
  have hbk0 : wb < w.heap.size := hwb
  have HK1 := Lib.hid (hw1)
  have hbk1 : wb < w.heap.size := hwb
  have HK2 := Lib.hid (hl2)
  have hbk2 : lb < w.heap.size := hlb
  obtain ⟨W, hW, HB, R0, R1, R2, hz⟩ := three_new w (.cells #[.int .i64 0, .int .i64 3, .slice (some ⟨wb, wo, none⟩) 2 wc, .slice (some ⟨lb, lo, none⟩) ln lc, .slice none 0 0] 60) (.cells #[.int .u64 b, .bool p, .bool q, .slice aa n ac] 52) (.cells #[.int .i64 0, .int .i64 0, .slice none 0 0, .slice none 0 0, .slice none 0 0] 60)
  have HW := Lib.hid hW
  clear hW
  have TCM := Lib.hid fun w' => complete_run 0 3 wb wo wc lb lo ln lc hln5 w'
  have TEN := Lib.hid fun k w' => end_any k w'
  have TCL := Lib.hid fun w' => closed_any b w' h0 h1
  rw [hcl] at TCL
  clear hcl h0 h1
  clear hls
  unfold puL
  try dsimp only
  have hi1 : 1 < ln := by omega
  have hi2 : 2 < ln := by omega
  have hI2 : (2 : Int) < (ln : Int) := by omega
  clear ht hk hg hln5 hln
  go_enter Try.func16, Try.ntmps16
  go_wp2_with fail
  rw [HW.out]
  clear HW
  refine wp_scopes 4 fun f HF => ?_
  obtain ⟨x0_0, x0_1, x0_2, x0_3, x0_4⟩ := rowc5 R0.out
  obtain ⟨x1_0, x1_1, x1_2, x1_3⟩ := rowc4 R1.out
  have ck0 := (HB.out.cell (p := ⟨wb, wo, none⟩) hbk0).trans HK0.out
  have ck1 := (HB.out.cell (p := ⟨wb, wo + 1, none⟩) hbk1).trans HK1.out
  have ck2 := (HB.out.cell (p := ⟨lb, lo + 2, none⟩) hbk2).trans HK2.out
  go_wp2_with fail
  refine (TCM.out _).mono ?_; rintro e w1 ⟨rfl, hb1⟩
  have P1_0 := Lib.hid ((hb1.block w.heap.size (Array.getElem?_eq_some_iff.1 R0.out).1).trans R0.out)
  have P1_1 := Lib.hid ((hb1.block (w.heap.size + 1) (Array.getElem?_eq_some_iff.1 R1.out).1).trans R1.out)
  have P1_2 := Lib.hid ((hb1.block (w.heap.size + 2) (Array.getElem?_eq_some_iff.1 R2.out).1).trans R2.out)
  have HB1 := Lib.hid (below_then HB.out hb1)
  clear x0_0 x0_1 x0_2 x0_3 x0_4 x1_0 x1_1 x1_2 x1_3 ck0 ck1 ck2
  clear hb1
  obtain ⟨x0_0, x0_1, x0_2, x0_3, x0_4⟩ := rowc5 P1_0.out
  obtain ⟨x1_0, x1_1, x1_2, x1_3⟩ := rowc4 P1_1.out
  have ck0 := (HB1.out.cell (p := ⟨wb, wo, none⟩) hbk0).trans HK0.out
  have ck1 := (HB1.out.cell (p := ⟨wb, wo + 1, none⟩) hbk1).trans HK1.out
  have ck2 := (HB1.out.cell (p := ⟨lb, lo + 2, none⟩) hbk2).trans HK2.out
  go_wp2_with fail
  go_step3
  refine scopes_goto ((HF.out 2).trans rfl) ?_
  go_upto_region 27 with fail
  have Xx0_0 := ext_cell _ _ (Array.getElem?_eq_some_iff.1 P1_0.out).1 _ x0_0
  have Xx0_1 := ext_cell _ _ (Array.getElem?_eq_some_iff.1 P1_0.out).1 _ x0_1
  have Xx0_2 := ext_cell _ _ (Array.getElem?_eq_some_iff.1 P1_0.out).1 _ x0_2
  have Xx0_3 := ext_cell _ _ (Array.getElem?_eq_some_iff.1 P1_0.out).1 _ x0_3
  have Xx0_4 := ext_cell _ _ (Array.getElem?_eq_some_iff.1 P1_0.out).1 _ x0_4
  have Xx1_0 := ext_cell _ _ (Array.getElem?_eq_some_iff.1 P1_1.out).1 _ x1_0
  have Xx1_1 := ext_cell _ _ (Array.getElem?_eq_some_iff.1 P1_1.out).1 _ x1_1
  have Xx1_2 := ext_cell _ _ (Array.getElem?_eq_some_iff.1 P1_1.out).1 _ x1_2
  have Xx1_3 := ext_cell _ _ (Array.getElem?_eq_some_iff.1 P1_1.out).1 _ x1_3
  have Xck0 := ext_cell _ _ (Nat.lt_of_lt_of_le hbk0 HB1.out.size) _ ck0
  have Xck1 := ext_cell _ _ (Nat.lt_of_lt_of_le hbk1 HB1.out.size) _ ck1
  have Xck2 := ext_cell _ _ (Nat.lt_of_lt_of_le hbk2 HB1.out.size) _ ck2
  clear x0_0 x0_1 x0_2 x0_3 x0_4 x1_0 x1_1 x1_2 x1_3 ck0 ck1 ck2
  refine wp_region_ext w1 (by kernel_rfl) (by kernel_rfl) (Below.refl _ _) ?_
  repeat (go_big_quiet_step (fail))
  refine wpQuiet_nil ?_
  intro _ hw'
  obtain ⟨n9, rfl⟩ := hw'
  have P2_0 := Lib.hid ((n9.below.block w.heap.size (Array.getElem?_eq_some_iff.1 P1_0.out).1).trans P1_0.out)
  have P2_1 := Lib.hid ((n9.below.block (w.heap.size + 1) (Array.getElem?_eq_some_iff.1 P1_1.out).1).trans P1_1.out)
  have P2_2 := Lib.hid ((n9.below.block (w.heap.size + 2) (Array.getElem?_eq_some_iff.1 P1_2.out).1).trans P1_2.out)
  have HB2 := Lib.hid (below_then HB1.out n9.below)
  generalize n9.wd = w2 at *
  clear Xx0_0 Xx0_1 Xx0_2 Xx0_3 Xx0_4 Xx1_0 Xx1_1 Xx1_2 Xx1_3 Xck0 Xck1 Xck2
  obtain ⟨x0_0, x0_1, x0_2, x0_3, x0_4⟩ := rowc5 P2_0.out
  obtain ⟨x1_0, x1_1, x1_2, x1_3⟩ := rowc4 P2_1.out
  have ck0 := (HB2.out.cell (p := ⟨wb, wo, none⟩) hbk0).trans HK0.out
  have ck1 := (HB2.out.cell (p := ⟨wb, wo + 1, none⟩) hbk1).trans HK1.out
  have ck2 := (HB2.out.cell (p := ⟨lb, lo + 2, none⟩) hbk2).trans HK2.out
  go_wp2_with fail
  go_step3
  refine scopes_goto ((HF.out 0).trans rfl) ?_
  go_wp2_with fail
  refine (TCL.out _).mono ?_; rintro e w' ⟨rfl, rfl⟩
  go_upto_region 17 with fail
  have KSn : Hid (∀ w', Below w2.heap.size w2 w' → (fun w' : World => (w'.cell? ⟨w.heap.size, 0, none⟩ = some (.int .i64 0) ∧ w'.cell? ⟨w.heap.size, 1, none⟩ = some (.int .i64 3) ∧ w'.cell? ⟨w.heap.size, 2, none⟩ = some (.slice (some ⟨wb, wo, none⟩) 2 wc) ∧ w'.cell? ⟨w.heap.size, 3, none⟩ = some (.slice (some ⟨lb, lo, none⟩) ln lc) ∧ w'.cell? ⟨w.heap.size, 4, none⟩ = some (.slice none 0 0)) ∧ (w'.cell? ⟨w.heap.size + 1, 0, none⟩ = some (.int .u64 b) ∧ w'.cell? ⟨w.heap.size + 1, 1, none⟩ = some (.bool p) ∧ w'.cell? ⟨w.heap.size + 1, 2, none⟩ = some (.bool q) ∧ w'.cell? ⟨w.heap.size + 1, 3, none⟩ = some (.slice aa n ac)) ∧ w'.cell? ⟨wb, wo, none⟩ = some (.int .u64 val) ∧ w'.cell? ⟨wb, wo + 1, none⟩ = some (.int .u64 t) ∧ w'.cell? ⟨lb, lo + 2, none⟩ = some (.int .i64 (c.caps.getD k 0))) w') := fun w' hb => ⟨rowc5 ((hb.block _ (Array.getElem?_eq_some_iff.1 P2_0.out).1).trans P2_0.out), rowc4 ((hb.block _ (Array.getElem?_eq_some_iff.1 P2_1.out).1).trans P2_1.out), (hb.cell (p := ⟨wb, wo, none⟩) (Nat.lt_of_lt_of_le hbk0 HB2.out.size)).trans ((HB2.out.cell (p := ⟨wb, wo, none⟩) hbk0).trans HK0.out), (hb.cell (p := ⟨wb, wo + 1, none⟩) (Nat.lt_of_lt_of_le hbk1 HB2.out.size)).trans ((HB2.out.cell (p := ⟨wb, wo + 1, none⟩) hbk1).trans HK1.out), (hb.cell (p := ⟨lb, lo + 2, none⟩) (Nat.lt_of_lt_of_le hbk2 HB2.out.size)).trans ((HB2.out.cell (p := ⟨lb, lo + 2, none⟩) hbk2).trans HK2.out)⟩
  clear x0_0 x0_1 x0_2 x0_3 x0_4 x1_0 x1_1 x1_2 x1_3 ck0 ck1 ck2
  go_cut [] (fun wx => ∃ nb : Nat, Hid (wx.heap[nb]? = some (.cells #[.int .u64 val, .int .u64 b] 27 (0, 0))) ∧ Hid (w.heap.size + 2 < nb) ∧ Hid (wx.heap[w.heap.size]? = some (.cells #[.int .i64 0, .int .i64 3, .slice (some ⟨nb, 0, none⟩) 2 2, .slice (some ⟨lb, lo, none⟩) ln lc, .slice none 0 0] 60 (0, 0))) ∧ Hid (wx.heap[w.heap.size + 1]? = some (.cells #[.int .u64 b, .bool p, .bool q, .slice aa n ac] 52 (0, 0))) ∧ Hid (wx.heap[w.heap.size + 2]? = some (.cells #[.int .i64 0, .int .i64 0, .slice none 0 0, .slice none 0 0, .slice none 0 0] 60 (0, 0))) ∧ Hid (Below w.heap.size w wx))
  case first =>
    refine untilK KSn 8 9 (by kernel_rfl) rfl ?_
    obtain ⟨u0, hu0, HU0⟩ := drew_pack w2
    rw [hu0]
    clear hu0
    have hSU0 := KSn.out _ HU0.out
    refine tkU (v := ?_) 0 la0 hSU0 (by kernel_rfl) (fun _ _ _ h => h) rfl ?_ ?_
    rotate_left
    · (intro w hSw; (try dsimp only at hSw); go_simp <;> with_reducible rfl)
    simp only [Act.put, List.setIfInBounds_toArray, List.set_cons_zero, List.set_cons_succ]
    refine tkU (v := ?_) 1 la1 hSU0 (by kernel_rfl) (fun _ _ _ h => h) rfl ?_ ?_
    rotate_left
    · (intro w hSw; (try dsimp only at hSw); go_simp <;> with_reducible rfl)
    simp only [Act.put, List.setIfInBounds_toArray, List.set_cons_zero, List.set_cons_succ]
    refine tkU (v := ?_) 2 la2 hSU0 (by kernel_rfl) (fun _ _ _ h => h) rfl ?_ ?_
    rotate_left
    · (intro w hSw; (try dsimp only at hSw); go_simp <;> with_reducible rfl)
    simp only [Act.put, List.setIfInBounds_toArray, List.set_cons_zero, List.set_cons_succ]
    refine tkU (v := ?_) 3 la3 hSU0 (by kernel_rfl) (fun _ _ _ h => h) rfl ?_ ?_
    rotate_left
    · (intro w hSw; (try dsimp only at hSw); go_simp <;> with_reducible rfl)
    simp only [Act.put, List.setIfInBounds_toArray, List.set_cons_zero, List.set_cons_succ]
    refine tkU (v := ?_) 4 la4 hSU0 (by kernel_rfl) (fun _ _ _ h => h) rfl ?_ ?_
    rotate_left
    · (intro w hSw; (try dsimp only at hSw); go_simp <;> with_reducible rfl)
    simp only [Act.put, List.setIfInBounds_toArray, List.set_cons_zero, List.set_cons_succ]
    refine tkU (v := ?_) 5 la5 hSU0 (by kernel_rfl) (fun _ _ _ h => h) rfl ?_ ?_
    rotate_left
    · (intro w hSw; (try dsimp only at hSw); go_simp <;> with_reducible rfl)
    simp only [Act.put, List.setIfInBounds_toArray, List.set_cons_zero, List.set_cons_succ]
    refine wpAnyU_ready (rs := [6]) (by kernel_rfl) rfl ?_
    refine AllReadyU.cons la6 rfl (fun K hK => ?_) ?_
    · go_simp
      obtain ⟨u1, nb, hv1, hX, RN, hbn, ltn⟩ := alloc_pack u0 (.cells #[.int .u64 val, .int .u64 b] 27)
      rw [hv1, hX]
      have gen : Hid (w.heap.size + 2 < nb) := by have h5 := HU0.out.size; have h6 := (Array.getElem?_eq_some_iff.1 P2_2.out).1; show w.heap.size + 2 < nb; omega
      have HU1 := Lib.hid (below_then HU0.out hbn.out)
      clear hv1 hX hbn
      refine hK.out _ _ ?_ (fun hSU1 => ?_)
      · exact KSn.out _ HU1.out
      clear hK K hSU0
      try simp only [Act.put, List.setIfInBounds_toArray, List.set_cons_zero, List.set_cons_succ]
      refine tkU (v := ?_) 7 la7 hSU1 (by kernel_rfl) (fun _ _ _ h => h) rfl ?_ ?_
      rotate_left
      · (intro w hSw; (try dsimp only at hSw); go_simp <;> with_reducible rfl)
      simp only [Act.put, List.setIfInBounds_toArray, List.set_cons_zero, List.set_cons_succ]
      refine wpAnyU_ready (rs := [8]) (by kernel_rfl) rfl ?_
      refine AllReadyU.free la8 rfl (by kernel_rfl) (fun K hK => ?_) ?_
      · have q0 := (HU1.out.block w.heap.size (Array.getElem?_eq_some_iff.1 P2_0.out).1).trans P2_0.out
        have fz := frozen_of_row _ _ 2 _ _ q0
        have r1 := heap_setCell_same _ w.heap.size 2 _ _ (.slice (some ⟨nb, 0, none⟩) 2 2) q0
        simp at r1
        have Q0 := Lib.hid r1
        have Q1 := Lib.hid ((heap_setCell_other u1 ⟨w.heap.size, 2, none⟩ (w.heap.size + 1) (.slice (some ⟨nb, 0, none⟩) 2 2) (by show w.heap.size + 1 ≠ w.heap.size; omega)).trans ((HU1.out.block (w.heap.size + 1) (Array.getElem?_eq_some_iff.1 P2_1.out).1).trans P2_1.out))
        have Q2 := Lib.hid ((heap_setCell_other u1 ⟨w.heap.size, 2, none⟩ (w.heap.size + 2) (.slice (some ⟨nb, 0, none⟩) 2 2) (by show w.heap.size + 2 ≠ w.heap.size; omega)).trans ((HU1.out.block (w.heap.size + 2) (Array.getElem?_eq_some_iff.1 P2_2.out).1).trans P2_2.out))
        have QN := Lib.hid ((heap_setCell_other u1 ⟨w.heap.size, 2, none⟩ nb (.slice (some ⟨nb, 0, none⟩) 2 2) (by have := gen.out; show nb ≠ w.heap.size; omega)).trans RN.out)
        have HU2 := Lib.hid ((below_then HB2.out HU1.out).setCell (p := ⟨w.heap.size, 2, none⟩) (Nat.le_refl _) (.slice (some ⟨nb, 0, none⟩) 2 2))
        clear r1
        have c2 := cell_of_row _ _ 2 _ _ _ q0
        simp at c2
        go_simp
        clear c2 fz q0
        refine hK.out _ _ ?_
        clear hK K hSU1
        try simp only [Act.put, List.setIfInBounds_toArray, List.set_cons_zero, List.set_cons_succ]
        refine wpAnyU_done (by kernel_rfl) ?_ _
        go_wp2_with fail
        go_meet
        exact ⟨nb, QN, gen, Q0, Q1, Q2, HU2⟩
      exact AllReadyU.nil
    exact AllReadyU.nil
  case rest =>
    obtain ⟨nb, RNB, hnb, PB_0, PB_1, PB_2, HBN⟩ := hcut
    obtain ⟨wz, rfl⟩ : ∃ w3 : World, w3 = wc := ⟨_, rfl⟩
    clear KSn
    obtain ⟨x0_0, x0_1, x0_2, x0_3, x0_4⟩ := rowc5 PB_0.out
    obtain ⟨x1_0, x1_1, x1_2, x1_3⟩ := rowc4 PB_1.out
    have ck0 := (HBN.out.cell (p := ⟨wb, wo, none⟩) hbk0).trans HK0.out
    have ck1 := (HBN.out.cell (p := ⟨wb, wo + 1, none⟩) hbk1).trans HK1.out
    have ck2 := (HBN.out.cell (p := ⟨lb, lo + 2, none⟩) hbk2).trans HK2.out
    go_upto_region 18 with fail
    have RNB2 := Lib.hid ((heap_setCell_other wz ⟨w.heap.size, 1, none⟩ nb (.int .i64 2) (by have := hnb.out; show nb ≠ w.heap.size; omega)).trans RNB.out)
    have fz := frozen_of_row wz w.heap.size 1 _ _ PB_0.out
    have r1 := heap_setCell_same wz w.heap.size 1 _ _ (.int .i64 2) PB_0.out
    simp at r1
    have P3_0 := Lib.hid r1
    clear r1
    have P3_1 := Lib.hid ((heap_setCell_other wz ⟨w.heap.size, 1, none⟩ (w.heap.size + 1) (.int .i64 2) (by show w.heap.size + 1 ≠ w.heap.size; omega)).trans PB_1.out)
    have P3_2 := Lib.hid ((heap_setCell_other wz ⟨w.heap.size, 1, none⟩ (w.heap.size + 2) (.int .i64 2) (by show w.heap.size + 2 ≠ w.heap.size; omega)).trans PB_2.out)
    have HB3 := Lib.hid (HBN.out.setCell (p := ⟨w.heap.size, 1, none⟩) (by show w.heap.size ≤ w.heap.size; omega) (.int .i64 2))
    obtain ⟨W3, hW3⟩ : ∃ W3, wz.setCell ⟨w.heap.size, 1, none⟩ (.int .i64 2) = W3 := ⟨_, rfl⟩
    rw [hW3] at P3_0 P3_1 P3_2 RNB2 HB3
    have HW3 := Lib.hid hW3
    clear hW3
    go_upto_region 19 with fail
    rw [HW3.out]
    clear x0_0 x0_1 x0_2 x0_3 x0_4 x1_0 x1_1 x1_2 x1_3 ck0 ck1 ck2
    clear fz HW3
    obtain ⟨x0_0, x0_1, x0_2, x0_3, x0_4⟩ := rowc5 P3_0.out
    obtain ⟨x1_0, x1_1, x1_2, x1_3⟩ := rowc4 P3_1.out
    have ck0 := (HB3.out.cell (p := ⟨wb, wo, none⟩) hbk0).trans HK0.out
    have ck1 := (HB3.out.cell (p := ⟨wb, wo + 1, none⟩) hbk1).trans HK1.out
    have ck2 := (HB3.out.cell (p := ⟨lb, lo + 2, none⟩) hbk2).trans HK2.out
    go_wp2_with (refine wpList_store_row rfl 60 _ _ rfl (w.heap.size + 2) _ rfl rfl 60 #[.int .i64 0, .int .i64 0, .slice none 0 0, .slice none 0 0, .slice none 0 0] P3_2.out (by kernel_rfl) rfl (by simp [Value.oneCell']) ?_)
    try rw [scopes_ret]
    refine bodyPost_ret (v := .agg #[.int .i64 0, .int .i64 2, .slice (some ⟨nb, 0, none⟩) 2 2, .slice (some ⟨lb, lo, none⟩) ln lc, .slice none 0 0]) (results_cell_row Try.results16 _ _ (w.heap.size + 2) 60 _ (0, 0) _ rfl (setRow_heap _ _ _ _ 60 (0, 0) P3_2.out) Try.underlying60 rfl (by kernel_rfl)) rfl ?_
    exact ⟨nb, rfl, Lib.hid ((setRow_other _ (w.heap.size + 2) nb _ (by have := hnb.out; omega)).trans RNB2.out), Lib.hid (by have := hnb.out; show w.heap.size ≤ nb; omega), Lib.hid (row_below HB3.out (by omega) _)⟩
set_option maxRecDepth 100000 in
set_option maxHeartbeats 16000000 in
theorem pRes4e (c : ConfM) (k : Nat) (hk : k < c.caps.length) (hg : c.good) (val t : Int) (ht : U64 t) (W L : Value) (w : World) (hv : PuV w c k val t W L) (b : Int) (p q : Bool) (aa : Option Addr) (n ac : Nat) (hn : t / 2 = b) : Calls Try.prog 16 #[.agg (puL 0 4 W L).toArray, .agg #[.int .u64 b, .bool p, .bool q, .slice aa n ac]] w fun e w' => e = .returned (.agg (puL 0 5 W L).toArray) ∧ Below w.heap.size w w' := by
  obtain ⟨wb, wo, wc, lb, lo, lc, rfl, rfl, hwb, hlb, hw0, hw1, hl0, hl1, hl2, hls⟩ := hv.open
  obtain ⟨ln, hln⟩ : ∃ ln, (ringL c k).length = ln := ⟨_, rfl⟩
  have hln5 : 5 ≤ ln := by rw [← hln, ringL_length]; have := hg.size k hk; omega
  rw [hln]
  have HK0 := Lib.hid (hw0)
  have hbk0 : wb < w.heap.size := hwb
  have HK1 := Lib.hid (hw1)
  have hbk1 : wb < w.heap.size := hwb
  have HK2 := Lib.hid (hl2)
  have hbk2 : lb < w.heap.size := hlb
  obtain ⟨W, hW, HB, R0, R1, R2, hz⟩ := three_new w (.cells #[.int .i64 0, .int .i64 4, .slice (some ⟨wb, wo, none⟩) 2 wc, .slice (some ⟨lb, lo, none⟩) ln lc, .slice none 0 0] 60) (.cells #[.int .u64 b, .bool p, .bool q, .slice aa n ac] 52) (.cells #[.int .i64 0, .int .i64 0, .slice none 0 0, .slice none 0 0, .slice none 0 0] 60)
  have HW := Lib.hid hW
  clear hW
  have TCM := Lib.hid fun w' => complete_run 0 4 wb wo wc lb lo ln lc hln5 w'
  have TEN := Lib.hid fun k w' => end_any k w'
  have TSQ := Lib.hid fun w' => seq_any t w'
  obtain ⟨sq, hsq⟩ : ∃ sq, t / 2 = sq := ⟨_, rfl⟩
  rw [hsq] at TSQ hn
  clear hsq
  clear hls
  unfold puL
  try dsimp only
  have hi1 : 1 < ln := by omega
  have hi2 : 2 < ln := by omega
  have hI2 : (2 : Int) < (ln : Int) := by omega
  clear ht hk hg hln5 hln
  go_enter Try.func16, Try.ntmps16
  go_wp2_with fail
  rw [HW.out]
  clear HW
  refine wp_scopes 4 fun f HF => ?_
  obtain ⟨x0_0, x0_1, x0_2, x0_3, x0_4⟩ := rowc5 R0.out
  obtain ⟨x1_0, x1_1, x1_2, x1_3⟩ := rowc4 R1.out
  have ck0 := (HB.out.cell (p := ⟨wb, wo, none⟩) hbk0).trans HK0.out
  have ck1 := (HB.out.cell (p := ⟨wb, wo + 1, none⟩) hbk1).trans HK1.out
  have ck2 := (HB.out.cell (p := ⟨lb, lo + 2, none⟩) hbk2).trans HK2.out
  go_wp2_with fail
  refine (TCM.out _).mono ?_; rintro e w1 ⟨rfl, hb1⟩
  have P1_0 := Lib.hid ((hb1.block w.heap.size (Array.getElem?_eq_some_iff.1 R0.out).1).trans R0.out)
  have P1_1 := Lib.hid ((hb1.block (w.heap.size + 1) (Array.getElem?_eq_some_iff.1 R1.out).1).trans R1.out)
  have P1_2 := Lib.hid ((hb1.block (w.heap.size + 2) (Array.getElem?_eq_some_iff.1 R2.out).1).trans R2.out)
  have HB1 := Lib.hid (below_then HB.out hb1)
  clear x0_0 x0_1 x0_2 x0_3 x0_4 x1_0 x1_1 x1_2 x1_3 ck0 ck1 ck2
  clear hb1
  obtain ⟨x0_0, x0_1, x0_2, x0_3, x0_4⟩ := rowc5 P1_0.out
  obtain ⟨x1_0, x1_1, x1_2, x1_3⟩ := rowc4 P1_1.out
  have ck0 := (HB1.out.cell (p := ⟨wb, wo, none⟩) hbk0).trans HK0.out
  have ck1 := (HB1.out.cell (p := ⟨wb, wo + 1, none⟩) hbk1).trans HK1.out
  have ck2 := (HB1.out.cell (p := ⟨lb, lo + 2, none⟩) hbk2).trans HK2.out
  subst hn
  go_wp2_with fail
  go_step3
  refine scopes_goto ((HF.out 3).trans rfl) ?_
  go_upto_region 29 with fail
  have Xx0_0 := ext_cell _ _ (Array.getElem?_eq_some_iff.1 P1_0.out).1 _ x0_0
  have Xx0_1 := ext_cell _ _ (Array.getElem?_eq_some_iff.1 P1_0.out).1 _ x0_1
  have Xx0_2 := ext_cell _ _ (Array.getElem?_eq_some_iff.1 P1_0.out).1 _ x0_2
  have Xx0_3 := ext_cell _ _ (Array.getElem?_eq_some_iff.1 P1_0.out).1 _ x0_3
  have Xx0_4 := ext_cell _ _ (Array.getElem?_eq_some_iff.1 P1_0.out).1 _ x0_4
  have Xx1_0 := ext_cell _ _ (Array.getElem?_eq_some_iff.1 P1_1.out).1 _ x1_0
  have Xx1_1 := ext_cell _ _ (Array.getElem?_eq_some_iff.1 P1_1.out).1 _ x1_1
  have Xx1_2 := ext_cell _ _ (Array.getElem?_eq_some_iff.1 P1_1.out).1 _ x1_2
  have Xx1_3 := ext_cell _ _ (Array.getElem?_eq_some_iff.1 P1_1.out).1 _ x1_3
  have Xck0 := ext_cell _ _ (Nat.lt_of_lt_of_le hbk0 HB1.out.size) _ ck0
  have Xck1 := ext_cell _ _ (Nat.lt_of_lt_of_le hbk1 HB1.out.size) _ ck1
  have Xck2 := ext_cell _ _ (Nat.lt_of_lt_of_le hbk2 HB1.out.size) _ ck2
  clear x0_0 x0_1 x0_2 x0_3 x0_4 x1_0 x1_1 x1_2 x1_3 ck0 ck1 ck2
  refine wp_region_ext w1 (by kernel_rfl) (by kernel_rfl) (Below.refl _ _) ?_
  repeat (go_big_quiet_step (first
    | (go_at_call 37; with_reducible exact calls_ext ((TSQ.out _).mono (fun e w' h => ⟨h.1, h.2 ▸ Below.refl _ _⟩)))))
  refine wpQuiet_nil ?_
  intro _ hw'
  obtain ⟨n9, rfl⟩ := hw'
  have P2_0 := Lib.hid ((n9.below.block w.heap.size (Array.getElem?_eq_some_iff.1 P1_0.out).1).trans P1_0.out)
  have P2_1 := Lib.hid ((n9.below.block (w.heap.size + 1) (Array.getElem?_eq_some_iff.1 P1_1.out).1).trans P1_1.out)
  have P2_2 := Lib.hid ((n9.below.block (w.heap.size + 2) (Array.getElem?_eq_some_iff.1 P1_2.out).1).trans P1_2.out)
  have HB2 := Lib.hid (below_then HB1.out n9.below)
  generalize n9.wd = w2 at *
  clear Xx0_0 Xx0_1 Xx0_2 Xx0_3 Xx0_4 Xx1_0 Xx1_1 Xx1_2 Xx1_3 Xck0 Xck1 Xck2
  obtain ⟨x0_0, x0_1, x0_2, x0_3, x0_4⟩ := rowc5 P2_0.out
  obtain ⟨x1_0, x1_1, x1_2, x1_3⟩ := rowc4 P2_1.out
  have ck0 := (HB2.out.cell (p := ⟨wb, wo, none⟩) hbk0).trans HK0.out
  have ck1 := (HB2.out.cell (p := ⟨wb, wo + 1, none⟩) hbk1).trans HK1.out
  have ck2 := (HB2.out.cell (p := ⟨lb, lo + 2, none⟩) hbk2).trans HK2.out
  go_upto_region 30 with fail
  have fz := frozen_of_row w2 w.heap.size 1 _ _ P2_0.out
  have r1 := heap_setCell_same w2 w.heap.size 1 _ _ (.int .i64 5) P2_0.out
  simp at r1
  have P3_0 := Lib.hid r1
  clear r1
  have P3_1 := Lib.hid ((heap_setCell_other w2 ⟨w.heap.size, 1, none⟩ (w.heap.size + 1) (.int .i64 5) (by show w.heap.size + 1 ≠ w.heap.size; omega)).trans P2_1.out)
  have P3_2 := Lib.hid ((heap_setCell_other w2 ⟨w.heap.size, 1, none⟩ (w.heap.size + 2) (.int .i64 5) (by show w.heap.size + 2 ≠ w.heap.size; omega)).trans P2_2.out)
  have HB3 := Lib.hid (HB2.out.setCell (p := ⟨w.heap.size, 1, none⟩) (by show w.heap.size ≤ w.heap.size; omega) (.int .i64 5))
  obtain ⟨W3, hW3⟩ : ∃ W3, w2.setCell ⟨w.heap.size, 1, none⟩ (.int .i64 5) = W3 := ⟨_, rfl⟩
  rw [hW3] at P3_0 P3_1 P3_2 HB3
  have HW3 := Lib.hid hW3
  clear hW3
  go_upto_region 31 with fail
  rw [HW3.out]
  clear x0_0 x0_1 x0_2 x0_3 x0_4 x1_0 x1_1 x1_2 x1_3 ck0 ck1 ck2
  clear fz HW3
  obtain ⟨x0_0, x0_1, x0_2, x0_3, x0_4⟩ := rowc5 P3_0.out
  obtain ⟨x1_0, x1_1, x1_2, x1_3⟩ := rowc4 P3_1.out
  have ck0 := (HB3.out.cell (p := ⟨wb, wo, none⟩) hbk0).trans HK0.out
  have ck1 := (HB3.out.cell (p := ⟨wb, wo + 1, none⟩) hbk1).trans HK1.out
  have ck2 := (HB3.out.cell (p := ⟨lb, lo + 2, none⟩) hbk2).trans HK2.out
  go_wp2_with (refine wpList_store_row rfl 60 _ _ rfl (w.heap.size + 2) _ rfl rfl 60 #[.int .i64 0, .int .i64 0, .slice none 0 0, .slice none 0 0, .slice none 0 0] P3_2.out (by kernel_rfl) rfl (by simp [Value.oneCell']) ?_)
  try rw [scopes_ret]
  refine bodyPost_ret (v := .agg #[.int .i64 0, .int .i64 5, .slice (some ⟨wb, wo, none⟩) 2 wc, .slice (some ⟨lb, lo, none⟩) ln lc, .slice none 0 0]) (results_cell_row Try.results16 _ _ (w.heap.size + 2) 60 _ (0, 0) _ rfl (setRow_heap _ _ _ _ 60 (0, 0) P3_2.out) Try.underlying60 rfl (by kernel_rfl)) rfl ?_
  exact ⟨rfl, row_below HB3.out (by omega) _⟩
set_option maxRecDepth 100000 in
set_option maxHeartbeats 16000000 in
theorem pRes4n (c : ConfM) (k : Nat) (hk : k < c.caps.length) (hg : c.good) (val t : Int) (ht : U64 t) (W L : Value) (w : World) (hv : PuV w c k val t W L) (b : Int) (p q : Bool) (aa : Option Addr) (n ac : Nat) (hn : ¬ b = t / 2) : Calls Try.prog 16 #[.agg (puL 0 4 W L).toArray, .agg #[.int .u64 b, .bool p, .bool q, .slice aa n ac]] w fun e w' => e = .returned (.agg (puL 0 1 W L).toArray) ∧ Below w.heap.size w w' := by
  obtain ⟨wb, wo, wc, lb, lo, lc, rfl, rfl, hwb, hlb, hw0, hw1, hl0, hl1, hl2, hls⟩ := hv.open
  obtain ⟨ln, hln⟩ : ∃ ln, (ringL c k).length = ln := ⟨_, rfl⟩
  have hln5 : 5 ≤ ln := by rw [← hln, ringL_length]; have := hg.size k hk; omega
  rw [hln]
  have HK0 := Lib.hid (hw0)
  have hbk0 : wb < w.heap.size := hwb
  have HK1 := Lib.hid (hw1)
  have hbk1 : wb < w.heap.size := hwb
  have HK2 := Lib.hid (hl2)
  have hbk2 : lb < w.heap.size := hlb
  obtain ⟨W, hW, HB, R0, R1, R2, hz⟩ := three_new w (.cells #[.int .i64 0, .int .i64 4, .slice (some ⟨wb, wo, none⟩) 2 wc, .slice (some ⟨lb, lo, none⟩) ln lc, .slice none 0 0] 60) (.cells #[.int .u64 b, .bool p, .bool q, .slice aa n ac] 52) (.cells #[.int .i64 0, .int .i64 0, .slice none 0 0, .slice none 0 0, .slice none 0 0] 60)
  have HW := Lib.hid hW
  clear hW
  have TCM := Lib.hid fun w' => complete_run 0 4 wb wo wc lb lo ln lc hln5 w'
  have TEN := Lib.hid fun k w' => end_any k w'
  have TSQ := Lib.hid fun w' => seq_any t w'
  obtain ⟨sq, hsq⟩ : ∃ sq, t / 2 = sq := ⟨_, rfl⟩
  rw [hsq] at TSQ hn
  clear hsq
  clear hls
  unfold puL
  try dsimp only
  have hi1 : 1 < ln := by omega
  have hi2 : 2 < ln := by omega
  have hI2 : (2 : Int) < (ln : Int) := by omega
  clear ht hk hg hln5 hln
  go_enter Try.func16, Try.ntmps16
  go_wp2_with fail
  rw [HW.out]
  clear HW
  refine wp_scopes 4 fun f HF => ?_
  obtain ⟨x0_0, x0_1, x0_2, x0_3, x0_4⟩ := rowc5 R0.out
  obtain ⟨x1_0, x1_1, x1_2, x1_3⟩ := rowc4 R1.out
  have ck0 := (HB.out.cell (p := ⟨wb, wo, none⟩) hbk0).trans HK0.out
  have ck1 := (HB.out.cell (p := ⟨wb, wo + 1, none⟩) hbk1).trans HK1.out
  have ck2 := (HB.out.cell (p := ⟨lb, lo + 2, none⟩) hbk2).trans HK2.out
  go_wp2_with fail
  refine (TCM.out _).mono ?_; rintro e w1 ⟨rfl, hb1⟩
  have P1_0 := Lib.hid ((hb1.block w.heap.size (Array.getElem?_eq_some_iff.1 R0.out).1).trans R0.out)
  have P1_1 := Lib.hid ((hb1.block (w.heap.size + 1) (Array.getElem?_eq_some_iff.1 R1.out).1).trans R1.out)
  have P1_2 := Lib.hid ((hb1.block (w.heap.size + 2) (Array.getElem?_eq_some_iff.1 R2.out).1).trans R2.out)
  have HB1 := Lib.hid (below_then HB.out hb1)
  clear x0_0 x0_1 x0_2 x0_3 x0_4 x1_0 x1_1 x1_2 x1_3 ck0 ck1 ck2
  clear hb1
  obtain ⟨x0_0, x0_1, x0_2, x0_3, x0_4⟩ := rowc5 P1_0.out
  obtain ⟨x1_0, x1_1, x1_2, x1_3⟩ := rowc4 P1_1.out
  have ck0 := (HB1.out.cell (p := ⟨wb, wo, none⟩) hbk0).trans HK0.out
  have ck1 := (HB1.out.cell (p := ⟨wb, wo + 1, none⟩) hbk1).trans HK1.out
  have ck2 := (HB1.out.cell (p := ⟨lb, lo + 2, none⟩) hbk2).trans HK2.out
  go_wp2_with fail
  go_step3
  refine scopes_goto ((HF.out 3).trans rfl) ?_
  go_upto_region 29 with fail
  have Xx0_0 := ext_cell _ _ (Array.getElem?_eq_some_iff.1 P1_0.out).1 _ x0_0
  have Xx0_1 := ext_cell _ _ (Array.getElem?_eq_some_iff.1 P1_0.out).1 _ x0_1
  have Xx0_2 := ext_cell _ _ (Array.getElem?_eq_some_iff.1 P1_0.out).1 _ x0_2
  have Xx0_3 := ext_cell _ _ (Array.getElem?_eq_some_iff.1 P1_0.out).1 _ x0_3
  have Xx0_4 := ext_cell _ _ (Array.getElem?_eq_some_iff.1 P1_0.out).1 _ x0_4
  have Xx1_0 := ext_cell _ _ (Array.getElem?_eq_some_iff.1 P1_1.out).1 _ x1_0
  have Xx1_1 := ext_cell _ _ (Array.getElem?_eq_some_iff.1 P1_1.out).1 _ x1_1
  have Xx1_2 := ext_cell _ _ (Array.getElem?_eq_some_iff.1 P1_1.out).1 _ x1_2
  have Xx1_3 := ext_cell _ _ (Array.getElem?_eq_some_iff.1 P1_1.out).1 _ x1_3
  have Xck0 := ext_cell _ _ (Nat.lt_of_lt_of_le hbk0 HB1.out.size) _ ck0
  have Xck1 := ext_cell _ _ (Nat.lt_of_lt_of_le hbk1 HB1.out.size) _ ck1
  have Xck2 := ext_cell _ _ (Nat.lt_of_lt_of_le hbk2 HB1.out.size) _ ck2
  clear x0_0 x0_1 x0_2 x0_3 x0_4 x1_0 x1_1 x1_2 x1_3 ck0 ck1 ck2
  refine wp_region_ext w1 (by kernel_rfl) (by kernel_rfl) (Below.refl _ _) ?_
  repeat (go_big_quiet_step (first
    | (go_at_call 37; with_reducible exact calls_ext ((TSQ.out _).mono (fun e w' h => ⟨h.1, h.2 ▸ Below.refl _ _⟩)))))
  refine wpQuiet_nil ?_
  intro _ hw'
  obtain ⟨n9, rfl⟩ := hw'
  have P2_0 := Lib.hid ((n9.below.block w.heap.size (Array.getElem?_eq_some_iff.1 P1_0.out).1).trans P1_0.out)
  have P2_1 := Lib.hid ((n9.below.block (w.heap.size + 1) (Array.getElem?_eq_some_iff.1 P1_1.out).1).trans P1_1.out)
  have P2_2 := Lib.hid ((n9.below.block (w.heap.size + 2) (Array.getElem?_eq_some_iff.1 P1_2.out).1).trans P1_2.out)
  have HB2 := Lib.hid (below_then HB1.out n9.below)
  generalize n9.wd = w2 at *
  clear Xx0_0 Xx0_1 Xx0_2 Xx0_3 Xx0_4 Xx1_0 Xx1_1 Xx1_2 Xx1_3 Xck0 Xck1 Xck2
  obtain ⟨x0_0, x0_1, x0_2, x0_3, x0_4⟩ := rowc5 P2_0.out
  obtain ⟨x1_0, x1_1, x1_2, x1_3⟩ := rowc4 P2_1.out
  have ck0 := (HB2.out.cell (p := ⟨wb, wo, none⟩) hbk0).trans HK0.out
  have ck1 := (HB2.out.cell (p := ⟨wb, wo + 1, none⟩) hbk1).trans HK1.out
  have ck2 := (HB2.out.cell (p := ⟨lb, lo + 2, none⟩) hbk2).trans HK2.out
  go_wp2_with fail
  go_step3
  refine scopes_goto ((HF.out 6).trans rfl) ?_
  go_upto_region 13 with fail
  have fz := frozen_of_row w2 w.heap.size 1 _ _ P2_0.out
  have r1 := heap_setCell_same w2 w.heap.size 1 _ _ (.int .i64 1) P2_0.out
  simp at r1
  have P3_0 := Lib.hid r1
  clear r1
  have P3_1 := Lib.hid ((heap_setCell_other w2 ⟨w.heap.size, 1, none⟩ (w.heap.size + 1) (.int .i64 1) (by show w.heap.size + 1 ≠ w.heap.size; omega)).trans P2_1.out)
  have P3_2 := Lib.hid ((heap_setCell_other w2 ⟨w.heap.size, 1, none⟩ (w.heap.size + 2) (.int .i64 1) (by show w.heap.size + 2 ≠ w.heap.size; omega)).trans P2_2.out)
  have HB3 := Lib.hid (HB2.out.setCell (p := ⟨w.heap.size, 1, none⟩) (by show w.heap.size ≤ w.heap.size; omega) (.int .i64 1))
  obtain ⟨W3, hW3⟩ : ∃ W3, w2.setCell ⟨w.heap.size, 1, none⟩ (.int .i64 1) = W3 := ⟨_, rfl⟩
  rw [hW3] at P3_0 P3_1 P3_2 HB3
  have HW3 := Lib.hid hW3
  clear hW3
  go_upto_region 14 with fail
  rw [HW3.out]
  clear x0_0 x0_1 x0_2 x0_3 x0_4 x1_0 x1_1 x1_2 x1_3 ck0 ck1 ck2
  clear fz HW3
  obtain ⟨x0_0, x0_1, x0_2, x0_3, x0_4⟩ := rowc5 P3_0.out
  obtain ⟨x1_0, x1_1, x1_2, x1_3⟩ := rowc4 P3_1.out
  have ck0 := (HB3.out.cell (p := ⟨wb, wo, none⟩) hbk0).trans HK0.out
  have ck1 := (HB3.out.cell (p := ⟨wb, wo + 1, none⟩) hbk1).trans HK1.out
  have ck2 := (HB3.out.cell (p := ⟨lb, lo + 2, none⟩) hbk2).trans HK2.out
  go_wp2_with (refine wpList_store_row rfl 60 _ _ rfl (w.heap.size + 2) _ rfl rfl 60 #[.int .i64 0, .int .i64 0, .slice none 0 0, .slice none 0 0, .slice none 0 0] P3_2.out (by kernel_rfl) rfl (by simp [Value.oneCell']) ?_)
  try rw [scopes_ret]
  refine bodyPost_ret (v := .agg #[.int .i64 0, .int .i64 1, .slice (some ⟨wb, wo, none⟩) 2 wc, .slice (some ⟨lb, lo, none⟩) ln lc, .slice none 0 0]) (results_cell_row Try.results16 _ _ (w.heap.size + 2) 60 _ (0, 0) _ rfl (setRow_heap _ _ _ _ 60 (0, 0) P3_2.out) Try.underlying60 rfl (by kernel_rfl)) rfl ?_
  exact ⟨rfl, row_below HB3.out (by omega) _⟩
set_option maxRecDepth 100000 in
set_option maxHeartbeats 16000000 in
theorem pResE (code : Int) (w : World) (b : Int) (p q : Bool) (aa : Option Addr) (n ac : Nat) : Calls Try.prog 16 #[.agg (puL code 8 nilS nilS).toArray, .agg #[.int .u64 b, .bool p, .bool q, .slice aa n ac]] w fun e w' => e = .returned (.agg (puL code 8 nilS nilS).toArray) ∧ Below w.heap.size w w' := by
  obtain ⟨W, hW, HB, R0, R1, R2, hz⟩ := three_new w (.cells #[.int .i64 code, .int .i64 8, .slice none 0 0, .slice none 0 0, .slice none 0 0] 60) (.cells #[.int .u64 b, .bool p, .bool q, .slice aa n ac] 52) (.cells #[.int .i64 0, .int .i64 0, .slice none 0 0, .slice none 0 0, .slice none 0 0] 60)
  have HW := Lib.hid hW
  clear hW
  have TCM := Lib.hid fun w' => complete_not code 8 (.slice none 0 0) (.slice none 0 0) ⟨_, _, _, rfl⟩ ⟨_, _, _, rfl⟩ w'
  unfold puL nilS
  try dsimp only
  go_enter Try.func16, Try.ntmps16
  go_wp2_with fail
  rw [HW.out]
  clear HW
  refine wp_scopes 4 fun f HF => ?_
  obtain ⟨x0_0, x0_1, x0_2, x0_3, x0_4⟩ := rowc5 R0.out
  obtain ⟨x1_0, x1_1, x1_2, x1_3⟩ := rowc4 R1.out
  go_wp2_with fail
  refine (TCM.out _).mono ?_; rintro e w1 ⟨rfl, hb1⟩
  have P1_0 := Lib.hid ((hb1.block w.heap.size (Array.getElem?_eq_some_iff.1 R0.out).1).trans R0.out)
  have P1_1 := Lib.hid ((hb1.block (w.heap.size + 1) (Array.getElem?_eq_some_iff.1 R1.out).1).trans R1.out)
  have P1_2 := Lib.hid ((hb1.block (w.heap.size + 2) (Array.getElem?_eq_some_iff.1 R2.out).1).trans R2.out)
  have HB1 := Lib.hid (below_then HB.out hb1)
  clear x0_0 x0_1 x0_2 x0_3 x0_4 x1_0 x1_1 x1_2 x1_3
  clear hb1
  obtain ⟨x0_0, x0_1, x0_2, x0_3, x0_4⟩ := rowc5 P1_0.out
  obtain ⟨x1_0, x1_1, x1_2, x1_3⟩ := rowc4 P1_1.out
  go_wp2_with (refine wpList_store_row rfl 60 _ _ rfl (w.heap.size + 2) _ rfl rfl 60 #[.int .i64 0, .int .i64 0, .slice none 0 0, .slice none 0 0, .slice none 0 0] P1_2.out (by kernel_rfl) rfl (by simp [Value.oneCell']) ?_)
  try rw [scopes_ret]
  refine bodyPost_ret (v := .agg #[.int .i64 code, .int .i64 8, .slice none 0 0, .slice none 0 0, .slice none 0 0]) (results_cell_row Try.results16 _ _ (w.heap.size + 2) 60 _ (0, 0) _ rfl (setRow_heap _ _ _ _ 60 (0, 0) P1_2.out) Try.underlying60 rfl (by kernel_rfl)) rfl ?_
  exact ⟨rfl, row_below HB1.out (by omega) _⟩
end Go.Proofs.Ytcgcefoceefleaa
