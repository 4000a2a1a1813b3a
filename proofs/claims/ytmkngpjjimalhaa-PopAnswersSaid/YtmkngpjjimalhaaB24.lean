import Derived.Scope
import Derived.WalkMore
import Derived.Lib.Hide
import Derived.Test.YtmkngpjjimalhaaB23
import Derived.Test.YtmkngpjjimalhaaB01
set_option linter.unusedVariables false
set_option linter.unusedSimpArgs false
/- Layer 9: Next of the program's machine that pops. -/
namespace Go.Proofs.Ytmkngpjjimalhaa
open Go.ChangeShapes Go.WideShapes Go.ChangeAt Go.RowKit
set_option maxRecDepth 100000

set_option maxRecDepth 100000 in
set_option maxHeartbeats 16000000 in
theorem pNext1 (c : ConfM) (k : Nat) (hk : k < c.caps.length) (hg : c.good) (h t x : Int) (ht : U64 h) (W L : Value) (w : World) (hv : PuV w c k h t x W L) : Calls Try.prog 25 #[.agg (puL 0 1 W L).toArray] w fun e w' => e = .returned (accV ⟨1, c.base k + 1, 0, 0, 0⟩) ∧ Below w.heap.size w w' := by
  obtain ⟨wb, wo, wc, lb, lo, lc, rfl, rfl, hwb, hlb, hw0, hw1, hw2, hl0, hl1, hl2, hls⟩ := hv.open
  have hln0 := ringL_length c k
  obtain ⟨ln, hln⟩ : ∃ ln, (ringL c k).length = ln := ⟨_, rfl⟩
  have hln5 : 5 ≤ ln := by rw [← hln, ringL_length]; have := hg.size k hk; omega
  clear hln0
  rw [hln]
  have HK0 := Lib.hid (hl0)
  have hbk0 : lb < w.heap.size := hlb
  have HK1 := Lib.hid (hw0)
  have hbk1 : wb < w.heap.size := hwb
  obtain ⟨W, hW, HB, R0, R1, hz⟩ := two_new w (.cells #[.int .i64 0, .int .i64 1, .slice (some ⟨wb, wo, none⟩) 3 wc, .slice (some ⟨lb, lo, none⟩) ln lc, .slice none 0 0] 60) (.cells #[.int .i64 0, .int .i64 0, .int .u64 0, .int .u64 0, .int .i64 0] 75)
  have HW := Lib.hid hW
  clear hW
  have TCM := Lib.hid fun w' => complete_run 0 1 wb wo wc lb lo ln lc hln5 w'
  have TQN := Lib.hid fun w' => qnext_any h 1 w'
  have TQS := Lib.hid fun w' => qnext_any h (c.size k) w'
  have TZ := Lib.hid fun w' => pslots_any 0 1 (some ⟨wb, wo, none⟩) 3 wc lb lo ln lc c k hk hg hln.symm w'
  have TSL := Lib.hid fun w' (hb : Below w.heap.size w w') => slotNumber0 0 1 wb wo wc lb lo ln lc h ht c k hk hg hln.symm w' (Nat.lt_of_lt_of_le hwb hb.size) (Nat.lt_of_lt_of_le hlb hb.size) ((hb.cell (p := ⟨wb, wo, none⟩) hwb).trans hw0) (fun i hi => (hb.cell (p := ⟨lb, lo + (3 + i), none⟩) hlb).trans (hls i hi))
  clear hls
  unfold puL accV
  try dsimp only
  obtain ⟨sx, hsx⟩ : ∃ sx, nextI h 1 = sx := ⟨_, rfl⟩
  rw [hsx] at TQN
  try rw [hsx]
  obtain ⟨sy, hsy⟩ : ∃ sy, nextI h (c.size k) = sy := ⟨_, rfl⟩
  rw [hsy] at TQS
  try rw [hsy]
  have hi0 : 0 < ln := by omega
  have hi1 : 1 < ln := by omega
  have hi2 : 2 < ln := by omega
  have hI0 : (0 : Int) < (ln : Int) := by omega
  have hI1 : (1 : Int) < (ln : Int) := by omega
  have hI2 : (2 : Int) < (ln : Int) := by omega
  clear hsx hsy ht hk hg hln5
  go_enter Try.func25, Try.ntmps25
  go_upto_region 1 with fail
  rw [HW.out]
  clear HW
  obtain ⟨x0_0, x0_1, x0_2, x0_3, x0_4⟩ := rowc5 R0.out
  have ck0 := (HB.out.cell (p := ⟨lb, lo, none⟩) hbk0).trans HK0.out
  have ck1 := (HB.out.cell (p := ⟨wb, wo, none⟩) hbk1).trans HK1.out
  have hsl := hln
  clear hsl
  go_wp2_with fail
  refine (TCM.out _).mono ?_; rintro e w1 ⟨rfl, hb1⟩
  have P1_0 := keepR hb1 R0
  have P1_1 := keepR hb1 R1
  have HB1 := Lib.hid (below_then HB.out hb1)
  clear x0_0 x0_1 x0_2 x0_3 x0_4 ck0 ck1
  clear hb1
  obtain ⟨x0_0, x0_1, x0_2, x0_3, x0_4⟩ := rowc5 P1_0.out
  have ck0 := (HB1.out.cell (p := ⟨lb, lo, none⟩) hbk0).trans HK0.out
  have ck1 := (HB1.out.cell (p := ⟨wb, wo, none⟩) hbk1).trans HK1.out
  go_wp2_with (refine wpList_store_row rfl 75 _ _ rfl (w.heap.size + 1) _ rfl rfl 75 #[.int .i64 0, .int .i64 0, .int .u64 0, .int .u64 0, .int .i64 0] P1_1.out (by kernel_rfl) rfl (by simp [Value.oneCell']) ?_)
  refine bodyPost_ret (v := .agg #[.int .i64 1, .int .i64 (c.base k + 1), .int .u64 0, .int .u64 0, .int .i64 0]) (results_cell_row Try.results25 _ _ (w.heap.size + 1) 75 _ (0, 0) _ rfl (setRow_heap _ _ _ _ 75 (0, 0) P1_1.out) Try.underlying75 rfl (by kernel_rfl)) rfl ?_
  exact ⟨rfl, row_below HB1.out (by omega) _⟩
set_option maxRecDepth 100000 in
set_option maxHeartbeats 16000000 in
theorem pNext2 (c : ConfM) (k : Nat) (hk : k < c.caps.length) (hg : c.good) (h t x : Int) (ht : U64 h) (W L : Value) (w : World) (hv : PuV w c k h t x W L) : Calls Try.prog 25 #[.agg (puL 0 2 W L).toArray] w fun e w' => e = .returned (accV ⟨1, c.base k, 0, 0, 0⟩) ∧ Below w.heap.size w w' := by
  obtain ⟨wb, wo, wc, lb, lo, lc, rfl, rfl, hwb, hlb, hw0, hw1, hw2, hl0, hl1, hl2, hls⟩ := hv.open
  have hln0 := ringL_length c k
  obtain ⟨ln, hln⟩ : ∃ ln, (ringL c k).length = ln := ⟨_, rfl⟩
  have hln5 : 5 ≤ ln := by rw [← hln, ringL_length]; have := hg.size k hk; omega
  clear hln0
  rw [hln]
  have HK0 := Lib.hid (hl1)
  have hbk0 : lb < w.heap.size := hlb
  have HK1 := Lib.hid (hw0)
  have hbk1 : wb < w.heap.size := hwb
  obtain ⟨W, hW, HB, R0, R1, hz⟩ := two_new w (.cells #[.int .i64 0, .int .i64 2, .slice (some ⟨wb, wo, none⟩) 3 wc, .slice (some ⟨lb, lo, none⟩) ln lc, .slice none 0 0] 60) (.cells #[.int .i64 0, .int .i64 0, .int .u64 0, .int .u64 0, .int .i64 0] 75)
  have HW := Lib.hid hW
  clear hW
  have TCM := Lib.hid fun w' => complete_run 0 2 wb wo wc lb lo ln lc hln5 w'
  have TQN := Lib.hid fun w' => qnext_any h 1 w'
  have TQS := Lib.hid fun w' => qnext_any h (c.size k) w'
  have TZ := Lib.hid fun w' => pslots_any 0 2 (some ⟨wb, wo, none⟩) 3 wc lb lo ln lc c k hk hg hln.symm w'
  have TSL := Lib.hid fun w' (hb : Below w.heap.size w w') => slotNumber0 0 2 wb wo wc lb lo ln lc h ht c k hk hg hln.symm w' (Nat.lt_of_lt_of_le hwb hb.size) (Nat.lt_of_lt_of_le hlb hb.size) ((hb.cell (p := ⟨wb, wo, none⟩) hwb).trans hw0) (fun i hi => (hb.cell (p := ⟨lb, lo + (3 + i), none⟩) hlb).trans (hls i hi))
  clear hls
  unfold puL accV
  try dsimp only
  obtain ⟨sx, hsx⟩ : ∃ sx, nextI h 1 = sx := ⟨_, rfl⟩
  rw [hsx] at TQN
  try rw [hsx]
  obtain ⟨sy, hsy⟩ : ∃ sy, nextI h (c.size k) = sy := ⟨_, rfl⟩
  rw [hsy] at TQS
  try rw [hsy]
  have hi0 : 0 < ln := by omega
  have hi1 : 1 < ln := by omega
  have hi2 : 2 < ln := by omega
  have hI0 : (0 : Int) < (ln : Int) := by omega
  have hI1 : (1 : Int) < (ln : Int) := by omega
  have hI2 : (2 : Int) < (ln : Int) := by omega
  clear hsx hsy ht hk hg hln5
  go_enter Try.func25, Try.ntmps25
  go_upto_region 1 with fail
  rw [HW.out]
  clear HW
  obtain ⟨x0_0, x0_1, x0_2, x0_3, x0_4⟩ := rowc5 R0.out
  have ck0 := (HB.out.cell (p := ⟨lb, lo + 1, none⟩) hbk0).trans HK0.out
  have ck1 := (HB.out.cell (p := ⟨wb, wo, none⟩) hbk1).trans HK1.out
  have hsl := hln
  clear hsl
  go_wp2_with fail
  refine (TCM.out _).mono ?_; rintro e w1 ⟨rfl, hb1⟩
  have P1_0 := keepR hb1 R0
  have P1_1 := keepR hb1 R1
  have HB1 := Lib.hid (below_then HB.out hb1)
  clear x0_0 x0_1 x0_2 x0_3 x0_4 ck0 ck1
  clear hb1
  obtain ⟨x0_0, x0_1, x0_2, x0_3, x0_4⟩ := rowc5 P1_0.out
  have ck0 := (HB1.out.cell (p := ⟨lb, lo + 1, none⟩) hbk0).trans HK0.out
  have ck1 := (HB1.out.cell (p := ⟨wb, wo, none⟩) hbk1).trans HK1.out
  go_wp2_with (refine wpList_store_row rfl 75 _ _ rfl (w.heap.size + 1) _ rfl rfl 75 #[.int .i64 0, .int .i64 0, .int .u64 0, .int .u64 0, .int .i64 0] P1_1.out (by kernel_rfl) rfl (by simp [Value.oneCell']) ?_)
  refine bodyPost_ret (v := .agg #[.int .i64 1, .int .i64 (c.base k), .int .u64 0, .int .u64 0, .int .i64 0]) (results_cell_row Try.results25 _ _ (w.heap.size + 1) 75 _ (0, 0) _ rfl (setRow_heap _ _ _ _ 75 (0, 0) P1_1.out) Try.underlying75 rfl (by kernel_rfl)) rfl ?_
  exact ⟨rfl, row_below HB1.out (by omega) _⟩
set_option maxRecDepth 100000 in
set_option maxHeartbeats 16000000 in
theorem pNext3 (c : ConfM) (k : Nat) (hk : k < c.caps.length) (hg : c.good) (h t x : Int) (ht : U64 h) (W L : Value) (w : World) (hv : PuV w c k h t x W L) : Calls Try.prog 25 #[.agg (puL 0 3 W L).toArray] w fun e w' => e = .returned (accV ⟨1, c.base k + 1, 0, 0, 0⟩) ∧ Below w.heap.size w w' := by
  obtain ⟨wb, wo, wc, lb, lo, lc, rfl, rfl, hwb, hlb, hw0, hw1, hw2, hl0, hl1, hl2, hls⟩ := hv.open
  have hln0 := ringL_length c k
  obtain ⟨ln, hln⟩ : ∃ ln, (ringL c k).length = ln := ⟨_, rfl⟩
  have hln5 : 5 ≤ ln := by rw [← hln, ringL_length]; have := hg.size k hk; omega
  clear hln0
  rw [hln]
  have HK0 := Lib.hid (hl0)
  have hbk0 : lb < w.heap.size := hlb
  have HK1 := Lib.hid (hw0)
  have hbk1 : wb < w.heap.size := hwb
  obtain ⟨W, hW, HB, R0, R1, hz⟩ := two_new w (.cells #[.int .i64 0, .int .i64 3, .slice (some ⟨wb, wo, none⟩) 3 wc, .slice (some ⟨lb, lo, none⟩) ln lc, .slice none 0 0] 60) (.cells #[.int .i64 0, .int .i64 0, .int .u64 0, .int .u64 0, .int .i64 0] 75)
  have HW := Lib.hid hW
  clear hW
  have TCM := Lib.hid fun w' => complete_run 0 3 wb wo wc lb lo ln lc hln5 w'
  have TQN := Lib.hid fun w' => qnext_any h 1 w'
  have TQS := Lib.hid fun w' => qnext_any h (c.size k) w'
  have TZ := Lib.hid fun w' => pslots_any 0 3 (some ⟨wb, wo, none⟩) 3 wc lb lo ln lc c k hk hg hln.symm w'
  have TSL := Lib.hid fun w' (hb : Below w.heap.size w w') => slotNumber0 0 3 wb wo wc lb lo ln lc h ht c k hk hg hln.symm w' (Nat.lt_of_lt_of_le hwb hb.size) (Nat.lt_of_lt_of_le hlb hb.size) ((hb.cell (p := ⟨wb, wo, none⟩) hwb).trans hw0) (fun i hi => (hb.cell (p := ⟨lb, lo + (3 + i), none⟩) hlb).trans (hls i hi))
  clear hls
  unfold puL accV
  try dsimp only
  obtain ⟨sx, hsx⟩ : ∃ sx, nextI h 1 = sx := ⟨_, rfl⟩
  rw [hsx] at TQN
  try rw [hsx]
  obtain ⟨sy, hsy⟩ : ∃ sy, nextI h (c.size k) = sy := ⟨_, rfl⟩
  rw [hsy] at TQS
  try rw [hsy]
  have hi0 : 0 < ln := by omega
  have hi1 : 1 < ln := by omega
  have hi2 : 2 < ln := by omega
  have hI0 : (0 : Int) < (ln : Int) := by omega
  have hI1 : (1 : Int) < (ln : Int) := by omega
  have hI2 : (2 : Int) < (ln : Int) := by omega
  clear hsx hsy ht hk hg hln5
  go_enter Try.func25, Try.ntmps25
  go_upto_region 1 with fail
  rw [HW.out]
  clear HW
  obtain ⟨x0_0, x0_1, x0_2, x0_3, x0_4⟩ := rowc5 R0.out
  have ck0 := (HB.out.cell (p := ⟨lb, lo, none⟩) hbk0).trans HK0.out
  have ck1 := (HB.out.cell (p := ⟨wb, wo, none⟩) hbk1).trans HK1.out
  have hsl := hln
  clear hsl
  go_wp2_with fail
  refine (TCM.out _).mono ?_; rintro e w1 ⟨rfl, hb1⟩
  have P1_0 := keepR hb1 R0
  have P1_1 := keepR hb1 R1
  have HB1 := Lib.hid (below_then HB.out hb1)
  clear x0_0 x0_1 x0_2 x0_3 x0_4 ck0 ck1
  clear hb1
  obtain ⟨x0_0, x0_1, x0_2, x0_3, x0_4⟩ := rowc5 P1_0.out
  have ck0 := (HB1.out.cell (p := ⟨lb, lo, none⟩) hbk0).trans HK0.out
  have ck1 := (HB1.out.cell (p := ⟨wb, wo, none⟩) hbk1).trans HK1.out
  go_wp2_with (refine wpList_store_row rfl 75 _ _ rfl (w.heap.size + 1) _ rfl rfl 75 #[.int .i64 0, .int .i64 0, .int .u64 0, .int .u64 0, .int .i64 0] P1_1.out (by kernel_rfl) rfl (by simp [Value.oneCell']) ?_)
  refine bodyPost_ret (v := .agg #[.int .i64 1, .int .i64 (c.base k + 1), .int .u64 0, .int .u64 0, .int .i64 0]) (results_cell_row Try.results25 _ _ (w.heap.size + 1) 75 _ (0, 0) _ rfl (setRow_heap _ _ _ _ 75 (0, 0) P1_1.out) Try.underlying75 rfl (by kernel_rfl)) rfl ?_
  exact ⟨rfl, row_below HB1.out (by omega) _⟩
set_option maxRecDepth 100000 in
set_option maxHeartbeats 16000000 in
theorem pNext4 (c : ConfM) (k : Nat) (hk : k < c.caps.length) (hg : c.good) (h t x : Int) (ht : U64 h) (W L : Value) (w : World) (hv : PuV w c k h t x W L) : Calls Try.prog 25 #[.agg (puL 0 4 W L).toArray] w fun e w' => e = .returned (accV ⟨1, c.slotW k h, 0, 0, 0⟩) ∧ Below w.heap.size w w' := by
  obtain ⟨wb, wo, wc, lb, lo, lc, rfl, rfl, hwb, hlb, hw0, hw1, hw2, hl0, hl1, hl2, hls⟩ := hv.open
  have hln0 := ringL_length c k
  obtain ⟨ln, hln⟩ : ∃ ln, (ringL c k).length = ln := ⟨_, rfl⟩
  have hln5 : 5 ≤ ln := by rw [← hln, ringL_length]; have := hg.size k hk; omega
  clear hln0
  rw [hln]
  have HK0 := Lib.hid (hw0)
  have hbk0 : wb < w.heap.size := hwb
  obtain ⟨W, hW, HB, R0, R1, hz⟩ := two_new w (.cells #[.int .i64 0, .int .i64 4, .slice (some ⟨wb, wo, none⟩) 3 wc, .slice (some ⟨lb, lo, none⟩) ln lc, .slice none 0 0] 60) (.cells #[.int .i64 0, .int .i64 0, .int .u64 0, .int .u64 0, .int .i64 0] 75)
  have HW := Lib.hid hW
  clear hW
  have TCM := Lib.hid fun w' => complete_run 0 4 wb wo wc lb lo ln lc hln5 w'
  have TQN := Lib.hid fun w' => qnext_any h 1 w'
  have TQS := Lib.hid fun w' => qnext_any h (c.size k) w'
  have TZ := Lib.hid fun w' => pslots_any 0 4 (some ⟨wb, wo, none⟩) 3 wc lb lo ln lc c k hk hg hln.symm w'
  have TSL := Lib.hid fun w' (hb : Below w.heap.size w w') => slotNumber0 0 4 wb wo wc lb lo ln lc h ht c k hk hg hln.symm w' (Nat.lt_of_lt_of_le hwb hb.size) (Nat.lt_of_lt_of_le hlb hb.size) ((hb.cell (p := ⟨wb, wo, none⟩) hwb).trans hw0) (fun i hi => (hb.cell (p := ⟨lb, lo + (3 + i), none⟩) hlb).trans (hls i hi))
  clear hls
  unfold puL accV
  try dsimp only
  obtain ⟨sx, hsx⟩ : ∃ sx, nextI h 1 = sx := ⟨_, rfl⟩
  rw [hsx] at TQN
  try rw [hsx]
  obtain ⟨sy, hsy⟩ : ∃ sy, nextI h (c.size k) = sy := ⟨_, rfl⟩
  rw [hsy] at TQS
  try rw [hsy]
  have hi0 : 0 < ln := by omega
  have hi1 : 1 < ln := by omega
  have hi2 : 2 < ln := by omega
  have hI0 : (0 : Int) < (ln : Int) := by omega
  have hI1 : (1 : Int) < (ln : Int) := by omega
  have hI2 : (2 : Int) < (ln : Int) := by omega
  clear hsx hsy ht hk hg hln5
  go_enter Try.func25, Try.ntmps25
  go_upto_region 1 with fail
  rw [HW.out]
  clear HW
  obtain ⟨x0_0, x0_1, x0_2, x0_3, x0_4⟩ := rowc5 R0.out
  have ck0 := (HB.out.cell (p := ⟨wb, wo, none⟩) hbk0).trans HK0.out
  have hsl := hln
  clear hsl
  go_wp2_with fail
  refine (TCM.out _).mono ?_; rintro e w1 ⟨rfl, hb1⟩
  have P1_0 := keepR hb1 R0
  have P1_1 := keepR hb1 R1
  have HB1 := Lib.hid (below_then HB.out hb1)
  clear x0_0 x0_1 x0_2 x0_3 x0_4 ck0
  clear hb1
  obtain ⟨x0_0, x0_1, x0_2, x0_3, x0_4⟩ := rowc5 P1_0.out
  have ck0 := (HB1.out.cell (p := ⟨wb, wo, none⟩) hbk0).trans HK0.out
  go_wp2_with fail
  refine (TSL.out _ HB1.out).mono ?_; rintro e w2 ⟨rfl, hb2⟩
  have P2_0 := keepR hb2 P1_0
  have P2_1 := keepR hb2 P1_1
  have HB2 := Lib.hid (below_then HB1.out hb2)
  clear x0_0 x0_1 x0_2 x0_3 x0_4 ck0
  clear hb2
  obtain ⟨x0_0, x0_1, x0_2, x0_3, x0_4⟩ := rowc5 P2_0.out
  have ck0 := (HB2.out.cell (p := ⟨wb, wo, none⟩) hbk0).trans HK0.out
  go_wp2_with (refine wpList_store_row rfl 75 _ _ rfl (w.heap.size + 1) _ rfl rfl 75 #[.int .i64 0, .int .i64 0, .int .u64 0, .int .u64 0, .int .i64 0] P2_1.out (by kernel_rfl) rfl (by simp [Value.oneCell']) ?_)
  refine bodyPost_ret (v := .agg #[.int .i64 1, .int .i64 (c.slotW k h), .int .u64 0, .int .u64 0, .int .i64 0]) (results_cell_row Try.results25 _ _ (w.heap.size + 1) 75 _ (0, 0) _ rfl (setRow_heap _ _ _ _ 75 (0, 0) P2_1.out) Try.underlying75 rfl (by kernel_rfl)) rfl ?_
  exact ⟨rfl, row_below HB2.out (by omega) _⟩
set_option maxRecDepth 100000 in
set_option maxHeartbeats 16000000 in
theorem pNext5 (c : ConfM) (k : Nat) (hk : k < c.caps.length) (hg : c.good) (h t x : Int) (ht : U64 h) (W L : Value) (w : World) (hv : PuV w c k h t x W L) : Calls Try.prog 25 #[.agg (puL 0 5 W L).toArray] w fun e w' => e = .returned (accV ⟨3, c.base k + 1, h, nextI h 1, 0⟩) ∧ Below w.heap.size w w' := by
  obtain ⟨wb, wo, wc, lb, lo, lc, rfl, rfl, hwb, hlb, hw0, hw1, hw2, hl0, hl1, hl2, hls⟩ := hv.open
  have hln0 := ringL_length c k
  obtain ⟨ln, hln⟩ : ∃ ln, (ringL c k).length = ln := ⟨_, rfl⟩
  have hln5 : 5 ≤ ln := by rw [← hln, ringL_length]; have := hg.size k hk; omega
  clear hln0
  rw [hln]
  have HK0 := Lib.hid (hw0)
  have hbk0 : wb < w.heap.size := hwb
  have HK1 := Lib.hid (hl0)
  have hbk1 : lb < w.heap.size := hlb
  obtain ⟨W, hW, HB, R0, R1, hz⟩ := two_new w (.cells #[.int .i64 0, .int .i64 5, .slice (some ⟨wb, wo, none⟩) 3 wc, .slice (some ⟨lb, lo, none⟩) ln lc, .slice none 0 0] 60) (.cells #[.int .i64 0, .int .i64 0, .int .u64 0, .int .u64 0, .int .i64 0] 75)
  have HW := Lib.hid hW
  clear hW
  have TCM := Lib.hid fun w' => complete_run 0 5 wb wo wc lb lo ln lc hln5 w'
  have TQN := Lib.hid fun w' => qnext_any h 1 w'
  have TQS := Lib.hid fun w' => qnext_any h (c.size k) w'
  have TZ := Lib.hid fun w' => pslots_any 0 5 (some ⟨wb, wo, none⟩) 3 wc lb lo ln lc c k hk hg hln.symm w'
  have TSL := Lib.hid fun w' (hb : Below w.heap.size w w') => slotNumber0 0 5 wb wo wc lb lo ln lc h ht c k hk hg hln.symm w' (Nat.lt_of_lt_of_le hwb hb.size) (Nat.lt_of_lt_of_le hlb hb.size) ((hb.cell (p := ⟨wb, wo, none⟩) hwb).trans hw0) (fun i hi => (hb.cell (p := ⟨lb, lo + (3 + i), none⟩) hlb).trans (hls i hi))
  clear hls
  unfold puL accV
  try dsimp only
  obtain ⟨sx, hsx⟩ : ∃ sx, nextI h 1 = sx := ⟨_, rfl⟩
  rw [hsx] at TQN
  try rw [hsx]
  obtain ⟨sy, hsy⟩ : ∃ sy, nextI h (c.size k) = sy := ⟨_, rfl⟩
  rw [hsy] at TQS
  try rw [hsy]
  have hi0 : 0 < ln := by omega
  have hi1 : 1 < ln := by omega
  have hi2 : 2 < ln := by omega
  have hI0 : (0 : Int) < (ln : Int) := by omega
  have hI1 : (1 : Int) < (ln : Int) := by omega
  have hI2 : (2 : Int) < (ln : Int) := by omega
  clear hsx hsy ht hk hg hln5
  go_enter Try.func25, Try.ntmps25
  go_upto_region 1 with fail
  rw [HW.out]
  clear HW
  obtain ⟨x0_0, x0_1, x0_2, x0_3, x0_4⟩ := rowc5 R0.out
  have ck0 := (HB.out.cell (p := ⟨wb, wo, none⟩) hbk0).trans HK0.out
  have ck1 := (HB.out.cell (p := ⟨lb, lo, none⟩) hbk1).trans HK1.out
  have hsl := hln
  clear hsl
  go_wp2_with fail
  refine (TCM.out _).mono ?_; rintro e w1 ⟨rfl, hb1⟩
  have P1_0 := keepR hb1 R0
  have P1_1 := keepR hb1 R1
  have HB1 := Lib.hid (below_then HB.out hb1)
  clear x0_0 x0_1 x0_2 x0_3 x0_4 ck0 ck1
  clear hb1
  obtain ⟨x0_0, x0_1, x0_2, x0_3, x0_4⟩ := rowc5 P1_0.out
  have ck0 := (HB1.out.cell (p := ⟨wb, wo, none⟩) hbk0).trans HK0.out
  have ck1 := (HB1.out.cell (p := ⟨lb, lo, none⟩) hbk1).trans HK1.out
  go_upto_region 13 with fail
  have KSd : Hid (∀ w', Below w1.heap.size w1 w' → (fun w' : World => (w'.cell? ⟨w.heap.size, 0, none⟩ = some (.int .i64 0) ∧ w'.cell? ⟨w.heap.size, 1, none⟩ = some (.int .i64 5) ∧ w'.cell? ⟨w.heap.size, 2, none⟩ = some (.slice (some ⟨wb, wo, none⟩) 3 wc) ∧ w'.cell? ⟨w.heap.size, 3, none⟩ = some (.slice (some ⟨lb, lo, none⟩) ln lc) ∧ w'.cell? ⟨w.heap.size, 4, none⟩ = some (.slice none 0 0)) ∧ w'.cell? ⟨wb, wo, none⟩ = some (.int .u64 h) ∧ w'.cell? ⟨lb, lo, none⟩ = some (.int .i64 (c.base k + 1))) w') := fun w' hb => ⟨rowc5 ((hb.block _ (ltR P1_0)).trans P1_0.out), (hb.cell (p := ⟨wb, wo, none⟩) (Nat.lt_of_lt_of_le hbk0 HB1.out.size)).trans ((HB1.out.cell (p := ⟨wb, wo, none⟩) hbk0).trans HK0.out), (hb.cell (p := ⟨lb, lo, none⟩) (Nat.lt_of_lt_of_le hbk1 HB1.out.size)).trans ((HB1.out.cell (p := ⟨lb, lo, none⟩) hbk1).trans HK1.out)⟩
  clear x0_0 x0_1 x0_2 x0_3 x0_4 ck0 ck1
  refine untilK KSd 8 9 (by kernel_rfl) rfl ?_
  obtain ⟨u0, hu0, HU0⟩ := drew_pack w1
  rw [hu0]
  clear hu0
  have hSU0 := KSd.out _ HU0.out
  refine tkU (v := ?_) 0 la0 hSU0 (by kernel_rfl) (fun _ _ _ h => h) rfl ?_ ?_
  rotate_left
  · (intro w hSw; (try dsimp only at hSw); go_simp <;> with_reducible rfl)
  simp only [Act.put, List.setIfInBounds_toArray, List.set_cons_zero, List.set_cons_succ]
  refine tkU (v := ?_) 1 la1 hSU0 (by kernel_rfl) (fun _ _ _ h => h) rfl ?_ ?_
  rotate_left
  · (intro w hSw; (try dsimp only at hSw); go_simp <;> with_reducible rfl)
  simp only [Act.put, List.setIfInBounds_toArray, List.set_cons_zero, List.set_cons_succ]
  refine tkU (v := ?_) 2 la2 hSU0 (by kernel_rfl) (fun _ _ _ h => h) rfl ?_ ?_
  rotate_left
  · (intro w hSw; (try dsimp only at hSw); go_simp <;> with_reducible rfl)
  simp only [Act.put, List.setIfInBounds_toArray, List.set_cons_zero, List.set_cons_succ]
  refine tkU (v := ?_) 3 la3 hSU0 (by kernel_rfl) (fun _ _ _ h => h) rfl ?_ ?_
  rotate_left
  · (intro w hSw; (try dsimp only at hSw); go_simp <;> with_reducible rfl)
  simp only [Act.put, List.setIfInBounds_toArray, List.set_cons_zero, List.set_cons_succ]
  refine tkU (v := ?_) 4 la4 hSU0 (by kernel_rfl) (fun _ _ _ h => h) rfl ?_ ?_
  rotate_left
  · (intro w hSw; (try dsimp only at hSw); go_simp <;> with_reducible rfl)
  simp only [Act.put, List.setIfInBounds_toArray, List.set_cons_zero, List.set_cons_succ]
  refine tkU (v := ?_) 5 la5 hSU0 (by kernel_rfl) (fun _ _ _ h => h) rfl ?_ ?_
  rotate_left
  · (intro w hSw; (try dsimp only at hSw); go_simp <;> with_reducible rfl)
  simp only [Act.put, List.setIfInBounds_toArray, List.set_cons_zero, List.set_cons_succ]
  refine wpAnyU_ready (rs := [6]) (by kernel_rfl) rfl ?_
  refine AllReadyU.cons la6 rfl (fun K hK => ?_) ?_
  · go_simp
    go_at_call 39
    refine (TQN.out _).mono ?_
    rintro e w9 ⟨rfl, rfl⟩
    refine hK.out _ _ ?_ (fun hSU1 => ?_)
    · exact KSd.out _ HU0.out
    clear hK K hSU0
    try simp only [Act.put, List.setIfInBounds_toArray, List.set_cons_zero, List.set_cons_succ]
    refine tkU (v := ?_) 7 la7 hSU1 (by kernel_rfl) (fun _ _ _ h => h) rfl ?_ ?_
    rotate_left
    · (intro w hSw; (try dsimp only at hSw); go_simp <;> with_reducible rfl)
    simp only [Act.put, List.setIfInBounds_toArray, List.set_cons_zero, List.set_cons_succ]
    refine wpAnyU_ready (rs := [8]) (by kernel_rfl) rfl ?_
    refine AllReadyU.free la8 rfl (by kernel_rfl) (fun K hK => ?_) ?_
    · have ZR := keepR HU0.out P1_1
      refine step_store_row rfl 75 _ _ rfl (w.heap.size + 1) _ rfl rfl 75 #[.int .i64 0, .int .i64 0, .int .u64 0, .int .u64 0, .int .i64 0] ZR.out (by kernel_rfl) rfl (by simp [Value.oneCell']) ?_
      refine hK.out _ _ ?_
      clear hK K hSU1
      try simp only [Act.put, List.setIfInBounds_toArray, List.set_cons_zero, List.set_cons_succ]
      refine wpAnyU_done (by kernel_rfl) ?_ _
      go_wp2_with fail
      refine bodyPost_ret (v := .agg #[.int .i64 3, .int .i64 (c.base k + 1), .int .u64 h, .int .u64 sx, .int .i64 0]) (results_cell_row Try.results25 _ _ (w.heap.size + 1) 75 _ (0, 0) _ rfl (setRow_heap _ _ _ _ 75 (0, 0) ZR.out) Try.underlying75 rfl (by kernel_rfl)) rfl ?_
      exact ⟨rfl, row_below (below_then HB1.out HU0.out) (by omega) _⟩
    exact AllReadyU.nil
  exact AllReadyU.nil
set_option maxRecDepth 100000 in
set_option maxHeartbeats 16000000 in
theorem pNext6 (c : ConfM) (k : Nat) (hk : k < c.caps.length) (hg : c.good) (h t x : Int) (ht : U64 h) (W L : Value) (w : World) (hv : PuV w c k h t x W L) : Calls Try.prog 25 #[.agg (puL 0 6 W L).toArray] w fun e w' => e = .returned (accV ⟨5, c.slotW k h + 1, 0, 0, 0⟩) ∧ Below w.heap.size w w' := by
  obtain ⟨wb, wo, wc, lb, lo, lc, rfl, rfl, hwb, hlb, hw0, hw1, hw2, hl0, hl1, hl2, hls⟩ := hv.open
  have hln0 := ringL_length c k
  obtain ⟨ln, hln⟩ : ∃ ln, (ringL c k).length = ln := ⟨_, rfl⟩
  have hln5 : 5 ≤ ln := by rw [← hln, ringL_length]; have := hg.size k hk; omega
  clear hln0
  rw [hln]
  have HK0 := Lib.hid (hw0)
  have hbk0 : wb < w.heap.size := hwb
  obtain ⟨W, hW, HB, R0, R1, hz⟩ := two_new w (.cells #[.int .i64 0, .int .i64 6, .slice (some ⟨wb, wo, none⟩) 3 wc, .slice (some ⟨lb, lo, none⟩) ln lc, .slice none 0 0] 60) (.cells #[.int .i64 0, .int .i64 0, .int .u64 0, .int .u64 0, .int .i64 0] 75)
  have HW := Lib.hid hW
  clear hW
  have TCM := Lib.hid fun w' => complete_run 0 6 wb wo wc lb lo ln lc hln5 w'
  have TQN := Lib.hid fun w' => qnext_any h 1 w'
  have TQS := Lib.hid fun w' => qnext_any h (c.size k) w'
  have TZ := Lib.hid fun w' => pslots_any 0 6 (some ⟨wb, wo, none⟩) 3 wc lb lo ln lc c k hk hg hln.symm w'
  have TSL := Lib.hid fun w' (hb : Below w.heap.size w w') => slotNumber1 0 6 wb wo wc lb lo ln lc h ht c k hk hg hln.symm w' (Nat.lt_of_lt_of_le hwb hb.size) (Nat.lt_of_lt_of_le hlb hb.size) ((hb.cell (p := ⟨wb, wo, none⟩) hwb).trans hw0) (fun i hi => (hb.cell (p := ⟨lb, lo + (3 + i), none⟩) hlb).trans (hls i hi))
  clear hls
  unfold puL accV
  try dsimp only
  obtain ⟨sx, hsx⟩ : ∃ sx, nextI h 1 = sx := ⟨_, rfl⟩
  rw [hsx] at TQN
  try rw [hsx]
  obtain ⟨sy, hsy⟩ : ∃ sy, nextI h (c.size k) = sy := ⟨_, rfl⟩
  rw [hsy] at TQS
  try rw [hsy]
  have hi0 : 0 < ln := by omega
  have hi1 : 1 < ln := by omega
  have hi2 : 2 < ln := by omega
  have hI0 : (0 : Int) < (ln : Int) := by omega
  have hI1 : (1 : Int) < (ln : Int) := by omega
  have hI2 : (2 : Int) < (ln : Int) := by omega
  clear hsx hsy ht hk hg hln5
  go_enter Try.func25, Try.ntmps25
  go_upto_region 1 with fail
  rw [HW.out]
  clear HW
  obtain ⟨x0_0, x0_1, x0_2, x0_3, x0_4⟩ := rowc5 R0.out
  have ck0 := (HB.out.cell (p := ⟨wb, wo, none⟩) hbk0).trans HK0.out
  have hsl := hln
  clear hsl
  go_wp2_with fail
  refine (TCM.out _).mono ?_; rintro e w1 ⟨rfl, hb1⟩
  have P1_0 := keepR hb1 R0
  have P1_1 := keepR hb1 R1
  have HB1 := Lib.hid (below_then HB.out hb1)
  clear x0_0 x0_1 x0_2 x0_3 x0_4 ck0
  clear hb1
  obtain ⟨x0_0, x0_1, x0_2, x0_3, x0_4⟩ := rowc5 P1_0.out
  have ck0 := (HB1.out.cell (p := ⟨wb, wo, none⟩) hbk0).trans HK0.out
  go_wp2_with fail
  refine (TSL.out _ HB1.out).mono ?_; rintro e w2 ⟨rfl, hb2⟩
  have P2_0 := keepR hb2 P1_0
  have P2_1 := keepR hb2 P1_1
  have HB2 := Lib.hid (below_then HB1.out hb2)
  clear x0_0 x0_1 x0_2 x0_3 x0_4 ck0
  clear hb2
  obtain ⟨x0_0, x0_1, x0_2, x0_3, x0_4⟩ := rowc5 P2_0.out
  have ck0 := (HB2.out.cell (p := ⟨wb, wo, none⟩) hbk0).trans HK0.out
  go_wp2_with (refine wpList_store_row rfl 75 _ _ rfl (w.heap.size + 1) _ rfl rfl 75 #[.int .i64 0, .int .i64 0, .int .u64 0, .int .u64 0, .int .i64 0] P2_1.out (by kernel_rfl) rfl (by simp [Value.oneCell']) ?_)
  refine bodyPost_ret (v := .agg #[.int .i64 5, .int .i64 (c.slotW k h + 1), .int .u64 0, .int .u64 0, .int .i64 0]) (results_cell_row Try.results25 _ _ (w.heap.size + 1) 75 _ (0, 0) _ rfl (setRow_heap _ _ _ _ 75 (0, 0) P2_1.out) Try.underlying75 rfl (by kernel_rfl)) rfl ?_
  exact ⟨rfl, row_below HB2.out (by omega) _⟩
set_option maxRecDepth 100000 in
set_option maxHeartbeats 16000000 in
theorem pNext7 (c : ConfM) (k : Nat) (hk : k < c.caps.length) (hg : c.good) (h t x : Int) (ht : U64 h) (W L : Value) (w : World) (hv : PuV w c k h t x W L) : Calls Try.prog 25 #[.agg (puL 0 7 W L).toArray] w fun e w' => e = .returned (accV ⟨2, c.slotW k h, 0, nextI h (c.size k), 0⟩) ∧ Below w.heap.size w w' := by
  obtain ⟨wb, wo, wc, lb, lo, lc, rfl, rfl, hwb, hlb, hw0, hw1, hw2, hl0, hl1, hl2, hls⟩ := hv.open
  have hln0 := ringL_length c k
  obtain ⟨ln, hln⟩ : ∃ ln, (ringL c k).length = ln := ⟨_, rfl⟩
  have hln5 : 5 ≤ ln := by rw [← hln, ringL_length]; have := hg.size k hk; omega
  clear hln0
  rw [hln]
  have HK0 := Lib.hid (hw0)
  have hbk0 : wb < w.heap.size := hwb
  obtain ⟨W, hW, HB, R0, R1, hz⟩ := two_new w (.cells #[.int .i64 0, .int .i64 7, .slice (some ⟨wb, wo, none⟩) 3 wc, .slice (some ⟨lb, lo, none⟩) ln lc, .slice none 0 0] 60) (.cells #[.int .i64 0, .int .i64 0, .int .u64 0, .int .u64 0, .int .i64 0] 75)
  have HW := Lib.hid hW
  clear hW
  have TCM := Lib.hid fun w' => complete_run 0 7 wb wo wc lb lo ln lc hln5 w'
  have TQN := Lib.hid fun w' => qnext_any h 1 w'
  have TQS := Lib.hid fun w' => qnext_any h (c.size k) w'
  have TZ := Lib.hid fun w' => pslots_any 0 7 (some ⟨wb, wo, none⟩) 3 wc lb lo ln lc c k hk hg hln.symm w'
  have TSL := Lib.hid fun w' (hb : Below w.heap.size w w') => slotNumber0 0 7 wb wo wc lb lo ln lc h ht c k hk hg hln.symm w' (Nat.lt_of_lt_of_le hwb hb.size) (Nat.lt_of_lt_of_le hlb hb.size) ((hb.cell (p := ⟨wb, wo, none⟩) hwb).trans hw0) (fun i hi => (hb.cell (p := ⟨lb, lo + (3 + i), none⟩) hlb).trans (hls i hi))
  clear hls
  unfold puL accV
  try dsimp only
  obtain ⟨sx, hsx⟩ : ∃ sx, nextI h 1 = sx := ⟨_, rfl⟩
  rw [hsx] at TQN
  try rw [hsx]
  obtain ⟨sy, hsy⟩ : ∃ sy, nextI h (c.size k) = sy := ⟨_, rfl⟩
  rw [hsy] at TQS
  try rw [hsy]
  have hi0 : 0 < ln := by omega
  have hi1 : 1 < ln := by omega
  have hi2 : 2 < ln := by omega
  have hI0 : (0 : Int) < (ln : Int) := by omega
  have hI1 : (1 : Int) < (ln : Int) := by omega
  have hI2 : (2 : Int) < (ln : Int) := by omega
  clear hsx hsy ht hk hg hln5
  go_enter Try.func25, Try.ntmps25
  go_upto_region 1 with fail
  rw [HW.out]
  clear HW
  obtain ⟨x0_0, x0_1, x0_2, x0_3, x0_4⟩ := rowc5 R0.out
  have ck0 := (HB.out.cell (p := ⟨wb, wo, none⟩) hbk0).trans HK0.out
  have hsl := hln
  clear hsl
  go_wp2_with fail
  refine (TCM.out _).mono ?_; rintro e w1 ⟨rfl, hb1⟩
  have P1_0 := keepR hb1 R0
  have P1_1 := keepR hb1 R1
  have HB1 := Lib.hid (below_then HB.out hb1)
  clear x0_0 x0_1 x0_2 x0_3 x0_4 ck0
  clear hb1
  obtain ⟨x0_0, x0_1, x0_2, x0_3, x0_4⟩ := rowc5 P1_0.out
  have ck0 := (HB1.out.cell (p := ⟨wb, wo, none⟩) hbk0).trans HK0.out
  go_upto_region 17 with fail
  have KSd : Hid (∀ w', Below w1.heap.size w1 w' → (fun w' : World => (w'.cell? ⟨w.heap.size, 0, none⟩ = some (.int .i64 0) ∧ w'.cell? ⟨w.heap.size, 1, none⟩ = some (.int .i64 7) ∧ w'.cell? ⟨w.heap.size, 2, none⟩ = some (.slice (some ⟨wb, wo, none⟩) 3 wc) ∧ w'.cell? ⟨w.heap.size, 3, none⟩ = some (.slice (some ⟨lb, lo, none⟩) ln lc) ∧ w'.cell? ⟨w.heap.size, 4, none⟩ = some (.slice none 0 0)) ∧ w'.cell? ⟨wb, wo, none⟩ = some (.int .u64 h)) w') := fun w' hb => ⟨rowc5 ((hb.block _ (ltR P1_0)).trans P1_0.out), (hb.cell (p := ⟨wb, wo, none⟩) (Nat.lt_of_lt_of_le hbk0 HB1.out.size)).trans ((HB1.out.cell (p := ⟨wb, wo, none⟩) hbk0).trans HK0.out)⟩
  clear x0_0 x0_1 x0_2 x0_3 x0_4 ck0
  refine untilK KSd 7 8 (by kernel_rfl) rfl ?_
  obtain ⟨u0, hu0, HU0⟩ := drew_pack w1
  rw [hu0]
  clear hu0
  have hSU0 := KSd.out _ HU0.out
  refine tkU (v := ?_) 0 la0 hSU0 (by kernel_rfl) (fun _ _ _ h => h) rfl ?_ ?_
  rotate_left
  · (intro w hSw; (try dsimp only at hSw); go_simp <;> with_reducible rfl)
  simp only [Act.put, List.setIfInBounds_toArray, List.set_cons_zero, List.set_cons_succ]
  refine tkU (v := ?_) 2 la2 hSU0 (by kernel_rfl) (fun _ _ _ h => h) rfl ?_ ?_
  rotate_left
  · (intro w hSw; (try dsimp only at hSw); go_simp <;> with_reducible rfl)
  simp only [Act.put, List.setIfInBounds_toArray, List.set_cons_zero, List.set_cons_succ]
  refine tkU (v := ?_) 3 la3 hSU0 (by kernel_rfl) (fun _ _ _ h => h) rfl ?_ ?_
  rotate_left
  · (intro w hSw; (try dsimp only at hSw); go_simp <;> with_reducible rfl)
  simp only [Act.put, List.setIfInBounds_toArray, List.set_cons_zero, List.set_cons_succ]
  refine wpAnyU_ready (rs := [1]) (by kernel_rfl) rfl ?_
  refine AllReadyU.cons la1 rfl (fun K hK => ?_) ?_
  · go_simp
    go_at_call 50
    refine (TSL.out _ (below_then HB1.out HU0.out)).mono ?_
    rintro e u1 ⟨rfl, hb⟩
    have HU1 := Lib.hid (below_then HU0.out hb)
    clear hb
    refine hK.out _ _ ?_ (fun hSU1 => ?_)
    · exact KSd.out _ HU1.out
    clear hK K hSU0
    try simp only [Act.put, List.setIfInBounds_toArray, List.set_cons_zero, List.set_cons_succ]
    refine wpAnyU_ready (rs := [4]) (by kernel_rfl) rfl ?_
    refine AllReadyU.cons la4 rfl (fun K hK => ?_) ?_
    · go_simp
      go_at_call 51
      refine (TZ.out _).mono ?_
      rintro e u2 ⟨rfl, hb⟩
      have HU2 := Lib.hid (below_then HU1.out hb)
      clear hb
      refine hK.out _ _ ?_ (fun hSU2 => ?_)
      · exact KSd.out _ HU2.out
      clear hK K hSU1
      try simp only [Act.put, List.setIfInBounds_toArray, List.set_cons_zero, List.set_cons_succ]
      refine wpAnyU_ready (rs := [5]) (by kernel_rfl) rfl ?_
      refine AllReadyU.cons la5 rfl (fun K hK => ?_) ?_
      · go_simp
        go_at_call 39
        refine (TQS.out _).mono ?_
        rintro e w9 ⟨rfl, rfl⟩
        refine hK.out _ _ ?_ (fun hSU3 => ?_)
        · exact KSd.out _ HU2.out
        clear hK K hSU2
        try simp only [Act.put, List.setIfInBounds_toArray, List.set_cons_zero, List.set_cons_succ]
        refine tkU (v := ?_) 6 la6 hSU3 (by kernel_rfl) (fun _ _ _ h => h) rfl ?_ ?_
        rotate_left
        · (intro w hSw; (try dsimp only at hSw); go_simp <;> with_reducible rfl)
        simp only [Act.put, List.setIfInBounds_toArray, List.set_cons_zero, List.set_cons_succ]
        refine wpAnyU_ready (rs := [7]) (by kernel_rfl) rfl ?_
        refine AllReadyU.free la7 rfl (by kernel_rfl) (fun K hK => ?_) ?_
        · have ZR := keepR HU2.out P1_1
          refine step_store_row rfl 75 _ _ rfl (w.heap.size + 1) _ rfl rfl 75 #[.int .i64 0, .int .i64 0, .int .u64 0, .int .u64 0, .int .i64 0] ZR.out (by kernel_rfl) rfl (by simp [Value.oneCell']) ?_
          refine hK.out _ _ ?_
          clear hK K hSU3
          try simp only [Act.put, List.setIfInBounds_toArray, List.set_cons_zero, List.set_cons_succ]
          refine wpAnyU_done (by kernel_rfl) ?_ _
          go_wp2_with fail
          refine bodyPost_ret (v := .agg #[.int .i64 2, .int .i64 (c.slotW k h), .int .u64 0, .int .u64 sy, .int .i64 0]) (results_cell_row Try.results25 _ _ (w.heap.size + 1) 75 _ (0, 0) _ rfl (setRow_heap _ _ _ _ 75 (0, 0) ZR.out) Try.underlying75 rfl (by kernel_rfl)) rfl ?_
          exact ⟨rfl, row_below (below_then HB1.out HU2.out) (by omega) _⟩
        exact AllReadyU.nil
      exact AllReadyU.nil
    exact AllReadyU.nil
  exact AllReadyU.nil
set_option maxRecDepth 100000 in
set_option maxHeartbeats 16000000 in
theorem pNextE (code : Int) (wa : Option Addr) (wc : Nat) (w : World) : Calls Try.prog 25 #[.agg (puL code 8 (.slice wa 1 wc) nilS).toArray] w fun e w' => e = .returned (accV ⟨0, 0, 0, 0, 0⟩) ∧ Below w.heap.size w w' := by
  obtain ⟨W, hW, HB, R0, R1, hz⟩ := two_new w (.cells #[.int .i64 code, .int .i64 8, .slice wa 1 wc, .slice none 0 0, .slice none 0 0] 60) (.cells #[.int .i64 0, .int .i64 0, .int .u64 0, .int .u64 0, .int .i64 0] 75)
  have HW := Lib.hid hW
  clear hW
  have TCM := Lib.hid fun w' => complete_not code 8 wa wc (.slice none 0 0) (.slice none 0 0) ⟨_, _, _, rfl⟩ ⟨_, _, _, rfl⟩ w'
  unfold puL nilS accV
  go_enter Try.func25, Try.ntmps25
  go_upto_region 1 with fail
  rw [HW.out]
  clear HW
  obtain ⟨x0_0, x0_1, x0_2, x0_3, x0_4⟩ := rowc5 R0.out
  go_wp2_with fail
  refine (TCM.out _).mono ?_; rintro e w1 ⟨rfl, hb1⟩
  have P1_0 := keepR hb1 R0
  have P1_1 := keepR hb1 R1
  have HB1 := Lib.hid (below_then HB.out hb1)
  clear x0_0 x0_1 x0_2 x0_3 x0_4
  clear hb1
  obtain ⟨x0_0, x0_1, x0_2, x0_3, x0_4⟩ := rowc5 P1_0.out
  clear x0_0 x0_1 x0_2 x0_3 x0_4
  go_wp2_with (refine wpList_store_row rfl 75 _ _ rfl (w.heap.size + 1) _ rfl rfl 75 #[.int .i64 0, .int .i64 0, .int .u64 0, .int .u64 0, .int .i64 0] P1_1.out (by kernel_rfl) rfl (by simp [Value.oneCell']) ?_)
  refine bodyPost_ret (v := .agg #[.int .i64 0, .int .i64 0, .int .u64 0, .int .u64 0, .int .i64 0]) (results_cell_row Try.results25 _ _ (w.heap.size + 1) 75 _ (0, 0) _ rfl (setRow_heap _ _ _ _ 75 (0, 0) P1_1.out) Try.underlying75 rfl (by kernel_rfl)) rfl ?_
  exact ⟨rfl, row_below HB1.out (by omega) _⟩
end Go.Proofs.Ytmkngpjjimalhaa
/- A scope through which the run jumps a bounded number of times, to whatever labels: each jump is walked as it comes. -/
namespace Go.Proofs.Ytmkngpjjimalhaa
open Go.ChangeShapes Go.WideShapes Go.ChangeAt Go.RowKit
set_option maxRecDepth 100000

/-- n jumps may still come: a jump goes on at its label -/
def scopes (P : Program) : Nat → (Nat → Option Code) → (Exit → Act → World → Prop) → Exit → Act → World → Prop
  | 0, _, _, .goto _, _, _ => False
  | n + 1, f, Q, .goto l, a, w => ∃ rest, f l = some rest ∧ rest.wp P (scopes P n f Q) a w
  | _, _, Q, .normal, a, w => Q .normal a w
  | _, _, Q, .exit id, a, w => Q (.exit id) a w
  | _, _, Q, .ret, a, w => Q .ret a w
  | _, _, Q, .panic c, a, w => Q (.panic c) a w
  | _, _, Q, .outgrown, a, w => Q .outgrown a w
section
variable {P : Program} {a : Act} {w : World} {Q : Exit → Act → World → Prop} {n : Nat} {f : Nat → Option Code}
theorem scopes_ret : scopes P n f Q .ret a w = Q .ret a w := by cases n <;> rfl
theorem scopes_normal : scopes P n f Q .normal a w = Q .normal a w := by cases n <;> rfl
theorem scopes_exit (i : Nat) : scopes P n f Q (.exit i) a w = Q (.exit i) a w := by cases n <;> rfl
theorem scopes_goto {l : Nat} {rest : Code} (hf : f l = some rest) (h : rest.wp P (scopes P n f Q) a w) : scopes P (n + 1) f Q (.goto l) a w := ⟨rest, hf, h⟩
theorem wp_scopes {c : Code} (n : Nat) (h : ∀ f : Nat → Option Code, Hid (∀ l, f l = findLabel c l) → c.wp P (scopes P n f Q) a w) : (Code.scope c).wp P Q a w := by
  obtain ⟨f, hf⟩ : ∃ f : Nat → Option Code, ∀ l, f l = findLabel c l := ⟨_, fun _ => rfl⟩
  intro b k cs
  have hg : ∀ l rest, f l = some rest → gotoIn l (.inScope c :: k) = some (.code rest :: .inScope c :: k) := fun l rest h => by
    rw [hf] at h; simp [gotoIn, h]
  have key : ∀ (n : Nat) (d : Code) (a : Act) (w : World), d.wp P (scopes P n f Q) a w → ∃ e a' w', Q e a' w' ∧ Arrives P (lone (b.at a (.code d :: .inScope c :: k)) cs w) b k cs e a' w' := by
    intro n
    induction n with
    | zero =>
      intro d a w hd
      obtain ⟨e, a₁, w₁, hq, harr⟩ := hd b (.inScope c :: k) cs
      cases e with
      | normal => exact ⟨.normal, a₁, w₁, hq, Steps.trans harr (.one step_inScope)⟩
      | exit id => exact ⟨.exit id, a₁, w₁, hq, fun k' hk => harr k' (by simp [exitTo, hk])⟩
      | goto l' => exact False.elim hq
      | ret => exact ⟨_, a₁, w₁, hq, harr⟩
      | panic ch => exact ⟨_, a₁, w₁, hq, harr⟩
      | outgrown => exact ⟨_, a₁, w₁, hq, harr⟩
    | succ n ih =>
      intro d a w hd
      obtain ⟨e, a₁, w₁, hq, harr⟩ := hd b (.inScope c :: k) cs
      cases e with
      | normal => exact ⟨.normal, a₁, w₁, hq, Steps.trans harr (.one step_inScope)⟩
      | exit id => exact ⟨.exit id, a₁, w₁, hq, fun k' hk => harr k' (by simp [exitTo, hk])⟩
      | goto l' =>
        obtain ⟨rest, hr, hw⟩ := hq
        obtain ⟨e₂, a₂, w₂, hq₂, harr₂⟩ := ih rest a₁ w₁ hw
        exact ⟨e₂, a₂, w₂, hq₂, .of_steps (harr _ (hg _ _ hr)) harr₂⟩
      | ret => exact ⟨_, a₁, w₁, hq, harr⟩
      | panic ch => exact ⟨_, a₁, w₁, hq, harr⟩
      | outgrown => exact ⟨_, a₁, w₁, hq, harr⟩
  obtain ⟨e, a₁, w₁, hq, harr⟩ := key n c a w (h f hf)
  exact ⟨e, a₁, w₁, hq, .of_steps (.one step_scope) harr⟩
end
end Go.Proofs.Ytmkngpjjimalhaa
