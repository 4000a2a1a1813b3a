
import Derived.Test.YtmkngpjjimalhaaB23
import Derived.Test.YtmkngpjjimalhaaB24
set_option linter.unusedVariables false
set_option linter.unusedSimpArgs false
/- Layer 9: Resume of the program's machine that pops. -/
namespace Go.Proofs.Ytmkngpjjimalhaa
open Go.ChangeShapes Go.WideShapes Go.ChangeAt Go.RowKit
set_option maxRecDepth 100000

set_option maxRecDepth 100000 in
set_option maxHeartbeats 16000000 in
theorem pRes1 (c : ConfM) (k : Nat) (hk : k < c.caps.length) (hg : c.good) (h t x : Int) (ht : U64 h) (W L : Value) (w : World) (hv : PuV w c k h t x W L) (b : Int) (p q : Bool) (aa : Option Addr) (n ac : Nat) : Calls Try.prog 16 #[.agg (puL 0 1 W L).toArray, .agg #[.int .u64 b, .bool p, .bool q, .slice aa n ac]] w fun e w' => ∃ nb, e = .returned (.agg (puL 0 2 (.slice (some ⟨nb, 0, none⟩) 3 3) L).toArray) ∧ Hid (w'.heap[nb]? = some (.cells #[.int .u64 b, .int .u64 t, .int .u64 x] 27 (0, 0))) ∧ Hid (w.heap.size ≤ nb) ∧ Hid (Below w.heap.size w w') := by
  obtain ⟨wb, wo, wc, lb, lo, lc, rfl, rfl, hwb, hlb, hw0, hw1, hw2, hl0, hl1, hl2, hls⟩ := hv.open
  have hln0 := ringL_length c k
  obtain ⟨ln, hln⟩ : ∃ ln, (ringL c k).length = ln := ⟨_, rfl⟩
  have hln5 : 5 ≤ ln := by rw [← hln, ringL_length]; have := hg.size k hk; omega
  clear hln0
  rw [hln]
  obtain ⟨W, hW, HB, R0, R1, R2, hz⟩ := three_new w (.cells #[.int .i64 0, .int .i64 1, .slice (some ⟨wb, wo, none⟩) 3 wc, .slice (some ⟨lb, lo, none⟩) ln lc, .slice none 0 0] 60) (.cells #[.int .u64 b, .bool p, .bool q, .slice aa n ac] 52) (.cells #[.int .i64 0, .int .i64 0, .slice none 0 0, .slice none 0 0, .slice none 0 0] 60)
  have HW := Lib.hid hW
  clear hW
  have TCM := Lib.hid fun w' => complete_run 0 1 wb wo wc lb lo ln lc hln5 w'
  have TEN := Lib.hid fun k x w' => end_any k x w'
  have TAT := Lib.hid fun pc q a1 n1 c1 w' => at_any 0 pc q a1 n1 c1 (some ⟨lb, lo, none⟩) ln lc w'
  have TW0 := Lib.hid fun v w' (hb : Below w.heap.size w w') => with0_any 0 1 wb wo wc lb lo ln lc h t x v w' (Nat.lt_of_lt_of_le hwb hb.size) ((hb.cell (p := ⟨wb, wo, none⟩) hwb).trans hw0) ((hb.cell (p := ⟨wb, wo + 1, none⟩) hwb).trans hw1) ((hb.cell (p := ⟨wb, wo + 2, none⟩) hwb).trans hw2)
  clear hls
  unfold puL
  try unfold nilS
  try dsimp only
  have hi1 : 1 < ln := by omega
  have hi2 : 2 < ln := by omega
  have hI2 : (2 : Int) < (ln : Int) := by omega
  clear ht hk hg hln5 hln
  go_enter Try.func16, Try.ntmps16
  go_wp2_with fail
  rw [HW.out]
  clear HW
  refine wp_scopes 4 fun f HF => ?_
  obtain ⟨x0_0, x0_1, x0_2, x0_3, x0_4⟩ := rowc5 R0.out
  obtain ⟨x1_0, x1_1, x1_2, x1_3⟩ := rowc4 R1.out
  go_wp2_with fail
  refine (TCM.out _).mono ?_; rintro e w1 ⟨rfl, hb1⟩
  have P1_0 := keepR hb1 R0
  have P1_1 := keepR hb1 R1
  have P1_2 := keepR hb1 R2
  have HB1 := Lib.hid (below_then HB.out hb1)
  clear x0_0 x0_1 x0_2 x0_3 x0_4 x1_0 x1_1 x1_2 x1_3
  clear hb1
  obtain ⟨x0_0, x0_1, x0_2, x0_3, x0_4⟩ := rowc5 P1_0.out
  obtain ⟨x1_0, x1_1, x1_2, x1_3⟩ := rowc4 P1_1.out
  go_wp2_with fail
  go_step3
  refine scopes_goto ((HF.out 0).trans rfl) ?_
  have Rbig : Hid (w.heap.size + 2 < w1.heap.size) := (ltR P1_2)
  go_wp2_with fail
  refine (TW0.out _ _ HB1.out).mono ?_; rintro e w2 ⟨nb, rfl, RN, hnb, hbn⟩
  have P2_0 := keepR hbn.out P1_0
  have P2_1 := keepR hbn.out P1_1
  have P2_2 := keepR hbn.out P1_2
  have HB2 := Lib.hid (below_then HB1.out hbn.out)
  clear x0_0 x0_1 x0_2 x0_3 x0_4 x1_0 x1_1 x1_2 x1_3
  obtain ⟨x0_0, x0_1, x0_2, x0_3, x0_4⟩ := rowc5 P2_0.out
  obtain ⟨x1_0, x1_1, x1_2, x1_3⟩ := rowc4 P2_1.out
  have hgen : Hid (w.heap.size + 2 < nb) := by have h1 := hnb.out; have h2 := Rbig.out; show _ < _; omega
  have RNl := (ltR RN)
  clear hbn hnb
  go_wp2_with fail
  refine (TAT.out _ _ _ _ _ _).mono ?_; rintro e w3 ⟨rfl, hb3⟩
  have RN2 := Lib.hid ((hb3.block nb RNl).trans RN.out)
  clear RNl
  have P3_0 := keepR hb3 P2_0
  have P3_1 := keepR hb3 P2_1
  have P3_2 := keepR hb3 P2_2
  have HB3 := Lib.hid (below_then HB2.out hb3)
  clear x0_0 x0_1 x0_2 x0_3 x0_4 x1_0 x1_1 x1_2 x1_3
  clear hb3
  obtain ⟨x0_0, x0_1, x0_2, x0_3, x0_4⟩ := rowc5 P3_0.out
  obtain ⟨x1_0, x1_1, x1_2, x1_3⟩ := rowc4 P3_1.out
  go_wp2_with (refine wpList_store_row rfl 60 _ _ rfl (w.heap.size + 2) _ rfl rfl 60 #[.int .i64 0, .int .i64 0, .slice none 0 0, .slice none 0 0, .slice none 0 0] P3_2.out (by kernel_rfl) rfl (by simp [Value.oneCell']) ?_)
  try rw [scopes_ret]
  refine bodyPost_ret (v := .agg #[.int .i64 0, .int .i64 2, .slice (some ⟨nb, 0, none⟩) 3 3, .slice (some ⟨lb, lo, none⟩) ln lc, .slice none 0 0]) (results_cell_row Try.results16 _ _ (w.heap.size + 2) 60 _ (0, 0) _ rfl (setRow_heap _ _ _ _ 60 (0, 0) P3_2.out) Try.underlying60 rfl (by kernel_rfl)) rfl ?_
  exact ⟨nb, rfl, Lib.hid ((setRow_other _ (w.heap.size + 2) nb _ (by have := hgen.out; omega)).trans RN2.out), Lib.hid (by have := hgen.out; show w.heap.size ≤ nb; omega), Lib.hid (row_below HB3.out (by omega) _)⟩
set_option maxRecDepth 100000 in
set_option maxHeartbeats 16000000 in
theorem pRes7 (c : ConfM) (k : Nat) (hk : k < c.caps.length) (hg : c.good) (h t x : Int) (ht : U64 h) (W L : Value) (w : World) (hv : PuV w c k h t x W L) (b : Int) (p q : Bool) (aa : Option Addr) (n ac : Nat) : Calls Try.prog 16 #[.agg (puL 0 7 W L).toArray, .agg #[.int .u64 b, .bool p, .bool q, .slice aa n ac]] w fun e w' => ∃ nb, e = .returned (.agg (puL 6 8 (.slice (some ⟨nb, 0, none⟩) 1 1) nilS).toArray) ∧ Hid (w'.heap[nb]? = some (.cells #[.int .u64 x] 27 (0, 0))) ∧ Hid (w.heap.size ≤ nb) ∧ Hid (Below w.heap.size w w') := by
  obtain ⟨wb, wo, wc, lb, lo, lc, rfl, rfl, hwb, hlb, hw0, hw1, hw2, hl0, hl1, hl2, hls⟩ := hv.open
  have hln0 := ringL_length c k
  obtain ⟨ln, hln⟩ : ∃ ln, (ringL c k).length = ln := ⟨_, rfl⟩
  have hln5 : 5 ≤ ln := by rw [← hln, ringL_length]; have := hg.size k hk; omega
  clear hln0
  rw [hln]
  have HK0 := Lib.hid (hw2)
  have hbk0 : wb < w.heap.size := hwb
  obtain ⟨W, hW, HB, R0, R1, R2, hz⟩ := three_new w (.cells #[.int .i64 0, .int .i64 7, .slice (some ⟨wb, wo, none⟩) 3 wc, .slice (some ⟨lb, lo, none⟩) ln lc, .slice none 0 0] 60) (.cells #[.int .u64 b, .bool p, .bool q, .slice aa n ac] 52) (.cells #[.int .i64 0, .int .i64 0, .slice none 0 0, .slice none 0 0, .slice none 0 0] 60)
  have HW := Lib.hid hW
  clear hW
  have TCM := Lib.hid fun w' => complete_run 0 7 wb wo wc lb lo ln lc hln5 w'
  have TEN := Lib.hid fun k x w' => end_any k x w'
  have TAT := Lib.hid fun pc q a1 n1 c1 w' => at_any 0 pc q a1 n1 c1 (some ⟨lb, lo, none⟩) ln lc w'
  clear hls
  unfold puL
  try unfold nilS
  try dsimp only
  have hi1 : 1 < ln := by omega
  have hi2 : 2 < ln := by omega
  have hI2 : (2 : Int) < (ln : Int) := by omega
  clear ht hk hg hln5 hln
  go_enter Try.func16, Try.ntmps16
  go_wp2_with fail
  rw [HW.out]
  clear HW
  refine wp_scopes 4 fun f HF => ?_
  obtain ⟨x0_0, x0_1, x0_2, x0_3, x0_4⟩ := rowc5 R0.out
  obtain ⟨x1_0, x1_1, x1_2, x1_3⟩ := rowc4 R1.out
  have ck0 := (HB.out.cell (p := ⟨wb, wo + 2, none⟩) hbk0).trans HK0.out
  go_wp2_with fail
  refine (TCM.out _).mono ?_; rintro e w1 ⟨rfl, hb1⟩
  have P1_0 := keepR hb1 R0
  have P1_1 := keepR hb1 R1
  have P1_2 := keepR hb1 R2
  have HB1 := Lib.hid (below_then HB.out hb1)
  clear x0_0 x0_1 x0_2 x0_3 x0_4 x1_0 x1_1 x1_2 x1_3 ck0
  clear hb1
  obtain ⟨x0_0, x0_1, x0_2, x0_3, x0_4⟩ := rowc5 P1_0.out
  obtain ⟨x1_0, x1_1, x1_2, x1_3⟩ := rowc4 P1_1.out
  have ck0 := (HB1.out.cell (p := ⟨wb, wo + 2, none⟩) hbk0).trans HK0.out
  have Rbig : Hid (w.heap.size + 2 < w1.heap.size) := (ltR P1_2)
  go_wp2_with fail
  refine (TEN.out _ _ _).mono ?_; rintro e w2 ⟨nb, rfl, RN, hnb, hbn⟩
  have P2_0 := keepR hbn.out P1_0
  have P2_1 := keepR hbn.out P1_1
  have P2_2 := keepR hbn.out P1_2
  have HB2 := Lib.hid (below_then HB1.out hbn.out)
  clear x0_0 x0_1 x0_2 x0_3 x0_4 x1_0 x1_1 x1_2 x1_3 ck0
  obtain ⟨x0_0, x0_1, x0_2, x0_3, x0_4⟩ := rowc5 P2_0.out
  obtain ⟨x1_0, x1_1, x1_2, x1_3⟩ := rowc4 P2_1.out
  have ck0 := (HB2.out.cell (p := ⟨wb, wo + 2, none⟩) hbk0).trans HK0.out
  have hnb2 := hnb.out
  clear hbn
  go_wp2_with (refine wpList_store_row rfl 60 _ _ rfl (w.heap.size + 2) _ rfl rfl 60 #[.int .i64 0, .int .i64 0, .slice none 0 0, .slice none 0 0, .slice none 0 0] P2_2.out (by kernel_rfl) rfl (by simp [Value.oneCell']) ?_)
  try rw [scopes_ret]
  refine bodyPost_ret (v := .agg #[.int .i64 6, .int .i64 8, .slice (some ⟨nb, 0, none⟩) 1 1, .slice none 0 0, .slice none 0 0]) (results_cell_row Try.results16 _ _ (w.heap.size + 2) 60 _ (0, 0) _ rfl (setRow_heap _ _ _ _ 60 (0, 0) P2_2.out) Try.underlying60 rfl (by kernel_rfl)) rfl ?_
  exact ⟨nb, rfl, Lib.hid ((setRow_other _ (w.heap.size + 2) nb _ (by have := hnb.out; have := Rbig.out; omega)).trans RN.out), Lib.hid (by have := hnb.out; have := Rbig.out; show w.heap.size ≤ nb; omega), Lib.hid (row_below HB2.out (by omega) _)⟩
set_option maxRecDepth 100000 in
set_option maxHeartbeats 16000000 in
theorem pRes6 (c : ConfM) (k : Nat) (hk : k < c.caps.length) (hg : c.good) (h t x : Int) (ht : U64 h) (W L : Value) (w : World) (hv : PuV w c k h t x W L) (b : Int) (p q : Bool) (aa : Option Addr) (n ac : Nat) : Calls Try.prog 16 #[.agg (puL 0 6 W L).toArray, .agg #[.int .u64 b, .bool p, .bool q, .slice aa n ac]] w fun e w' => ∃ nb, e = .returned (.agg (puL 0 7 (.slice (some ⟨nb, 0, none⟩) 3 3) L).toArray) ∧ Hid (w'.heap[nb]? = some (.cells #[.int .u64 h, .int .u64 t, .int .u64 b] 27 (0, 0))) ∧ Hid (w.heap.size ≤ nb) ∧ Hid (Below w.heap.size w w') := by
  obtain ⟨wb, wo, wc, lb, lo, lc, rfl, rfl, hwb, hlb, hw0, hw1, hw2, hl0, hl1, hl2, hls⟩ := hv.open
  have hln0 := ringL_length c k
  obtain ⟨ln, hln⟩ : ∃ ln, (ringL c k).length = ln := ⟨_, rfl⟩
  have hln5 : 5 ≤ ln := by rw [← hln, ringL_length]; have := hg.size k hk; omega
  clear hln0
  rw [hln]
  obtain ⟨W, hW, HB, R0, R1, R2, hz⟩ := three_new w (.cells #[.int .i64 0, .int .i64 6, .slice (some ⟨wb, wo, none⟩) 3 wc, .slice (some ⟨lb, lo, none⟩) ln lc, .slice none 0 0] 60) (.cells #[.int .u64 b, .bool p, .bool q, .slice aa n ac] 52) (.cells #[.int .i64 0, .int .i64 0, .slice none 0 0, .slice none 0 0, .slice none 0 0] 60)
  have HW := Lib.hid hW
  clear hW
  have TCM := Lib.hid fun w' => complete_run 0 6 wb wo wc lb lo ln lc hln5 w'
  have TEN := Lib.hid fun k x w' => end_any k x w'
  have TAT := Lib.hid fun pc q a1 n1 c1 w' => at_any 0 pc q a1 n1 c1 (some ⟨lb, lo, none⟩) ln lc w'
  have TW2 := Lib.hid fun v w' (hb : Below w.heap.size w w') => with2_any 0 6 wb wo wc lb lo ln lc h t x v w' (Nat.lt_of_lt_of_le hwb hb.size) ((hb.cell (p := ⟨wb, wo, none⟩) hwb).trans hw0) ((hb.cell (p := ⟨wb, wo + 1, none⟩) hwb).trans hw1) ((hb.cell (p := ⟨wb, wo + 2, none⟩) hwb).trans hw2)
  clear hls
  unfold puL
  try unfold nilS
  try dsimp only
  have hi1 : 1 < ln := by omega
  have hi2 : 2 < ln := by omega
  have hI2 : (2 : Int) < (ln : Int) := by omega
  clear ht hk hg hln5 hln
  go_enter Try.func16, Try.ntmps16
  go_wp2_with fail
  rw [HW.out]
  clear HW
  refine wp_scopes 4 fun f HF => ?_
  obtain ⟨x0_0, x0_1, x0_2, x0_3, x0_4⟩ := rowc5 R0.out
  obtain ⟨x1_0, x1_1, x1_2, x1_3⟩ := rowc4 R1.out
  go_wp2_with fail
  refine (TCM.out _).mono ?_; rintro e w1 ⟨rfl, hb1⟩
  have P1_0 := keepR hb1 R0
  have P1_1 := keepR hb1 R1
  have P1_2 := keepR hb1 R2
  have HB1 := Lib.hid (below_then HB.out hb1)
  clear x0_0 x0_1 x0_2 x0_3 x0_4 x1_0 x1_1 x1_2 x1_3
  clear hb1
  obtain ⟨x0_0, x0_1, x0_2, x0_3, x0_4⟩ := rowc5 P1_0.out
  obtain ⟨x1_0, x1_1, x1_2, x1_3⟩ := rowc4 P1_1.out
  go_wp2_with fail
  go_step3
  refine scopes_goto ((HF.out 5).trans rfl) ?_
  have Rbig : Hid (w.heap.size + 2 < w1.heap.size) := (ltR P1_2)
  go_wp2_with fail
  refine (TW2.out _ _ HB1.out).mono ?_; rintro e w2 ⟨nb, rfl, RN, hnb, hbn⟩
  have P2_0 := keepR hbn.out P1_0
  have P2_1 := keepR hbn.out P1_1
  have P2_2 := keepR hbn.out P1_2
  have HB2 := Lib.hid (below_then HB1.out hbn.out)
  clear x0_0 x0_1 x0_2 x0_3 x0_4 x1_0 x1_1 x1_2 x1_3
  obtain ⟨x0_0, x0_1, x0_2, x0_3, x0_4⟩ := rowc5 P2_0.out
  obtain ⟨x1_0, x1_1, x1_2, x1_3⟩ := rowc4 P2_1.out
  have hgen : Hid (w.heap.size + 2 < nb) := by have h1 := hnb.out; have h2 := Rbig.out; show _ < _; omega
  have RNl := (ltR RN)
  clear hbn hnb
  go_wp2_with fail
  refine (TAT.out _ _ _ _ _ _).mono ?_; rintro e w3 ⟨rfl, hb3⟩
  have RN2 := Lib.hid ((hb3.block nb RNl).trans RN.out)
  clear RNl
  have P3_0 := keepR hb3 P2_0
  have P3_1 := keepR hb3 P2_1
  have P3_2 := keepR hb3 P2_2
  have HB3 := Lib.hid (below_then HB2.out hb3)
  clear x0_0 x0_1 x0_2 x0_3 x0_4 x1_0 x1_1 x1_2 x1_3
  clear hb3
  obtain ⟨x0_0, x0_1, x0_2, x0_3, x0_4⟩ := rowc5 P3_0.out
  obtain ⟨x1_0, x1_1, x1_2, x1_3⟩ := rowc4 P3_1.out
  go_wp2_with (refine wpList_store_row rfl 60 _ _ rfl (w.heap.size + 2) _ rfl rfl 60 #[.int .i64 0, .int .i64 0, .slice none 0 0, .slice none 0 0, .slice none 0 0] P3_2.out (by kernel_rfl) rfl (by simp [Value.oneCell']) ?_)
  try rw [scopes_ret]
  refine bodyPost_ret (v := .agg #[.int .i64 0, .int .i64 7, .slice (some ⟨nb, 0, none⟩) 3 3, .slice (some ⟨lb, lo, none⟩) ln lc, .slice none 0 0]) (results_cell_row Try.results16 _ _ (w.heap.size + 2) 60 _ (0, 0) _ rfl (setRow_heap _ _ _ _ 60 (0, 0) P3_2.out) Try.underlying60 rfl (by kernel_rfl)) rfl ?_
  exact ⟨nb, rfl, Lib.hid ((setRow_other _ (w.heap.size + 2) nb _ (by have := hgen.out; omega)).trans RN2.out), Lib.hid (by have := hgen.out; show w.heap.size ≤ nb; omega), Lib.hid (row_below HB3.out (by omega) _)⟩
set_option maxRecDepth 100000 in
set_option maxHeartbeats 16000000 in
theorem pRes5k (c : ConfM) (k : Nat) (hk : k < c.caps.length) (hg : c.good) (h t x : Int) (ht : U64 h) (W L : Value) (w : World) (hv : PuV w c k h t x W L) (b : Int) (q : Bool) (aa : Option Addr) (n ac : Nat) : Calls Try.prog 16 #[.agg (puL 0 5 W L).toArray, .agg #[.int .u64 b, .bool true, .bool q, .slice aa n ac]] w fun e w' => e = .returned (.agg (puL 0 6 W L).toArray) ∧ Below w.heap.size w w' := by
  obtain ⟨wb, wo, wc, lb, lo, lc, rfl, rfl, hwb, hlb, hw0, hw1, hw2, hl0, hl1, hl2, hls⟩ := hv.open
  have hln0 := ringL_length c k
  obtain ⟨ln, hln⟩ : ∃ ln, (ringL c k).length = ln := ⟨_, rfl⟩
  have hln5 : 5 ≤ ln := by rw [← hln, ringL_length]; have := hg.size k hk; omega
  clear hln0
  rw [hln]
  obtain ⟨W, hW, HB, R0, R1, R2, hz⟩ := three_new w (.cells #[.int .i64 0, .int .i64 5, .slice (some ⟨wb, wo, none⟩) 3 wc, .slice (some ⟨lb, lo, none⟩) ln lc, .slice none 0 0] 60) (.cells #[.int .u64 b, .bool true, .bool q, .slice aa n ac] 52) (.cells #[.int .i64 0, .int .i64 0, .slice none 0 0, .slice none 0 0, .slice none 0 0] 60)
  have HW := Lib.hid hW
  clear hW
  have TCM := Lib.hid fun w' => complete_run 0 5 wb wo wc lb lo ln lc hln5 w'
  have TEN := Lib.hid fun k x w' => end_any k x w'
  have TAT := Lib.hid fun pc q a1 n1 c1 w' => at_any 0 pc q a1 n1 c1 (some ⟨lb, lo, none⟩) ln lc w'
  clear hls
  unfold puL
  try unfold nilS
  try dsimp only
  have hi1 : 1 < ln := by omega
  have hi2 : 2 < ln := by omega
  have hI2 : (2 : Int) < (ln : Int) := by omega
  clear ht hk hg hln5 hln
  go_enter Try.func16, Try.ntmps16
  go_wp2_with fail
  rw [HW.out]
  clear HW
  refine wp_scopes 4 fun f HF => ?_
  obtain ⟨x0_0, x0_1, x0_2, x0_3, x0_4⟩ := rowc5 R0.out
  obtain ⟨x1_0, x1_1, x1_2, x1_3⟩ := rowc4 R1.out
  go_wp2_with fail
  refine (TCM.out _).mono ?_; rintro e w1 ⟨rfl, hb1⟩
  have P1_0 := keepR hb1 R0
  have P1_1 := keepR hb1 R1
  have P1_2 := keepR hb1 R2
  have HB1 := Lib.hid (below_then HB.out hb1)
  clear x0_0 x0_1 x0_2 x0_3 x0_4 x1_0 x1_1 x1_2 x1_3
  clear hb1
  obtain ⟨x0_0, x0_1, x0_2, x0_3, x0_4⟩ := rowc5 P1_0.out
  obtain ⟨x1_0, x1_1, x1_2, x1_3⟩ := rowc4 P1_1.out
  go_wp2_with fail
  go_step3
  refine scopes_goto ((HF.out 4).trans rfl) ?_
  go_wp2_with fail
  refine (TAT.out _ _ _ _ _ _).mono ?_; rintro e w2 ⟨rfl, hb2⟩
  have P2_0 := keepR hb2 P1_0
  have P2_1 := keepR hb2 P1_1
  have P2_2 := keepR hb2 P1_2
  have HB2 := Lib.hid (below_then HB1.out hb2)
  clear x0_0 x0_1 x0_2 x0_3 x0_4 x1_0 x1_1 x1_2 x1_3
  clear hb2
  obtain ⟨x0_0, x0_1, x0_2, x0_3, x0_4⟩ := rowc5 P2_0.out
  obtain ⟨x1_0, x1_1, x1_2, x1_3⟩ := rowc4 P2_1.out
  go_wp2_with (refine wpList_store_row rfl 60 _ _ rfl (w.heap.size + 2) _ rfl rfl 60 #[.int .i64 0, .int .i64 0, .slice none 0 0, .slice none 0 0, .slice none 0 0] P2_2.out (by kernel_rfl) rfl (by simp [Value.oneCell']) ?_)
  try rw [scopes_ret]
  refine bodyPost_ret (v := .agg #[.int .i64 0, .int .i64 6, .slice (some ⟨wb, wo, none⟩) 3 wc, .slice (some ⟨lb, lo, none⟩) ln lc, .slice none 0 0]) (results_cell_row Try.results16 _ _ (w.heap.size + 2) 60 _ (0, 0) _ rfl (setRow_heap _ _ _ _ 60 (0, 0) P2_2.out) Try.underlying60 rfl (by kernel_rfl)) rfl ?_
  exact ⟨rfl, row_below HB2.out (by omega) _⟩
set_option maxRecDepth 100000 in
set_option maxHeartbeats 16000000 in
theorem pRes5n (c : ConfM) (k : Nat) (hk : k < c.caps.length) (hg : c.good) (h t x : Int) (ht : U64 h) (W L : Value) (w : World) (hv : PuV w c k h t x W L) (b : Int) (q : Bool) (aa : Option Addr) (n ac : Nat) : Calls Try.prog 16 #[.agg (puL 0 5 W L).toArray, .agg #[.int .u64 b, .bool false, .bool q, .slice aa n ac]] w fun e w' => e = .returned (.agg (puL 0 1 W L).toArray) ∧ Below w.heap.size w w' := by
  obtain ⟨wb, wo, wc, lb, lo, lc, rfl, rfl, hwb, hlb, hw0, hw1, hw2, hl0, hl1, hl2, hls⟩ := hv.open
  have hln0 := ringL_length c k
  obtain ⟨ln, hln⟩ : ∃ ln, (ringL c k).length = ln := ⟨_, rfl⟩
  have hln5 : 5 ≤ ln := by rw [← hln, ringL_length]; have := hg.size k hk; omega
  clear hln0
  rw [hln]
  obtain ⟨W, hW, HB, R0, R1, R2, hz⟩ := three_new w (.cells #[.int .i64 0, .int .i64 5, .slice (some ⟨wb, wo, none⟩) 3 wc, .slice (some ⟨lb, lo, none⟩) ln lc, .slice none 0 0] 60) (.cells #[.int .u64 b, .bool false, .bool q, .slice aa n ac] 52) (.cells #[.int .i64 0, .int .i64 0, .slice none 0 0, .slice none 0 0, .slice none 0 0] 60)
  have HW := Lib.hid hW
  clear hW
  have TCM := Lib.hid fun w' => complete_run 0 5 wb wo wc lb lo ln lc hln5 w'
  have TEN := Lib.hid fun k x w' => end_any k x w'
  have TAT := Lib.hid fun pc q a1 n1 c1 w' => at_any 0 pc q a1 n1 c1 (some ⟨lb, lo, none⟩) ln lc w'
  clear hls
  unfold puL
  try unfold nilS
  try dsimp only
  have hi1 : 1 < ln := by omega
  have hi2 : 2 < ln := by omega
  have hI2 : (2 : Int) < (ln : Int) := by omega
  clear ht hk hg hln5 hln
  go_enter Try.func16, Try.ntmps16
  go_wp2_with fail
  rw [HW.out]
  clear HW
  refine wp_scopes 4 fun f HF => ?_
  obtain ⟨x0_0, x0_1, x0_2, x0_3, x0_4⟩ := rowc5 R0.out
  obtain ⟨x1_0, x1_1, x1_2, x1_3⟩ := rowc4 R1.out
  go_wp2_with fail
  refine (TCM.out _).mono ?_; rintro e w1 ⟨rfl, hb1⟩
  have P1_0 := keepR hb1 R0
  have P1_1 := keepR hb1 R1
  have P1_2 := keepR hb1 R2
  have HB1 := Lib.hid (below_then HB.out hb1)
  clear x0_0 x0_1 x0_2 x0_3 x0_4 x1_0 x1_1 x1_2 x1_3
  clear hb1
  obtain ⟨x0_0, x0_1, x0_2, x0_3, x0_4⟩ := rowc5 P1_0.out
  obtain ⟨x1_0, x1_1, x1_2, x1_3⟩ := rowc4 P1_1.out
  go_wp2_with fail
  go_step3
  refine scopes_goto ((HF.out 4).trans rfl) ?_
  go_wp2_with fail
  go_step3
  refine scopes_goto ((HF.out 6).trans rfl) ?_
  go_wp2_with fail
  refine (TAT.out _ _ _ _ _ _).mono ?_; rintro e w2 ⟨rfl, hb2⟩
  have P2_0 := keepR hb2 P1_0
  have P2_1 := keepR hb2 P1_1
  have P2_2 := keepR hb2 P1_2
  have HB2 := Lib.hid (below_then HB1.out hb2)
  clear x0_0 x0_1 x0_2 x0_3 x0_4 x1_0 x1_1 x1_2 x1_3
  clear hb2
  obtain ⟨x0_0, x0_1, x0_2, x0_3, x0_4⟩ := rowc5 P2_0.out
  obtain ⟨x1_0, x1_1, x1_2, x1_3⟩ := rowc4 P2_1.out
  go_wp2_with (refine wpList_store_row rfl 60 _ _ rfl (w.heap.size + 2) _ rfl rfl 60 #[.int .i64 0, .int .i64 0, .slice none 0 0, .slice none 0 0, .slice none 0 0] P2_2.out (by kernel_rfl) rfl (by simp [Value.oneCell']) ?_)
  try rw [scopes_ret]
  refine bodyPost_ret (v := .agg #[.int .i64 0, .int .i64 1, .slice (some ⟨wb, wo, none⟩) 3 wc, .slice (some ⟨lb, lo, none⟩) ln lc, .slice none 0 0]) (results_cell_row Try.results16 _ _ (w.heap.size + 2) 60 _ (0, 0) _ rfl (setRow_heap _ _ _ _ 60 (0, 0) P2_2.out) Try.underlying60 rfl (by kernel_rfl)) rfl ?_
  exact ⟨rfl, row_below HB2.out (by omega) _⟩
set_option maxRecDepth 100000 in
set_option maxHeartbeats 16000000 in
theorem pRes3n (c : ConfM) (k : Nat) (hk : k < c.caps.length) (hg : c.good) (h t x : Int) (ht : U64 h) (W L : Value) (w : World) (hv : PuV w c k h t x W L) (b : Int) (p q : Bool) (aa : Option Addr) (n ac : Nat) (hne : ¬ b = h) : Calls Try.prog 16 #[.agg (puL 0 3 W L).toArray, .agg #[.int .u64 b, .bool p, .bool q, .slice aa n ac]] w fun e w' => ∃ nb, e = .returned (.agg (puL 0 2 (.slice (some ⟨nb, 0, none⟩) 3 3) L).toArray) ∧ Hid (w'.heap[nb]? = some (.cells #[.int .u64 b, .int .u64 t, .int .u64 x] 27 (0, 0))) ∧ Hid (w.heap.size ≤ nb) ∧ Hid (Below w.heap.size w w') := by
  obtain ⟨wb, wo, wc, lb, lo, lc, rfl, rfl, hwb, hlb, hw0, hw1, hw2, hl0, hl1, hl2, hls⟩ := hv.open
  have hln0 := ringL_length c k
  obtain ⟨ln, hln⟩ : ∃ ln, (ringL c k).length = ln := ⟨_, rfl⟩
  have hln5 : 5 ≤ ln := by rw [← hln, ringL_length]; have := hg.size k hk; omega
  clear hln0
  rw [hln]
  have HK0 := Lib.hid (hw0)
  have hbk0 : wb < w.heap.size := hwb
  have HK1 := Lib.hid (hw1)
  have hbk1 : wb < w.heap.size := hwb
  obtain ⟨W, hW, HB, R0, R1, R2, hz⟩ := three_new w (.cells #[.int .i64 0, .int .i64 3, .slice (some ⟨wb, wo, none⟩) 3 wc, .slice (some ⟨lb, lo, none⟩) ln lc, .slice none 0 0] 60) (.cells #[.int .u64 b, .bool p, .bool q, .slice aa n ac] 52) (.cells #[.int .i64 0, .int .i64 0, .slice none 0 0, .slice none 0 0, .slice none 0 0] 60)
  have HW := Lib.hid hW
  clear hW
  have TCM := Lib.hid fun w' => complete_run 0 3 wb wo wc lb lo ln lc hln5 w'
  have TEN := Lib.hid fun k x w' => end_any k x w'
  have TAT := Lib.hid fun pc q a1 n1 c1 w' => at_any 0 pc q a1 n1 c1 (some ⟨lb, lo, none⟩) ln lc w'
  have TW0 := Lib.hid fun v w' (hb : Below w.heap.size w w') => with0_any 0 3 wb wo wc lb lo ln lc h t x v w' (Nat.lt_of_lt_of_le hwb hb.size) ((hb.cell (p := ⟨wb, wo, none⟩) hwb).trans hw0) ((hb.cell (p := ⟨wb, wo + 1, none⟩) hwb).trans hw1) ((hb.cell (p := ⟨wb, wo + 2, none⟩) hwb).trans hw2)
  clear hls
  unfold puL
  try unfold nilS
  try dsimp only
  have hi1 : 1 < ln := by omega
  have hi2 : 2 < ln := by omega
  have hI2 : (2 : Int) < (ln : Int) := by omega
  clear ht hk hg hln5 hln
  go_enter Try.func16, Try.ntmps16
  go_wp2_with fail
  rw [HW.out]
  clear HW
  refine wp_scopes 4 fun f HF => ?_
  obtain ⟨x0_0, x0_1, x0_2, x0_3, x0_4⟩ := rowc5 R0.out
  obtain ⟨x1_0, x1_1, x1_2, x1_3⟩ := rowc4 R1.out
  have ck0 := (HB.out.cell (p := ⟨wb, wo, none⟩) hbk0).trans HK0.out
  have ck1 := (HB.out.cell (p := ⟨wb, wo + 1, none⟩) hbk1).trans HK1.out
  go_wp2_with fail
  refine (TCM.out _).mono ?_; rintro e w1 ⟨rfl, hb1⟩
  have P1_0 := keepR hb1 R0
  have P1_1 := keepR hb1 R1
  have P1_2 := keepR hb1 R2
  have HB1 := Lib.hid (below_then HB.out hb1)
  clear x0_0 x0_1 x0_2 x0_3 x0_4 x1_0 x1_1 x1_2 x1_3 ck0 ck1
  clear hb1
  obtain ⟨x0_0, x0_1, x0_2, x0_3, x0_4⟩ := rowc5 P1_0.out
  obtain ⟨x1_0, x1_1, x1_2, x1_3⟩ := rowc4 P1_1.out
  have ck0 := (HB1.out.cell (p := ⟨wb, wo, none⟩) hbk0).trans HK0.out
  have ck1 := (HB1.out.cell (p := ⟨wb, wo + 1, none⟩) hbk1).trans HK1.out
  go_wp2_with fail
  go_step3
  refine scopes_goto ((HF.out 2).trans rfl) ?_
  go_upto_region 21 with fail
  have Xx0_0 := ext_cell _ _ (ltR P1_0) _ x0_0
  have Xx0_1 := ext_cell _ _ (ltR P1_0) _ x0_1
  have Xx0_2 := ext_cell _ _ (ltR P1_0) _ x0_2
  have Xx0_3 := ext_cell _ _ (ltR P1_0) _ x0_3
  have Xx0_4 := ext_cell _ _ (ltR P1_0) _ x0_4
  have Xx1_0 := ext_cell _ _ (ltR P1_1) _ x1_0
  have Xx1_1 := ext_cell _ _ (ltR P1_1) _ x1_1
  have Xx1_2 := ext_cell _ _ (ltR P1_1) _ x1_2
  have Xx1_3 := ext_cell _ _ (ltR P1_1) _ x1_3
  have Xck0 := ext_cell _ _ (Nat.lt_of_lt_of_le hbk0 HB1.out.size) _ ck0
  have Xck1 := ext_cell _ _ (Nat.lt_of_lt_of_le hbk1 HB1.out.size) _ ck1
  clear x0_0 x0_1 x0_2 x0_3 x0_4 x1_0 x1_1 x1_2 x1_3 ck0 ck1
  refine wp_region_ext w1 (by kernel_rfl) (by kernel_rfl) (Below.refl _ _) ?_
  repeat (go_big_quiet_step (fail))
  refine wpQuiet_nil ?_
  intro _ hw'
  obtain ⟨n9, rfl⟩ := hw'
  have P2_0 := keepR n9.below P1_0
  have P2_1 := keepR n9.below P1_1
  have P2_2 := keepR n9.below P1_2
  have HB2 := Lib.hid (below_then HB1.out n9.below)
  generalize n9.wd = w2 at *
  clear Xx0_0 Xx0_1 Xx0_2 Xx0_3 Xx0_4 Xx1_0 Xx1_1 Xx1_2 Xx1_3 Xck0 Xck1
  obtain ⟨x0_0, x0_1, x0_2, x0_3, x0_4⟩ := rowc5 P2_0.out
  obtain ⟨x1_0, x1_1, x1_2, x1_3⟩ := rowc4 P2_1.out
  have ck0 := (HB2.out.cell (p := ⟨wb, wo, none⟩) hbk0).trans HK0.out
  have ck1 := (HB2.out.cell (p := ⟨wb, wo + 1, none⟩) hbk1).trans HK1.out
  go_wp2_with fail
  go_step3
  refine scopes_goto ((HF.out 0).trans rfl) ?_
  have Rbig : Hid (w.heap.size + 2 < w2.heap.size) := (ltR P2_2)
  go_wp2_with fail
  refine (TW0.out _ _ HB2.out).mono ?_; rintro e w3 ⟨nb, rfl, RN, hnb, hbn⟩
  have P3_0 := keepR hbn.out P2_0
  have P3_1 := keepR hbn.out P2_1
  have P3_2 := keepR hbn.out P2_2
  have HB3 := Lib.hid (below_then HB2.out hbn.out)
  clear x0_0 x0_1 x0_2 x0_3 x0_4 x1_0 x1_1 x1_2 x1_3 ck0 ck1
  obtain ⟨x0_0, x0_1, x0_2, x0_3, x0_4⟩ := rowc5 P3_0.out
  obtain ⟨x1_0, x1_1, x1_2, x1_3⟩ := rowc4 P3_1.out
  have ck0 := (HB3.out.cell (p := ⟨wb, wo, none⟩) hbk0).trans HK0.out
  have ck1 := (HB3.out.cell (p := ⟨wb, wo + 1, none⟩) hbk1).trans HK1.out
  have hgen : Hid (w.heap.size + 2 < nb) := by have h1 := hnb.out; have h2 := Rbig.out; show _ < _; omega
  have RNl := (ltR RN)
  clear hbn hnb
  go_wp2_with fail
  refine (TAT.out _ _ _ _ _ _).mono ?_; rintro e w4 ⟨rfl, hb4⟩
  have RN2 := Lib.hid ((hb4.block nb RNl).trans RN.out)
  clear RNl
  have P4_0 := keepR hb4 P3_0
  have P4_1 := keepR hb4 P3_1
  have P4_2 := keepR hb4 P3_2
  have HB4 := Lib.hid (below_then HB3.out hb4)
  clear x0_0 x0_1 x0_2 x0_3 x0_4 x1_0 x1_1 x1_2 x1_3 ck0 ck1
  clear hb4
  obtain ⟨x0_0, x0_1, x0_2, x0_3, x0_4⟩ := rowc5 P4_0.out
  obtain ⟨x1_0, x1_1, x1_2, x1_3⟩ := rowc4 P4_1.out
  have ck0 := (HB4.out.cell (p := ⟨wb, wo, none⟩) hbk0).trans HK0.out
  have ck1 := (HB4.out.cell (p := ⟨wb, wo + 1, none⟩) hbk1).trans HK1.out
  go_wp2_with (refine wpList_store_row rfl 60 _ _ rfl (w.heap.size + 2) _ rfl rfl 60 #[.int .i64 0, .int .i64 0, .slice none 0 0, .slice none 0 0, .slice none 0 0] P4_2.out (by kernel_rfl) rfl (by simp [Value.oneCell']) ?_)
  try rw [scopes_ret]
  refine bodyPost_ret (v := .agg #[.int .i64 0, .int .i64 2, .slice (some ⟨nb, 0, none⟩) 3 3, .slice (some ⟨lb, lo, none⟩) ln lc, .slice none 0 0]) (results_cell_row Try.results16 _ _ (w.heap.size + 2) 60 _ (0, 0) _ rfl (setRow_heap _ _ _ _ 60 (0, 0) P4_2.out) Try.underlying60 rfl (by kernel_rfl)) rfl ?_
  exact ⟨nb, rfl, Lib.hid ((setRow_other _ (w.heap.size + 2) nb _ (by have := hgen.out; omega)).trans RN2.out), Lib.hid (by have := hgen.out; show w.heap.size ≤ nb; omega), Lib.hid (row_below HB4.out (by omega) _)⟩
set_option maxRecDepth 100000 in
set_option maxHeartbeats 16000000 in
theorem pRes3c (c : ConfM) (k : Nat) (hk : k < c.caps.length) (hg : c.good) (h t x : Int) (ht : U64 h) (W L : Value) (w : World) (hv : PuV w c k h t x W L) (p q : Bool) (aa : Option Addr) (n ac : Nat) (h0 : 0 ≤ t) (h1 : t < 18446744073709551616) (hcl : closedB t = true) : Calls Try.prog 16 #[.agg (puL 0 3 W L).toArray, .agg #[.int .u64 h, .bool p, .bool q, .slice aa n ac]] w fun e w' => ∃ nb, e = .returned (.agg (puL 5 8 (.slice (some ⟨nb, 0, none⟩) 1 1) nilS).toArray) ∧ Hid (w'.heap[nb]? = some (.cells #[.int .u64 0] 27 (0, 0))) ∧ Hid (w.heap.size ≤ nb) ∧ Hid (Below w.heap.size w w') := by
  obtain ⟨wb, wo, wc, lb, lo, lc, rfl, rfl, hwb, hlb, hw0, hw1, hw2, hl0, hl1, hl2, hls⟩ := hv.open
  have hln0 := ringL_length c k
  obtain ⟨ln, hln⟩ : ∃ ln, (ringL c k).length = ln := ⟨_, rfl⟩
  have hln5 : 5 ≤ ln := by rw [← hln, ringL_length]; have := hg.size k hk; omega
  clear hln0
  rw [hln]
  have HK0 := Lib.hid (hw0)
  have hbk0 : wb < w.heap.size := hwb
  have HK1 := Lib.hid (hw1)
  have hbk1 : wb < w.heap.size := hwb
  obtain ⟨W, hW, HB, R0, R1, R2, hz⟩ := three_new w (.cells #[.int .i64 0, .int .i64 3, .slice (some ⟨wb, wo, none⟩) 3 wc, .slice (some ⟨lb, lo, none⟩) ln lc, .slice none 0 0] 60) (.cells #[.int .u64 h, .bool p, .bool q, .slice aa n ac] 52) (.cells #[.int .i64 0, .int .i64 0, .slice none 0 0, .slice none 0 0, .slice none 0 0] 60)
  have HW := Lib.hid hW
  clear hW
  have TCM := Lib.hid fun w' => complete_run 0 3 wb wo wc lb lo ln lc hln5 w'
  have TEN := Lib.hid fun k x w' => end_any k x w'
  have TAT := Lib.hid fun pc q a1 n1 c1 w' => at_any 0 pc q a1 n1 c1 (some ⟨lb, lo, none⟩) ln lc w'
  have TW0 := Lib.hid fun v w' (hb : Below w.heap.size w w') => with0_any 0 3 wb wo wc lb lo ln lc h t x v w' (Nat.lt_of_lt_of_le hwb hb.size) ((hb.cell (p := ⟨wb, wo, none⟩) hwb).trans hw0) ((hb.cell (p := ⟨wb, wo + 1, none⟩) hwb).trans hw1) ((hb.cell (p := ⟨wb, wo + 2, none⟩) hwb).trans hw2)
  have TEM := Lib.hid fun w' => emptiness_true t w' h0 h1 hcl
  clear h0 h1 hcl
  clear hls
  unfold puL
  try unfold nilS
  try dsimp only
  have hi1 : 1 < ln := by omega
  have hi2 : 2 < ln := by omega
  have hI2 : (2 : Int) < (ln : Int) := by omega
  clear ht hk hg hln5 hln
  go_enter Try.func16, Try.ntmps16
  go_wp2_with fail
  rw [HW.out]
  clear HW
  refine wp_scopes 4 fun f HF => ?_
  obtain ⟨x0_0, x0_1, x0_2, x0_3, x0_4⟩ := rowc5 R0.out
  obtain ⟨x1_0, x1_1, x1_2, x1_3⟩ := rowc4 R1.out
  have ck0 := (HB.out.cell (p := ⟨wb, wo, none⟩) hbk0).trans HK0.out
  have ck1 := (HB.out.cell (p := ⟨wb, wo + 1, none⟩) hbk1).trans HK1.out
  go_wp2_with fail
  refine (TCM.out _).mono ?_; rintro e w1 ⟨rfl, hb1⟩
  have P1_0 := keepR hb1 R0
  have P1_1 := keepR hb1 R1
  have P1_2 := keepR hb1 R2
  have HB1 := Lib.hid (below_then HB.out hb1)
  clear x0_0 x0_1 x0_2 x0_3 x0_4 x1_0 x1_1 x1_2 x1_3 ck0 ck1
  clear hb1
  obtain ⟨x0_0, x0_1, x0_2, x0_3, x0_4⟩ := rowc5 P1_0.out
  obtain ⟨x1_0, x1_1, x1_2, x1_3⟩ := rowc4 P1_1.out
  have ck0 := (HB1.out.cell (p := ⟨wb, wo, none⟩) hbk0).trans HK0.out
  have ck1 := (HB1.out.cell (p := ⟨wb, wo + 1, none⟩) hbk1).trans HK1.out
  go_wp2_with fail
  go_step3
  refine scopes_goto ((HF.out 2).trans rfl) ?_
  go_upto_region 21 with fail
  have Xx0_0 := ext_cell _ _ (ltR P1_0) _ x0_0
  have Xx0_1 := ext_cell _ _ (ltR P1_0) _ x0_1
  have Xx0_2 := ext_cell _ _ (ltR P1_0) _ x0_2
  have Xx0_3 := ext_cell _ _ (ltR P1_0) _ x0_3
  have Xx0_4 := ext_cell _ _ (ltR P1_0) _ x0_4
  have Xx1_0 := ext_cell _ _ (ltR P1_1) _ x1_0
  have Xx1_1 := ext_cell _ _ (ltR P1_1) _ x1_1
  have Xx1_2 := ext_cell _ _ (ltR P1_1) _ x1_2
  have Xx1_3 := ext_cell _ _ (ltR P1_1) _ x1_3
  have Xck0 := ext_cell _ _ (Nat.lt_of_lt_of_le hbk0 HB1.out.size) _ ck0
  have Xck1 := ext_cell _ _ (Nat.lt_of_lt_of_le hbk1 HB1.out.size) _ ck1
  clear x0_0 x0_1 x0_2 x0_3 x0_4 x1_0 x1_1 x1_2 x1_3 ck0 ck1
  refine wp_region_ext w1 (by kernel_rfl) (by kernel_rfl) (Below.refl _ _) ?_
  repeat (go_big_quiet_step (fail))
  refine wpQuiet_nil ?_
  intro _ hw'
  obtain ⟨n9, rfl⟩ := hw'
  have P2_0 := keepR n9.below P1_0
  have P2_1 := keepR n9.below P1_1
  have P2_2 := keepR n9.below P1_2
  have HB2 := Lib.hid (below_then HB1.out n9.below)
  generalize n9.wd = w2 at *
  clear Xx0_0 Xx0_1 Xx0_2 Xx0_3 Xx0_4 Xx1_0 Xx1_1 Xx1_2 Xx1_3 Xck0 Xck1
  obtain ⟨x0_0, x0_1, x0_2, x0_3, x0_4⟩ := rowc5 P2_0.out
  obtain ⟨x1_0, x1_1, x1_2, x1_3⟩ := rowc4 P2_1.out
  have ck0 := (HB2.out.cell (p := ⟨wb, wo, none⟩) hbk0).trans HK0.out
  have ck1 := (HB2.out.cell (p := ⟨wb, wo + 1, none⟩) hbk1).trans HK1.out
  have Rbig : Hid (w.heap.size + 2 < w2.heap.size) := (ltR P2_2)
  go_wp2_with fail
  refine (TEM.out _).mono ?_; rintro e w' ⟨rfl, rfl⟩
  go_wp2_with fail
  refine (TEN.out _ _ _).mono ?_; rintro e w3 ⟨nb, rfl, RN, hnb, hbn⟩
  have P3_0 := keepR hbn.out P2_0
  have P3_1 := keepR hbn.out P2_1
  have P3_2 := keepR hbn.out P2_2
  have HB3 := Lib.hid (below_then HB2.out hbn.out)
  clear x0_0 x0_1 x0_2 x0_3 x0_4 x1_0 x1_1 x1_2 x1_3 ck0 ck1
  obtain ⟨x0_0, x0_1, x0_2, x0_3, x0_4⟩ := rowc5 P3_0.out
  obtain ⟨x1_0, x1_1, x1_2, x1_3⟩ := rowc4 P3_1.out
  have ck0 := (HB3.out.cell (p := ⟨wb, wo, none⟩) hbk0).trans HK0.out
  have ck1 := (HB3.out.cell (p := ⟨wb, wo + 1, none⟩) hbk1).trans HK1.out
  have hnb2 := hnb.out
  clear hbn
  go_wp2_with (refine wpList_store_row rfl 60 _ _ rfl (w.heap.size + 2) _ rfl rfl 60 #[.int .i64 0, .int .i64 0, .slice none 0 0, .slice none 0 0, .slice none 0 0] P3_2.out (by kernel_rfl) rfl (by simp [Value.oneCell']) ?_)
  try rw [scopes_ret]
  refine bodyPost_ret (v := .agg #[.int .i64 5, .int .i64 8, .slice (some ⟨nb, 0, none⟩) 1 1, .slice none 0 0, .slice none 0 0]) (results_cell_row Try.results16 _ _ (w.heap.size + 2) 60 _ (0, 0) _ rfl (setRow_heap _ _ _ _ 60 (0, 0) P3_2.out) Try.underlying60 rfl (by kernel_rfl)) rfl ?_
  exact ⟨nb, rfl, Lib.hid ((setRow_other _ (w.heap.size + 2) nb _ (by have := hnb.out; have := Rbig.out; omega)).trans RN.out), Lib.hid (by have := hnb.out; have := Rbig.out; show w.heap.size ≤ nb; omega), Lib.hid (row_below HB3.out (by omega) _)⟩
set_option maxRecDepth 100000 in
set_option maxHeartbeats 16000000 in
theorem pRes3o (c : ConfM) (k : Nat) (hk : k < c.caps.length) (hg : c.good) (h t x : Int) (ht : U64 h) (W L : Value) (w : World) (hv : PuV w c k h t x W L) (p q : Bool) (aa : Option Addr) (n ac : Nat) (h0 : 0 ≤ t) (h1 : t < 18446744073709551616) (hcl : closedB t = false) : Calls Try.prog 16 #[.agg (puL 0 3 W L).toArray, .agg #[.int .u64 h, .bool p, .bool q, .slice aa n ac]] w fun e w' => ∃ nb, e = .returned (.agg (puL 3 8 (.slice (some ⟨nb, 0, none⟩) 1 1) nilS).toArray) ∧ Hid (w'.heap[nb]? = some (.cells #[.int .u64 0] 27 (0, 0))) ∧ Hid (w.heap.size ≤ nb) ∧ Hid (Below w.heap.size w w') := by
  obtain ⟨wb, wo, wc, lb, lo, lc, rfl, rfl, hwb, hlb, hw0, hw1, hw2, hl0, hl1, hl2, hls⟩ := hv.open
  have hln0 := ringL_length c k
  obtain ⟨ln, hln⟩ : ∃ ln, (ringL c k).length = ln := ⟨_, rfl⟩
  have hln5 : 5 ≤ ln := by rw [← hln, ringL_length]; have := hg.size k hk; omega
  clear hln0
  rw [hln]
  have HK0 := Lib.hid (hw0)
  have hbk0 : wb < w.heap.size := hwb
  have HK1 := Lib.hid (hw1)
  have hbk1 : wb < w.heap.size := hwb
  obtain ⟨W, hW, HB, R0, R1, R2, hz⟩ := three_new w (.cells #[.int .i64 0, .int .i64 3, .slice (some ⟨wb, wo, none⟩) 3 wc, .slice (some ⟨lb, lo, none⟩) ln lc, .slice none 0 0] 60) (.cells #[.int .u64 h, .bool p, .bool q, .slice aa n ac] 52) (.cells #[.int .i64 0, .int .i64 0, .slice none 0 0, .slice none 0 0, .slice none 0 0] 60)
  have HW := Lib.hid hW
  clear hW
  have TCM := Lib.hid fun w' => complete_run 0 3 wb wo wc lb lo ln lc hln5 w'
  have TEN := Lib.hid fun k x w' => end_any k x w'
  have TAT := Lib.hid fun pc q a1 n1 c1 w' => at_any 0 pc q a1 n1 c1 (some ⟨lb, lo, none⟩) ln lc w'
  have TW0 := Lib.hid fun v w' (hb : Below w.heap.size w w') => with0_any 0 3 wb wo wc lb lo ln lc h t x v w' (Nat.lt_of_lt_of_le hwb hb.size) ((hb.cell (p := ⟨wb, wo, none⟩) hwb).trans hw0) ((hb.cell (p := ⟨wb, wo + 1, none⟩) hwb).trans hw1) ((hb.cell (p := ⟨wb, wo + 2, none⟩) hwb).trans hw2)
  have TEM := Lib.hid fun w' => emptiness_false t w' h0 h1 hcl
  clear h0 h1 hcl
  clear hls
  unfold puL
  try unfold nilS
  try dsimp only
  have hi1 : 1 < ln := by omega
  have hi2 : 2 < ln := by omega
  have hI2 : (2 : Int) < (ln : Int) := by omega
  clear ht hk hg hln5 hln
  go_enter Try.func16, Try.ntmps16
  go_wp2_with fail
  rw [HW.out]
  clear HW
  refine wp_scopes 4 fun f HF => ?_
  obtain ⟨x0_0, x0_1, x0_2, x0_3, x0_4⟩ := rowc5 R0.out
  obtain ⟨x1_0, x1_1, x1_2, x1_3⟩ := rowc4 R1.out
  have ck0 := (HB.out.cell (p := ⟨wb, wo, none⟩) hbk0).trans HK0.out
  have ck1 := (HB.out.cell (p := ⟨wb, wo + 1, none⟩) hbk1).trans HK1.out
  go_wp2_with fail
  refine (TCM.out _).mono ?_; rintro e w1 ⟨rfl, hb1⟩
  have P1_0 := keepR hb1 R0
  have P1_1 := keepR hb1 R1
  have P1_2 := keepR hb1 R2
  have HB1 := Lib.hid (below_then HB.out hb1)
  clear x0_0 x0_1 x0_2 x0_3 x0_4 x1_0 x1_1 x1_2 x1_3 ck0 ck1
  clear hb1
  obtain ⟨x0_0, x0_1, x0_2, x0_3, x0_4⟩ := rowc5 P1_0.out
  obtain ⟨x1_0, x1_1, x1_2, x1_3⟩ := rowc4 P1_1.out
  have ck0 := (HB1.out.cell (p := ⟨wb, wo, none⟩) hbk0).trans HK0.out
  have ck1 := (HB1.out.cell (p := ⟨wb, wo + 1, none⟩) hbk1).trans HK1.out
  go_wp2_with fail
  go_step3
  refine scopes_goto ((HF.out 2).trans rfl) ?_
  go_upto_region 21 with fail
  have Xx0_0 := ext_cell _ _ (ltR P1_0) _ x0_0
  have Xx0_1 := ext_cell _ _ (ltR P1_0) _ x0_1
  have Xx0_2 := ext_cell _ _ (ltR P1_0) _ x0_2
  have Xx0_3 := ext_cell _ _ (ltR P1_0) _ x0_3
  have Xx0_4 := ext_cell _ _ (ltR P1_0) _ x0_4
  have Xx1_0 := ext_cell _ _ (ltR P1_1) _ x1_0
  have Xx1_1 := ext_cell _ _ (ltR P1_1) _ x1_1
  have Xx1_2 := ext_cell _ _ (ltR P1_1) _ x1_2
  have Xx1_3 := ext_cell _ _ (ltR P1_1) _ x1_3
  have Xck0 := ext_cell _ _ (Nat.lt_of_lt_of_le hbk0 HB1.out.size) _ ck0
  have Xck1 := ext_cell _ _ (Nat.lt_of_lt_of_le hbk1 HB1.out.size) _ ck1
  clear x0_0 x0_1 x0_2 x0_3 x0_4 x1_0 x1_1 x1_2 x1_3 ck0 ck1
  refine wp_region_ext w1 (by kernel_rfl) (by kernel_rfl) (Below.refl _ _) ?_
  repeat (go_big_quiet_step (fail))
  refine wpQuiet_nil ?_
  intro _ hw'
  obtain ⟨n9, rfl⟩ := hw'
  have P2_0 := keepR n9.below P1_0
  have P2_1 := keepR n9.below P1_1
  have P2_2 := keepR n9.below P1_2
  have HB2 := Lib.hid (below_then HB1.out n9.below)
  generalize n9.wd = w2 at *
  clear Xx0_0 Xx0_1 Xx0_2 Xx0_3 Xx0_4 Xx1_0 Xx1_1 Xx1_2 Xx1_3 Xck0 Xck1
  obtain ⟨x0_0, x0_1, x0_2, x0_3, x0_4⟩ := rowc5 P2_0.out
  obtain ⟨x1_0, x1_1, x1_2, x1_3⟩ := rowc4 P2_1.out
  have ck0 := (HB2.out.cell (p := ⟨wb, wo, none⟩) hbk0).trans HK0.out
  have ck1 := (HB2.out.cell (p := ⟨wb, wo + 1, none⟩) hbk1).trans HK1.out
  have Rbig : Hid (w.heap.size + 2 < w2.heap.size) := (ltR P2_2)
  go_wp2_with fail
  refine (TEM.out _).mono ?_; rintro e w' ⟨rfl, rfl⟩
  go_wp2_with fail
  refine (TEN.out _ _ _).mono ?_; rintro e w3 ⟨nb, rfl, RN, hnb, hbn⟩
  have P3_0 := keepR hbn.out P2_0
  have P3_1 := keepR hbn.out P2_1
  have P3_2 := keepR hbn.out P2_2
  have HB3 := Lib.hid (below_then HB2.out hbn.out)
  clear x0_0 x0_1 x0_2 x0_3 x0_4 x1_0 x1_1 x1_2 x1_3 ck0 ck1
  obtain ⟨x0_0, x0_1, x0_2, x0_3, x0_4⟩ := rowc5 P3_0.out
  obtain ⟨x1_0, x1_1, x1_2, x1_3⟩ := rowc4 P3_1.out
  have ck0 := (HB3.out.cell (p := ⟨wb, wo, none⟩) hbk0).trans HK0.out
  have ck1 := (HB3.out.cell (p := ⟨wb, wo + 1, none⟩) hbk1).trans HK1.out
  have hnb2 := hnb.out
  clear hbn
  go_wp2_with (refine wpList_store_row rfl 60 _ _ rfl (w.heap.size + 2) _ rfl rfl 60 #[.int .i64 0, .int .i64 0, .slice none 0 0, .slice none 0 0, .slice none 0 0] P3_2.out (by kernel_rfl) rfl (by simp [Value.oneCell']) ?_)
  try rw [scopes_ret]
  refine bodyPost_ret (v := .agg #[.int .i64 3, .int .i64 8, .slice (some ⟨nb, 0, none⟩) 1 1, .slice none 0 0, .slice none 0 0]) (results_cell_row Try.results16 _ _ (w.heap.size + 2) 60 _ (0, 0) _ rfl (setRow_heap _ _ _ _ 60 (0, 0) P3_2.out) Try.underlying60 rfl (by kernel_rfl)) rfl ?_
  exact ⟨nb, rfl, Lib.hid ((setRow_other _ (w.heap.size + 2) nb _ (by have := hnb.out; have := Rbig.out; omega)).trans RN.out), Lib.hid (by have := hnb.out; have := Rbig.out; show w.heap.size ≤ nb; omega), Lib.hid (row_below HB3.out (by omega) _)⟩
set_option maxRecDepth 100000 in
set_option maxHeartbeats 16000000 in
theorem pRes4e (c : ConfM) (k : Nat) (hk : k < c.caps.length) (hg : c.good) (h t x : Int) (ht : U64 h) (W L : Value) (w : World) (hv : PuV w c k h t x W L) (b : Int) (p q : Bool) (aa : Option Addr) (n ac : Nat) (hn : nextI h 1 = b) : Calls Try.prog 16 #[.agg (puL 0 4 W L).toArray, .agg #[.int .u64 b, .bool p, .bool q, .slice aa n ac]] w fun e w' => e = .returned (.agg (puL 0 5 W L).toArray) ∧ Below w.heap.size w w' := by
  obtain ⟨wb, wo, wc, lb, lo, lc, rfl, rfl, hwb, hlb, hw0, hw1, hw2, hl0, hl1, hl2, hls⟩ := hv.open
  have hln0 := ringL_length c k
  obtain ⟨ln, hln⟩ : ∃ ln, (ringL c k).length = ln := ⟨_, rfl⟩
  have hln5 : 5 ≤ ln := by rw [← hln, ringL_length]; have := hg.size k hk; omega
  clear hln0
  rw [hln]
  have HK0 := Lib.hid (hw0)
  have hbk0 : wb < w.heap.size := hwb
  obtain ⟨W, hW, HB, R0, R1, R2, hz⟩ := three_new w (.cells #[.int .i64 0, .int .i64 4, .slice (some ⟨wb, wo, none⟩) 3 wc, .slice (some ⟨lb, lo, none⟩) ln lc, .slice none 0 0] 60) (.cells #[.int .u64 b, .bool p, .bool q, .slice aa n ac] 52) (.cells #[.int .i64 0, .int .i64 0, .slice none 0 0, .slice none 0 0, .slice none 0 0] 60)
  have HW := Lib.hid hW
  clear hW
  have TCM := Lib.hid fun w' => complete_run 0 4 wb wo wc lb lo ln lc hln5 w'
  have TEN := Lib.hid fun k x w' => end_any k x w'
  have TAT := Lib.hid fun pc q a1 n1 c1 w' => at_any 0 pc q a1 n1 c1 (some ⟨lb, lo, none⟩) ln lc w'
  have TQN := Lib.hid fun w' => qnext_any h 1 w'
  obtain ⟨sq, hsq⟩ : ∃ sq, nextI h 1 = sq := ⟨_, rfl⟩
  rw [hsq] at TQN hn
  clear hsq
  clear hls
  unfold puL
  try unfold nilS
  try dsimp only
  have hi1 : 1 < ln := by omega
  have hi2 : 2 < ln := by omega
  have hI2 : (2 : Int) < (ln : Int) := by omega
  clear ht hk hg hln5 hln
  go_enter Try.func16, Try.ntmps16
  go_wp2_with fail
  rw [HW.out]
  clear HW
  refine wp_scopes 4 fun f HF => ?_
  obtain ⟨x0_0, x0_1, x0_2, x0_3, x0_4⟩ := rowc5 R0.out
  obtain ⟨x1_0, x1_1, x1_2, x1_3⟩ := rowc4 R1.out
  have ck0 := (HB.out.cell (p := ⟨wb, wo, none⟩) hbk0).trans HK0.out
  go_wp2_with fail
  refine (TCM.out _).mono ?_; rintro e w1 ⟨rfl, hb1⟩
  have P1_0 := keepR hb1 R0
  have P1_1 := keepR hb1 R1
  have P1_2 := keepR hb1 R2
  have HB1 := Lib.hid (below_then HB.out hb1)
  clear x0_0 x0_1 x0_2 x0_3 x0_4 x1_0 x1_1 x1_2 x1_3 ck0
  clear hb1
  obtain ⟨x0_0, x0_1, x0_2, x0_3, x0_4⟩ := rowc5 P1_0.out
  obtain ⟨x1_0, x1_1, x1_2, x1_3⟩ := rowc4 P1_1.out
  have ck0 := (HB1.out.cell (p := ⟨wb, wo, none⟩) hbk0).trans HK0.out
  subst hn
  go_wp2_with fail
  go_step3
  refine scopes_goto ((HF.out 3).trans rfl) ?_
  go_upto_region 23 with fail
  have Xx0_0 := ext_cell _ _ (ltR P1_0) _ x0_0
  have Xx0_1 := ext_cell _ _ (ltR P1_0) _ x0_1
  have Xx0_2 := ext_cell _ _ (ltR P1_0) _ x0_2
  have Xx0_3 := ext_cell _ _ (ltR P1_0) _ x0_3
  have Xx0_4 := ext_cell _ _ (ltR P1_0) _ x0_4
  have Xx1_0 := ext_cell _ _ (ltR P1_1) _ x1_0
  have Xx1_1 := ext_cell _ _ (ltR P1_1) _ x1_1
  have Xx1_2 := ext_cell _ _ (ltR P1_1) _ x1_2
  have Xx1_3 := ext_cell _ _ (ltR P1_1) _ x1_3
  have Xck0 := ext_cell _ _ (Nat.lt_of_lt_of_le hbk0 HB1.out.size) _ ck0
  clear x0_0 x0_1 x0_2 x0_3 x0_4 x1_0 x1_1 x1_2 x1_3 ck0
  refine wp_region_ext w1 (by kernel_rfl) (by kernel_rfl) (Below.refl _ _) ?_
  repeat (go_big_quiet_step (first
    | (go_at_call 39; with_reducible exact calls_ext ((TQN.out _).mono (fun e w' h => ⟨h.1, h.2 ▸ Below.refl _ _⟩)))))
  refine wpQuiet_nil ?_
  intro _ hw'
  obtain ⟨n9, rfl⟩ := hw'
  have P2_0 := keepR n9.below P1_0
  have P2_1 := keepR n9.below P1_1
  have P2_2 := keepR n9.below P1_2
  have HB2 := Lib.hid (below_then HB1.out n9.below)
  generalize n9.wd = w2 at *
  clear Xx0_0 Xx0_1 Xx0_2 Xx0_3 Xx0_4 Xx1_0 Xx1_1 Xx1_2 Xx1_3 Xck0
  obtain ⟨x0_0, x0_1, x0_2, x0_3, x0_4⟩ := rowc5 P2_0.out
  obtain ⟨x1_0, x1_1, x1_2, x1_3⟩ := rowc4 P2_1.out
  have ck0 := (HB2.out.cell (p := ⟨wb, wo, none⟩) hbk0).trans HK0.out
  go_wp2_with fail
  refine (TAT.out _ _ _ _ _ _).mono ?_; rintro e w3 ⟨rfl, hb3⟩
  have P3_0 := keepR hb3 P2_0
  have P3_1 := keepR hb3 P2_1
  have P3_2 := keepR hb3 P2_2
  have HB3 := Lib.hid (below_then HB2.out hb3)
  clear x0_0 x0_1 x0_2 x0_3 x0_4 x1_0 x1_1 x1_2 x1_3 ck0
  clear hb3
  obtain ⟨x0_0, x0_1, x0_2, x0_3, x0_4⟩ := rowc5 P3_0.out
  obtain ⟨x1_0, x1_1, x1_2, x1_3⟩ := rowc4 P3_1.out
  have ck0 := (HB3.out.cell (p := ⟨wb, wo, none⟩) hbk0).trans HK0.out
  go_wp2_with (refine wpList_store_row rfl 60 _ _ rfl (w.heap.size + 2) _ rfl rfl 60 #[.int .i64 0, .int .i64 0, .slice none 0 0, .slice none 0 0, .slice none 0 0] P3_2.out (by kernel_rfl) rfl (by simp [Value.oneCell']) ?_)
  try rw [scopes_ret]
  refine bodyPost_ret (v := .agg #[.int .i64 0, .int .i64 5, .slice (some ⟨wb, wo, none⟩) 3 wc, .slice (some ⟨lb, lo, none⟩) ln lc, .slice none 0 0]) (results_cell_row Try.results16 _ _ (w.heap.size + 2) 60 _ (0, 0) _ rfl (setRow_heap _ _ _ _ 60 (0, 0) P3_2.out) Try.underlying60 rfl (by kernel_rfl)) rfl ?_
  exact ⟨rfl, row_below HB3.out (by omega) _⟩
set_option maxRecDepth 100000 in
set_option maxHeartbeats 16000000 in
theorem pRes4n (c : ConfM) (k : Nat) (hk : k < c.caps.length) (hg : c.good) (h t x : Int) (ht : U64 h) (W L : Value) (w : World) (hv : PuV w c k h t x W L) (b : Int) (p q : Bool) (aa : Option Addr) (n ac : Nat) (hn : ¬ b = nextI h 1) : Calls Try.prog 16 #[.agg (puL 0 4 W L).toArray, .agg #[.int .u64 b, .bool p, .bool q, .slice aa n ac]] w fun e w' => e = .returned (.agg (puL 0 1 W L).toArray) ∧ Below w.heap.size w w' := by
  obtain ⟨wb, wo, wc, lb, lo, lc, rfl, rfl, hwb, hlb, hw0, hw1, hw2, hl0, hl1, hl2, hls⟩ := hv.open
  have hln0 := ringL_length c k
  obtain ⟨ln, hln⟩ : ∃ ln, (ringL c k).length = ln := ⟨_, rfl⟩
  have hln5 : 5 ≤ ln := by rw [← hln, ringL_length]; have := hg.size k hk; omega
  clear hln0
  rw [hln]
  have HK0 := Lib.hid (hw0)
  have hbk0 : wb < w.heap.size := hwb
  obtain ⟨W, hW, HB, R0, R1, R2, hz⟩ := three_new w (.cells #[.int .i64 0, .int .i64 4, .slice (some ⟨wb, wo, none⟩) 3 wc, .slice (some ⟨lb, lo, none⟩) ln lc, .slice none 0 0] 60) (.cells #[.int .u64 b, .bool p, .bool q, .slice aa n ac] 52) (.cells #[.int .i64 0, .int .i64 0, .slice none 0 0, .slice none 0 0, .slice none 0 0] 60)
  have HW := Lib.hid hW
  clear hW
  have TCM := Lib.hid fun w' => complete_run 0 4 wb wo wc lb lo ln lc hln5 w'
  have TEN := Lib.hid fun k x w' => end_any k x w'
  have TAT := Lib.hid fun pc q a1 n1 c1 w' => at_any 0 pc q a1 n1 c1 (some ⟨lb, lo, none⟩) ln lc w'
  have TQN := Lib.hid fun w' => qnext_any h 1 w'
  obtain ⟨sq, hsq⟩ : ∃ sq, nextI h 1 = sq := ⟨_, rfl⟩
  rw [hsq] at TQN hn
  clear hsq
  clear hls
  unfold puL
  try unfold nilS
  try dsimp only
  have hi1 : 1 < ln := by omega
  have hi2 : 2 < ln := by omega
  have hI2 : (2 : Int) < (ln : Int) := by omega
  clear ht hk hg hln5 hln
  go_enter Try.func16, Try.ntmps16
  go_wp2_with fail
  rw [HW.out]
  clear HW
  refine wp_scopes 4 fun f HF => ?_
  obtain ⟨x0_0, x0_1, x0_2, x0_3, x0_4⟩ := rowc5 R0.out
  obtain ⟨x1_0, x1_1, x1_2, x1_3⟩ := rowc4 R1.out
  have ck0 := (HB.out.cell (p := ⟨wb, wo, none⟩) hbk0).trans HK0.out
  go_wp2_with fail
  refine (TCM.out _).mono ?_; rintro e w1 ⟨rfl, hb1⟩
  have P1_0 := keepR hb1 R0
  have P1_1 := keepR hb1 R1
  have P1_2 := keepR hb1 R2
  have HB1 := Lib.hid (below_then HB.out hb1)
  clear x0_0 x0_1 x0_2 x0_3 x0_4 x1_0 x1_1 x1_2 x1_3 ck0
  clear hb1
  obtain ⟨x0_0, x0_1, x0_2, x0_3, x0_4⟩ := rowc5 P1_0.out
  obtain ⟨x1_0, x1_1, x1_2, x1_3⟩ := rowc4 P1_1.out
  have ck0 := (HB1.out.cell (p := ⟨wb, wo, none⟩) hbk0).trans HK0.out
  go_wp2_with fail
  go_step3
  refine scopes_goto ((HF.out 3).trans rfl) ?_
  go_upto_region 23 with fail
  have Xx0_0 := ext_cell _ _ (ltR P1_0) _ x0_0
  have Xx0_1 := ext_cell _ _ (ltR P1_0) _ x0_1
  have Xx0_2 := ext_cell _ _ (ltR P1_0) _ x0_2
  have Xx0_3 := ext_cell _ _ (ltR P1_0) _ x0_3
  have Xx0_4 := ext_cell _ _ (ltR P1_0) _ x0_4
  have Xx1_0 := ext_cell _ _ (ltR P1_1) _ x1_0
  have Xx1_1 := ext_cell _ _ (ltR P1_1) _ x1_1
  have Xx1_2 := ext_cell _ _ (ltR P1_1) _ x1_2
  have Xx1_3 := ext_cell _ _ (ltR P1_1) _ x1_3
  have Xck0 := ext_cell _ _ (Nat.lt_of_lt_of_le hbk0 HB1.out.size) _ ck0
  clear x0_0 x0_1 x0_2 x0_3 x0_4 x1_0 x1_1 x1_2 x1_3 ck0
  refine wp_region_ext w1 (by kernel_rfl) (by kernel_rfl) (Below.refl _ _) ?_
  repeat (go_big_quiet_step (first
    | (go_at_call 39; with_reducible exact calls_ext ((TQN.out _).mono (fun e w' h => ⟨h.1, h.2 ▸ Below.refl _ _⟩)))))
  refine wpQuiet_nil ?_
  intro _ hw'
  obtain ⟨n9, rfl⟩ := hw'
  have P2_0 := keepR n9.below P1_0
  have P2_1 := keepR n9.below P1_1
  have P2_2 := keepR n9.below P1_2
  have HB2 := Lib.hid (below_then HB1.out n9.below)
  generalize n9.wd = w2 at *
  clear Xx0_0 Xx0_1 Xx0_2 Xx0_3 Xx0_4 Xx1_0 Xx1_1 Xx1_2 Xx1_3 Xck0
  obtain ⟨x0_0, x0_1, x0_2, x0_3, x0_4⟩ := rowc5 P2_0.out
  obtain ⟨x1_0, x1_1, x1_2, x1_3⟩ := rowc4 P2_1.out
  have ck0 := (HB2.out.cell (p := ⟨wb, wo, none⟩) hbk0).trans HK0.out
  go_wp2_with fail
  go_step3
  refine scopes_goto ((HF.out 6).trans rfl) ?_
  go_wp2_with fail
  refine (TAT.out _ _ _ _ _ _).mono ?_; rintro e w3 ⟨rfl, hb3⟩
  have P3_0 := keepR hb3 P2_0
  have P3_1 := keepR hb3 P2_1
  have P3_2 := keepR hb3 P2_2
  have HB3 := Lib.hid (below_then HB2.out hb3)
  clear x0_0 x0_1 x0_2 x0_3 x0_4 x1_0 x1_1 x1_2 x1_3 ck0
  clear hb3
  obtain ⟨x0_0, x0_1, x0_2, x0_3, x0_4⟩ := rowc5 P3_0.out
  obtain ⟨x1_0, x1_1, x1_2, x1_3⟩ := rowc4 P3_1.out
  have ck0 := (HB3.out.cell (p := ⟨wb, wo, none⟩) hbk0).trans HK0.out
  go_wp2_with (refine wpList_store_row rfl 60 _ _ rfl (w.heap.size + 2) _ rfl rfl 60 #[.int .i64 0, .int .i64 0, .slice none 0 0, .slice none 0 0, .slice none 0 0] P3_2.out (by kernel_rfl) rfl (by simp [Value.oneCell']) ?_)
  try rw [scopes_ret]
  refine bodyPost_ret (v := .agg #[.int .i64 0, .int .i64 1, .slice (some ⟨wb, wo, none⟩) 3 wc, .slice (some ⟨lb, lo, none⟩) ln lc, .slice none 0 0]) (results_cell_row Try.results16 _ _ (w.heap.size + 2) 60 _ (0, 0) _ rfl (setRow_heap _ _ _ _ 60 (0, 0) P3_2.out) Try.underlying60 rfl (by kernel_rfl)) rfl ?_
  exact ⟨rfl, row_below HB3.out (by omega) _⟩
set_option maxRecDepth 100000 in
set_option maxHeartbeats 16000000 in
theorem pResE (code : Int) (wa : Option Addr) (wc : Nat) (w : World) (b : Int) (p q : Bool) (aa : Option Addr) (n ac : Nat) : Calls Try.prog 16 #[.agg (puL code 8 (.slice wa 1 wc) nilS).toArray, .agg #[.int .u64 b, .bool p, .bool q, .slice aa n ac]] w fun e w' => e = .returned (.agg (puL code 8 (.slice wa 1 wc) nilS).toArray) ∧ Below w.heap.size w w' := by
  obtain ⟨W, hW, HB, R0, R1, R2, hz⟩ := three_new w (.cells #[.int .i64 code, .int .i64 8, .slice wa 1 wc, .slice none 0 0, .slice none 0 0] 60) (.cells #[.int .u64 b, .bool p, .bool q, .slice aa n ac] 52) (.cells #[.int .i64 0, .int .i64 0, .slice none 0 0, .slice none 0 0, .slice none 0 0] 60)
  have HW := Lib.hid hW
  clear hW
  have TCM := Lib.hid fun w' => complete_not code 8 wa wc (.slice none 0 0) (.slice none 0 0) ⟨_, _, _, rfl⟩ ⟨_, _, _, rfl⟩ w'
  unfold puL nilS
  try dsimp only
  go_enter Try.func16, Try.ntmps16
  go_wp2_with fail
  rw [HW.out]
  clear HW
  refine wp_scopes 4 fun f HF => ?_
  obtain ⟨x0_0, x0_1, x0_2, x0_3, x0_4⟩ := rowc5 R0.out
  obtain ⟨x1_0, x1_1, x1_2, x1_3⟩ := rowc4 R1.out
  go_wp2_with fail
  refine (TCM.out _).mono ?_; rintro e w1 ⟨rfl, hb1⟩
  have P1_0 := keepR hb1 R0
  have P1_1 := keepR hb1 R1
  have P1_2 := keepR hb1 R2
  have HB1 := Lib.hid (below_then HB.out hb1)
  clear x0_0 x0_1 x0_2 x0_3 x0_4 x1_0 x1_1 x1_2 x1_3
  clear hb1
  obtain ⟨x0_0, x0_1, x0_2, x0_3, x0_4⟩ := rowc5 P1_0.out
  obtain ⟨x1_0, x1_1, x1_2, x1_3⟩ := rowc4 P1_1.out
  go_wp2_with (refine wpList_store_row rfl 60 _ _ rfl (w.heap.size + 2) _ rfl rfl 60 #[.int .i64 0, .int .i64 0, .slice none 0 0, .slice none 0 0, .slice none 0 0] P1_2.out (by kernel_rfl) rfl (by simp [Value.oneCell']) ?_)
  try rw [scopes_ret]
  refine bodyPost_ret (v := .agg #[.int .i64 code, .int .i64 8, .slice wa 1 wc, .slice none 0 0, .slice none 0 0]) (results_cell_row Try.results16 _ _ (w.heap.size + 2) 60 _ (0, 0) _ rfl (setRow_heap _ _ _ _ 60 (0, 0) P1_2.out) Try.underlying60 rfl (by kernel_rfl)) rfl ?_
  exact ⟨rfl, row_below HB1.out (by omega) _⟩
set_option maxRecDepth 100000 in
set_option maxHeartbeats 16000000 in
theorem pRes2z (c : ConfM) (k : Nat) (hk : k < c.caps.length) (hg : c.good) (h t x : Int) (ht : U64 h) (W L : Value) (w : World) (hv : PuV w c k h t x W L) (b : Int) (p q : Bool) (aa : Option Addr) (n ac : Nat) (hn : restI (b / 2) h = 0) : Calls Try.prog 16 #[.agg (puL 0 2 W L).toArray, .agg #[.int .u64 b, .bool p, .bool q, .slice aa n ac]] w fun e w' => ∃ nb, e = .returned (.agg (puL 0 3 (.slice (some ⟨nb, 0, none⟩) 3 3) L).toArray) ∧ Hid (w'.heap[nb]? = some (.cells #[.int .u64 h, .int .u64 b, .int .u64 x] 27 (0, 0))) ∧ Hid (w.heap.size ≤ nb) ∧ Hid (Below w.heap.size w w') := by
  obtain ⟨wb, wo, wc, lb, lo, lc, rfl, rfl, hwb, hlb, hw0, hw1, hw2, hl0, hl1, hl2, hls⟩ := hv.open
  have hln0 := ringL_length c k
  obtain ⟨ln, hln⟩ : ∃ ln, (ringL c k).length = ln := ⟨_, rfl⟩
  have hln5 : 5 ≤ ln := by rw [← hln, ringL_length]; have := hg.size k hk; omega
  clear hln0
  rw [hln]
  have HK0 := Lib.hid (hl2)
  have hbk0 : lb < w.heap.size := hlb
  obtain ⟨W, hW, HB, R0, R1, R2, hz⟩ := three_new w (.cells #[.int .i64 0, .int .i64 2, .slice (some ⟨wb, wo, none⟩) 3 wc, .slice (some ⟨lb, lo, none⟩) ln lc, .slice none 0 0] 60) (.cells #[.int .u64 b, .bool p, .bool q, .slice aa n ac] 52) (.cells #[.int .i64 0, .int .i64 0, .slice none 0 0, .slice none 0 0, .slice none 0 0] 60)
  have HW := Lib.hid hW
  clear hW
  have TCM := Lib.hid fun w' => complete_run 0 2 wb wo wc lb lo ln lc hln5 w'
  have TEN := Lib.hid fun k x w' => end_any k x w'
  have TAT := Lib.hid fun pc q a1 n1 c1 w' => at_any 0 pc q a1 n1 c1 (some ⟨lb, lo, none⟩) ln lc w'
  have TW1 := Lib.hid fun v w' (hb : Below w.heap.size w w') => with1_any 0 2 wb wo wc lb lo ln lc h t x v w' (Nat.lt_of_lt_of_le hwb hb.size) ((hb.cell (p := ⟨wb, wo, none⟩) hwb).trans hw0) ((hb.cell (p := ⟨wb, wo + 1, none⟩) hwb).trans hw1) ((hb.cell (p := ⟨wb, wo + 2, none⟩) hwb).trans hw2)
  obtain ⟨nn, hnn⟩ : ∃ nn, restI (b / 2) h = nn := ⟨_, rfl⟩
  have hcap := hg.cap k hk
  obtain ⟨kc, hkc⟩ : ∃ kc, c.caps.getD k 0 = kc := ⟨_, rfl⟩
  rw [hkc] at hcap hl2 HK0
  rw [hnn] at hn
  have hwk : IntKind.u64.wrap kc = kc := by rw [IntKind.wrap_u64]; omega
  have hwk2 : IntKind.i64.wrap kc = kc := by rw [IntKind.wrap_i64]; omega
  have TAH := Lib.hid fun nb w' (hnb : nb < w'.heap.size) (h0 : w'.cell? ⟨nb, 0, none⟩ = some (.int .u64 h)) (h1 : w'.cell? ⟨nb, 0 + 1, none⟩ = some (.int .u64 b)) => ahead_any 0 2 nb 0 3 lb lo ln lc h b w' hnb h0 h1
  rw [hnn] at TAH
  clear hnn hkc hcap
  clear hls
  unfold puL
  try unfold nilS
  try dsimp only
  have hi1 : 1 < ln := by omega
  have hi2 : 2 < ln := by omega
  have hI2 : (2 : Int) < (ln : Int) := by omega
  clear ht hk hg hln5 hln
  go_enter Try.func16, Try.ntmps16
  go_wp2_with fail
  rw [HW.out]
  clear HW
  refine wp_scopes 4 fun f HF => ?_
  obtain ⟨x0_0, x0_1, x0_2, x0_3, x0_4⟩ := rowc5 R0.out
  obtain ⟨x1_0, x1_1, x1_2, x1_3⟩ := rowc4 R1.out
  have ck0 := (HB.out.cell (p := ⟨lb, lo + 2, none⟩) hbk0).trans HK0.out
  go_wp2_with fail
  refine (TCM.out _).mono ?_; rintro e w1 ⟨rfl, hb1⟩
  have P1_0 := keepR hb1 R0
  have P1_1 := keepR hb1 R1
  have P1_2 := keepR hb1 R2
  have HB1 := Lib.hid (below_then HB.out hb1)
  clear x0_0 x0_1 x0_2 x0_3 x0_4 x1_0 x1_1 x1_2 x1_3 ck0
  clear hb1
  obtain ⟨x0_0, x0_1, x0_2, x0_3, x0_4⟩ := rowc5 P1_0.out
  obtain ⟨x1_0, x1_1, x1_2, x1_3⟩ := rowc4 P1_1.out
  have ck0 := (HB1.out.cell (p := ⟨lb, lo + 2, none⟩) hbk0).trans HK0.out
  go_wp2_with fail
  go_step3
  refine scopes_goto ((HF.out 1).trans rfl) ?_
  have Rbig : Hid (w.heap.size + 2 < w1.heap.size) := (ltR P1_2)
  go_wp2_with fail
  refine (TW1.out _ _ HB1.out).mono ?_; rintro e w2 ⟨nb, rfl, RN, hnb, hbn⟩
  have P2_0 := keepR hbn.out P1_0
  have P2_1 := keepR hbn.out P1_1
  have P2_2 := keepR hbn.out P1_2
  have HB2 := Lib.hid (below_then HB1.out hbn.out)
  clear x0_0 x0_1 x0_2 x0_3 x0_4 x1_0 x1_1 x1_2 x1_3 ck0
  obtain ⟨x0_0, x0_1, x0_2, x0_3, x0_4⟩ := rowc5 P2_0.out
  obtain ⟨x1_0, x1_1, x1_2, x1_3⟩ := rowc4 P2_1.out
  have ck0 := (HB2.out.cell (p := ⟨lb, lo + 2, none⟩) hbk0).trans HK0.out
  have hgen : Hid (w.heap.size + 2 < nb) := by have h1 := hnb.out; have h2 := Rbig.out; show _ < _; omega
  clear hbn hnb Rbig
  obtain ⟨W3, hW3⟩ : ∃ W3, w2.setRow w.heap.size #[.int .i64 0, .int .i64 2, .slice (some ⟨nb, 0, none⟩) 3 3, .slice (some ⟨lb, lo, none⟩) ln lc, .slice none 0 0] = W3 := ⟨_, rfl⟩
  have P3_0 : Hid (W3.heap[w.heap.size]? = some (.cells #[.int .i64 0, .int .i64 2, .slice (some ⟨nb, 0, none⟩) 3 3, .slice (some ⟨lb, lo, none⟩) ln lc, .slice none 0 0] 60 (0, 0))) := hW3 ▸ setRow_heap _ _ _ _ _ (0, 0) P2_0.out
  have P3_1 := Lib.hid (show W3.heap[w.heap.size + 1]? = _ from hW3 ▸ (setRow_other w2 w.heap.size (w.heap.size + 1) _ (by omega)).trans P2_1.out)
  have P3_2 := Lib.hid (show W3.heap[w.heap.size + 2]? = _ from hW3 ▸ (setRow_other w2 w.heap.size (w.heap.size + 2) _ (by omega)).trans P2_2.out)
  have HB3 : Hid (Below w.heap.size w W3) := hW3 ▸ row_below HB2.out (by omega) _
  have RNS := Lib.hid (show W3.heap[nb]? = _ from hW3 ▸ (setRow_other _ w.heap.size nb _ (by have := hgen.out; omega)).trans RN.out)
  have HW3 := Lib.hid hW3
  clear hW3
  go_upto_region 16 with (refine wpList_store_row rfl 60 _ _ rfl (w.heap.size) _ rfl rfl 60 #[.int .i64 0, .int .i64 2, .slice (some ⟨wb, wo, none⟩) 3 wc, .slice (some ⟨lb, lo, none⟩) ln lc, .slice none 0 0] P2_0.out (by kernel_rfl) rfl (by simp [Value.oneCell']) ?_)
  rw [HW3.out]
  try simp only [Act.put]
  clear x0_0 x0_1 x0_2 x0_3 x0_4 x1_0 x1_1 x1_2 x1_3 ck0
  clear HW3
  obtain ⟨x0_0, x0_1, x0_2, x0_3, x0_4⟩ := rowc5 P3_0.out
  obtain ⟨x1_0, x1_1, x1_2, x1_3⟩ := rowc4 P3_1.out
  have ck0 := (HB3.out.cell (p := ⟨lb, lo + 2, none⟩) hbk0).trans HK0.out
  skip
  obtain ⟨n0, n1, n2⟩ := rowc3 RNS.out
  have hnl := (ltR RNS)
  have TAH2 := Lib.hid fun w' (hb : Below W3.heap.size W3 w') => TAH.out nb w' (Nat.lt_of_lt_of_le hnl hb.size) ((hb.cell (p := ⟨nb, 0, none⟩) hnl).trans n0) ((hb.cell (p := ⟨nb, 0 + 1, none⟩) hnl).trans n1)
  clear n0 n1 n2 hnl TAH
  have hsk := trivial
  have Xx0_0 := ext_cell _ _ (ltR P3_0) _ x0_0
  have Xx0_1 := ext_cell _ _ (ltR P3_0) _ x0_1
  have Xx0_2 := ext_cell _ _ (ltR P3_0) _ x0_2
  have Xx0_3 := ext_cell _ _ (ltR P3_0) _ x0_3
  have Xx0_4 := ext_cell _ _ (ltR P3_0) _ x0_4
  have Xx1_0 := ext_cell _ _ (ltR P3_1) _ x1_0
  have Xx1_1 := ext_cell _ _ (ltR P3_1) _ x1_1
  have Xx1_2 := ext_cell _ _ (ltR P3_1) _ x1_2
  have Xx1_3 := ext_cell _ _ (ltR P3_1) _ x1_3
  have Xck0 := ext_cell _ _ (Nat.lt_of_lt_of_le hbk0 HB3.out.size) _ ck0
  clear x0_0 x0_1 x0_2 x0_3 x0_4 x1_0 x1_1 x1_2 x1_3 ck0
  refine wp_region_ext W3 (by kernel_rfl) (by kernel_rfl) (Below.refl _ _) ?_
  repeat (go_big_quiet_step (first
    | (go_at_call 37; with_reducible exact calls_ext (TAH2.out _ (Ext.below _)))))
  refine wpQuiet_nil ?_
  intro _ hw'
  obtain ⟨n9, rfl⟩ := hw'
  have HX9 := Lib.hid n9.below
  have P4_0 := keepR n9.below P3_0
  have P4_1 := keepR n9.below P3_1
  have P4_2 := keepR n9.below P3_2
  have HB4 := Lib.hid (below_then HB3.out n9.below)
  generalize n9.wd = w4 at *
  clear Xx0_0 Xx0_1 Xx0_2 Xx0_3 Xx0_4 Xx1_0 Xx1_1 Xx1_2 Xx1_3 Xck0 hsk TAH2
  obtain ⟨x0_0, x0_1, x0_2, x0_3, x0_4⟩ := rowc5 P4_0.out
  obtain ⟨x1_0, x1_1, x1_2, x1_3⟩ := rowc4 P4_1.out
  have ck0 := (HB4.out.cell (p := ⟨lb, lo + 2, none⟩) hbk0).trans HK0.out
  have RN3 := keepR HX9.out RNS
  clear HX9
  have hz' : nn = 0 := hn
  subst hz'
  clear hn
  go_wp2_with fail
  refine (TAT.out _ _ _ _ _ _).mono ?_; rintro e w5 ⟨rfl, hb5⟩
  have RN4 := keepR hb5 RN3
  have P5_0 := keepR hb5 P4_0
  have P5_1 := keepR hb5 P4_1
  have P5_2 := keepR hb5 P4_2
  have HB5 := Lib.hid (below_then HB4.out hb5)
  clear x0_0 x0_1 x0_2 x0_3 x0_4 x1_0 x1_1 x1_2 x1_3 ck0
  clear hb5
  obtain ⟨x0_0, x0_1, x0_2, x0_3, x0_4⟩ := rowc5 P5_0.out
  obtain ⟨x1_0, x1_1, x1_2, x1_3⟩ := rowc4 P5_1.out
  have ck0 := (HB5.out.cell (p := ⟨lb, lo + 2, none⟩) hbk0).trans HK0.out
  go_wp2_with (refine wpList_store_row rfl 60 _ _ rfl (w.heap.size + 2) _ rfl rfl 60 #[.int .i64 0, .int .i64 0, .slice none 0 0, .slice none 0 0, .slice none 0 0] P5_2.out (by kernel_rfl) rfl (by simp [Value.oneCell']) ?_)
  try rw [scopes_ret]
  refine bodyPost_ret (v := .agg #[.int .i64 0, .int .i64 3, .slice (some ⟨nb, 0, none⟩) 3 3, .slice (some ⟨lb, lo, none⟩) ln lc, .slice none 0 0]) (results_cell_row Try.results16 _ _ (w.heap.size + 2) 60 _ (0, 0) _ rfl (setRow_heap _ _ _ _ 60 (0, 0) P5_2.out) Try.underlying60 rfl (by kernel_rfl)) rfl ?_
  exact ⟨nb, rfl, Lib.hid ((setRow_other _ (w.heap.size + 2) nb _ (by have := hgen.out; omega)).trans RN4.out), Lib.hid (by have := hgen.out; show w.heap.size ≤ nb; omega), Lib.hid (row_below HB5.out (by omega) _)⟩
set_option maxRecDepth 100000 in
set_option maxHeartbeats 16000000 in
theorem pRes2g (c : ConfM) (k : Nat) (hk : k < c.caps.length) (hg : c.good) (h t x : Int) (ht : U64 h) (W L : Value) (w : World) (hv : PuV w c k h t x W L) (b : Int) (p q : Bool) (aa : Option Addr) (n ac : Nat) (hzz : ¬ restI (b / 2) h = 0) (hn : c.caps.getD k 0 < restI (b / 2) h) : Calls Try.prog 16 #[.agg (puL 0 2 W L).toArray, .agg #[.int .u64 b, .bool p, .bool q, .slice aa n ac]] w fun e w' => ∃ nb, e = .returned (.agg (puL 0 1 (.slice (some ⟨nb, 0, none⟩) 3 3) L).toArray) ∧ Hid (w'.heap[nb]? = some (.cells #[.int .u64 h, .int .u64 b, .int .u64 x] 27 (0, 0))) ∧ Hid (w.heap.size ≤ nb) ∧ Hid (Below w.heap.size w w') := by
  obtain ⟨wb, wo, wc, lb, lo, lc, rfl, rfl, hwb, hlb, hw0, hw1, hw2, hl0, hl1, hl2, hls⟩ := hv.open
  have hln0 := ringL_length c k
  obtain ⟨ln, hln⟩ : ∃ ln, (ringL c k).length = ln := ⟨_, rfl⟩
  have hln5 : 5 ≤ ln := by rw [← hln, ringL_length]; have := hg.size k hk; omega
  clear hln0
  rw [hln]
  have HK0 := Lib.hid (hl2)
  have hbk0 : lb < w.heap.size := hlb
  obtain ⟨W, hW, HB, R0, R1, R2, hz⟩ := three_new w (.cells #[.int .i64 0, .int .i64 2, .slice (some ⟨wb, wo, none⟩) 3 wc, .slice (some ⟨lb, lo, none⟩) ln lc, .slice none 0 0] 60) (.cells #[.int .u64 b, .bool p, .bool q, .slice aa n ac] 52) (.cells #[.int .i64 0, .int .i64 0, .slice none 0 0, .slice none 0 0, .slice none 0 0] 60)
  have HW := Lib.hid hW
  clear hW
  have TCM := Lib.hid fun w' => complete_run 0 2 wb wo wc lb lo ln lc hln5 w'
  have TEN := Lib.hid fun k x w' => end_any k x w'
  have TAT := Lib.hid fun pc q a1 n1 c1 w' => at_any 0 pc q a1 n1 c1 (some ⟨lb, lo, none⟩) ln lc w'
  have TW1 := Lib.hid fun v w' (hb : Below w.heap.size w w') => with1_any 0 2 wb wo wc lb lo ln lc h t x v w' (Nat.lt_of_lt_of_le hwb hb.size) ((hb.cell (p := ⟨wb, wo, none⟩) hwb).trans hw0) ((hb.cell (p := ⟨wb, wo + 1, none⟩) hwb).trans hw1) ((hb.cell (p := ⟨wb, wo + 2, none⟩) hwb).trans hw2)
  obtain ⟨nn, hnn⟩ : ∃ nn, restI (b / 2) h = nn := ⟨_, rfl⟩
  have hcap := hg.cap k hk
  obtain ⟨kc, hkc⟩ : ∃ kc, c.caps.getD k 0 = kc := ⟨_, rfl⟩
  rw [hkc] at hcap hl2 HK0 hn
  rw [hnn] at hn hzz
  have hwk : IntKind.u64.wrap kc = kc := by rw [IntKind.wrap_u64]; omega
  have hwk2 : IntKind.i64.wrap kc = kc := by rw [IntKind.wrap_i64]; omega
  have TAH := Lib.hid fun nb w' (hnb : nb < w'.heap.size) (h0 : w'.cell? ⟨nb, 0, none⟩ = some (.int .u64 h)) (h1 : w'.cell? ⟨nb, 0 + 1, none⟩ = some (.int .u64 b)) => ahead_any 0 2 nb 0 3 lb lo ln lc h b w' hnb h0 h1
  rw [hnn] at TAH
  clear hnn hkc hcap
  clear hls
  unfold puL
  try unfold nilS
  try dsimp only
  have hi1 : 1 < ln := by omega
  have hi2 : 2 < ln := by omega
  have hI2 : (2 : Int) < (ln : Int) := by omega
  clear ht hk hg hln5 hln
  go_enter Try.func16, Try.ntmps16
  go_wp2_with fail
  rw [HW.out]
  clear HW
  refine wp_scopes 4 fun f HF => ?_
  obtain ⟨x0_0, x0_1, x0_2, x0_3, x0_4⟩ := rowc5 R0.out
  obtain ⟨x1_0, x1_1, x1_2, x1_3⟩ := rowc4 R1.out
  have ck0 := (HB.out.cell (p := ⟨lb, lo + 2, none⟩) hbk0).trans HK0.out
  go_wp2_with fail
  refine (TCM.out _).mono ?_; rintro e w1 ⟨rfl, hb1⟩
  have P1_0 := keepR hb1 R0
  have P1_1 := keepR hb1 R1
  have P1_2 := keepR hb1 R2
  have HB1 := Lib.hid (below_then HB.out hb1)
  clear x0_0 x0_1 x0_2 x0_3 x0_4 x1_0 x1_1 x1_2 x1_3 ck0
  clear hb1
  obtain ⟨x0_0, x0_1, x0_2, x0_3, x0_4⟩ := rowc5 P1_0.out
  obtain ⟨x1_0, x1_1, x1_2, x1_3⟩ := rowc4 P1_1.out
  have ck0 := (HB1.out.cell (p := ⟨lb, lo + 2, none⟩) hbk0).trans HK0.out
  go_wp2_with fail
  go_step3
  refine scopes_goto ((HF.out 1).trans rfl) ?_
  have Rbig : Hid (w.heap.size + 2 < w1.heap.size) := (ltR P1_2)
  go_wp2_with fail
  refine (TW1.out _ _ HB1.out).mono ?_; rintro e w2 ⟨nb, rfl, RN, hnb, hbn⟩
  have P2_0 := keepR hbn.out P1_0
  have P2_1 := keepR hbn.out P1_1
  have P2_2 := keepR hbn.out P1_2
  have HB2 := Lib.hid (below_then HB1.out hbn.out)
  clear x0_0 x0_1 x0_2 x0_3 x0_4 x1_0 x1_1 x1_2 x1_3 ck0
  obtain ⟨x0_0, x0_1, x0_2, x0_3, x0_4⟩ := rowc5 P2_0.out
  obtain ⟨x1_0, x1_1, x1_2, x1_3⟩ := rowc4 P2_1.out
  have ck0 := (HB2.out.cell (p := ⟨lb, lo + 2, none⟩) hbk0).trans HK0.out
  have hgen : Hid (w.heap.size + 2 < nb) := by have h1 := hnb.out; have h2 := Rbig.out; show _ < _; omega
  clear hbn hnb Rbig
  obtain ⟨W3, hW3⟩ : ∃ W3, w2.setRow w.heap.size #[.int .i64 0, .int .i64 2, .slice (some ⟨nb, 0, none⟩) 3 3, .slice (some ⟨lb, lo, none⟩) ln lc, .slice none 0 0] = W3 := ⟨_, rfl⟩
  have P3_0 : Hid (W3.heap[w.heap.size]? = some (.cells #[.int .i64 0, .int .i64 2, .slice (some ⟨nb, 0, none⟩) 3 3, .slice (some ⟨lb, lo, none⟩) ln lc, .slice none 0 0] 60 (0, 0))) := hW3 ▸ setRow_heap _ _ _ _ _ (0, 0) P2_0.out
  have P3_1 := Lib.hid (show W3.heap[w.heap.size + 1]? = _ from hW3 ▸ (setRow_other w2 w.heap.size (w.heap.size + 1) _ (by omega)).trans P2_1.out)
  have P3_2 := Lib.hid (show W3.heap[w.heap.size + 2]? = _ from hW3 ▸ (setRow_other w2 w.heap.size (w.heap.size + 2) _ (by omega)).trans P2_2.out)
  have HB3 : Hid (Below w.heap.size w W3) := hW3 ▸ row_below HB2.out (by omega) _
  have RNS := Lib.hid (show W3.heap[nb]? = _ from hW3 ▸ (setRow_other _ w.heap.size nb _ (by have := hgen.out; omega)).trans RN.out)
  have HW3 := Lib.hid hW3
  clear hW3
  go_upto_region 16 with (refine wpList_store_row rfl 60 _ _ rfl (w.heap.size) _ rfl rfl 60 #[.int .i64 0, .int .i64 2, .slice (some ⟨wb, wo, none⟩) 3 wc, .slice (some ⟨lb, lo, none⟩) ln lc, .slice none 0 0] P2_0.out (by kernel_rfl) rfl (by simp [Value.oneCell']) ?_)
  rw [HW3.out]
  try simp only [Act.put]
  clear x0_0 x0_1 x0_2 x0_3 x0_4 x1_0 x1_1 x1_2 x1_3 ck0
  clear HW3
  obtain ⟨x0_0, x0_1, x0_2, x0_3, x0_4⟩ := rowc5 P3_0.out
  obtain ⟨x1_0, x1_1, x1_2, x1_3⟩ := rowc4 P3_1.out
  have ck0 := (HB3.out.cell (p := ⟨lb, lo + 2, none⟩) hbk0).trans HK0.out
  skip
  obtain ⟨n0, n1, n2⟩ := rowc3 RNS.out
  have hnl := (ltR RNS)
  have TAH2 := Lib.hid fun w' (hb : Below W3.heap.size W3 w') => TAH.out nb w' (Nat.lt_of_lt_of_le hnl hb.size) ((hb.cell (p := ⟨nb, 0, none⟩) hnl).trans n0) ((hb.cell (p := ⟨nb, 0 + 1, none⟩) hnl).trans n1)
  clear n0 n1 n2 hnl TAH
  have hsk := trivial
  have Xx0_0 := ext_cell _ _ (ltR P3_0) _ x0_0
  have Xx0_1 := ext_cell _ _ (ltR P3_0) _ x0_1
  have Xx0_2 := ext_cell _ _ (ltR P3_0) _ x0_2
  have Xx0_3 := ext_cell _ _ (ltR P3_0) _ x0_3
  have Xx0_4 := ext_cell _ _ (ltR P3_0) _ x0_4
  have Xx1_0 := ext_cell _ _ (ltR P3_1) _ x1_0
  have Xx1_1 := ext_cell _ _ (ltR P3_1) _ x1_1
  have Xx1_2 := ext_cell _ _ (ltR P3_1) _ x1_2
  have Xx1_3 := ext_cell _ _ (ltR P3_1) _ x1_3
  have Xck0 := ext_cell _ _ (Nat.lt_of_lt_of_le hbk0 HB3.out.size) _ ck0
  clear x0_0 x0_1 x0_2 x0_3 x0_4 x1_0 x1_1 x1_2 x1_3 ck0
  refine wp_region_ext W3 (by kernel_rfl) (by kernel_rfl) (Below.refl _ _) ?_
  repeat (go_big_quiet_step (first
    | (go_at_call 37; with_reducible exact calls_ext (TAH2.out _ (Ext.below _)))))
  refine wpQuiet_nil ?_
  intro _ hw'
  obtain ⟨n9, rfl⟩ := hw'
  have HX9 := Lib.hid n9.below
  have P4_0 := keepR n9.below P3_0
  have P4_1 := keepR n9.below P3_1
  have P4_2 := keepR n9.below P3_2
  have HB4 := Lib.hid (below_then HB3.out n9.below)
  generalize n9.wd = w4 at *
  clear Xx0_0 Xx0_1 Xx0_2 Xx0_3 Xx0_4 Xx1_0 Xx1_1 Xx1_2 Xx1_3 Xck0 hsk TAH2
  obtain ⟨x0_0, x0_1, x0_2, x0_3, x0_4⟩ := rowc5 P4_0.out
  obtain ⟨x1_0, x1_1, x1_2, x1_3⟩ := rowc4 P4_1.out
  have ck0 := (HB4.out.cell (p := ⟨lb, lo + 2, none⟩) hbk0).trans HK0.out
  have RN3 := keepR HX9.out RNS
  clear HX9
  have hz' := hzz
  go_wp2_with fail
  go_step3
  refine scopes_goto ((HF.out 6).trans rfl) ?_
  go_wp2_with fail
  refine (TAT.out _ _ _ _ _ _).mono ?_; rintro e w5 ⟨rfl, hb5⟩
  have RN4 := keepR hb5 RN3
  have P5_0 := keepR hb5 P4_0
  have P5_1 := keepR hb5 P4_1
  have P5_2 := keepR hb5 P4_2
  have HB5 := Lib.hid (below_then HB4.out hb5)
  clear x0_0 x0_1 x0_2 x0_3 x0_4 x1_0 x1_1 x1_2 x1_3 ck0
  clear hb5
  obtain ⟨x0_0, x0_1, x0_2, x0_3, x0_4⟩ := rowc5 P5_0.out
  obtain ⟨x1_0, x1_1, x1_2, x1_3⟩ := rowc4 P5_1.out
  have ck0 := (HB5.out.cell (p := ⟨lb, lo + 2, none⟩) hbk0).trans HK0.out
  go_wp2_with (refine wpList_store_row rfl 60 _ _ rfl (w.heap.size + 2) _ rfl rfl 60 #[.int .i64 0, .int .i64 0, .slice none 0 0, .slice none 0 0, .slice none 0 0] P5_2.out (by kernel_rfl) rfl (by simp [Value.oneCell']) ?_)
  try rw [scopes_ret]
  refine bodyPost_ret (v := .agg #[.int .i64 0, .int .i64 1, .slice (some ⟨nb, 0, none⟩) 3 3, .slice (some ⟨lb, lo, none⟩) ln lc, .slice none 0 0]) (results_cell_row Try.results16 _ _ (w.heap.size + 2) 60 _ (0, 0) _ rfl (setRow_heap _ _ _ _ 60 (0, 0) P5_2.out) Try.underlying60 rfl (by kernel_rfl)) rfl ?_
  exact ⟨nb, rfl, Lib.hid ((setRow_other _ (w.heap.size + 2) nb _ (by have := hgen.out; omega)).trans RN4.out), Lib.hid (by have := hgen.out; show w.heap.size ≤ nb; omega), Lib.hid (row_below HB5.out (by omega) _)⟩
set_option maxRecDepth 100000 in
set_option maxHeartbeats 16000000 in
theorem pRes2l (c : ConfM) (k : Nat) (hk : k < c.caps.length) (hg : c.good) (h t x : Int) (ht : U64 h) (W L : Value) (w : World) (hv : PuV w c k h t x W L) (b : Int) (p q : Bool) (aa : Option Addr) (n ac : Nat) (hzz : ¬ restI (b / 2) h = 0) (hn : ¬ c.caps.getD k 0 < restI (b / 2) h) : Calls Try.prog 16 #[.agg (puL 0 2 W L).toArray, .agg #[.int .u64 b, .bool p, .bool q, .slice aa n ac]] w fun e w' => ∃ nb, e = .returned (.agg (puL 0 4 (.slice (some ⟨nb, 0, none⟩) 3 3) L).toArray) ∧ Hid (w'.heap[nb]? = some (.cells #[.int .u64 h, .int .u64 b, .int .u64 x] 27 (0, 0))) ∧ Hid (w.heap.size ≤ nb) ∧ Hid (Below w.heap.size w w') := by
  obtain ⟨wb, wo, wc, lb, lo, lc, rfl, rfl, hwb, hlb, hw0, hw1, hw2, hl0, hl1, hl2, hls⟩ := hv.open
  have hln0 := ringL_length c k
  obtain ⟨ln, hln⟩ : ∃ ln, (ringL c k).length = ln := ⟨_, rfl⟩
  have hln5 : 5 ≤ ln := by rw [← hln, ringL_length]; have := hg.size k hk; omega
  clear hln0
  rw [hln]
  have HK0 := Lib.hid (hl2)
  have hbk0 : lb < w.heap.size := hlb
  obtain ⟨W, hW, HB, R0, R1, R2, hz⟩ := three_new w (.cells #[.int .i64 0, .int .i64 2, .slice (some ⟨wb, wo, none⟩) 3 wc, .slice (some ⟨lb, lo, none⟩) ln lc, .slice none 0 0] 60) (.cells #[.int .u64 b, .bool p, .bool q, .slice aa n ac] 52) (.cells #[.int .i64 0, .int .i64 0, .slice none 0 0, .slice none 0 0, .slice none 0 0] 60)
  have HW := Lib.hid hW
  clear hW
  have TCM := Lib.hid fun w' => complete_run 0 2 wb wo wc lb lo ln lc hln5 w'
  have TEN := Lib.hid fun k x w' => end_any k x w'
  have TAT := Lib.hid fun pc q a1 n1 c1 w' => at_any 0 pc q a1 n1 c1 (some ⟨lb, lo, none⟩) ln lc w'
  have TW1 := Lib.hid fun v w' (hb : Below w.heap.size w w') => with1_any 0 2 wb wo wc lb lo ln lc h t x v w' (Nat.lt_of_lt_of_le hwb hb.size) ((hb.cell (p := ⟨wb, wo, none⟩) hwb).trans hw0) ((hb.cell (p := ⟨wb, wo + 1, none⟩) hwb).trans hw1) ((hb.cell (p := ⟨wb, wo + 2, none⟩) hwb).trans hw2)
  obtain ⟨nn, hnn⟩ : ∃ nn, restI (b / 2) h = nn := ⟨_, rfl⟩
  have hcap := hg.cap k hk
  obtain ⟨kc, hkc⟩ : ∃ kc, c.caps.getD k 0 = kc := ⟨_, rfl⟩
  rw [hkc] at hcap hl2 HK0 hn
  rw [hnn] at hn hzz
  have hwk : IntKind.u64.wrap kc = kc := by rw [IntKind.wrap_u64]; omega
  have hwk2 : IntKind.i64.wrap kc = kc := by rw [IntKind.wrap_i64]; omega
  have TAH := Lib.hid fun nb w' (hnb : nb < w'.heap.size) (h0 : w'.cell? ⟨nb, 0, none⟩ = some (.int .u64 h)) (h1 : w'.cell? ⟨nb, 0 + 1, none⟩ = some (.int .u64 b)) => ahead_any 0 2 nb 0 3 lb lo ln lc h b w' hnb h0 h1
  rw [hnn] at TAH
  clear hnn hkc hcap
  clear hls
  unfold puL
  try unfold nilS
  try dsimp only
  have hi1 : 1 < ln := by omega
  have hi2 : 2 < ln := by omega
  have hI2 : (2 : Int) < (ln : Int) := by omega
  clear ht hk hg hln5 hln
  go_enter Try.func16, Try.ntmps16
  go_wp2_with fail
  rw [HW.out]
  clear HW
  refine wp_scopes 4 fun f HF => ?_
  obtain ⟨x0_0, x0_1, x0_2, x0_3, x0_4⟩ := rowc5 R0.out
  obtain ⟨x1_0, x1_1, x1_2, x1_3⟩ := rowc4 R1.out
  have ck0 := (HB.out.cell (p := ⟨lb, lo + 2, none⟩) hbk0).trans HK0.out
  go_wp2_with fail
  refine (TCM.out _).mono ?_; rintro e w1 ⟨rfl, hb1⟩
  have P1_0 := keepR hb1 R0
  have P1_1 := keepR hb1 R1
  have P1_2 := keepR hb1 R2
  have HB1 := Lib.hid (below_then HB.out hb1)
  clear x0_0 x0_1 x0_2 x0_3 x0_4 x1_0 x1_1 x1_2 x1_3 ck0
  clear hb1
  obtain ⟨x0_0, x0_1, x0_2, x0_3, x0_4⟩ := rowc5 P1_0.out
  obtain ⟨x1_0, x1_1, x1_2, x1_3⟩ := rowc4 P1_1.out
  have ck0 := (HB1.out.cell (p := ⟨lb, lo + 2, none⟩) hbk0).trans HK0.out
  go_wp2_with fail
  go_step3
  refine scopes_goto ((HF.out 1).trans rfl) ?_
  have Rbig : Hid (w.heap.size + 2 < w1.heap.size) := (ltR P1_2)
  go_wp2_with fail
  refine (TW1.out _ _ HB1.out).mono ?_; rintro e w2 ⟨nb, rfl, RN, hnb, hbn⟩
  have P2_0 := keepR hbn.out P1_0
  have P2_1 := keepR hbn.out P1_1
  have P2_2 := keepR hbn.out P1_2
  have HB2 := Lib.hid (below_then HB1.out hbn.out)
  clear x0_0 x0_1 x0_2 x0_3 x0_4 x1_0 x1_1 x1_2 x1_3 ck0
  obtain ⟨x0_0, x0_1, x0_2, x0_3, x0_4⟩ := rowc5 P2_0.out
  obtain ⟨x1_0, x1_1, x1_2, x1_3⟩ := rowc4 P2_1.out
  have ck0 := (HB2.out.cell (p := ⟨lb, lo + 2, none⟩) hbk0).trans HK0.out
  have hgen : Hid (w.heap.size + 2 < nb) := by have h1 := hnb.out; have h2 := Rbig.out; show _ < _; omega
  clear hbn hnb Rbig
  obtain ⟨W3, hW3⟩ : ∃ W3, w2.setRow w.heap.size #[.int .i64 0, .int .i64 2, .slice (some ⟨nb, 0, none⟩) 3 3, .slice (some ⟨lb, lo, none⟩) ln lc, .slice none 0 0] = W3 := ⟨_, rfl⟩
  have P3_0 : Hid (W3.heap[w.heap.size]? = some (.cells #[.int .i64 0, .int .i64 2, .slice (some ⟨nb, 0, none⟩) 3 3, .slice (some ⟨lb, lo, none⟩) ln lc, .slice none 0 0] 60 (0, 0))) := hW3 ▸ setRow_heap _ _ _ _ _ (0, 0) P2_0.out
  have P3_1 := Lib.hid (show W3.heap[w.heap.size + 1]? = _ from hW3 ▸ (setRow_other w2 w.heap.size (w.heap.size + 1) _ (by omega)).trans P2_1.out)
  have P3_2 := Lib.hid (show W3.heap[w.heap.size + 2]? = _ from hW3 ▸ (setRow_other w2 w.heap.size (w.heap.size + 2) _ (by omega)).trans P2_2.out)
  have HB3 : Hid (Below w.heap.size w W3) := hW3 ▸ row_below HB2.out (by omega) _
  have RNS := Lib.hid (show W3.heap[nb]? = _ from hW3 ▸ (setRow_other _ w.heap.size nb _ (by have := hgen.out; omega)).trans RN.out)
  have HW3 := Lib.hid hW3
  clear hW3
  go_upto_region 16 with (refine wpList_store_row rfl 60 _ _ rfl (w.heap.size) _ rfl rfl 60 #[.int .i64 0, .int .i64 2, .slice (some ⟨wb, wo, none⟩) 3 wc, .slice (some ⟨lb, lo, none⟩) ln lc, .slice none 0 0] P2_0.out (by kernel_rfl) rfl (by simp [Value.oneCell']) ?_)
  rw [HW3.out]
  try simp only [Act.put]
  clear x0_0 x0_1 x0_2 x0_3 x0_4 x1_0 x1_1 x1_2 x1_3 ck0
  clear HW3
  obtain ⟨x0_0, x0_1, x0_2, x0_3, x0_4⟩ := rowc5 P3_0.out
  obtain ⟨x1_0, x1_1, x1_2, x1_3⟩ := rowc4 P3_1.out
  have ck0 := (HB3.out.cell (p := ⟨lb, lo + 2, none⟩) hbk0).trans HK0.out
  skip
  obtain ⟨n0, n1, n2⟩ := rowc3 RNS.out
  have hnl := (ltR RNS)
  have TAH2 := Lib.hid fun w' (hb : Below W3.heap.size W3 w') => TAH.out nb w' (Nat.lt_of_lt_of_le hnl hb.size) ((hb.cell (p := ⟨nb, 0, none⟩) hnl).trans n0) ((hb.cell (p := ⟨nb, 0 + 1, none⟩) hnl).trans n1)
  clear n0 n1 n2 hnl TAH
  have hsk := trivial
  have Xx0_0 := ext_cell _ _ (ltR P3_0) _ x0_0
  have Xx0_1 := ext_cell _ _ (ltR P3_0) _ x0_1
  have Xx0_2 := ext_cell _ _ (ltR P3_0) _ x0_2
  have Xx0_3 := ext_cell _ _ (ltR P3_0) _ x0_3
  have Xx0_4 := ext_cell _ _ (ltR P3_0) _ x0_4
  have Xx1_0 := ext_cell _ _ (ltR P3_1) _ x1_0
  have Xx1_1 := ext_cell _ _ (ltR P3_1) _ x1_1
  have Xx1_2 := ext_cell _ _ (ltR P3_1) _ x1_2
  have Xx1_3 := ext_cell _ _ (ltR P3_1) _ x1_3
  have Xck0 := ext_cell _ _ (Nat.lt_of_lt_of_le hbk0 HB3.out.size) _ ck0
  clear x0_0 x0_1 x0_2 x0_3 x0_4 x1_0 x1_1 x1_2 x1_3 ck0
  refine wp_region_ext W3 (by kernel_rfl) (by kernel_rfl) (Below.refl _ _) ?_
  repeat (go_big_quiet_step (first
    | (go_at_call 37; with_reducible exact calls_ext (TAH2.out _ (Ext.below _)))))
  refine wpQuiet_nil ?_
  intro _ hw'
  obtain ⟨n9, rfl⟩ := hw'
  have HX9 := Lib.hid n9.below
  have P4_0 := keepR n9.below P3_0
  have P4_1 := keepR n9.below P3_1
  have P4_2 := keepR n9.below P3_2
  have HB4 := Lib.hid (below_then HB3.out n9.below)
  generalize n9.wd = w4 at *
  clear Xx0_0 Xx0_1 Xx0_2 Xx0_3 Xx0_4 Xx1_0 Xx1_1 Xx1_2 Xx1_3 Xck0 hsk TAH2
  obtain ⟨x0_0, x0_1, x0_2, x0_3, x0_4⟩ := rowc5 P4_0.out
  obtain ⟨x1_0, x1_1, x1_2, x1_3⟩ := rowc4 P4_1.out
  have ck0 := (HB4.out.cell (p := ⟨lb, lo + 2, none⟩) hbk0).trans HK0.out
  have RN3 := keepR HX9.out RNS
  clear HX9
  have hz' := hzz
  go_wp2_with fail
  refine (TAT.out _ _ _ _ _ _).mono ?_; rintro e w5 ⟨rfl, hb5⟩
  have RN4 := keepR hb5 RN3
  have P5_0 := keepR hb5 P4_0
  have P5_1 := keepR hb5 P4_1
  have P5_2 := keepR hb5 P4_2
  have HB5 := Lib.hid (below_then HB4.out hb5)
  clear x0_0 x0_1 x0_2 x0_3 x0_4 x1_0 x1_1 x1_2 x1_3 ck0
  clear hb5
  obtain ⟨x0_0, x0_1, x0_2, x0_3, x0_4⟩ := rowc5 P5_0.out
  obtain ⟨x1_0, x1_1, x1_2, x1_3⟩ := rowc4 P5_1.out
  have ck0 := (HB5.out.cell (p := ⟨lb, lo + 2, none⟩) hbk0).trans HK0.out
  go_wp2_with (refine wpList_store_row rfl 60 _ _ rfl (w.heap.size + 2) _ rfl rfl 60 #[.int .i64 0, .int .i64 0, .slice none 0 0, .slice none 0 0, .slice none 0 0] P5_2.out (by kernel_rfl) rfl (by simp [Value.oneCell']) ?_)
  try rw [scopes_ret]
  refine bodyPost_ret (v := .agg #[.int .i64 0, .int .i64 4, .slice (some ⟨nb, 0, none⟩) 3 3, .slice (some ⟨lb, lo, none⟩) ln lc, .slice none 0 0]) (results_cell_row Try.results16 _ _ (w.heap.size + 2) 60 _ (0, 0) _ rfl (setRow_heap _ _ _ _ 60 (0, 0) P5_2.out) Try.underlying60 rfl (by kernel_rfl)) rfl ?_
  exact ⟨nb, rfl, Lib.hid ((setRow_other _ (w.heap.size + 2) nb _ (by have := hgen.out; omega)).trans RN4.out), Lib.hid (by have := hgen.out; show w.heap.size ≤ nb; omega), Lib.hid (row_below HB5.out (by omega) _)⟩
end Go.Proofs.Ytmkngpjjimalhaa
