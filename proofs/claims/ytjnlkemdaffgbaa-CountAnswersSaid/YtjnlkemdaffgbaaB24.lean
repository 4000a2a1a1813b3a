import Derived.Deep.DeepCutAuto
import Derived.Test.YtjnlkemdaffgbaaB22
import Derived.Test.YtjnlkemdaffgbaaB06
import Derived.Test.YtjnlkemdaffgbaaB03
import Derived.Test.YtjnlkemdaffgbaaB05
set_option linter.unusedVariables false
set_option linter.unusedSimpArgs false
/- Layer 11: Resume of the program's machine that counts. -/
namespace Go.Proofs.Ytjnlkemdaffgbaa
open Go.ChangeShapes Go.WideShapes Go.ChangeAt Go.RowKit
set_option maxRecDepth 100000

set_option maxRecDepth 100000 in
set_option maxHeartbeats 16000000 in
theorem pRes1 (c : ConfM) (k : Nat) (t h : Int) (W L : Value) (w : World) (hv : PuV w c k t h W L) (b : Int) (p q : Bool) (aa : Option Addr) (n ac : Nat) : Calls Try.prog 17 #[.agg (puL 0 1 W L).toArray, .agg #[.int .u64 b, .bool p, .bool q, .slice aa n ac]] w fun e w' => ∃ nb nl, e = .returned (.agg (puL 0 2 (.slice (some ⟨nb, 0, none⟩) 2 2) (.slice (some ⟨nl, 0, none⟩) 2 2)).toArray) ∧ Hid (w'.heap[nb]? = some (.cells #[.int .u64 b, .int .u64 h] 27 (0, 0))) ∧ Hid (w'.heap[nl]? = some (.cells #[.int .i64 (c.base k), .int .i64 (c.base k + 1)] 3 (0, 0))) ∧ Hid (w.heap.size ≤ nb) ∧ Hid (w.heap.size ≤ nl) ∧ Hid (Below w.heap.size w w') := by
  obtain ⟨wb, wo, wc, lb, lo, lc, rfl, rfl, hwb, hlb, hw0, hw1, hl0, hl1⟩ := hv.open
  have TF := Lib.hid fun w' (hb : Below w.heap.size w w') => from_any 1 c k t h _ _ w' (hv.below hb)
  clear hw0 hw1 hl0 hl1 hwb hlb hv
  unfold puL at TF
  unfold puL
  try dsimp only at TF ⊢
  obtain ⟨hd, hhd⟩ : ∃ hd, c.base k + 1 = hd := ⟨_, rfl⟩
  rw [hhd] at TF
  try rw [hhd]
  obtain ⟨tl, htl⟩ : ∃ tl, c.base k = tl := ⟨_, rfl⟩
  rw [htl] at TF
  try rw [htl]
  clear hhd htl
  obtain ⟨W, hW, HB, R0, R1, R2, hz⟩ := three_new w (.cells #[.int .i64 0, .int .i64 1, .slice (some ⟨wb, wo, none⟩) 2 wc, .slice (some ⟨lb, lo, none⟩) 2 lc, .slice none 0 0] 61) (.cells #[.int .u64 b, .bool p, .bool q, .slice aa n ac] 53) (.cells #[.int .i64 0, .int .i64 0, .slice none 0 0, .slice none 0 0, .slice none 0 0] 61)
  have HW := Lib.hid hW
  clear hW
  go_enter Try.func17, Try.ntmps17
  go_upto_region 1 with fail
  rw [HW.out]
  clear HW
  obtain ⟨x0_0, x0_1, x0_2, x0_3, x0_4⟩ := rowc5 R0.out
  obtain ⟨x1_0, x1_1, x1_2, x1_3⟩ := rowc4 R1.out
  have TFR := Lib.hid fun w' => frame_any 2 tl hd b h w'
  have TBH := Lib.hid fun w' => behindTail_any 1 tl hd t h b w'
  go_wp2_with fail
  refine (TF.out _ HB.out).mono ?_; rintro e w1 ⟨rfl, hb1⟩
  have P1_0 := keepR hb1 R0
  have P1_1 := keepR hb1 R1
  have P1_2 := keepR hb1 R2
  have HB1 := Lib.hid (below_then HB.out hb1)
  clear x0_0 x0_1 x0_2 x0_3 x0_4 x1_0 x1_1 x1_2 x1_3
  clear hb1
  obtain ⟨x0_0, x0_1, x0_2, x0_3, x0_4⟩ := rowc5 P1_0.out
  obtain ⟨x1_0, x1_1, x1_2, x1_3⟩ := rowc4 P1_1.out
  clear x0_0 x0_1 x0_2 x0_3 x0_4 x1_0 x1_1 x1_2 x1_3
  obtain ⟨Wx, hWx⟩ : ∃ Wx, (w1.alloc (.cells #[.int .i64 0, .int .i64 0, .int .i64 0, .int .u64 0, .int .u64 0] 85)).setRow w1.heap.size #[.int .i64 1, .int .i64 tl, .int .i64 hd, .int .u64 t, .int .u64 h] = Wx := ⟨_, rfl⟩
  have Nx : Hid ((w1.alloc (.cells #[.int .i64 0, .int .i64 0, .int .i64 0, .int .u64 0, .int .u64 0] 85)).heap[w1.heap.size]? = some (.cells #[.int .i64 0, .int .i64 0, .int .i64 0, .int .u64 0, .int .u64 0] 85 (0, 0))) := heap_alloc_new _ _
  have HBx : Hid (Below w1.heap.size w1 Wx) := hWx ▸ row_below (below_new (Below.refl _ _) _) (Nat.le_refl _) _
  have Rx : Hid (Wx.heap[w1.heap.size]? = some (.cells #[.int .i64 1, .int .i64 tl, .int .i64 hd, .int .u64 t, .int .u64 h] 85 (0, 0))) := hWx ▸ setRow_heap _ _ _ _ _ (0, 0) Nx.out
  have HWx := Lib.hid hWx
  clear hWx
  have P2_0 := keepR HBx.out P1_0
  have P2_1 := keepR HBx.out P1_1
  have P2_2 := keepR HBx.out P1_2
  have HB2 := Lib.hid (below_then HB1.out HBx.out)
  go_upto_region 2 with (refine wpList_store_row rfl 85 _ _ rfl (w1.heap.size) _ rfl rfl 85 #[.int .i64 0, .int .i64 0, .int .i64 0, .int .u64 0, .int .u64 0] Nx.out (by kernel_rfl) rfl (by simp [Value.oneCell']) ?_)
  rw [HWx.out]
  try simp only [Act.put]
  clear HWx Nx
  obtain ⟨b9, hb9⟩ : ∃ b9, w1.heap.size = b9 := ⟨_, rfl⟩
  rw [hb9] at Rx
  rw [hb9]
  clear hb9
  skip
  obtain ⟨y0, y1, y2, y3, y4⟩ := rowc5 Rx.out
  obtain ⟨x0_0, x0_1, x0_2, x0_3, x0_4⟩ := rowc5 P2_0.out
  obtain ⟨x1_0, x1_1, x1_2, x1_3⟩ := rowc4 P2_1.out
  go_wp2_with fail
  refine (TBH.out _).mono ?_; rintro e w3 ⟨rfl, hb3⟩
  have P3_0 := keepR hb3 P2_0
  have P3_1 := keepR hb3 P2_1
  have P3_2 := keepR hb3 P2_2
  have HB3 := Lib.hid (below_then HB2.out hb3)
  clear x0_0 x0_1 x0_2 x0_3 x0_4 x1_0 x1_1 x1_2 x1_3
  clear hb3
  obtain ⟨x0_0, x0_1, x0_2, x0_3, x0_4⟩ := rowc5 P3_0.out
  obtain ⟨x1_0, x1_1, x1_2, x1_3⟩ := rowc4 P3_1.out
  go_wp2_with fail
  refine (TFR.out _).mono ?_; rintro e w4 ⟨nb, nl, rfl, RN, RL, hnb, hnl, hb4⟩
  have P4_0 := keepR hb4 P3_0
  have P4_1 := keepR hb4 P3_1
  have P4_2 := keepR hb4 P3_2
  have HB4 := Lib.hid (below_then HB3.out hb4)
  clear x0_0 x0_1 x0_2 x0_3 x0_4 x1_0 x1_1 x1_2 x1_3
  clear hb4
  obtain ⟨x0_0, x0_1, x0_2, x0_3, x0_4⟩ := rowc5 P4_0.out
  obtain ⟨x1_0, x1_1, x1_2, x1_3⟩ := rowc4 P4_1.out
  have hgN : Hid (w.heap.size + 2 < nb ∧ w.heap.size + 2 < nl) := by have h5 := (ltR P3_2); have h6 := hnb.out; have h7 := hnl.out; show _ ∧ _; omega
  clear x0_0 x0_1 x0_2 x0_3 x0_4 x1_0 x1_1 x1_2 x1_3
  go_wp2_with (refine wpList_store_row rfl 61 _ _ rfl (w.heap.size + 2) _ rfl rfl 61 #[.int .i64 0, .int .i64 0, .slice none 0 0, .slice none 0 0, .slice none 0 0] P4_2.out (by kernel_rfl) rfl (by simp [Value.oneCell']) ?_)
  refine bodyPost_ret (v := .agg #[.int .i64 0, .int .i64 2, .slice (some ⟨nb, 0, none⟩) 2 2, .slice (some ⟨nl, 0, none⟩) 2 2, .slice none 0 0]) (results_cell_row Try.results17 _ _ (w.heap.size + 2) 61 _ (0, 0) _ rfl (setRow_heap _ _ _ _ 61 (0, 0) P4_2.out) Try.underlying61 rfl (by kernel_rfl)) rfl ?_
  exact ⟨nb, nl, rfl, Lib.hid ((setRow_other _ (w.heap.size + 2) nb _ (by have := hgN.out; omega)).trans RN.out), Lib.hid ((setRow_other _ (w.heap.size + 2) nl _ (by have := hgN.out; omega)).trans RL.out), Lib.hid (by have := hgN.out; show _ ≤ _; omega), Lib.hid (by have := hgN.out; show _ ≤ _; omega), Lib.hid (row_below HB4.out (by omega) _)⟩
set_option maxRecDepth 100000 in
set_option maxHeartbeats 16000000 in
theorem pRes2 (c : ConfM) (k : Nat) (t h : Int) (W L : Value) (w : World) (hv : PuV w c k t h W L) (b : Int) (p q : Bool) (aa : Option Addr) (n ac : Nat) : Calls Try.prog 17 #[.agg (puL 0 2 W L).toArray, .agg #[.int .u64 b, .bool p, .bool q, .slice aa n ac]] w fun e w' => ∃ nb nl, e = .returned (.agg (puL 0 3 (.slice (some ⟨nb, 0, none⟩) 2 2) (.slice (some ⟨nl, 0, none⟩) 2 2)).toArray) ∧ Hid (w'.heap[nb]? = some (.cells #[.int .u64 t, .int .u64 b] 27 (0, 0))) ∧ Hid (w'.heap[nl]? = some (.cells #[.int .i64 (c.base k), .int .i64 (c.base k + 1)] 3 (0, 0))) ∧ Hid (w.heap.size ≤ nb) ∧ Hid (w.heap.size ≤ nl) ∧ Hid (Below w.heap.size w w') := by
  obtain ⟨wb, wo, wc, lb, lo, lc, rfl, rfl, hwb, hlb, hw0, hw1, hl0, hl1⟩ := hv.open
  have TF := Lib.hid fun w' (hb : Below w.heap.size w w') => from_any 2 c k t h _ _ w' (hv.below hb)
  clear hw0 hw1 hl0 hl1 hwb hlb hv
  unfold puL at TF
  unfold puL
  try dsimp only at TF ⊢
  obtain ⟨hd, hhd⟩ : ∃ hd, c.base k + 1 = hd := ⟨_, rfl⟩
  rw [hhd] at TF
  try rw [hhd]
  obtain ⟨tl, htl⟩ : ∃ tl, c.base k = tl := ⟨_, rfl⟩
  rw [htl] at TF
  try rw [htl]
  clear hhd htl
  obtain ⟨W, hW, HB, R0, R1, R2, hz⟩ := three_new w (.cells #[.int .i64 0, .int .i64 2, .slice (some ⟨wb, wo, none⟩) 2 wc, .slice (some ⟨lb, lo, none⟩) 2 lc, .slice none 0 0] 61) (.cells #[.int .u64 b, .bool p, .bool q, .slice aa n ac] 53) (.cells #[.int .i64 0, .int .i64 0, .slice none 0 0, .slice none 0 0, .slice none 0 0] 61)
  have HW := Lib.hid hW
  clear hW
  go_enter Try.func17, Try.ntmps17
  go_upto_region 1 with fail
  rw [HW.out]
  clear HW
  obtain ⟨x0_0, x0_1, x0_2, x0_3, x0_4⟩ := rowc5 R0.out
  obtain ⟨x1_0, x1_1, x1_2, x1_3⟩ := rowc4 R1.out
  have TFR := Lib.hid fun w' => frame_any 3 tl hd t b w'
  have TBH := Lib.hid fun w' => behindHead_any 2 tl hd t h b w'
  go_wp2_with fail
  refine (TF.out _ HB.out).mono ?_; rintro e w1 ⟨rfl, hb1⟩
  have P1_0 := keepR hb1 R0
  have P1_1 := keepR hb1 R1
  have P1_2 := keepR hb1 R2
  have HB1 := Lib.hid (below_then HB.out hb1)
  clear x0_0 x0_1 x0_2 x0_3 x0_4 x1_0 x1_1 x1_2 x1_3
  clear hb1
  obtain ⟨x0_0, x0_1, x0_2, x0_3, x0_4⟩ := rowc5 P1_0.out
  obtain ⟨x1_0, x1_1, x1_2, x1_3⟩ := rowc4 P1_1.out
  clear x0_0 x0_1 x0_2 x0_3 x0_4 x1_0 x1_1 x1_2 x1_3
  obtain ⟨Wx, hWx⟩ : ∃ Wx, (w1.alloc (.cells #[.int .i64 0, .int .i64 0, .int .i64 0, .int .u64 0, .int .u64 0] 85)).setRow w1.heap.size #[.int .i64 2, .int .i64 tl, .int .i64 hd, .int .u64 t, .int .u64 h] = Wx := ⟨_, rfl⟩
  have Nx : Hid ((w1.alloc (.cells #[.int .i64 0, .int .i64 0, .int .i64 0, .int .u64 0, .int .u64 0] 85)).heap[w1.heap.size]? = some (.cells #[.int .i64 0, .int .i64 0, .int .i64 0, .int .u64 0, .int .u64 0] 85 (0, 0))) := heap_alloc_new _ _
  have HBx : Hid (Below w1.heap.size w1 Wx) := hWx ▸ row_below (below_new (Below.refl _ _) _) (Nat.le_refl _) _
  have Rx : Hid (Wx.heap[w1.heap.size]? = some (.cells #[.int .i64 2, .int .i64 tl, .int .i64 hd, .int .u64 t, .int .u64 h] 85 (0, 0))) := hWx ▸ setRow_heap _ _ _ _ _ (0, 0) Nx.out
  have HWx := Lib.hid hWx
  clear hWx
  have P2_0 := keepR HBx.out P1_0
  have P2_1 := keepR HBx.out P1_1
  have P2_2 := keepR HBx.out P1_2
  have HB2 := Lib.hid (below_then HB1.out HBx.out)
  go_upto_region 2 with (refine wpList_store_row rfl 85 _ _ rfl (w1.heap.size) _ rfl rfl 85 #[.int .i64 0, .int .i64 0, .int .i64 0, .int .u64 0, .int .u64 0] Nx.out (by kernel_rfl) rfl (by simp [Value.oneCell']) ?_)
  rw [HWx.out]
  try simp only [Act.put]
  clear HWx Nx
  obtain ⟨b9, hb9⟩ : ∃ b9, w1.heap.size = b9 := ⟨_, rfl⟩
  rw [hb9] at Rx
  rw [hb9]
  clear hb9
  skip
  obtain ⟨y0, y1, y2, y3, y4⟩ := rowc5 Rx.out
  obtain ⟨x0_0, x0_1, x0_2, x0_3, x0_4⟩ := rowc5 P2_0.out
  obtain ⟨x1_0, x1_1, x1_2, x1_3⟩ := rowc4 P2_1.out
  go_wp2_with fail
  refine (TBH.out _).mono ?_; rintro e w3 ⟨rfl, hb3⟩
  have P3_0 := keepR hb3 P2_0
  have P3_1 := keepR hb3 P2_1
  have P3_2 := keepR hb3 P2_2
  have HB3 := Lib.hid (below_then HB2.out hb3)
  clear x0_0 x0_1 x0_2 x0_3 x0_4 x1_0 x1_1 x1_2 x1_3
  clear hb3
  obtain ⟨x0_0, x0_1, x0_2, x0_3, x0_4⟩ := rowc5 P3_0.out
  obtain ⟨x1_0, x1_1, x1_2, x1_3⟩ := rowc4 P3_1.out
  go_wp2_with fail
  refine (TFR.out _).mono ?_; rintro e w4 ⟨nb, nl, rfl, RN, RL, hnb, hnl, hb4⟩
  have P4_0 := keepR hb4 P3_0
  have P4_1 := keepR hb4 P3_1
  have P4_2 := keepR hb4 P3_2
  have HB4 := Lib.hid (below_then HB3.out hb4)
  clear x0_0 x0_1 x0_2 x0_3 x0_4 x1_0 x1_1 x1_2 x1_3
  clear hb4
  obtain ⟨x0_0, x0_1, x0_2, x0_3, x0_4⟩ := rowc5 P4_0.out
  obtain ⟨x1_0, x1_1, x1_2, x1_3⟩ := rowc4 P4_1.out
  have hgN : Hid (w.heap.size + 2 < nb ∧ w.heap.size + 2 < nl) := by have h5 := (ltR P3_2); have h6 := hnb.out; have h7 := hnl.out; show _ ∧ _; omega
  clear x0_0 x0_1 x0_2 x0_3 x0_4 x1_0 x1_1 x1_2 x1_3
  go_wp2_with (refine wpList_store_row rfl 61 _ _ rfl (w.heap.size + 2) _ rfl rfl 61 #[.int .i64 0, .int .i64 0, .slice none 0 0, .slice none 0 0, .slice none 0 0] P4_2.out (by kernel_rfl) rfl (by simp [Value.oneCell']) ?_)
  refine bodyPost_ret (v := .agg #[.int .i64 0, .int .i64 3, .slice (some ⟨nb, 0, none⟩) 2 2, .slice (some ⟨nl, 0, none⟩) 2 2, .slice none 0 0]) (results_cell_row Try.results17 _ _ (w.heap.size + 2) 61 _ (0, 0) _ rfl (setRow_heap _ _ _ _ 61 (0, 0) P4_2.out) Try.underlying61 rfl (by kernel_rfl)) rfl ?_
  exact ⟨nb, nl, rfl, Lib.hid ((setRow_other _ (w.heap.size + 2) nb _ (by have := hgN.out; omega)).trans RN.out), Lib.hid ((setRow_other _ (w.heap.size + 2) nl _ (by have := hgN.out; omega)).trans RL.out), Lib.hid (by have := hgN.out; show _ ≤ _; omega), Lib.hid (by have := hgN.out; show _ ≤ _; omega), Lib.hid (row_below HB4.out (by omega) _)⟩
set_option maxRecDepth 100000 in
set_option maxHeartbeats 16000000 in
theorem pRes3e (c : ConfM) (k : Nat) (t h : Int) (W L : Value) (w : World) (hv : PuV w c k t h W L) (p q : Bool) (aa : Option Addr) (n ac : Nat) : Calls Try.prog 17 #[.agg (puL 0 3 W L).toArray, .agg #[.int .u64 t, .bool p, .bool q, .slice aa n ac]] w fun e w' => ∃ nb nl, e = .returned (.agg (puL 0 4 (.slice (some ⟨nb, 0, none⟩) 2 2) (.slice (some ⟨nl, 0, none⟩) 2 2)).toArray) ∧ Hid (w'.heap[nb]? = some (.cells #[.int .u64 t, .int .u64 h] 27 (0, 0))) ∧ Hid (w'.heap[nl]? = some (.cells #[.int .i64 (c.base k), .int .i64 (c.base k + 1)] 3 (0, 0))) ∧ Hid (w.heap.size ≤ nb) ∧ Hid (w.heap.size ≤ nl) ∧ Hid (Below w.heap.size w w') := by
  obtain ⟨wb, wo, wc, lb, lo, lc, rfl, rfl, hwb, hlb, hw0, hw1, hl0, hl1⟩ := hv.open
  have TF := Lib.hid fun w' (hb : Below w.heap.size w w') => from_any 3 c k t h _ _ w' (hv.below hb)
  clear hw0 hw1 hl0 hl1 hwb hlb hv
  unfold puL at TF
  unfold puL
  try dsimp only at TF ⊢
  obtain ⟨hd, hhd⟩ : ∃ hd, c.base k + 1 = hd := ⟨_, rfl⟩
  rw [hhd] at TF
  try rw [hhd]
  obtain ⟨tl, htl⟩ : ∃ tl, c.base k = tl := ⟨_, rfl⟩
  rw [htl] at TF
  try rw [htl]
  clear hhd htl
  obtain ⟨W, hW, HB, R0, R1, R2, hz⟩ := three_new w (.cells #[.int .i64 0, .int .i64 3, .slice (some ⟨wb, wo, none⟩) 2 wc, .slice (some ⟨lb, lo, none⟩) 2 lc, .slice none 0 0] 61) (.cells #[.int .u64 t, .bool p, .bool q, .slice aa n ac] 53) (.cells #[.int .i64 0, .int .i64 0, .slice none 0 0, .slice none 0 0, .slice none 0 0] 61)
  have HW := Lib.hid hW
  clear hW
  go_enter Try.func17, Try.ntmps17
  go_upto_region 1 with fail
  rw [HW.out]
  clear HW
  obtain ⟨x0_0, x0_1, x0_2, x0_3, x0_4⟩ := rowc5 R0.out
  obtain ⟨x1_0, x1_1, x1_2, x1_3⟩ := rowc4 R1.out
  have TFR := Lib.hid fun w' => frame_any 4 tl hd t h w'
  have TBH := Lib.hid fun w' => behindAll_any 3 tl hd t h w'
  go_wp2_with fail
  refine (TF.out _ HB.out).mono ?_; rintro e w1 ⟨rfl, hb1⟩
  have P1_0 := keepR hb1 R0
  have P1_1 := keepR hb1 R1
  have P1_2 := keepR hb1 R2
  have HB1 := Lib.hid (below_then HB.out hb1)
  clear x0_0 x0_1 x0_2 x0_3 x0_4 x1_0 x1_1 x1_2 x1_3
  clear hb1
  obtain ⟨x0_0, x0_1, x0_2, x0_3, x0_4⟩ := rowc5 P1_0.out
  obtain ⟨x1_0, x1_1, x1_2, x1_3⟩ := rowc4 P1_1.out
  clear x0_0 x0_1 x0_2 x0_3 x0_4 x1_0 x1_1 x1_2 x1_3
  obtain ⟨Wx, hWx⟩ : ∃ Wx, (w1.alloc (.cells #[.int .i64 0, .int .i64 0, .int .i64 0, .int .u64 0, .int .u64 0] 85)).setRow w1.heap.size #[.int .i64 3, .int .i64 tl, .int .i64 hd, .int .u64 t, .int .u64 h] = Wx := ⟨_, rfl⟩
  have Nx : Hid ((w1.alloc (.cells #[.int .i64 0, .int .i64 0, .int .i64 0, .int .u64 0, .int .u64 0] 85)).heap[w1.heap.size]? = some (.cells #[.int .i64 0, .int .i64 0, .int .i64 0, .int .u64 0, .int .u64 0] 85 (0, 0))) := heap_alloc_new _ _
  have HBx : Hid (Below w1.heap.size w1 Wx) := hWx ▸ row_below (below_new (Below.refl _ _) _) (Nat.le_refl _) _
  have Rx : Hid (Wx.heap[w1.heap.size]? = some (.cells #[.int .i64 3, .int .i64 tl, .int .i64 hd, .int .u64 t, .int .u64 h] 85 (0, 0))) := hWx ▸ setRow_heap _ _ _ _ _ (0, 0) Nx.out
  have HWx := Lib.hid hWx
  clear hWx
  have P2_0 := keepR HBx.out P1_0
  have P2_1 := keepR HBx.out P1_1
  have P2_2 := keepR HBx.out P1_2
  have HB2 := Lib.hid (below_then HB1.out HBx.out)
  go_upto_region 2 with (refine wpList_store_row rfl 85 _ _ rfl (w1.heap.size) _ rfl rfl 85 #[.int .i64 0, .int .i64 0, .int .i64 0, .int .u64 0, .int .u64 0] Nx.out (by kernel_rfl) rfl (by simp [Value.oneCell']) ?_)
  rw [HWx.out]
  try simp only [Act.put]
  clear HWx Nx
  obtain ⟨b9, hb9⟩ : ∃ b9, w1.heap.size = b9 := ⟨_, rfl⟩
  rw [hb9] at Rx
  rw [hb9]
  clear hb9
  skip
  obtain ⟨y0, y1, y2, y3, y4⟩ := rowc5 Rx.out
  obtain ⟨x0_0, x0_1, x0_2, x0_3, x0_4⟩ := rowc5 P2_0.out
  obtain ⟨x1_0, x1_1, x1_2, x1_3⟩ := rowc4 P2_1.out
  go_wp2_with fail
  refine (TBH.out _).mono ?_; rintro e w3 ⟨rfl, hb3⟩
  have P3_0 := keepR hb3 P2_0
  have P3_1 := keepR hb3 P2_1
  have P3_2 := keepR hb3 P2_2
  have HB3 := Lib.hid (below_then HB2.out hb3)
  clear x0_0 x0_1 x0_2 x0_3 x0_4 x1_0 x1_1 x1_2 x1_3
  clear hb3
  obtain ⟨x0_0, x0_1, x0_2, x0_3, x0_4⟩ := rowc5 P3_0.out
  obtain ⟨x1_0, x1_1, x1_2, x1_3⟩ := rowc4 P3_1.out
  go_wp2_with fail
  refine (TFR.out _).mono ?_; rintro e w4 ⟨nb, nl, rfl, RN, RL, hnb, hnl, hb4⟩
  have P4_0 := keepR hb4 P3_0
  have P4_1 := keepR hb4 P3_1
  have P4_2 := keepR hb4 P3_2
  have HB4 := Lib.hid (below_then HB3.out hb4)
  clear x0_0 x0_1 x0_2 x0_3 x0_4 x1_0 x1_1 x1_2 x1_3
  clear hb4
  obtain ⟨x0_0, x0_1, x0_2, x0_3, x0_4⟩ := rowc5 P4_0.out
  obtain ⟨x1_0, x1_1, x1_2, x1_3⟩ := rowc4 P4_1.out
  have hgN : Hid (w.heap.size + 2 < nb ∧ w.heap.size + 2 < nl) := by have h5 := (ltR P3_2); have h6 := hnb.out; have h7 := hnl.out; show _ ∧ _; omega
  clear x0_0 x0_1 x0_2 x0_3 x0_4 x1_0 x1_1 x1_2 x1_3
  go_wp2_with (refine wpList_store_row rfl 61 _ _ rfl (w.heap.size + 2) _ rfl rfl 61 #[.int .i64 0, .int .i64 0, .slice none 0 0, .slice none 0 0, .slice none 0 0] P4_2.out (by kernel_rfl) rfl (by simp [Value.oneCell']) ?_)
  refine bodyPost_ret (v := .agg #[.int .i64 0, .int .i64 4, .slice (some ⟨nb, 0, none⟩) 2 2, .slice (some ⟨nl, 0, none⟩) 2 2, .slice none 0 0]) (results_cell_row Try.results17 _ _ (w.heap.size + 2) 61 _ (0, 0) _ rfl (setRow_heap _ _ _ _ 61 (0, 0) P4_2.out) Try.underlying61 rfl (by kernel_rfl)) rfl ?_
  exact ⟨nb, nl, rfl, Lib.hid ((setRow_other _ (w.heap.size + 2) nb _ (by have := hgN.out; omega)).trans RN.out), Lib.hid ((setRow_other _ (w.heap.size + 2) nl _ (by have := hgN.out; omega)).trans RL.out), Lib.hid (by have := hgN.out; show _ ≤ _; omega), Lib.hid (by have := hgN.out; show _ ≤ _; omega), Lib.hid (row_below HB4.out (by omega) _)⟩
set_option maxRecDepth 100000 in
set_option maxHeartbeats 16000000 in
theorem pRes3n (c : ConfM) (k : Nat) (t h : Int) (W L : Value) (w : World) (hv : PuV w c k t h W L) (b : Int) (p q : Bool) (aa : Option Addr) (n ac : Nat) (he : ¬ b = t) : Calls Try.prog 17 #[.agg (puL 0 3 W L).toArray, .agg #[.int .u64 b, .bool p, .bool q, .slice aa n ac]] w fun e w' => ∃ nb nl, e = .returned (.agg (puL 0 2 (.slice (some ⟨nb, 0, none⟩) 2 2) (.slice (some ⟨nl, 0, none⟩) 2 2)).toArray) ∧ Hid (w'.heap[nb]? = some (.cells #[.int .u64 b, .int .u64 h] 27 (0, 0))) ∧ Hid (w'.heap[nl]? = some (.cells #[.int .i64 (c.base k), .int .i64 (c.base k + 1)] 3 (0, 0))) ∧ Hid (w.heap.size ≤ nb) ∧ Hid (w.heap.size ≤ nl) ∧ Hid (Below w.heap.size w w') := by
  obtain ⟨wb, wo, wc, lb, lo, lc, rfl, rfl, hwb, hlb, hw0, hw1, hl0, hl1⟩ := hv.open
  have TF := Lib.hid fun w' (hb : Below w.heap.size w w') => from_any 3 c k t h _ _ w' (hv.below hb)
  clear hw0 hw1 hl0 hl1 hwb hlb hv
  unfold puL at TF
  unfold puL
  try dsimp only at TF ⊢
  obtain ⟨hd, hhd⟩ : ∃ hd, c.base k + 1 = hd := ⟨_, rfl⟩
  rw [hhd] at TF
  try rw [hhd]
  obtain ⟨tl, htl⟩ : ∃ tl, c.base k = tl := ⟨_, rfl⟩
  rw [htl] at TF
  try rw [htl]
  clear hhd htl
  obtain ⟨W, hW, HB, R0, R1, R2, hz⟩ := three_new w (.cells #[.int .i64 0, .int .i64 3, .slice (some ⟨wb, wo, none⟩) 2 wc, .slice (some ⟨lb, lo, none⟩) 2 lc, .slice none 0 0] 61) (.cells #[.int .u64 b, .bool p, .bool q, .slice aa n ac] 53) (.cells #[.int .i64 0, .int .i64 0, .slice none 0 0, .slice none 0 0, .slice none 0 0] 61)
  have HW := Lib.hid hW
  clear hW
  go_enter Try.func17, Try.ntmps17
  go_upto_region 1 with fail
  rw [HW.out]
  clear HW
  obtain ⟨x0_0, x0_1, x0_2, x0_3, x0_4⟩ := rowc5 R0.out
  obtain ⟨x1_0, x1_1, x1_2, x1_3⟩ := rowc4 R1.out
  have TFR := Lib.hid fun w' => frame_any 2 tl hd b h w'
  have TBH := Lib.hid fun w' => behindTail_any 3 tl hd t h b w'
  go_wp2_with fail
  refine (TF.out _ HB.out).mono ?_; rintro e w1 ⟨rfl, hb1⟩
  have P1_0 := keepR hb1 R0
  have P1_1 := keepR hb1 R1
  have P1_2 := keepR hb1 R2
  have HB1 := Lib.hid (below_then HB.out hb1)
  clear x0_0 x0_1 x0_2 x0_3 x0_4 x1_0 x1_1 x1_2 x1_3
  clear hb1
  obtain ⟨x0_0, x0_1, x0_2, x0_3, x0_4⟩ := rowc5 P1_0.out
  obtain ⟨x1_0, x1_1, x1_2, x1_3⟩ := rowc4 P1_1.out
  clear x0_0 x0_1 x0_2 x0_3 x0_4 x1_0 x1_1 x1_2 x1_3
  obtain ⟨Wx, hWx⟩ : ∃ Wx, (w1.alloc (.cells #[.int .i64 0, .int .i64 0, .int .i64 0, .int .u64 0, .int .u64 0] 85)).setRow w1.heap.size #[.int .i64 3, .int .i64 tl, .int .i64 hd, .int .u64 t, .int .u64 h] = Wx := ⟨_, rfl⟩
  have Nx : Hid ((w1.alloc (.cells #[.int .i64 0, .int .i64 0, .int .i64 0, .int .u64 0, .int .u64 0] 85)).heap[w1.heap.size]? = some (.cells #[.int .i64 0, .int .i64 0, .int .i64 0, .int .u64 0, .int .u64 0] 85 (0, 0))) := heap_alloc_new _ _
  have HBx : Hid (Below w1.heap.size w1 Wx) := hWx ▸ row_below (below_new (Below.refl _ _) _) (Nat.le_refl _) _
  have Rx : Hid (Wx.heap[w1.heap.size]? = some (.cells #[.int .i64 3, .int .i64 tl, .int .i64 hd, .int .u64 t, .int .u64 h] 85 (0, 0))) := hWx ▸ setRow_heap _ _ _ _ _ (0, 0) Nx.out
  have HWx := Lib.hid hWx
  clear hWx
  have P2_0 := keepR HBx.out P1_0
  have P2_1 := keepR HBx.out P1_1
  have P2_2 := keepR HBx.out P1_2
  have HB2 := Lib.hid (below_then HB1.out HBx.out)
  go_upto_region 2 with (refine wpList_store_row rfl 85 _ _ rfl (w1.heap.size) _ rfl rfl 85 #[.int .i64 0, .int .i64 0, .int .i64 0, .int .u64 0, .int .u64 0] Nx.out (by kernel_rfl) rfl (by simp [Value.oneCell']) ?_)
  rw [HWx.out]
  try simp only [Act.put]
  clear HWx Nx
  obtain ⟨b9, hb9⟩ : ∃ b9, w1.heap.size = b9 := ⟨_, rfl⟩
  rw [hb9] at Rx
  rw [hb9]
  clear hb9
  skip
  obtain ⟨y0, y1, y2, y3, y4⟩ := rowc5 Rx.out
  obtain ⟨x0_0, x0_1, x0_2, x0_3, x0_4⟩ := rowc5 P2_0.out
  obtain ⟨x1_0, x1_1, x1_2, x1_3⟩ := rowc4 P2_1.out
  go_wp2_with fail
  refine (TBH.out _).mono ?_; rintro e w3 ⟨rfl, hb3⟩
  have P3_0 := keepR hb3 P2_0
  have P3_1 := keepR hb3 P2_1
  have P3_2 := keepR hb3 P2_2
  have HB3 := Lib.hid (below_then HB2.out hb3)
  clear x0_0 x0_1 x0_2 x0_3 x0_4 x1_0 x1_1 x1_2 x1_3
  clear hb3
  obtain ⟨x0_0, x0_1, x0_2, x0_3, x0_4⟩ := rowc5 P3_0.out
  obtain ⟨x1_0, x1_1, x1_2, x1_3⟩ := rowc4 P3_1.out
  go_wp2_with fail
  refine (TFR.out _).mono ?_; rintro e w4 ⟨nb, nl, rfl, RN, RL, hnb, hnl, hb4⟩
  have P4_0 := keepR hb4 P3_0
  have P4_1 := keepR hb4 P3_1
  have P4_2 := keepR hb4 P3_2
  have HB4 := Lib.hid (below_then HB3.out hb4)
  clear x0_0 x0_1 x0_2 x0_3 x0_4 x1_0 x1_1 x1_2 x1_3
  clear hb4
  obtain ⟨x0_0, x0_1, x0_2, x0_3, x0_4⟩ := rowc5 P4_0.out
  obtain ⟨x1_0, x1_1, x1_2, x1_3⟩ := rowc4 P4_1.out
  have hgN : Hid (w.heap.size + 2 < nb ∧ w.heap.size + 2 < nl) := by have h5 := (ltR P3_2); have h6 := hnb.out; have h7 := hnl.out; show _ ∧ _; omega
  clear x0_0 x0_1 x0_2 x0_3 x0_4 x1_0 x1_1 x1_2 x1_3
  go_wp2_with (refine wpList_store_row rfl 61 _ _ rfl (w.heap.size + 2) _ rfl rfl 61 #[.int .i64 0, .int .i64 0, .slice none 0 0, .slice none 0 0, .slice none 0 0] P4_2.out (by kernel_rfl) rfl (by simp [Value.oneCell']) ?_)
  refine bodyPost_ret (v := .agg #[.int .i64 0, .int .i64 2, .slice (some ⟨nb, 0, none⟩) 2 2, .slice (some ⟨nl, 0, none⟩) 2 2, .slice none 0 0]) (results_cell_row Try.results17 _ _ (w.heap.size + 2) 61 _ (0, 0) _ rfl (setRow_heap _ _ _ _ 61 (0, 0) P4_2.out) Try.underlying61 rfl (by kernel_rfl)) rfl ?_
  exact ⟨nb, nl, rfl, Lib.hid ((setRow_other _ (w.heap.size + 2) nb _ (by have := hgN.out; omega)).trans RN.out), Lib.hid ((setRow_other _ (w.heap.size + 2) nl _ (by have := hgN.out; omega)).trans RL.out), Lib.hid (by have := hgN.out; show _ ≤ _; omega), Lib.hid (by have := hgN.out; show _ ≤ _; omega), Lib.hid (row_below HB4.out (by omega) _)⟩
set_option maxRecDepth 100000 in
set_option maxHeartbeats 16000000 in
theorem pResE (c : ConfM) (k : Nat) (t h : Int) (W L : Value) (w : World) (hv : PuV w c k t h W L) (b : Int) (p q : Bool) (aa : Option Addr) (n ac : Nat) : Calls Try.prog 17 #[.agg (puL 0 4 W L).toArray, .agg #[.int .u64 b, .bool p, .bool q, .slice aa n ac]] w fun e w' => e = .returned (.agg (puL 0 4 W L).toArray) ∧ Below w.heap.size w w' := by
  obtain ⟨wb, wo, wc, lb, lo, lc, rfl, rfl, hwb, hlb, hw0, hw1, hl0, hl1⟩ := hv.open
  have TF := Lib.hid fun w' (hb : Below w.heap.size w w') => from_any 4 c k t h _ _ w' (hv.below hb)
  clear hw0 hw1 hl0 hl1 hwb hlb hv
  unfold puL at TF
  unfold puL
  try dsimp only at TF ⊢
  obtain ⟨hd, hhd⟩ : ∃ hd, c.base k + 1 = hd := ⟨_, rfl⟩
  rw [hhd] at TF
  try rw [hhd]
  obtain ⟨tl, htl⟩ : ∃ tl, c.base k = tl := ⟨_, rfl⟩
  rw [htl] at TF
  try rw [htl]
  clear hhd htl
  obtain ⟨W, hW, HB, R0, R1, R2, hz⟩ := three_new w (.cells #[.int .i64 0, .int .i64 4, .slice (some ⟨wb, wo, none⟩) 2 wc, .slice (some ⟨lb, lo, none⟩) 2 lc, .slice none 0 0] 61) (.cells #[.int .u64 b, .bool p, .bool q, .slice aa n ac] 53) (.cells #[.int .i64 0, .int .i64 0, .slice none 0 0, .slice none 0 0, .slice none 0 0] 61)
  have HW := Lib.hid hW
  clear hW
  go_enter Try.func17, Try.ntmps17
  go_upto_region 1 with fail
  rw [HW.out]
  clear HW
  obtain ⟨x0_0, x0_1, x0_2, x0_3, x0_4⟩ := rowc5 R0.out
  obtain ⟨x1_0, x1_1, x1_2, x1_3⟩ := rowc4 R1.out
  go_wp2_with fail
  refine (TF.out _ HB.out).mono ?_; rintro e w1 ⟨rfl, hb1⟩
  have P1_0 := keepR hb1 R0
  have P1_1 := keepR hb1 R1
  have P1_2 := keepR hb1 R2
  have HB1 := Lib.hid (below_then HB.out hb1)
  clear x0_0 x0_1 x0_2 x0_3 x0_4 x1_0 x1_1 x1_2 x1_3
  clear hb1
  obtain ⟨x0_0, x0_1, x0_2, x0_3, x0_4⟩ := rowc5 P1_0.out
  obtain ⟨x1_0, x1_1, x1_2, x1_3⟩ := rowc4 P1_1.out
  clear x0_0 x0_1 x0_2 x0_3 x0_4 x1_0 x1_1 x1_2 x1_3
  obtain ⟨Wx, hWx⟩ : ∃ Wx, (w1.alloc (.cells #[.int .i64 0, .int .i64 0, .int .i64 0, .int .u64 0, .int .u64 0] 85)).setRow w1.heap.size #[.int .i64 4, .int .i64 tl, .int .i64 hd, .int .u64 t, .int .u64 h] = Wx := ⟨_, rfl⟩
  have Nx : Hid ((w1.alloc (.cells #[.int .i64 0, .int .i64 0, .int .i64 0, .int .u64 0, .int .u64 0] 85)).heap[w1.heap.size]? = some (.cells #[.int .i64 0, .int .i64 0, .int .i64 0, .int .u64 0, .int .u64 0] 85 (0, 0))) := heap_alloc_new _ _
  have HBx : Hid (Below w1.heap.size w1 Wx) := hWx ▸ row_below (below_new (Below.refl _ _) _) (Nat.le_refl _) _
  have Rx : Hid (Wx.heap[w1.heap.size]? = some (.cells #[.int .i64 4, .int .i64 tl, .int .i64 hd, .int .u64 t, .int .u64 h] 85 (0, 0))) := hWx ▸ setRow_heap _ _ _ _ _ (0, 0) Nx.out
  have HWx := Lib.hid hWx
  clear hWx
  have P2_0 := keepR HBx.out P1_0
  have P2_1 := keepR HBx.out P1_1
  have P2_2 := keepR HBx.out P1_2
  have HB2 := Lib.hid (below_then HB1.out HBx.out)
  go_upto_region 2 with (refine wpList_store_row rfl 85 _ _ rfl (w1.heap.size) _ rfl rfl 85 #[.int .i64 0, .int .i64 0, .int .i64 0, .int .u64 0, .int .u64 0] Nx.out (by kernel_rfl) rfl (by simp [Value.oneCell']) ?_)
  rw [HWx.out]
  try simp only [Act.put]
  clear HWx Nx
  obtain ⟨b9, hb9⟩ : ∃ b9, w1.heap.size = b9 := ⟨_, rfl⟩
  rw [hb9] at Rx
  rw [hb9]
  clear hb9
  skip
  obtain ⟨y0, y1, y2, y3, y4⟩ := rowc5 Rx.out
  obtain ⟨x0_0, x0_1, x0_2, x0_3, x0_4⟩ := rowc5 P2_0.out
  obtain ⟨x1_0, x1_1, x1_2, x1_3⟩ := rowc4 P2_1.out
  go_wp2_with (refine wpList_store_row rfl 61 _ _ rfl (w.heap.size + 2) _ rfl rfl 61 #[.int .i64 0, .int .i64 0, .slice none 0 0, .slice none 0 0, .slice none 0 0] P2_2.out (by kernel_rfl) rfl (by simp [Value.oneCell']) ?_)
  refine bodyPost_ret (v := .agg #[.int .i64 0, .int .i64 4, .slice (some ⟨wb, wo, none⟩) 2 wc, .slice (some ⟨lb, lo, none⟩) 2 lc, .slice none 0 0]) (results_cell_row Try.results17 _ _ (w.heap.size + 2) 61 _ (0, 0) _ rfl (setRow_heap _ _ _ _ 61 (0, 0) P2_2.out) Try.underlying61 rfl (by kernel_rfl)) rfl ?_
  exact ⟨rfl, row_below HB2.out (by omega) _⟩
end Go.Proofs.Ytjnlkemdaffgbaa
/- Layer 11: the program's machine that counts, at its start. -/
namespace Go.Proofs.Ytjnlkemdaffgbaa
open Go.ChangeShapes Go.WideShapes Go.ChangeAt Go.RowKit
set_option maxRecDepth 100000

theorem NewPart.self (w w' : World) : NewPart w w' w' := ⟨Nat.le_refl _, fun _ _ _ => rfl⟩
set_option maxRecDepth 100000 in
set_option maxHeartbeats 16000000 in
theorem Start_any (a a2 : Option Addr) (cap cap2 : Nat) (c : ConfM) (k : Nat) (hk : k < c.caps.length) (hg : c.good) (w : World) (hv : ConfV w (.agg #[.slice a c.caps.length cap, .slice a2 c.starts.length cap2, .int .i64 c.threads]) c) : Calls Try.prog 47 #[.agg #[.slice a c.caps.length cap, .slice a2 c.starts.length cap2, .int .i64 c.threads], .int .i64 k] w fun e w' => ∃ W L, e = .returned (.agg (puL 0 1 W L).toArray) ∧ Hid (∀ w2, NewPart w w' w2 → PuV w2 c k 0 0 W L) ∧ Hid (Below w.heap.size w w') := by
  have HV := Lib.hid hv
  have hb8 := hg.base8 k (Nat.le_of_lt hk)
  have TTL := Lib.hid fun w' (hb : Below w.heap.size w w') => tailW_any _ c k hk w' (HV.out.below hb) hg
  have THD := Lib.hid fun w' (hb : Below w.heap.size w w') => headW_any _ c k hk w' (HV.out.below hb) hg
  obtain ⟨tl, htl⟩ : ∃ tl, c.base k = tl := ⟨_, rfl⟩
  have HTL := Lib.hid htl
  rw [htl] at TTL THD hb8
  rw [Int.add_zero] at TTL
  have HTW : Hid (tl = IntKind.i64.wrap tl) := by show _ = _; rw [IntKind.wrap_i64]; omega
  have HHW : Hid (tl + 1 = IntKind.i64.wrap (tl + 1)) := by show _ = _; rw [IntKind.wrap_i64]; omega
  obtain ⟨hd, hhd⟩ : ∃ hd, tl + 1 = hd := ⟨_, rfl⟩
  have HHD := Lib.hid hhd
  rw [hhd] at THD HHW
  have TFR := Lib.hid fun w' => frame_any 1 tl hd 0 0 w'
  clear hv hk hg htl hb8 hhd
  obtain ⟨W, hW, HB, R0, R1, hz⟩ := two_new w (.cells #[.slice a c.caps.length cap, .slice a2 c.starts.length cap2, .int .i64 c.threads] 36) (.cells #[.int .i64 0, .int .i64 0, .slice none 0 0, .slice none 0 0, .slice none 0 0] 61)
  have HW := Lib.hid hW
  clear hW
  go_enter Try.func47, Try.ntmps47
  go_upto_region 1 with fail
  rw [HW.out]
  clear HW
  obtain ⟨x0_0, x0_1, x0_2⟩ := rowc3 R0.out
  have KSs : Hid (∀ w', Below W.heap.size W w' → (fun w' : World => (w'.cell? ⟨w.heap.size, 0, none⟩ = some (.slice a c.caps.length cap) ∧ w'.cell? ⟨w.heap.size, 1, none⟩ = some (.slice a2 c.starts.length cap2) ∧ w'.cell? ⟨w.heap.size, 2, none⟩ = some (.int .i64 c.threads))) w') := fun w' hb => rowc3 ((hb.block _ (ltR R0)).trans R0.out)
  clear x0_0 x0_1 x0_2
  refine untilK KSs 8 9 (by kernel_rfl) rfl ?_
  obtain ⟨u0, hu0, HU0⟩ := drew_pack W
  rw [hu0]
  clear hu0
  have hSU0 := KSs.out _ HU0.out
  refine tkU (v := ?_) 0 la0 hSU0 (by kernel_rfl) (fun _ _ _ h => h) rfl ?_ ?_
  rotate_left
  · (intro w hSw; (try dsimp only at hSw); go_simp <;> with_reducible rfl)
  simp only [Act.put, List.setIfInBounds_toArray, List.set_cons_zero, List.set_cons_succ]
  refine tkU (v := ?_) 1 la1 hSU0 (by kernel_rfl) (fun _ _ _ h => h) rfl ?_ ?_
  rotate_left
  · (intro w hSw; (try dsimp only at hSw); go_simp <;> with_reducible rfl)
  simp only [Act.put, List.setIfInBounds_toArray, List.set_cons_zero, List.set_cons_succ]
  refine tkU (v := ?_) 3 la3 hSU0 (by kernel_rfl) (fun _ _ _ h => h) rfl ?_ ?_
  rotate_left
  · (intro w hSw; (try dsimp only at hSw); go_simp <;> with_reducible rfl)
  simp only [Act.put, List.setIfInBounds_toArray, List.set_cons_zero, List.set_cons_succ]
  refine tkU (v := ?_) 4 la4 hSU0 (by kernel_rfl) (fun _ _ _ h => h) rfl ?_ ?_
  rotate_left
  · (intro w hSw; (try dsimp only at hSw); go_simp <;> with_reducible rfl)
  simp only [Act.put, List.setIfInBounds_toArray, List.set_cons_zero, List.set_cons_succ]
  refine wpAnyU_ready (rs := [2]) (by kernel_rfl) rfl ?_
  refine AllReadyU.cons la2 rfl (fun K hK => ?_) ?_
  · go_simp
    go_at_call 67
    refine (TTL.out _ (below_then HB.out HU0.out)).mono ?_
    rintro e u1 ⟨rfl, hb⟩
    have HU1 := Lib.hid (below_then HU0.out hb)
    clear hb
    refine hK.out _ _ ?_ (fun hSU1 => ?_)
    · exact KSs.out _ HU1.out
    clear hK K hSU0
    try simp only [Act.put, List.setIfInBounds_toArray, List.set_cons_zero, List.set_cons_succ]
    refine wpAnyU_ready (rs := [5]) (by kernel_rfl) rfl ?_
    refine AllReadyU.cons la5 rfl (fun K hK => ?_) ?_
    · go_simp
      go_at_call 68
      refine (THD.out _ (below_then HB.out HU1.out)).mono ?_
      rintro e u2 ⟨rfl, hb⟩
      have HU2 := Lib.hid (below_then HU1.out hb)
      clear hb
      refine hK.out _ _ ?_ (fun hSU2 => ?_)
      · exact KSs.out _ HU2.out
      clear hK K hSU1
      try simp only [Act.put, List.setIfInBounds_toArray, List.set_cons_zero, List.set_cons_succ]
      refine tkU (v := ?_) 6 la6 hSU2 (by kernel_rfl) (fun _ _ _ h => h) rfl ?_ ?_
      rotate_left
      · (intro w hSw; (try dsimp only at hSw); go_simp <;> with_reducible rfl)
      simp only [Act.put, List.setIfInBounds_toArray, List.set_cons_zero, List.set_cons_succ]
      refine wpAnyU_ready (rs := [7]) (by kernel_rfl) rfl ?_
      refine AllReadyU.cons la7 rfl (fun K hK => ?_) ?_
      · go_simp
        go_at_call 37
        refine (TFR.out _).mono ?_
        rintro e u3 ⟨nb, nl, rfl, RN, RL, hnb, hnl, hb⟩
        have gen : Hid (w.heap.size + 1 < nb ∧ w.heap.size + 1 < nl) := by have h5 := HU2.out.size; have h6 := (ltR R1); have h7 := hnb.out; have h8 := hnl.out; show _ ∧ _; omega
        have HU3 := Lib.hid (below_then HU2.out hb)
        clear hb hnb hnl
        refine hK.out _ _ ?_ (fun hSU3 => ?_)
        · exact KSs.out _ HU3.out
        clear hK K hSU2
        try simp only [Act.put, List.setIfInBounds_toArray, List.set_cons_zero, List.set_cons_succ]
        refine wpAnyU_ready (rs := [8]) (by kernel_rfl) rfl ?_
        refine AllReadyU.free la8 rfl (by kernel_rfl) (fun K hK => ?_) ?_
        · have ZR := keepR HU3.out R1
          refine step_store_row rfl 61 _ _ rfl (w.heap.size + 1) _ rfl rfl 61 #[.int .i64 0, .int .i64 0, .slice none 0 0, .slice none 0 0, .slice none 0 0] ZR.out (by kernel_rfl) rfl (by simp [Value.oneCell']) ?_
          refine hK.out _ _ ?_
          clear hK K hSU3
          try simp only [Act.put, List.setIfInBounds_toArray, List.set_cons_zero, List.set_cons_succ]
          refine wpAnyU_done (by kernel_rfl) ?_ _
          go_wp2_with fail
          refine bodyPost_ret (v := .agg #[.int .i64 0, .int .i64 1, .slice (some ⟨nb, 0, none⟩) 2 2, .slice (some ⟨nl, 0, none⟩) 2 2, .slice none 0 0]) (results_cell_row Try.results47 _ _ (w.heap.size + 1) 61 _ (0, 0) _ rfl (setRow_heap _ _ _ _ 61 (0, 0) ZR.out) Try.underlying61 rfl (by kernel_rfl)) rfl ?_
          have hN := (setRow_other u3 (w.heap.size + 1) nb #[.int .i64 0, .int .i64 1, .slice (some ⟨nb, 0, none⟩) 2 2, .slice (some ⟨nl, 0, none⟩) 2 2, .slice none 0 0] (by have := gen.out; omega)).trans RN.out
          have hL := (setRow_other u3 (w.heap.size + 1) nl #[.int .i64 0, .int .i64 1, .slice (some ⟨nb, 0, none⟩) 2 2, .slice (some ⟨nl, 0, none⟩) 2 2, .slice none 0 0] (by have := gen.out; omega)).trans RL.out
          refine ⟨.slice (some ⟨nb, 0, none⟩) 2 2, .slice (some ⟨nl, 0, none⟩) 2 2, rfl, Lib.hid (fun w9 hn => ⟨sl2_at ((hn.same nb (by have := gen.out; omega) (Array.getElem?_eq_some_iff.1 hN).1).trans hN) (by decide) (by decide), by rw [HTL.out, HHD.out]; exact sl2_at ((hn.same nl (by have := gen.out; omega) (Array.getElem?_eq_some_iff.1 hL).1).trans hL) HTW.out HHW.out⟩), Lib.hid (row_below (below_then HB.out HU3.out) (by omega) _)⟩
        exact AllReadyU.nil
      exact AllReadyU.nil
    exact AllReadyU.nil
  exact AllReadyU.nil
set_option maxRecDepth 100000 in
set_option maxHeartbeats 16000000 in
theorem lawStart_any (a a2 : Option Addr) (cap cap2 : Nat) (c : ConfM) (k : Nat) (hk : k < c.caps.length) (hg : c.good) (m : MachM) (hc : m.chan = k) (w : World) (hv : ConfV w (.agg #[.slice a c.caps.length cap, .slice a2 c.starts.length cap2, .int .i64 c.threads]) c) : Calls Try.prog 25 #[.agg #[.slice a c.caps.length cap, .slice a2 c.starts.length cap2, .int .i64 c.threads], .agg (machL (.slice a c.caps.length cap) (.slice a2 c.starts.length cap2) c.threads m).toArray] w fun e w' => ∃ W L, e = .returned (.agg (puL 0 1 W L).toArray) ∧ Hid (∀ w2, NewPart w w' w2 → PuV w2 c k 0 0 W L) ∧ Hid (Below w.heap.size w w') := by
  have HV := Lib.hid hv
  have TST := Lib.hid fun w' (hb : Below w.heap.size w w') => Start_any a a2 cap cap2 c k hk hg w' (HV.out.below hb)
  unfold machL
  rw [hc]
  clear hv hk hg hc
  obtain ⟨W, hW, HB, R0, R1, R2, hz⟩ := three_new w (.cells #[.slice a c.caps.length cap, .slice a2 c.starts.length cap2, .int .i64 c.threads] 36) (.cells #[.int .i64 m.what, .int .i64 m.pl, .slice a c.caps.length cap, .slice a2 c.starts.length cap2, .int .i64 c.threads, .int .i64 k, .int .i64 m.thr, .int .i64 m.idx, .int .i64 m.kind, .int .u64 m.val, .int .u64 m.t, .int .u64 m.h, .int .i64 m.ok, .int .u64 m.ov] 58) (.cells #[.int .i64 0, .int .i64 0, .slice none 0 0, .slice none 0 0, .slice none 0 0] 61)
  have HW := Lib.hid hW
  clear hW
  go_enter Try.func25, Try.ntmps25
  go_upto_region 1 with fail
  rw [HW.out]
  clear HW
  obtain ⟨x0_0, x0_1, x0_2⟩ := rowc3 R0.out
  obtain ⟨x1_0, x1_1, x1_2, x1_3, x1_4, x1_5, x1_6, x1_7, x1_8, x1_9, x1_10, x1_11, x1_12, x1_13⟩ := rowc14 R1.out
  go_wp2_with fail
  refine (TST.out _ HB.out).mono ?_; rintro e w3 ⟨Wv, Lv, rfl, HP, HB3⟩
  have HP2 := Lib.hid HP.out
  have R2c := Lib.hid ((HB3.out.block (w.heap.size + 2) (by omega)).trans R2.out)
  obtain ⟨wa, wn, wc, hwe⟩ : ∃ wa wn wc, Wv = .slice wa wn wc := by
    obtain ⟨wb, wo, wc, lb, lo, lc, e, -⟩ := (HP.out w3 (NewPart.self _ _)).open
    exact ⟨_, _, _, e⟩
  obtain ⟨la, ln, lc, hle⟩ : ∃ la ln lc, Lv = .slice la ln lc := by
    obtain ⟨wb, wo, wc, lb, lo, lc, _, e, -⟩ := (HP.out w3 (NewPart.self _ _)).open
    exact ⟨_, _, _, e⟩
  subst hwe hle
  unfold puL
  clear TST HP
  clear x0_0 x0_1 x0_2 x1_0 x1_1 x1_2 x1_3 x1_4 x1_5 x1_6 x1_7 x1_8 x1_9 x1_10 x1_11 x1_12 x1_13
  go_wp2_with (refine wpList_store_row rfl 61 _ _ rfl (w.heap.size + 2) _ rfl rfl 61 #[.int .i64 0, .int .i64 0, .slice none 0 0, .slice none 0 0, .slice none 0 0] R2c.out (by kernel_rfl) rfl (by simp [Value.oneCell']) ?_)
  refine bodyPost_ret (v := .agg #[.int .i64 0, .int .i64 1, .slice wa wn wc, .slice la ln lc, .slice none 0 0]) (results_cell_row Try.results25 _ _ (w.heap.size + 2) 61 _ (0, 0) _ rfl (setRow_heap _ _ _ _ 61 (0, 0) R2c.out) Try.underlying61 rfl (by kernel_rfl)) rfl ?_
  exact ⟨_, _, rfl, Lib.hid (fun w9 hn => HP2.out w9 (hn.sub HB.out.size (by simp [World.setRow]) fun j h1 h2 => setRow_other _ _ _ _ (by omega))), Lib.hid (row_below (below_then HB.out HB3.out) (by omega) _)⟩
end Go.Proofs.Ytjnlkemdaffgbaa
