
import Derived.Test.YtjnlkemdaffgbaaB22
set_option linter.unusedVariables false
set_option linter.unusedSimpArgs false
/- Layer 11: Next and End of the program's machine that counts. -/
namespace Go.Proofs.Ytjnlkemdaffgbaa
open Go.ChangeShapes Go.WideShapes Go.ChangeAt Go.RowKit
set_option maxRecDepth 100000

set_option maxRecDepth 100000 in
set_option maxHeartbeats 16000000 in
theorem pNext1 (c : ConfM) (k : Nat) (t h : Int) (W L : Value) (w : World) (hv : PuV w c k t h W L) : Calls Try.prog 27 #[.agg (puL 0 1 W L).toArray] w fun e w' => e = .returned (accV ⟨1, c.base k, 0, 0, 0⟩) ∧ Below w.heap.size w w' := by
  obtain ⟨wb, wo, wc, lb, lo, lc, rfl, rfl, hwb, hlb, hw0, hw1, hl0, hl1⟩ := hv.open
  unfold accV
  have TF := Lib.hid fun w' (hb : Below w.heap.size w w') => from_any 1 c k t h _ _ w' (hv.below hb)
  clear hw0 hw1 hl0 hl1 hwb hlb hv
  unfold puL at TF
  unfold puL
  try dsimp only at TF ⊢
  obtain ⟨hd, hhd⟩ : ∃ hd, c.base k + 1 = hd := ⟨_, rfl⟩
  rw [hhd] at TF
  try rw [hhd]
  obtain ⟨tl, htl⟩ : ∃ tl, c.base k = tl := ⟨_, rfl⟩
  rw [htl] at TF
  try rw [htl]
  clear hhd htl
  obtain ⟨W, hW, HB, R0, R1, hz⟩ := two_new w (.cells #[.int .i64 0, .int .i64 1, .slice (some ⟨wb, wo, none⟩) 2 wc, .slice (some ⟨lb, lo, none⟩) 2 lc, .slice none 0 0] 61) (.cells #[.int .i64 0, .int .i64 0, .int .u64 0, .int .u64 0, .int .i64 0] 69)
  have HW := Lib.hid hW
  clear hW
  go_enter Try.func27, Try.ntmps27
  go_upto_region 1 with fail
  rw [HW.out]
  clear HW
  obtain ⟨x0_0, x0_1, x0_2, x0_3, x0_4⟩ := rowc5 R0.out
  go_wp2_with fail
  refine (TF.out _ HB.out).mono ?_; rintro e w1 ⟨rfl, hb1⟩
  have P1_0 := keepR hb1 R0
  have P1_1 := keepR hb1 R1
  have HB1 := Lib.hid (below_then HB.out hb1)
  clear x0_0 x0_1 x0_2 x0_3 x0_4
  clear hb1
  obtain ⟨x0_0, x0_1, x0_2, x0_3, x0_4⟩ := rowc5 P1_0.out
  clear x0_0 x0_1 x0_2 x0_3 x0_4
  obtain ⟨Wx, hWx⟩ : ∃ Wx, (w1.alloc (.cells #[.int .i64 0, .int .i64 0, .int .i64 0, .int .u64 0, .int .u64 0] 85)).setRow w1.heap.size #[.int .i64 1, .int .i64 tl, .int .i64 hd, .int .u64 t, .int .u64 h] = Wx := ⟨_, rfl⟩
  have Nx : Hid ((w1.alloc (.cells #[.int .i64 0, .int .i64 0, .int .i64 0, .int .u64 0, .int .u64 0] 85)).heap[w1.heap.size]? = some (.cells #[.int .i64 0, .int .i64 0, .int .i64 0, .int .u64 0, .int .u64 0] 85 (0, 0))) := heap_alloc_new _ _
  have HBx : Hid (Below w1.heap.size w1 Wx) := hWx ▸ row_below (below_new (Below.refl _ _) _) (Nat.le_refl _) _
  have Rx : Hid (Wx.heap[w1.heap.size]? = some (.cells #[.int .i64 1, .int .i64 tl, .int .i64 hd, .int .u64 t, .int .u64 h] 85 (0, 0))) := hWx ▸ setRow_heap _ _ _ _ _ (0, 0) Nx.out
  have HWx := Lib.hid hWx
  clear hWx
  have P2_0 := keepR HBx.out P1_0
  have P2_1 := keepR HBx.out P1_1
  have HB2 := Lib.hid (below_then HB1.out HBx.out)
  go_upto_region 2 with (refine wpList_store_row rfl 85 _ _ rfl (w1.heap.size) _ rfl rfl 85 #[.int .i64 0, .int .i64 0, .int .i64 0, .int .u64 0, .int .u64 0] Nx.out (by kernel_rfl) rfl (by simp [Value.oneCell']) ?_)
  rw [HWx.out]
  try simp only [Act.put]
  clear HWx Nx
  obtain ⟨b9, hb9⟩ : ∃ b9, w1.heap.size = b9 := ⟨_, rfl⟩
  rw [hb9] at Rx
  rw [hb9]
  clear hb9
  skip
  obtain ⟨y0, y1, y2, y3, y4⟩ := rowc5 Rx.out
  obtain ⟨x0_0, x0_1, x0_2, x0_3, x0_4⟩ := rowc5 P2_0.out
  go_wp2_with (refine wpList_store_row rfl 69 _ _ rfl (w.heap.size + 1) _ rfl rfl 69 #[.int .i64 0, .int .i64 0, .int .u64 0, .int .u64 0, .int .i64 0] P2_1.out (by kernel_rfl) rfl (by simp [Value.oneCell']) ?_)
  refine bodyPost_ret (v := .agg #[.int .i64 1, .int .i64 tl, .int .u64 0, .int .u64 0, .int .i64 0]) (results_cell_row Try.results27 _ _ (w.heap.size + 1) 69 _ (0, 0) _ rfl (setRow_heap _ _ _ _ 69 (0, 0) P2_1.out) Try.underlying69 rfl (by kernel_rfl)) rfl ?_
  exact ⟨rfl, row_below HB2.out (by omega) _⟩
set_option maxRecDepth 100000 in
set_option maxHeartbeats 16000000 in
theorem pNext2 (c : ConfM) (k : Nat) (t h : Int) (W L : Value) (w : World) (hv : PuV w c k t h W L) : Calls Try.prog 27 #[.agg (puL 0 2 W L).toArray] w fun e w' => e = .returned (accV ⟨1, c.base k + 1, 0, 0, 0⟩) ∧ Below w.heap.size w w' := by
  obtain ⟨wb, wo, wc, lb, lo, lc, rfl, rfl, hwb, hlb, hw0, hw1, hl0, hl1⟩ := hv.open
  unfold accV
  have TF := Lib.hid fun w' (hb : Below w.heap.size w w') => from_any 2 c k t h _ _ w' (hv.below hb)
  clear hw0 hw1 hl0 hl1 hwb hlb hv
  unfold puL at TF
  unfold puL
  try dsimp only at TF ⊢
  obtain ⟨hd, hhd⟩ : ∃ hd, c.base k + 1 = hd := ⟨_, rfl⟩
  rw [hhd] at TF
  try rw [hhd]
  obtain ⟨tl, htl⟩ : ∃ tl, c.base k = tl := ⟨_, rfl⟩
  rw [htl] at TF
  try rw [htl]
  clear hhd htl
  obtain ⟨W, hW, HB, R0, R1, hz⟩ := two_new w (.cells #[.int .i64 0, .int .i64 2, .slice (some ⟨wb, wo, none⟩) 2 wc, .slice (some ⟨lb, lo, none⟩) 2 lc, .slice none 0 0] 61) (.cells #[.int .i64 0, .int .i64 0, .int .u64 0, .int .u64 0, .int .i64 0] 69)
  have HW := Lib.hid hW
  clear hW
  go_enter Try.func27, Try.ntmps27
  go_upto_region 1 with fail
  rw [HW.out]
  clear HW
  obtain ⟨x0_0, x0_1, x0_2, x0_3, x0_4⟩ := rowc5 R0.out
  go_wp2_with fail
  refine (TF.out _ HB.out).mono ?_; rintro e w1 ⟨rfl, hb1⟩
  have P1_0 := keepR hb1 R0
  have P1_1 := keepR hb1 R1
  have HB1 := Lib.hid (below_then HB.out hb1)
  clear x0_0 x0_1 x0_2 x0_3 x0_4
  clear hb1
  obtain ⟨x0_0, x0_1, x0_2, x0_3, x0_4⟩ := rowc5 P1_0.out
  clear x0_0 x0_1 x0_2 x0_3 x0_4
  obtain ⟨Wx, hWx⟩ : ∃ Wx, (w1.alloc (.cells #[.int .i64 0, .int .i64 0, .int .i64 0, .int .u64 0, .int .u64 0] 85)).setRow w1.heap.size #[.int .i64 2, .int .i64 tl, .int .i64 hd, .int .u64 t, .int .u64 h] = Wx := ⟨_, rfl⟩
  have Nx : Hid ((w1.alloc (.cells #[.int .i64 0, .int .i64 0, .int .i64 0, .int .u64 0, .int .u64 0] 85)).heap[w1.heap.size]? = some (.cells #[.int .i64 0, .int .i64 0, .int .i64 0, .int .u64 0, .int .u64 0] 85 (0, 0))) := heap_alloc_new _ _
  have HBx : Hid (Below w1.heap.size w1 Wx) := hWx ▸ row_below (below_new (Below.refl _ _) _) (Nat.le_refl _) _
  have Rx : Hid (Wx.heap[w1.heap.size]? = some (.cells #[.int .i64 2, .int .i64 tl, .int .i64 hd, .int .u64 t, .int .u64 h] 85 (0, 0))) := hWx ▸ setRow_heap _ _ _ _ _ (0, 0) Nx.out
  have HWx := Lib.hid hWx
  clear hWx
  have P2_0 := keepR HBx.out P1_0
  have P2_1 := keepR HBx.out P1_1
  have HB2 := Lib.hid (below_then HB1.out HBx.out)
  go_upto_region 2 with (refine wpList_store_row rfl 85 _ _ rfl (w1.heap.size) _ rfl rfl 85 #[.int .i64 0, .int .i64 0, .int .i64 0, .int .u64 0, .int .u64 0] Nx.out (by kernel_rfl) rfl (by simp [Value.oneCell']) ?_)
  rw [HWx.out]
  try simp only [Act.put]
  clear HWx Nx
  obtain ⟨b9, hb9⟩ : ∃ b9, w1.heap.size = b9 := ⟨_, rfl⟩
  rw [hb9] at Rx
  rw [hb9]
  clear hb9
  skip
  obtain ⟨y0, y1, y2, y3, y4⟩ := rowc5 Rx.out
  obtain ⟨x0_0, x0_1, x0_2, x0_3, x0_4⟩ := rowc5 P2_0.out
  go_wp2_with (refine wpList_store_row rfl 69 _ _ rfl (w.heap.size + 1) _ rfl rfl 69 #[.int .i64 0, .int .i64 0, .int .u64 0, .int .u64 0, .int .i64 0] P2_1.out (by kernel_rfl) rfl (by simp [Value.oneCell']) ?_)
  refine bodyPost_ret (v := .agg #[.int .i64 1, .int .i64 hd, .int .u64 0, .int .u64 0, .int .i64 0]) (results_cell_row Try.results27 _ _ (w.heap.size + 1) 69 _ (0, 0) _ rfl (setRow_heap _ _ _ _ 69 (0, 0) P2_1.out) Try.underlying69 rfl (by kernel_rfl)) rfl ?_
  exact ⟨rfl, row_below HB2.out (by omega) _⟩
set_option maxRecDepth 100000 in
set_option maxHeartbeats 16000000 in
theorem pNext3 (c : ConfM) (k : Nat) (t h : Int) (W L : Value) (w : World) (hv : PuV w c k t h W L) : Calls Try.prog 27 #[.agg (puL 0 3 W L).toArray] w fun e w' => e = .returned (accV ⟨1, c.base k, 0, 0, 0⟩) ∧ Below w.heap.size w w' := by
  obtain ⟨wb, wo, wc, lb, lo, lc, rfl, rfl, hwb, hlb, hw0, hw1, hl0, hl1⟩ := hv.open
  unfold accV
  have TF := Lib.hid fun w' (hb : Below w.heap.size w w') => from_any 3 c k t h _ _ w' (hv.below hb)
  clear hw0 hw1 hl0 hl1 hwb hlb hv
  unfold puL at TF
  unfold puL
  try dsimp only at TF ⊢
  obtain ⟨hd, hhd⟩ : ∃ hd, c.base k + 1 = hd := ⟨_, rfl⟩
  rw [hhd] at TF
  try rw [hhd]
  obtain ⟨tl, htl⟩ : ∃ tl, c.base k = tl := ⟨_, rfl⟩
  rw [htl] at TF
  try rw [htl]
  clear hhd htl
  obtain ⟨W, hW, HB, R0, R1, hz⟩ := two_new w (.cells #[.int .i64 0, .int .i64 3, .slice (some ⟨wb, wo, none⟩) 2 wc, .slice (some ⟨lb, lo, none⟩) 2 lc, .slice none 0 0] 61) (.cells #[.int .i64 0, .int .i64 0, .int .u64 0, .int .u64 0, .int .i64 0] 69)
  have HW := Lib.hid hW
  clear hW
  go_enter Try.func27, Try.ntmps27
  go_upto_region 1 with fail
  rw [HW.out]
  clear HW
  obtain ⟨x0_0, x0_1, x0_2, x0_3, x0_4⟩ := rowc5 R0.out
  go_wp2_with fail
  refine (TF.out _ HB.out).mono ?_; rintro e w1 ⟨rfl, hb1⟩
  have P1_0 := keepR hb1 R0
  have P1_1 := keepR hb1 R1
  have HB1 := Lib.hid (below_then HB.out hb1)
  clear x0_0 x0_1 x0_2 x0_3 x0_4
  clear hb1
  obtain ⟨x0_0, x0_1, x0_2, x0_3, x0_4⟩ := rowc5 P1_0.out
  clear x0_0 x0_1 x0_2 x0_3 x0_4
  obtain ⟨Wx, hWx⟩ : ∃ Wx, (w1.alloc (.cells #[.int .i64 0, .int .i64 0, .int .i64 0, .int .u64 0, .int .u64 0] 85)).setRow w1.heap.size #[.int .i64 3, .int .i64 tl, .int .i64 hd, .int .u64 t, .int .u64 h] = Wx := ⟨_, rfl⟩
  have Nx : Hid ((w1.alloc (.cells #[.int .i64 0, .int .i64 0, .int .i64 0, .int .u64 0, .int .u64 0] 85)).heap[w1.heap.size]? = some (.cells #[.int .i64 0, .int .i64 0, .int .i64 0, .int .u64 0, .int .u64 0] 85 (0, 0))) := heap_alloc_new _ _
  have HBx : Hid (Below w1.heap.size w1 Wx) := hWx ▸ row_below (below_new (Below.refl _ _) _) (Nat.le_refl _) _
  have Rx : Hid (Wx.heap[w1.heap.size]? = some (.cells #[.int .i64 3, .int .i64 tl, .int .i64 hd, .int .u64 t, .int .u64 h] 85 (0, 0))) := hWx ▸ setRow_heap _ _ _ _ _ (0, 0) Nx.out
  have HWx := Lib.hid hWx
  clear hWx
  have P2_0 := keepR HBx.out P1_0
  have P2_1 := keepR HBx.out P1_1
  have HB2 := Lib.hid (below_then HB1.out HBx.out)
  go_upto_region 2 with (refine wpList_store_row rfl 85 _ _ rfl (w1.heap.size) _ rfl rfl 85 #[.int .i64 0, .int .i64 0, .int .i64 0, .int .u64 0, .int .u64 0] Nx.out (by kernel_rfl) rfl (by simp [Value.oneCell']) ?_)
  rw [HWx.out]
  try simp only [Act.put]
  clear HWx Nx
  obtain ⟨b9, hb9⟩ : ∃ b9, w1.heap.size = b9 := ⟨_, rfl⟩
  rw [hb9] at Rx
  rw [hb9]
  clear hb9
  skip
  obtain ⟨y0, y1, y2, y3, y4⟩ := rowc5 Rx.out
  obtain ⟨x0_0, x0_1, x0_2, x0_3, x0_4⟩ := rowc5 P2_0.out
  go_wp2_with (refine wpList_store_row rfl 69 _ _ rfl (w.heap.size + 1) _ rfl rfl 69 #[.int .i64 0, .int .i64 0, .int .u64 0, .int .u64 0, .int .i64 0] P2_1.out (by kernel_rfl) rfl (by simp [Value.oneCell']) ?_)
  refine bodyPost_ret (v := .agg #[.int .i64 1, .int .i64 tl, .int .u64 0, .int .u64 0, .int .i64 0]) (results_cell_row Try.results27 _ _ (w.heap.size + 1) 69 _ (0, 0) _ rfl (setRow_heap _ _ _ _ 69 (0, 0) P2_1.out) Try.underlying69 rfl (by kernel_rfl)) rfl ?_
  exact ⟨rfl, row_below HB2.out (by omega) _⟩
set_option maxRecDepth 100000 in
set_option maxHeartbeats 16000000 in
theorem pNext4 (c : ConfM) (k : Nat) (t h : Int) (W L : Value) (w : World) (hv : PuV w c k t h W L) : Calls Try.prog 27 #[.agg (puL 0 4 W L).toArray] w fun e w' => e = .returned (accV ⟨0, 0, 0, 0, 0⟩) ∧ Below w.heap.size w w' := by
  obtain ⟨wb, wo, wc, lb, lo, lc, rfl, rfl, hwb, hlb, hw0, hw1, hl0, hl1⟩ := hv.open
  unfold accV
  have TF := Lib.hid fun w' (hb : Below w.heap.size w w') => from_any 4 c k t h _ _ w' (hv.below hb)
  clear hw0 hw1 hl0 hl1 hwb hlb hv
  unfold puL at TF
  unfold puL
  try dsimp only at TF ⊢
  obtain ⟨hd, hhd⟩ : ∃ hd, c.base k + 1 = hd := ⟨_, rfl⟩
  rw [hhd] at TF
  try rw [hhd]
  obtain ⟨tl, htl⟩ : ∃ tl, c.base k = tl := ⟨_, rfl⟩
  rw [htl] at TF
  try rw [htl]
  clear hhd htl
  obtain ⟨W, hW, HB, R0, R1, hz⟩ := two_new w (.cells #[.int .i64 0, .int .i64 4, .slice (some ⟨wb, wo, none⟩) 2 wc, .slice (some ⟨lb, lo, none⟩) 2 lc, .slice none 0 0] 61) (.cells #[.int .i64 0, .int .i64 0, .int .u64 0, .int .u64 0, .int .i64 0] 69)
  have HW := Lib.hid hW
  clear hW
  go_enter Try.func27, Try.ntmps27
  go_upto_region 1 with fail
  rw [HW.out]
  clear HW
  obtain ⟨x0_0, x0_1, x0_2, x0_3, x0_4⟩ := rowc5 R0.out
  go_wp2_with fail
  refine (TF.out _ HB.out).mono ?_; rintro e w1 ⟨rfl, hb1⟩
  have P1_0 := keepR hb1 R0
  have P1_1 := keepR hb1 R1
  have HB1 := Lib.hid (below_then HB.out hb1)
  clear x0_0 x0_1 x0_2 x0_3 x0_4
  clear hb1
  obtain ⟨x0_0, x0_1, x0_2, x0_3, x0_4⟩ := rowc5 P1_0.out
  clear x0_0 x0_1 x0_2 x0_3 x0_4
  obtain ⟨Wx, hWx⟩ : ∃ Wx, (w1.alloc (.cells #[.int .i64 0, .int .i64 0, .int .i64 0, .int .u64 0, .int .u64 0] 85)).setRow w1.heap.size #[.int .i64 4, .int .i64 tl, .int .i64 hd, .int .u64 t, .int .u64 h] = Wx := ⟨_, rfl⟩
  have Nx : Hid ((w1.alloc (.cells #[.int .i64 0, .int .i64 0, .int .i64 0, .int .u64 0, .int .u64 0] 85)).heap[w1.heap.size]? = some (.cells #[.int .i64 0, .int .i64 0, .int .i64 0, .int .u64 0, .int .u64 0] 85 (0, 0))) := heap_alloc_new _ _
  have HBx : Hid (Below w1.heap.size w1 Wx) := hWx ▸ row_below (below_new (Below.refl _ _) _) (Nat.le_refl _) _
  have Rx : Hid (Wx.heap[w1.heap.size]? = some (.cells #[.int .i64 4, .int .i64 tl, .int .i64 hd, .int .u64 t, .int .u64 h] 85 (0, 0))) := hWx ▸ setRow_heap _ _ _ _ _ (0, 0) Nx.out
  have HWx := Lib.hid hWx
  clear hWx
  have P2_0 := keepR HBx.out P1_0
  have P2_1 := keepR HBx.out P1_1
  have HB2 := Lib.hid (below_then HB1.out HBx.out)
  go_upto_region 2 with (refine wpList_store_row rfl 85 _ _ rfl (w1.heap.size) _ rfl rfl 85 #[.int .i64 0, .int .i64 0, .int .i64 0, .int .u64 0, .int .u64 0] Nx.out (by kernel_rfl) rfl (by simp [Value.oneCell']) ?_)
  rw [HWx.out]
  try simp only [Act.put]
  clear HWx Nx
  obtain ⟨b9, hb9⟩ : ∃ b9, w1.heap.size = b9 := ⟨_, rfl⟩
  rw [hb9] at Rx
  rw [hb9]
  clear hb9
  skip
  obtain ⟨y0, y1, y2, y3, y4⟩ := rowc5 Rx.out
  obtain ⟨x0_0, x0_1, x0_2, x0_3, x0_4⟩ := rowc5 P2_0.out
  go_wp2_with (refine wpList_store_row rfl 69 _ _ rfl (w.heap.size + 1) _ rfl rfl 69 #[.int .i64 0, .int .i64 0, .int .u64 0, .int .u64 0, .int .i64 0] P2_1.out (by kernel_rfl) rfl (by simp [Value.oneCell']) ?_)
  refine bodyPost_ret (v := .agg #[.int .i64 0, .int .i64 0, .int .u64 0, .int .u64 0, .int .i64 0]) (results_cell_row Try.results27 _ _ (w.heap.size + 1) 69 _ (0, 0) _ rfl (setRow_heap _ _ _ _ 69 (0, 0) P2_1.out) Try.underlying69 rfl (by kernel_rfl)) rfl ?_
  exact ⟨rfl, row_below HB2.out (by omega) _⟩
set_option maxRecDepth 100000 in
set_option maxHeartbeats 16000000 in
theorem End_run (pc : Int) (hpc : ¬ pc = 4) (c : ConfM) (k : Nat) (t h : Int) (W L : Value) (w : World) (hv : PuV w c k t h W L) : Calls Try.prog 18 #[.agg (puL 0 pc W L).toArray] w fun e w' => e = .returned (.tuple #[.agg #[.int .i64 0, .int .u64 0], .bool false]) ∧ Below w.heap.size w w' := by
  obtain ⟨wb, wo, wc, lb, lo, lc, rfl, rfl, hwb, hlb, hw0, hw1, hl0, hl1⟩ := hv.open
  have TF := Lib.hid fun w' (hb : Below w.heap.size w w') => from_any pc c k t h _ _ w' (hv.below hb)
  clear hw0 hw1 hl0 hl1 hwb hlb hv
  unfold puL at TF
  unfold puL
  try dsimp only at TF ⊢
  obtain ⟨hd, hhd⟩ : ∃ hd, c.base k + 1 = hd := ⟨_, rfl⟩
  rw [hhd] at TF
  try rw [hhd]
  obtain ⟨tl, htl⟩ : ∃ tl, c.base k = tl := ⟨_, rfl⟩
  rw [htl] at TF
  try rw [htl]
  clear hhd htl
  obtain ⟨W, hW, HB, R0, R1, hz⟩ := two_new w (.cells #[.int .i64 0, .int .i64 pc, .slice (some ⟨wb, wo, none⟩) 2 wc, .slice (some ⟨lb, lo, none⟩) 2 lc, .slice none 0 0] 61) (.cells #[.int .i64 0, .int .u64 0] 56)
  have HW := Lib.hid hW
  clear hW
  go_enter Try.func18, Try.ntmps18
  go_upto_region 1 with fail
  rw [HW.out]
  clear HW
  obtain ⟨x0_0, x0_1, x0_2, x0_3, x0_4⟩ := rowc5 R0.out
  go_wp2_with fail
  refine (TF.out _ HB.out).mono ?_; rintro e w1 ⟨rfl, hb1⟩
  have P1_0 := keepR hb1 R0
  have P1_1 := keepR hb1 R1
  have HB1 := Lib.hid (below_then HB.out hb1)
  clear x0_0 x0_1 x0_2 x0_3 x0_4
  clear hb1
  obtain ⟨x0_0, x0_1, x0_2, x0_3, x0_4⟩ := rowc5 P1_0.out
  clear x0_0 x0_1 x0_2 x0_3 x0_4
  obtain ⟨Wx, hWx⟩ : ∃ Wx, (w1.alloc (.cells #[.int .i64 0, .int .i64 0, .int .i64 0, .int .u64 0, .int .u64 0] 85)).setRow w1.heap.size #[.int .i64 pc, .int .i64 tl, .int .i64 hd, .int .u64 t, .int .u64 h] = Wx := ⟨_, rfl⟩
  have Nx : Hid ((w1.alloc (.cells #[.int .i64 0, .int .i64 0, .int .i64 0, .int .u64 0, .int .u64 0] 85)).heap[w1.heap.size]? = some (.cells #[.int .i64 0, .int .i64 0, .int .i64 0, .int .u64 0, .int .u64 0] 85 (0, 0))) := heap_alloc_new _ _
  have HBx : Hid (Below w1.heap.size w1 Wx) := hWx ▸ row_below (below_new (Below.refl _ _) _) (Nat.le_refl _) _
  have Rx : Hid (Wx.heap[w1.heap.size]? = some (.cells #[.int .i64 pc, .int .i64 tl, .int .i64 hd, .int .u64 t, .int .u64 h] 85 (0, 0))) := hWx ▸ setRow_heap _ _ _ _ _ (0, 0) Nx.out
  have HWx := Lib.hid hWx
  clear hWx
  have P2_0 := keepR HBx.out P1_0
  have P2_1 := keepR HBx.out P1_1
  have HB2 := Lib.hid (below_then HB1.out HBx.out)
  go_upto_region 2 with (refine wpList_store_row rfl 85 _ _ rfl (w1.heap.size) _ rfl rfl 85 #[.int .i64 0, .int .i64 0, .int .i64 0, .int .u64 0, .int .u64 0] Nx.out (by kernel_rfl) rfl (by simp [Value.oneCell']) ?_)
  rw [HWx.out]
  try simp only [Act.put]
  clear HWx Nx
  obtain ⟨b9, hb9⟩ : ∃ b9, w1.heap.size = b9 := ⟨_, rfl⟩
  rw [hb9] at Rx
  rw [hb9]
  clear hb9
  skip
  obtain ⟨y0, y1, y2, y3, y4⟩ := rowc5 Rx.out
  obtain ⟨x0_0, x0_1, x0_2, x0_3, x0_4⟩ := rowc5 P2_0.out
  go_wp2_with (refine wpList_store_row rfl 56 _ _ rfl (w.heap.size + 1) _ rfl rfl 56 #[.int .i64 0, .int .u64 0] P2_1.out (by kernel_rfl) rfl (by simp [Value.oneCell']) ?_)
  clear x0_0 x0_1 x0_2 x0_3 x0_4
  refine bodyPost_ret (v := .tuple #[.agg #[.int .i64 0, .int .u64 0], .bool false]) (results_cell_tmp Try.results18 _ _ (w.heap.size + 1) 56 _ (0, 0) _ rfl (setRow_heap _ _ _ _ 56 (0, 0) P2_1.out) Try.underlying56 rfl (by kernel_rfl) _ rfl) rfl ?_
  exact ⟨rfl, row_below HB2.out (by omega) _⟩
set_option maxRecDepth 100000 in
set_option maxHeartbeats 16000000 in
theorem End_end (c : ConfM) (k : Nat) (t h : Int) (W L : Value) (w : World) (hv : PuV w c k t h W L) : Calls Try.prog 18 #[.agg (puL 0 4 W L).toArray] w fun e w' => e = .returned (.tuple #[.agg #[.int .i64 9, .int .u64 (restI (t / 2) h)], .bool true]) ∧ Below w.heap.size w w' := by
  obtain ⟨wb, wo, wc, lb, lo, lc, rfl, rfl, hwb, hlb, hw0, hw1, hl0, hl1⟩ := hv.open
  have TF := Lib.hid fun w' (hb : Below w.heap.size w w') => from_any 4 c k t h _ _ w' (hv.below hb)
  clear hw0 hw1 hl0 hl1 hwb hlb hv
  unfold puL at TF
  unfold puL
  try dsimp only at TF ⊢
  obtain ⟨hd, hhd⟩ : ∃ hd, c.base k + 1 = hd := ⟨_, rfl⟩
  rw [hhd] at TF
  try rw [hhd]
  obtain ⟨tl, htl⟩ : ∃ tl, c.base k = tl := ⟨_, rfl⟩
  rw [htl] at TF
  try rw [htl]
  clear hhd htl
  obtain ⟨W, hW, HB, R0, R1, hz⟩ := two_new w (.cells #[.int .i64 0, .int .i64 4, .slice (some ⟨wb, wo, none⟩) 2 wc, .slice (some ⟨lb, lo, none⟩) 2 lc, .slice none 0 0] 61) (.cells #[.int .i64 0, .int .u64 0] 56)
  have HW := Lib.hid hW
  clear hW
  go_enter Try.func18, Try.ntmps18
  go_upto_region 1 with fail
  rw [HW.out]
  clear HW
  obtain ⟨x0_0, x0_1, x0_2, x0_3, x0_4⟩ := rowc5 R0.out
  have TAH := Lib.hid fun w' => ahead_any 4 tl hd t h w'
  go_wp2_with fail
  refine (TF.out _ HB.out).mono ?_; rintro e w1 ⟨rfl, hb1⟩
  have P1_0 := keepR hb1 R0
  have P1_1 := keepR hb1 R1
  have HB1 := Lib.hid (below_then HB.out hb1)
  clear x0_0 x0_1 x0_2 x0_3 x0_4
  clear hb1
  obtain ⟨x0_0, x0_1, x0_2, x0_3, x0_4⟩ := rowc5 P1_0.out
  clear x0_0 x0_1 x0_2 x0_3 x0_4
  obtain ⟨Wx, hWx⟩ : ∃ Wx, (w1.alloc (.cells #[.int .i64 0, .int .i64 0, .int .i64 0, .int .u64 0, .int .u64 0] 85)).setRow w1.heap.size #[.int .i64 4, .int .i64 tl, .int .i64 hd, .int .u64 t, .int .u64 h] = Wx := ⟨_, rfl⟩
  have Nx : Hid ((w1.alloc (.cells #[.int .i64 0, .int .i64 0, .int .i64 0, .int .u64 0, .int .u64 0] 85)).heap[w1.heap.size]? = some (.cells #[.int .i64 0, .int .i64 0, .int .i64 0, .int .u64 0, .int .u64 0] 85 (0, 0))) := heap_alloc_new _ _
  have HBx : Hid (Below w1.heap.size w1 Wx) := hWx ▸ row_below (below_new (Below.refl _ _) _) (Nat.le_refl _) _
  have Rx : Hid (Wx.heap[w1.heap.size]? = some (.cells #[.int .i64 4, .int .i64 tl, .int .i64 hd, .int .u64 t, .int .u64 h] 85 (0, 0))) := hWx ▸ setRow_heap _ _ _ _ _ (0, 0) Nx.out
  have HWx := Lib.hid hWx
  clear hWx
  have P2_0 := keepR HBx.out P1_0
  have P2_1 := keepR HBx.out P1_1
  have HB2 := Lib.hid (below_then HB1.out HBx.out)
  go_upto_region 2 with (refine wpList_store_row rfl 85 _ _ rfl (w1.heap.size) _ rfl rfl 85 #[.int .i64 0, .int .i64 0, .int .i64 0, .int .u64 0, .int .u64 0] Nx.out (by kernel_rfl) rfl (by simp [Value.oneCell']) ?_)
  rw [HWx.out]
  try simp only [Act.put]
  clear HWx Nx
  obtain ⟨b9, hb9⟩ : ∃ b9, w1.heap.size = b9 := ⟨_, rfl⟩
  rw [hb9] at Rx
  rw [hb9]
  clear hb9
  skip
  obtain ⟨y0, y1, y2, y3, y4⟩ := rowc5 Rx.out
  obtain ⟨x0_0, x0_1, x0_2, x0_3, x0_4⟩ := rowc5 P2_0.out
  go_wp2_with fail
  refine (TAH.out _).mono ?_; rintro e w3 ⟨rfl, hb3⟩
  have P3_0 := keepR hb3 P2_0
  have P3_1 := keepR hb3 P2_1
  have HB3 := Lib.hid (below_then HB2.out hb3)
  clear x0_0 x0_1 x0_2 x0_3 x0_4
  clear hb3
  obtain ⟨x0_0, x0_1, x0_2, x0_3, x0_4⟩ := rowc5 P3_0.out
  clear x0_0 x0_1 x0_2 x0_3 x0_4
  go_wp2_with (refine wpList_store_row rfl 56 _ _ rfl (w.heap.size + 1) _ rfl rfl 56 #[.int .i64 0, .int .u64 0] P3_1.out (by kernel_rfl) rfl (by simp [Value.oneCell']) ?_)
  refine bodyPost_ret (v := .tuple #[.agg #[.int .i64 9, .int .u64 (restI (t / 2) h)], .bool true]) (results_cell_tmp Try.results18 _ _ (w.heap.size + 1) 56 _ (0, 0) _ rfl (setRow_heap _ _ _ _ 56 (0, 0) P3_1.out) Try.underlying56 rfl (by kernel_rfl) _ rfl) rfl ?_
  exact ⟨rfl, row_below HB3.out (by omega) _⟩
end Go.Proofs.Ytjnlkemdaffgbaa
