/- Time passes. -/
import Derived.Test.YtkciejealeinoaaMmA
namespace Go.Proofs.Ytkciejealeinoaa
open Go.ChangeShapes Go.WideShapes Go.ChangeAt Go.RowKit
set_option maxRecDepth 100000

def tickI (t n : Int) : Int := if n < 1 then t else if t + n ≤ 1099511627776 then t + n else 1099511627776
set_option maxHeartbeats 1000000 in
theorem tick_any (A A2 : Option Addr) (n1 c n2 c2 : Nat) (t k : Int) (w : World) (ht0 : 0 ≤ t) (ht1 : t ≤ 1099511627776) (hk : k = IntKind.i64.wrap k) :
    Calls Try.prog 37 #[.agg #[.slice A n1 c, .slice A2 n2 c2, .int .i64 t], .int .i64 k] w fun e w' => e = .returned (.agg #[.slice A n1 c, .slice A2 n2 c2, .int .i64 (tickI t k)]) ∧ Below w.heap.size w w' := by
  obtain ⟨W, hW⟩ : ∃ W, (w.alloc (.cells #[.slice A n1 c, .slice A2 n2 c2, .int .i64 t] 48)).alloc (.cells zeroMem 48) = W := ⟨_, rfl⟩
  have HB : Hid (Below w.heap.size w W) := hW ▸ below_new (below_new (Below.refl w.heap.size w) _) _
  have R0 : Hid (W.heap[w.heap.size]? = some (.cells #[.slice A n1 c, .slice A2 n2 c2, .int .i64 t] 48 (0, 0))) := hW ▸ heap_alloc2_old _ _ _
  have R1 : Hid (W.heap[w.heap.size + 1]? = some (.cells zeroMem 48 (0, 0))) := hW ▸ heap_alloc2_new _ _ _
  have HW := Lib.hid hW
  clear hW
  obtain ⟨x0, x1, x2⟩ := rowc3 R0.out
  by_cases h1 : k < 1
  · have hv : tickI t k = t := by simp [tickI, h1]
    rw [hv]
    clear hk hv
    go_enter Try.func37, Try.ntmps37
    go_upto_region 1 with fail
    rw [show (#[.slice none 0 0, .slice none 0 0, .int .i64 0] : Array Value) = zeroMem from rfl, HW.out]
    go_wp2_with (refine wpList_store_row rfl 48 _ _ rfl (w.heap.size + 1) _ rfl rfl 48 zeroMem R1.out (by kernel_rfl) rfl (by simp [Value.oneCell']) ?_)
    refine bodyPost_ret (v := .agg #[.slice A n1 c, .slice A2 n2 c2, .int .i64 t]) (results_cell_row Try.results37 _ _ (w.heap.size + 1) 48 _ (0, 0) _ rfl (setRow_heap _ _ _ _ 48 (0, 0) R1.out) Try.underlying48 rfl (by kernel_rfl)) rfl ?_
    exact ⟨rfl, row_below HB.out (Nat.le_succ _) _⟩
  · have hw1 : wrap64 (1099511627776 - k) = 1099511627776 - k := by rw [IntKind.wrap_i64] at hk; unfold wrap64; omega
    have f2 := frozen_of_row _ _ 2 _ _ R0.out
    by_cases h2 : t ≤ 1099511627776 - k
    · have HT : Hid (tickI t k = t + k) := by show _ = _; unfold tickI; rw [if_neg h1, if_pos (by omega)]
      clear hk
      have T2 := Lib.hid (heap_setCell_same W w.heap.size 2 _ _ (.int .i64 (t + k)) R0.out)
      simp at T2
      obtain ⟨y0, y1, y2⟩ := rowc3 T2.out
      have TROW := Lib.hid ((heap_setCell_other W ⟨w.heap.size, 2, none⟩ (w.heap.size + 1) (.int .i64 (t + k)) (by simp)).trans R1.out)
      go_enter Try.func37, Try.ntmps37
      go_upto_region 1 with fail
      rw [show (#[.slice none 0 0, .slice none 0 0, .int .i64 0] : Array Value) = zeroMem from rfl, HW.out]
      go_wp2_with (refine wpList_store_row rfl 48 _ _ rfl (w.heap.size + 1) _ rfl rfl 48 zeroMem TROW.out (by kernel_rfl) rfl (by simp [Value.oneCell']) ?_)
      refine bodyPost_ret (v := .agg #[.slice A n1 c, .slice A2 n2 c2, .int .i64 (t + k)]) (results_cell_row Try.results37 _ _ (w.heap.size + 1) 48 _ (0, 0) _ rfl (setRow_heap _ _ _ _ 48 (0, 0) TROW.out) Try.underlying48 rfl (by kernel_rfl)) rfl ?_
      exact ⟨by rw [HT.out], row_below (HB.out.setCell (p := ⟨w.heap.size, 2, none⟩) (Nat.le_refl _) _) (Nat.le_succ _) _⟩
    · have HT : Hid (tickI t k = 1099511627776) := by show _ = _; unfold tickI; rw [if_neg h1, if_neg (by omega)]
      clear hk
      have T2 := Lib.hid (heap_setCell_same W w.heap.size 2 _ _ (.int .i64 (1099511627776)) R0.out)
      simp at T2
      obtain ⟨y0, y1, y2⟩ := rowc3 T2.out
      have TROW := Lib.hid ((heap_setCell_other W ⟨w.heap.size, 2, none⟩ (w.heap.size + 1) (.int .i64 (1099511627776)) (by simp)).trans R1.out)
      go_enter Try.func37, Try.ntmps37
      go_upto_region 1 with fail
      rw [show (#[.slice none 0 0, .slice none 0 0, .int .i64 0] : Array Value) = zeroMem from rfl, HW.out]
      go_wp2_with (refine wpList_store_row rfl 48 _ _ rfl (w.heap.size + 1) _ rfl rfl 48 zeroMem TROW.out (by kernel_rfl) rfl (by simp [Value.oneCell']) ?_)
      refine bodyPost_ret (v := .agg #[.slice A n1 c, .slice A2 n2 c2, .int .i64 (1099511627776)]) (results_cell_row Try.results37 _ _ (w.heap.size + 1) 48 _ (0, 0) _ rfl (setRow_heap _ _ _ _ 48 (0, 0) TROW.out) Try.underlying48 rfl (by kernel_rfl)) rfl ?_
      exact ⟨by rw [HT.out], row_below (HB.out.setCell (p := ⟨w.heap.size, 2, none⟩) (Nat.le_refl _) _) (Nat.le_succ _) _⟩
set_option maxHeartbeats 1000000 in
theorem rtick_any (A A2 : Option Addr) (n1 c n2 c2 : Nat) (t k : Int) (w : World) (ht0 : 0 ≤ t) (ht1 : t ≤ 1099511627776) (hk : k = IntKind.i64.wrap k) :
    Calls Try.prog 38 #[.agg #[.slice A n1 c, .slice A2 n2 c2, .int .i64 t], .int .i64 k] w fun e w' => e = .returned (.agg #[.slice A n1 c, .slice A2 n2 c2, .int .i64 (tickI t k)]) ∧ Below w.heap.size w w' := by
  obtain ⟨W, hW⟩ : ∃ W, (w.alloc (.cells #[.slice A n1 c, .slice A2 n2 c2, .int .i64 t] 48)).alloc (.cells zeroMem 48) = W := ⟨_, rfl⟩
  have HB : Hid (Below w.heap.size w W) := hW ▸ below_new (below_new (Below.refl w.heap.size w) _) _
  have R0 : Hid (W.heap[w.heap.size]? = some (.cells #[.slice A n1 c, .slice A2 n2 c2, .int .i64 t] 48 (0, 0))) := hW ▸ heap_alloc2_old _ _ _
  have R1 : Hid (W.heap[w.heap.size + 1]? = some (.cells zeroMem 48 (0, 0))) := hW ▸ heap_alloc2_new _ _ _
  have HW := Lib.hid hW
  clear hW
  obtain ⟨x0, x1, x2⟩ := rowc3 R0.out
  by_cases h1 : k < 1
  · have hv : tickI t k = t := by simp [tickI, h1]
    rw [hv]
    clear hk hv
    go_enter Try.func38, Try.ntmps38
    go_upto_region 1 with fail
    rw [show (#[.slice none 0 0, .slice none 0 0, .int .i64 0] : Array Value) = zeroMem from rfl, HW.out]
    go_wp2_with (refine wpList_store_row rfl 48 _ _ rfl (w.heap.size + 1) _ rfl rfl 48 zeroMem R1.out (by kernel_rfl) rfl (by simp [Value.oneCell']) ?_)
    refine bodyPost_ret (v := .agg #[.slice A n1 c, .slice A2 n2 c2, .int .i64 t]) (results_cell_row Try.results38 _ _ (w.heap.size + 1) 48 _ (0, 0) _ rfl (setRow_heap _ _ _ _ 48 (0, 0) R1.out) Try.underlying48 rfl (by kernel_rfl)) rfl ?_
    exact ⟨rfl, row_below HB.out (Nat.le_succ _) _⟩
  · have f2 := frozen_of_row _ _ 2 _ _ R0.out
    by_cases h2 : 1099511627776 - t < k
    · have HT : Hid (tickI t k = 1099511627776) := by show _ = _; unfold tickI; rw [if_neg h1, if_neg (by omega)]
      clear hk
      have T2 := Lib.hid (heap_setCell_same W w.heap.size 2 _ _ (.int .i64 (1099511627776)) R0.out)
      simp at T2
      obtain ⟨y0, y1, y2⟩ := rowc3 T2.out
      have TROW := Lib.hid ((heap_setCell_other W ⟨w.heap.size, 2, none⟩ (w.heap.size + 1) (.int .i64 (1099511627776)) (by simp)).trans R1.out)
      go_enter Try.func38, Try.ntmps38
      go_upto_region 1 with fail
      rw [show (#[.slice none 0 0, .slice none 0 0, .int .i64 0] : Array Value) = zeroMem from rfl, HW.out]
      go_wp2_with (refine wpList_store_row rfl 48 _ _ rfl (w.heap.size + 1) _ rfl rfl 48 zeroMem TROW.out (by kernel_rfl) rfl (by simp [Value.oneCell']) ?_)
      refine bodyPost_ret (v := .agg #[.slice A n1 c, .slice A2 n2 c2, .int .i64 (1099511627776)]) (results_cell_row Try.results38 _ _ (w.heap.size + 1) 48 _ (0, 0) _ rfl (setRow_heap _ _ _ _ 48 (0, 0) TROW.out) Try.underlying48 rfl (by kernel_rfl)) rfl ?_
      exact ⟨by rw [HT.out], row_below (HB.out.setCell (p := ⟨w.heap.size, 2, none⟩) (Nat.le_refl _) _) (Nat.le_succ _) _⟩
    · have HT : Hid (tickI t k = t + k) := by show _ = _; unfold tickI; rw [if_neg h1, if_pos (by omega)]
      clear hk
      have T2 := Lib.hid (heap_setCell_same W w.heap.size 2 _ _ (.int .i64 (t + k)) R0.out)
      simp at T2
      obtain ⟨y0, y1, y2⟩ := rowc3 T2.out
      have TROW := Lib.hid ((heap_setCell_other W ⟨w.heap.size, 2, none⟩ (w.heap.size + 1) (.int .i64 (t + k)) (by simp)).trans R1.out)
      go_enter Try.func38, Try.ntmps38
      go_upto_region 1 with fail
      rw [show (#[.slice none 0 0, .slice none 0 0, .int .i64 0] : Array Value) = zeroMem from rfl, HW.out]
      go_wp2_with (refine wpList_store_row rfl 48 _ _ rfl (w.heap.size + 1) _ rfl rfl 48 zeroMem TROW.out (by kernel_rfl) rfl (by simp [Value.oneCell']) ?_)
      refine bodyPost_ret (v := .agg #[.slice A n1 c, .slice A2 n2 c2, .int .i64 (t + k)]) (results_cell_row Try.results38 _ _ (w.heap.size + 1) 48 _ (0, 0) _ rfl (setRow_heap _ _ _ _ 48 (0, 0) TROW.out) Try.underlying48 rfl (by kernel_rfl)) rfl ?_
      exact ⟨by rw [HT.out], row_below (HB.out.setCell (p := ⟨w.heap.size, 2, none⟩) (Nat.le_refl _) _) (Nat.le_succ _) _⟩
end Go.Proofs.Ytkciejealeinoaa
