
import Derived.Test.YtjnlkemdaffgbaaB06
set_option linter.unusedVariables false
set_option linter.unusedSimpArgs false
/- The document's small machines: end, and Resume of one that has ended. -/
namespace Go.Proofs.Ytjnlkemdaffgbaa
open Go.ChangeShapes Go.WideShapes Go.ChangeAt Go.RowKit
set_option maxRecDepth 100000

set_option maxRecDepth 100000 in
set_option maxHeartbeats 16000000 in
theorem machEnd_any (a a2 : Option Addr) (cap cap2 : Nat) (c : ConfM) (m : MachM) (k v : Int) (w : World) : Calls Try.prog 29 #[(.agg (machL (.slice a c.caps.length cap) (.slice a2 c.starts.length cap2) c.threads m).toArray), .int .i64 k, .int .u64 v] w fun e w' => e = .returned (.agg (machL (.slice a c.caps.length cap) (.slice a2 c.starts.length cap2) c.threads { m with pl := 0, ok := k, ov := v }).toArray) ∧ Below w.heap.size w w' := by
  obtain ⟨W, hW, HB, R0, R1, hz⟩ := two_new w (.cells #[.int .i64 m.what, .int .i64 m.pl, .slice a c.caps.length cap, .slice a2 c.starts.length cap2, .int .i64 c.threads, .int .i64 m.chan, .int .i64 m.thr, .int .i64 m.idx, .int .i64 m.kind, .int .u64 m.val, .int .u64 m.t, .int .u64 m.h, .int .i64 m.ok, .int .u64 m.ov] 58) (.cells #[.int .i64 0, .int .i64 0, .slice none 0 0, .slice none 0 0, .int .i64 0, .int .i64 0, .int .i64 0, .int .i64 0, .int .i64 0, .int .u64 0, .int .u64 0, .int .u64 0, .int .i64 0, .int .u64 0] 58)
  have HW := Lib.hid hW
  clear hW
  unfold machL
  dsimp only
  have f1 := frozen_of_row W w.heap.size 1 _ _ R0.out
  have f2 := frozen_of_row W w.heap.size 12 _ _ R0.out
  have f3 := frozen_of_row W w.heap.size 13 _ _ R0.out
  have r1 := heap_setCell_same W w.heap.size 1 _ _ (.int .i64 0) R0.out
  simp at r1
  have r2 := heap_setCell_same _ w.heap.size 12 _ _ (.int .i64 k) r1
  simp at r2
  have r3 := heap_setCell_same _ w.heap.size 13 _ _ (.int .u64 v) r2
  simp at r3
  have R3 := Lib.hid r3
  clear r1 r2 r3
  have Q1 := Lib.hid ((heap_setCell_other _ ⟨w.heap.size, 13, none⟩ (w.heap.size + 1) (.int .u64 v) (by show w.heap.size + 1 ≠ w.heap.size; omega)).trans ((heap_setCell_other _ ⟨w.heap.size, 12, none⟩ (w.heap.size + 1) (.int .i64 k) (by show w.heap.size + 1 ≠ w.heap.size; omega)).trans ((heap_setCell_other W ⟨w.heap.size, 1, none⟩ (w.heap.size + 1) (.int .i64 0) (by show w.heap.size + 1 ≠ w.heap.size; omega)).trans R1.out)))
  have HB5 := Lib.hid (((HB.out.setCell (p := ⟨w.heap.size, 1, none⟩) (Nat.le_refl _) (.int .i64 0)).setCell (p := ⟨w.heap.size, 12, none⟩) (Nat.le_refl _) (.int .i64 k)).setCell (p := ⟨w.heap.size, 13, none⟩) (Nat.le_refl _) (.int .u64 v))
  obtain ⟨W5, hW5⟩ : ∃ W5, ((W.setCell ⟨w.heap.size, 1, none⟩ (.int .i64 0)).setCell ⟨w.heap.size, 12, none⟩ (.int .i64 k)).setCell ⟨w.heap.size, 13, none⟩ (.int .u64 v) = W5 := ⟨_, rfl⟩
  rw [hW5] at R3 Q1 HB5
  have HW5 := Lib.hid hW5
  clear hW5
  go_enter Try.func29, Try.ntmps29
  go_upto_region 1 with fail
  rw [HW.out]
  clear HW
  obtain ⟨x0, x1, x2, x3, x4, x5, x6, x7, x8, x9, x10, x11, x12, x13⟩ := rowc14 R0.out
  go_upto_region 2 with fail
  rw [HW5.out]
  clear HW5 x0 x1 x2 x3 x4 x5 x6 x7 x8 x9 x10 x11 x12 x13 f1 f2 f3
  obtain ⟨x0, x1, x2, x3, x4, x5, x6, x7, x8, x9, x10, x11, x12, x13⟩ := rowc14 R3.out
  go_wp2_with (refine wpList_store_row rfl 58 _ _ rfl (w.heap.size + 1) _ rfl rfl 58 #[.int .i64 0, .int .i64 0, .slice none 0 0, .slice none 0 0, .int .i64 0, .int .i64 0, .int .i64 0, .int .i64 0, .int .i64 0, .int .u64 0, .int .u64 0, .int .u64 0, .int .i64 0, .int .u64 0] Q1.out (by kernel_rfl) rfl (by simp [Value.oneCell']) ?_)
  refine bodyPost_ret (v := .agg #[.int .i64 m.what, .int .i64 0, .slice a c.caps.length cap, .slice a2 c.starts.length cap2, .int .i64 c.threads, .int .i64 m.chan, .int .i64 m.thr, .int .i64 m.idx, .int .i64 m.kind, .int .u64 m.val, .int .u64 m.t, .int .u64 m.h, .int .i64 k, .int .u64 v]) (results_cell_row Try.results29 _ _ (w.heap.size + 1) 58 _ (0, 0) _ rfl (setRow_heap _ _ _ _ 58 (0, 0) Q1.out) Try.underlying58 rfl (by kernel_rfl)) rfl ?_
  exact ⟨rfl, row_below HB5.out (by omega) _⟩
set_option maxRecDepth 100000 in
set_option maxHeartbeats 16000000 in
theorem machRes_end (a a2 : Option Addr) (cap cap2 : Nat) (c : ConfM) (m : MachM) (b : Int) (p q : Bool) (aa : Option Addr) (n ac : Nat) (hp : m.pl = 0) (w : World) : Calls Try.prog 16 #[(.agg (machL (.slice a c.caps.length cap) (.slice a2 c.starts.length cap2) c.threads m).toArray), .agg #[.int .u64 b, .bool p, .bool q, .slice aa n ac]] w fun e w' => e = .returned (.agg (machL (.slice a c.caps.length cap) (.slice a2 c.starts.length cap2) c.threads m).toArray) ∧ Below w.heap.size w w' := by
  obtain ⟨W, hW, HB, R0, R1, R2, hz⟩ := three_new w (.cells #[.int .i64 m.what, .int .i64 0, .slice a c.caps.length cap, .slice a2 c.starts.length cap2, .int .i64 c.threads, .int .i64 m.chan, .int .i64 m.thr, .int .i64 m.idx, .int .i64 m.kind, .int .u64 m.val, .int .u64 m.t, .int .u64 m.h, .int .i64 m.ok, .int .u64 m.ov] 58) (.cells #[.int .u64 b, .bool p, .bool q, .slice aa n ac] 53) (.cells #[.int .i64 0, .int .i64 0, .slice none 0 0, .slice none 0 0, .int .i64 0, .int .i64 0, .int .i64 0, .int .i64 0, .int .i64 0, .int .u64 0, .int .u64 0, .int .u64 0, .int .i64 0, .int .u64 0] 58)
  have HW := Lib.hid hW
  clear hW
  unfold machL
  rw [hp]
  clear hp
  go_enter Try.func16, Try.ntmps16
  go_upto_region 1 with fail
  rw [HW.out]
  clear HW
  obtain ⟨x0, x1, x2, x3, x4, x5, x6, x7, x8, x9, x10, x11, x12, x13⟩ := rowc14 R0.out
  obtain ⟨y0, y1, y2, y3⟩ := rowc4 R1.out
  go_wp2_with (refine wpList_store_row rfl 58 _ _ rfl (w.heap.size + 2) _ rfl rfl 58 #[.int .i64 0, .int .i64 0, .slice none 0 0, .slice none 0 0, .int .i64 0, .int .i64 0, .int .i64 0, .int .i64 0, .int .i64 0, .int .u64 0, .int .u64 0, .int .u64 0, .int .i64 0, .int .u64 0] R2.out (by kernel_rfl) rfl (by simp [Value.oneCell']) ?_)
  refine bodyPost_ret (v := .agg #[.int .i64 m.what, .int .i64 0, .slice a c.caps.length cap, .slice a2 c.starts.length cap2, .int .i64 c.threads, .int .i64 m.chan, .int .i64 m.thr, .int .i64 m.idx, .int .i64 m.kind, .int .u64 m.val, .int .u64 m.t, .int .u64 m.h, .int .i64 m.ok, .int .u64 m.ov]) (results_cell_row Try.results16 _ _ (w.heap.size + 2) 58 _ (0, 0) _ rfl (setRow_heap _ _ _ _ 58 (0, 0) R2.out) Try.underlying58 rfl (by kernel_rfl)) rfl ?_
  exact ⟨rfl, row_below HB.out (by omega) _⟩
end Go.Proofs.Ytjnlkemdaffgbaa
