
import Derived.Test.YtjnlkemdaffgbaaB07
import Derived.Test.YtjnlkemdaffgbaaB16
import Derived.Test.YtjnlkemdaffgbaaB04
set_option linter.unusedVariables false
set_option linter.unusedSimpArgs false
/- The document's small machines: shut and count behind an answer. -/
namespace Go.Proofs.Ytjnlkemdaffgbaa
open Go.ChangeShapes Go.WideShapes Go.ChangeAt Go.RowKit
set_option maxRecDepth 100000

set_option maxRecDepth 100000 in
set_option maxHeartbeats 16000000 in
theorem machShut_1c (a a2 : Option Addr) (cap cap2 : Nat) (c : ConfM) (m : MachM) (b : Int) (p q : Bool) (aa : Option Addr) (n ac : Nat) (ewhat : m.what = 5) (epl : m.pl = 1) (w : World) (h0 : 0 ≤ b) (h1 : b < 18446744073709551616) (hcl : closedB b = true)  : Calls Try.prog 32 #[(.agg (machL (.slice a c.caps.length cap) (.slice a2 c.starts.length cap2) c.threads m).toArray), .agg #[.int .u64 b, .bool p, .bool q, .slice aa n ac]] w fun e w' => e = .returned (.agg (machL (.slice a c.caps.length cap) (.slice a2 c.starts.length cap2) c.threads { m with t := b, pl := 0, ok := 4, ov := 0 }).toArray) ∧ Below w.heap.size w w' := by
  obtain ⟨W, hW, HB, R0, R1, R2, hz⟩ := three_new w (.cells #[.int .i64 5, .int .i64 1, .slice a c.caps.length cap, .slice a2 c.starts.length cap2, .int .i64 c.threads, .int .i64 m.chan, .int .i64 m.thr, .int .i64 m.idx, .int .i64 m.kind, .int .u64 m.val, .int .u64 m.t, .int .u64 m.h, .int .i64 m.ok, .int .u64 m.ov] 58) (.cells #[.int .u64 b, .bool p, .bool q, .slice aa n ac] 53) (.cells #[.int .i64 0, .int .i64 0, .slice none 0 0, .slice none 0 0, .int .i64 0, .int .i64 0, .int .i64 0, .int .i64 0, .int .i64 0, .int .u64 0, .int .u64 0, .int .u64 0, .int .i64 0, .int .u64 0] 58)
  have HW := Lib.hid hW
  clear hW
  unfold machL
  try dsimp only
  rw [ewhat]
  clear ewhat
  rw [epl]
  clear epl
  have TE := Lib.hid fun w' => machEnd_any a a2 cap cap2 c { m with what := 5, pl := 1, t := b } 4 0 w'
  unfold machL at TE
  try dsimp only at TE
  have TC := Lib.hid fun w' => rclosed1_any b w' h0 h1
  rw [hcl] at TC
  clear hcl h0 h1
  go_enter Try.func32, Try.ntmps32
  go_upto_region 1 with fail
  rw [HW.out]
  clear HW
  obtain ⟨x0, x1, x2, x3, x4, x5, x6, x7, x8, x9, x10, x11, x12, x13⟩ := rowc14 R0.out
  obtain ⟨y0, y1, y2, y3⟩ := rowc4 R1.out
  go_upto_region 2 with fail
  have fz := frozen_of_row W w.heap.size 10 _ _ R0.out
  have r1 := heap_setCell_same W w.heap.size 10 _ _ (.int .u64 b) R0.out
  simp at r1
  have P1 := Lib.hid r1
  clear r1
  have A1 := Lib.hid ((heap_setCell_other W ⟨w.heap.size, 10, none⟩ (w.heap.size + 1) (.int .u64 b) (by show w.heap.size + 1 ≠ w.heap.size; omega)).trans R1.out)
  have Z1 := Lib.hid ((heap_setCell_other W ⟨w.heap.size, 10, none⟩ (w.heap.size + 2) (.int .u64 b) (by show w.heap.size + 2 ≠ w.heap.size; omega)).trans R2.out)
  have HB1 := Lib.hid (HB.out.setCell (p := ⟨w.heap.size, 10, none⟩) (Nat.le_refl _) (.int .u64 b))
  obtain ⟨W1, hW1⟩ : ∃ W1, W.setCell ⟨w.heap.size, 10, none⟩ (.int .u64 b) = W1 := ⟨_, rfl⟩
  rw [hW1] at P1 A1 Z1 HB1
  have HW1 := Lib.hid hW1
  clear hW1
  go_upto_region 3 with fail
  rw [HW1.out]
  clear x0 x1 x2 x3 x4 x5 x6 x7 x8 x9 x10 x11 x12 x13 y0 y1 y2 y3
  clear fz HW1
  obtain ⟨x0, x1, x2, x3, x4, x5, x6, x7, x8, x9, x10, x11, x12, x13⟩ := rowc14 P1.out
  obtain ⟨y0, y1, y2, y3⟩ := rowc4 A1.out
  go_wp2_with fail
  refine (TC.out _).mono ?_; rintro e w' ⟨rfl, rfl⟩
  go_wp2_with fail
  refine (TE.out _).mono ?_; rintro e w3 ⟨rfl, hb3⟩
  have P3 := keepR hb3 P1
  have A3 := keepR hb3 A1
  have Z3 := keepR hb3 Z1
  have HB3 := Lib.hid (below_then HB1.out hb3)
  clear x0 x1 x2 x3 x4 x5 x6 x7 x8 x9 x10 x11 x12 x13 y0 y1 y2 y3
  clear hb3
  obtain ⟨x0, x1, x2, x3, x4, x5, x6, x7, x8, x9, x10, x11, x12, x13⟩ := rowc14 P3.out
  obtain ⟨y0, y1, y2, y3⟩ := rowc4 A3.out
  clear x0 x1 x2 x3 x4 x5 x6 x7 x8 x9 x10 x11 x12 x13 y0 y1 y2 y3
  go_wp2_with (refine wpList_store_row rfl 58 _ _ rfl (w.heap.size + 2) _ rfl rfl 58 #[.int .i64 0, .int .i64 0, .slice none 0 0, .slice none 0 0, .int .i64 0, .int .i64 0, .int .i64 0, .int .i64 0, .int .i64 0, .int .u64 0, .int .u64 0, .int .u64 0, .int .i64 0, .int .u64 0] Z3.out (by kernel_rfl) rfl (by simp [Value.oneCell']) ?_)
  refine bodyPost_ret (v := .agg #[.int .i64 5, .int .i64 0, .slice a c.caps.length cap, .slice a2 c.starts.length cap2, .int .i64 c.threads, .int .i64 m.chan, .int .i64 m.thr, .int .i64 m.idx, .int .i64 m.kind, .int .u64 m.val, .int .u64 b, .int .u64 m.h, .int .i64 4, .int .u64 0]) (results_cell_row Try.results32 _ _ (w.heap.size + 2) 58 _ (0, 0) _ rfl (setRow_heap _ _ _ _ 58 (0, 0) Z3.out) Try.underlying58 rfl (by kernel_rfl)) rfl ?_
  exact ⟨rfl, row_below HB3.out (by omega) _⟩
set_option maxRecDepth 100000 in
set_option maxHeartbeats 16000000 in
theorem machShut_1o (a a2 : Option Addr) (cap cap2 : Nat) (c : ConfM) (m : MachM) (b : Int) (p q : Bool) (aa : Option Addr) (n ac : Nat) (ewhat : m.what = 5) (epl : m.pl = 1) (w : World) (h0 : 0 ≤ b) (h1 : b < 18446744073709551616) (hcl : closedB b = false)  : Calls Try.prog 32 #[(.agg (machL (.slice a c.caps.length cap) (.slice a2 c.starts.length cap2) c.threads m).toArray), .agg #[.int .u64 b, .bool p, .bool q, .slice aa n ac]] w fun e w' => e = .returned (.agg (machL (.slice a c.caps.length cap) (.slice a2 c.starts.length cap2) c.threads { m with t := b, pl := 2 }).toArray) ∧ Below w.heap.size w w' := by
  obtain ⟨W, hW, HB, R0, R1, R2, hz⟩ := three_new w (.cells #[.int .i64 5, .int .i64 1, .slice a c.caps.length cap, .slice a2 c.starts.length cap2, .int .i64 c.threads, .int .i64 m.chan, .int .i64 m.thr, .int .i64 m.idx, .int .i64 m.kind, .int .u64 m.val, .int .u64 m.t, .int .u64 m.h, .int .i64 m.ok, .int .u64 m.ov] 58) (.cells #[.int .u64 b, .bool p, .bool q, .slice aa n ac] 53) (.cells #[.int .i64 0, .int .i64 0, .slice none 0 0, .slice none 0 0, .int .i64 0, .int .i64 0, .int .i64 0, .int .i64 0, .int .i64 0, .int .u64 0, .int .u64 0, .int .u64 0, .int .i64 0, .int .u64 0] 58)
  have HW := Lib.hid hW
  clear hW
  unfold machL
  try dsimp only
  rw [ewhat]
  clear ewhat
  rw [epl]
  clear epl
  have TT := Lib.hid fun w' => machTo_any a a2 cap cap2 c { m with what := 5, pl := 1, t := b } 2 w'
  unfold machL at TT
  try dsimp only at TT
  have TC := Lib.hid fun w' => rclosed1_any b w' h0 h1
  rw [hcl] at TC
  clear hcl h0 h1
  go_enter Try.func32, Try.ntmps32
  go_upto_region 1 with fail
  rw [HW.out]
  clear HW
  obtain ⟨x0, x1, x2, x3, x4, x5, x6, x7, x8, x9, x10, x11, x12, x13⟩ := rowc14 R0.out
  obtain ⟨y0, y1, y2, y3⟩ := rowc4 R1.out
  go_upto_region 2 with fail
  have fz := frozen_of_row W w.heap.size 10 _ _ R0.out
  have r1 := heap_setCell_same W w.heap.size 10 _ _ (.int .u64 b) R0.out
  simp at r1
  have P1 := Lib.hid r1
  clear r1
  have A1 := Lib.hid ((heap_setCell_other W ⟨w.heap.size, 10, none⟩ (w.heap.size + 1) (.int .u64 b) (by show w.heap.size + 1 ≠ w.heap.size; omega)).trans R1.out)
  have Z1 := Lib.hid ((heap_setCell_other W ⟨w.heap.size, 10, none⟩ (w.heap.size + 2) (.int .u64 b) (by show w.heap.size + 2 ≠ w.heap.size; omega)).trans R2.out)
  have HB1 := Lib.hid (HB.out.setCell (p := ⟨w.heap.size, 10, none⟩) (Nat.le_refl _) (.int .u64 b))
  obtain ⟨W1, hW1⟩ : ∃ W1, W.setCell ⟨w.heap.size, 10, none⟩ (.int .u64 b) = W1 := ⟨_, rfl⟩
  rw [hW1] at P1 A1 Z1 HB1
  have HW1 := Lib.hid hW1
  clear hW1
  go_upto_region 3 with fail
  rw [HW1.out]
  clear x0 x1 x2 x3 x4 x5 x6 x7 x8 x9 x10 x11 x12 x13 y0 y1 y2 y3
  clear fz HW1
  obtain ⟨x0, x1, x2, x3, x4, x5, x6, x7, x8, x9, x10, x11, x12, x13⟩ := rowc14 P1.out
  obtain ⟨y0, y1, y2, y3⟩ := rowc4 A1.out
  go_wp2_with fail
  refine (TC.out _).mono ?_; rintro e w' ⟨rfl, rfl⟩
  go_wp2_with fail
  refine (TT.out _).mono ?_; rintro e w3 ⟨rfl, hb3⟩
  have P3 := keepR hb3 P1
  have A3 := keepR hb3 A1
  have Z3 := keepR hb3 Z1
  have HB3 := Lib.hid (below_then HB1.out hb3)
  clear x0 x1 x2 x3 x4 x5 x6 x7 x8 x9 x10 x11 x12 x13 y0 y1 y2 y3
  clear hb3
  obtain ⟨x0, x1, x2, x3, x4, x5, x6, x7, x8, x9, x10, x11, x12, x13⟩ := rowc14 P3.out
  obtain ⟨y0, y1, y2, y3⟩ := rowc4 A3.out
  clear x0 x1 x2 x3 x4 x5 x6 x7 x8 x9 x10 x11 x12 x13 y0 y1 y2 y3
  go_wp2_with (refine wpList_store_row rfl 58 _ _ rfl (w.heap.size + 2) _ rfl rfl 58 #[.int .i64 0, .int .i64 0, .slice none 0 0, .slice none 0 0, .int .i64 0, .int .i64 0, .int .i64 0, .int .i64 0, .int .i64 0, .int .u64 0, .int .u64 0, .int .u64 0, .int .i64 0, .int .u64 0] Z3.out (by kernel_rfl) rfl (by simp [Value.oneCell']) ?_)
  refine bodyPost_ret (v := .agg #[.int .i64 5, .int .i64 2, .slice a c.caps.length cap, .slice a2 c.starts.length cap2, .int .i64 c.threads, .int .i64 m.chan, .int .i64 m.thr, .int .i64 m.idx, .int .i64 m.kind, .int .u64 m.val, .int .u64 b, .int .u64 m.h, .int .i64 m.ok, .int .u64 m.ov]) (results_cell_row Try.results32 _ _ (w.heap.size + 2) 58 _ (0, 0) _ rfl (setRow_heap _ _ _ _ 58 (0, 0) Z3.out) Try.underlying58 rfl (by kernel_rfl)) rfl ?_
  exact ⟨rfl, row_below HB3.out (by omega) _⟩
set_option maxRecDepth 100000 in
set_option maxHeartbeats 16000000 in
theorem machShut_2k (a a2 : Option Addr) (cap cap2 : Nat) (c : ConfM) (m : MachM) (b : Int) (q : Bool) (aa : Option Addr) (n ac : Nat) (ewhat : m.what = 5) (epl : m.pl = 2) (w : World)  : Calls Try.prog 32 #[(.agg (machL (.slice a c.caps.length cap) (.slice a2 c.starts.length cap2) c.threads m).toArray), .agg #[.int .u64 b, .bool true, .bool q, .slice aa n ac]] w fun e w' => e = .returned (.agg (machL (.slice a c.caps.length cap) (.slice a2 c.starts.length cap2) c.threads { m with pl := 0, ok := 1, ov := 0 }).toArray) ∧ Below w.heap.size w w' := by
  obtain ⟨W, hW, HB, R0, R1, R2, hz⟩ := three_new w (.cells #[.int .i64 5, .int .i64 2, .slice a c.caps.length cap, .slice a2 c.starts.length cap2, .int .i64 c.threads, .int .i64 m.chan, .int .i64 m.thr, .int .i64 m.idx, .int .i64 m.kind, .int .u64 m.val, .int .u64 m.t, .int .u64 m.h, .int .i64 m.ok, .int .u64 m.ov] 58) (.cells #[.int .u64 b, .bool true, .bool q, .slice aa n ac] 53) (.cells #[.int .i64 0, .int .i64 0, .slice none 0 0, .slice none 0 0, .int .i64 0, .int .i64 0, .int .i64 0, .int .i64 0, .int .i64 0, .int .u64 0, .int .u64 0, .int .u64 0, .int .i64 0, .int .u64 0] 58)
  have HW := Lib.hid hW
  clear hW
  unfold machL
  try dsimp only
  rw [ewhat]
  clear ewhat
  rw [epl]
  clear epl
  have TE := Lib.hid fun w' => machEnd_any a a2 cap cap2 c { m with what := 5, pl := 2 } 1 0 w'
  unfold machL at TE
  try dsimp only at TE
  go_enter Try.func32, Try.ntmps32
  go_upto_region 1 with fail
  rw [HW.out]
  clear HW
  obtain ⟨x0, x1, x2, x3, x4, x5, x6, x7, x8, x9, x10, x11, x12, x13⟩ := rowc14 R0.out
  obtain ⟨y0, y1, y2, y3⟩ := rowc4 R1.out
  go_wp2_with fail
  refine (TE.out _).mono ?_; rintro e w1 ⟨rfl, hb1⟩
  have P1 := keepR hb1 R0
  have A1 := keepR hb1 R1
  have Z1 := keepR hb1 R2
  have HB1 := Lib.hid (below_then HB.out hb1)
  clear x0 x1 x2 x3 x4 x5 x6 x7 x8 x9 x10 x11 x12 x13 y0 y1 y2 y3
  clear hb1
  obtain ⟨x0, x1, x2, x3, x4, x5, x6, x7, x8, x9, x10, x11, x12, x13⟩ := rowc14 P1.out
  obtain ⟨y0, y1, y2, y3⟩ := rowc4 A1.out
  clear x0 x1 x2 x3 x4 x5 x6 x7 x8 x9 x10 x11 x12 x13 y0 y1 y2 y3
  go_wp2_with (refine wpList_store_row rfl 58 _ _ rfl (w.heap.size + 2) _ rfl rfl 58 #[.int .i64 0, .int .i64 0, .slice none 0 0, .slice none 0 0, .int .i64 0, .int .i64 0, .int .i64 0, .int .i64 0, .int .i64 0, .int .u64 0, .int .u64 0, .int .u64 0, .int .i64 0, .int .u64 0] Z1.out (by kernel_rfl) rfl (by simp [Value.oneCell']) ?_)
  refine bodyPost_ret (v := .agg #[.int .i64 5, .int .i64 0, .slice a c.caps.length cap, .slice a2 c.starts.length cap2, .int .i64 c.threads, .int .i64 m.chan, .int .i64 m.thr, .int .i64 m.idx, .int .i64 m.kind, .int .u64 m.val, .int .u64 m.t, .int .u64 m.h, .int .i64 1, .int .u64 0]) (results_cell_row Try.results32 _ _ (w.heap.size + 2) 58 _ (0, 0) _ rfl (setRow_heap _ _ _ _ 58 (0, 0) Z1.out) Try.underlying58 rfl (by kernel_rfl)) rfl ?_
  exact ⟨rfl, row_below HB1.out (by omega) _⟩
set_option maxRecDepth 100000 in
set_option maxHeartbeats 16000000 in
theorem machShut_2n (a a2 : Option Addr) (cap cap2 : Nat) (c : ConfM) (m : MachM) (b : Int) (q : Bool) (aa : Option Addr) (n ac : Nat) (ewhat : m.what = 5) (epl : m.pl = 2) (w : World)  : Calls Try.prog 32 #[(.agg (machL (.slice a c.caps.length cap) (.slice a2 c.starts.length cap2) c.threads m).toArray), .agg #[.int .u64 b, .bool false, .bool q, .slice aa n ac]] w fun e w' => e = .returned (.agg (machL (.slice a c.caps.length cap) (.slice a2 c.starts.length cap2) c.threads { m with pl := 1 }).toArray) ∧ Below w.heap.size w w' := by
  obtain ⟨W, hW, HB, R0, R1, R2, hz⟩ := three_new w (.cells #[.int .i64 5, .int .i64 2, .slice a c.caps.length cap, .slice a2 c.starts.length cap2, .int .i64 c.threads, .int .i64 m.chan, .int .i64 m.thr, .int .i64 m.idx, .int .i64 m.kind, .int .u64 m.val, .int .u64 m.t, .int .u64 m.h, .int .i64 m.ok, .int .u64 m.ov] 58) (.cells #[.int .u64 b, .bool false, .bool q, .slice aa n ac] 53) (.cells #[.int .i64 0, .int .i64 0, .slice none 0 0, .slice none 0 0, .int .i64 0, .int .i64 0, .int .i64 0, .int .i64 0, .int .i64 0, .int .u64 0, .int .u64 0, .int .u64 0, .int .i64 0, .int .u64 0] 58)
  have HW := Lib.hid hW
  clear hW
  unfold machL
  try dsimp only
  rw [ewhat]
  clear ewhat
  rw [epl]
  clear epl
  have TT := Lib.hid fun w' => machTo_any a a2 cap cap2 c { m with what := 5, pl := 2 } 1 w'
  unfold machL at TT
  try dsimp only at TT
  go_enter Try.func32, Try.ntmps32
  go_upto_region 1 with fail
  rw [HW.out]
  clear HW
  obtain ⟨x0, x1, x2, x3, x4, x5, x6, x7, x8, x9, x10, x11, x12, x13⟩ := rowc14 R0.out
  obtain ⟨y0, y1, y2, y3⟩ := rowc4 R1.out
  go_wp2_with fail
  refine (TT.out _).mono ?_; rintro e w1 ⟨rfl, hb1⟩
  have P1 := keepR hb1 R0
  have A1 := keepR hb1 R1
  have Z1 := keepR hb1 R2
  have HB1 := Lib.hid (below_then HB.out hb1)
  clear x0 x1 x2 x3 x4 x5 x6 x7 x8 x9 x10 x11 x12 x13 y0 y1 y2 y3
  clear hb1
  obtain ⟨x0, x1, x2, x3, x4, x5, x6, x7, x8, x9, x10, x11, x12, x13⟩ := rowc14 P1.out
  obtain ⟨y0, y1, y2, y3⟩ := rowc4 A1.out
  clear x0 x1 x2 x3 x4 x5 x6 x7 x8 x9 x10 x11 x12 x13 y0 y1 y2 y3
  go_wp2_with (refine wpList_store_row rfl 58 _ _ rfl (w.heap.size + 2) _ rfl rfl 58 #[.int .i64 0, .int .i64 0, .slice none 0 0, .slice none 0 0, .int .i64 0, .int .i64 0, .int .i64 0, .int .i64 0, .int .i64 0, .int .u64 0, .int .u64 0, .int .u64 0, .int .i64 0, .int .u64 0] Z1.out (by kernel_rfl) rfl (by simp [Value.oneCell']) ?_)
  refine bodyPost_ret (v := .agg #[.int .i64 5, .int .i64 1, .slice a c.caps.length cap, .slice a2 c.starts.length cap2, .int .i64 c.threads, .int .i64 m.chan, .int .i64 m.thr, .int .i64 m.idx, .int .i64 m.kind, .int .u64 m.val, .int .u64 m.t, .int .u64 m.h, .int .i64 m.ok, .int .u64 m.ov]) (results_cell_row Try.results32 _ _ (w.heap.size + 2) 58 _ (0, 0) _ rfl (setRow_heap _ _ _ _ 58 (0, 0) Z1.out) Try.underlying58 rfl (by kernel_rfl)) rfl ?_
  exact ⟨rfl, row_below HB1.out (by omega) _⟩
set_option maxRecDepth 100000 in
set_option maxHeartbeats 16000000 in
theorem machCount_1 (a a2 : Option Addr) (cap cap2 : Nat) (c : ConfM) (m : MachM) (b : Int) (p q : Bool) (aa : Option Addr) (n ac : Nat) (ewhat : m.what = 6) (epl : m.pl = 1) (w : World)  : Calls Try.prog 33 #[(.agg (machL (.slice a c.caps.length cap) (.slice a2 c.starts.length cap2) c.threads m).toArray), .agg #[.int .u64 b, .bool p, .bool q, .slice aa n ac]] w fun e w' => e = .returned (.agg (machL (.slice a c.caps.length cap) (.slice a2 c.starts.length cap2) c.threads { m with t := b, pl := 2 }).toArray) ∧ Below w.heap.size w w' := by
  obtain ⟨W, hW, HB, R0, R1, R2, hz⟩ := three_new w (.cells #[.int .i64 6, .int .i64 1, .slice a c.caps.length cap, .slice a2 c.starts.length cap2, .int .i64 c.threads, .int .i64 m.chan, .int .i64 m.thr, .int .i64 m.idx, .int .i64 m.kind, .int .u64 m.val, .int .u64 m.t, .int .u64 m.h, .int .i64 m.ok, .int .u64 m.ov] 58) (.cells #[.int .u64 b, .bool p, .bool q, .slice aa n ac] 53) (.cells #[.int .i64 0, .int .i64 0, .slice none 0 0, .slice none 0 0, .int .i64 0, .int .i64 0, .int .i64 0, .int .i64 0, .int .i64 0, .int .u64 0, .int .u64 0, .int .u64 0, .int .i64 0, .int .u64 0] 58)
  have HW := Lib.hid hW
  clear hW
  unfold machL
  try dsimp only
  rw [ewhat]
  clear ewhat
  rw [epl]
  clear epl
  have TT := Lib.hid fun w' => machTo_any a a2 cap cap2 c { m with what := 6, pl := 1, t := b } 2 w'
  unfold machL at TT
  try dsimp only at TT
  go_enter Try.func33, Try.ntmps33
  go_upto_region 1 with fail
  rw [HW.out]
  clear HW
  obtain ⟨x0, x1, x2, x3, x4, x5, x6, x7, x8, x9, x10, x11, x12, x13⟩ := rowc14 R0.out
  obtain ⟨y0, y1, y2, y3⟩ := rowc4 R1.out
  go_upto_region 3 with fail
  have fz := frozen_of_row W w.heap.size 10 _ _ R0.out
  have r1 := heap_setCell_same W w.heap.size 10 _ _ (.int .u64 b) R0.out
  simp at r1
  have P1 := Lib.hid r1
  clear r1
  have A1 := Lib.hid ((heap_setCell_other W ⟨w.heap.size, 10, none⟩ (w.heap.size + 1) (.int .u64 b) (by show w.heap.size + 1 ≠ w.heap.size; omega)).trans R1.out)
  have Z1 := Lib.hid ((heap_setCell_other W ⟨w.heap.size, 10, none⟩ (w.heap.size + 2) (.int .u64 b) (by show w.heap.size + 2 ≠ w.heap.size; omega)).trans R2.out)
  have HB1 := Lib.hid (HB.out.setCell (p := ⟨w.heap.size, 10, none⟩) (Nat.le_refl _) (.int .u64 b))
  obtain ⟨W1, hW1⟩ : ∃ W1, W.setCell ⟨w.heap.size, 10, none⟩ (.int .u64 b) = W1 := ⟨_, rfl⟩
  rw [hW1] at P1 A1 Z1 HB1
  have HW1 := Lib.hid hW1
  clear hW1
  go_upto_region 4 with fail
  rw [HW1.out]
  clear x0 x1 x2 x3 x4 x5 x6 x7 x8 x9 x10 x11 x12 x13 y0 y1 y2 y3
  clear fz HW1
  obtain ⟨x0, x1, x2, x3, x4, x5, x6, x7, x8, x9, x10, x11, x12, x13⟩ := rowc14 P1.out
  obtain ⟨y0, y1, y2, y3⟩ := rowc4 A1.out
  go_wp2_with fail
  refine (TT.out _).mono ?_; rintro e w2 ⟨rfl, hb2⟩
  have P2 := keepR hb2 P1
  have A2 := keepR hb2 A1
  have Z2 := keepR hb2 Z1
  have HB2 := Lib.hid (below_then HB1.out hb2)
  clear x0 x1 x2 x3 x4 x5 x6 x7 x8 x9 x10 x11 x12 x13 y0 y1 y2 y3
  clear hb2
  obtain ⟨x0, x1, x2, x3, x4, x5, x6, x7, x8, x9, x10, x11, x12, x13⟩ := rowc14 P2.out
  obtain ⟨y0, y1, y2, y3⟩ := rowc4 A2.out
  clear x0 x1 x2 x3 x4 x5 x6 x7 x8 x9 x10 x11 x12 x13 y0 y1 y2 y3
  go_wp2_with (refine wpList_store_row rfl 58 _ _ rfl (w.heap.size + 2) _ rfl rfl 58 #[.int .i64 0, .int .i64 0, .slice none 0 0, .slice none 0 0, .int .i64 0, .int .i64 0, .int .i64 0, .int .i64 0, .int .i64 0, .int .u64 0, .int .u64 0, .int .u64 0, .int .i64 0, .int .u64 0] Z2.out (by kernel_rfl) rfl (by simp [Value.oneCell']) ?_)
  refine bodyPost_ret (v := .agg #[.int .i64 6, .int .i64 2, .slice a c.caps.length cap, .slice a2 c.starts.length cap2, .int .i64 c.threads, .int .i64 m.chan, .int .i64 m.thr, .int .i64 m.idx, .int .i64 m.kind, .int .u64 m.val, .int .u64 b, .int .u64 m.h, .int .i64 m.ok, .int .u64 m.ov]) (results_cell_row Try.results33 _ _ (w.heap.size + 2) 58 _ (0, 0) _ rfl (setRow_heap _ _ _ _ 58 (0, 0) Z2.out) Try.underlying58 rfl (by kernel_rfl)) rfl ?_
  exact ⟨rfl, row_below HB2.out (by omega) _⟩
set_option maxRecDepth 100000 in
set_option maxHeartbeats 16000000 in
theorem machCount_2 (a a2 : Option Addr) (cap cap2 : Nat) (c : ConfM) (m : MachM) (b : Int) (p q : Bool) (aa : Option Addr) (n ac : Nat) (ewhat : m.what = 6) (epl : m.pl = 2) (w : World)  : Calls Try.prog 33 #[(.agg (machL (.slice a c.caps.length cap) (.slice a2 c.starts.length cap2) c.threads m).toArray), .agg #[.int .u64 b, .bool p, .bool q, .slice aa n ac]] w fun e w' => e = .returned (.agg (machL (.slice a c.caps.length cap) (.slice a2 c.starts.length cap2) c.threads { m with h := b, pl := 3 }).toArray) ∧ Below w.heap.size w w' := by
  obtain ⟨W, hW, HB, R0, R1, R2, hz⟩ := three_new w (.cells #[.int .i64 6, .int .i64 2, .slice a c.caps.length cap, .slice a2 c.starts.length cap2, .int .i64 c.threads, .int .i64 m.chan, .int .i64 m.thr, .int .i64 m.idx, .int .i64 m.kind, .int .u64 m.val, .int .u64 m.t, .int .u64 m.h, .int .i64 m.ok, .int .u64 m.ov] 58) (.cells #[.int .u64 b, .bool p, .bool q, .slice aa n ac] 53) (.cells #[.int .i64 0, .int .i64 0, .slice none 0 0, .slice none 0 0, .int .i64 0, .int .i64 0, .int .i64 0, .int .i64 0, .int .i64 0, .int .u64 0, .int .u64 0, .int .u64 0, .int .i64 0, .int .u64 0] 58)
  have HW := Lib.hid hW
  clear hW
  unfold machL
  try dsimp only
  rw [ewhat]
  clear ewhat
  rw [epl]
  clear epl
  have TT := Lib.hid fun w' => machTo_any a a2 cap cap2 c { m with what := 6, pl := 2, h := b } 3 w'
  unfold machL at TT
  try dsimp only at TT
  go_enter Try.func33, Try.ntmps33
  go_upto_region 1 with fail
  rw [HW.out]
  clear HW
  obtain ⟨x0, x1, x2, x3, x4, x5, x6, x7, x8, x9, x10, x11, x12, x13⟩ := rowc14 R0.out
  obtain ⟨y0, y1, y2, y3⟩ := rowc4 R1.out
  go_upto_region 6 with fail
  have fz := frozen_of_row W w.heap.size 11 _ _ R0.out
  have r1 := heap_setCell_same W w.heap.size 11 _ _ (.int .u64 b) R0.out
  simp at r1
  have P1 := Lib.hid r1
  clear r1
  have A1 := Lib.hid ((heap_setCell_other W ⟨w.heap.size, 11, none⟩ (w.heap.size + 1) (.int .u64 b) (by show w.heap.size + 1 ≠ w.heap.size; omega)).trans R1.out)
  have Z1 := Lib.hid ((heap_setCell_other W ⟨w.heap.size, 11, none⟩ (w.heap.size + 2) (.int .u64 b) (by show w.heap.size + 2 ≠ w.heap.size; omega)).trans R2.out)
  have HB1 := Lib.hid (HB.out.setCell (p := ⟨w.heap.size, 11, none⟩) (Nat.le_refl _) (.int .u64 b))
  obtain ⟨W1, hW1⟩ : ∃ W1, W.setCell ⟨w.heap.size, 11, none⟩ (.int .u64 b) = W1 := ⟨_, rfl⟩
  rw [hW1] at P1 A1 Z1 HB1
  have HW1 := Lib.hid hW1
  clear hW1
  go_upto_region 7 with fail
  rw [HW1.out]
  clear x0 x1 x2 x3 x4 x5 x6 x7 x8 x9 x10 x11 x12 x13 y0 y1 y2 y3
  clear fz HW1
  obtain ⟨x0, x1, x2, x3, x4, x5, x6, x7, x8, x9, x10, x11, x12, x13⟩ := rowc14 P1.out
  obtain ⟨y0, y1, y2, y3⟩ := rowc4 A1.out
  go_wp2_with fail
  refine (TT.out _).mono ?_; rintro e w2 ⟨rfl, hb2⟩
  have P2 := keepR hb2 P1
  have A2 := keepR hb2 A1
  have Z2 := keepR hb2 Z1
  have HB2 := Lib.hid (below_then HB1.out hb2)
  clear x0 x1 x2 x3 x4 x5 x6 x7 x8 x9 x10 x11 x12 x13 y0 y1 y2 y3
  clear hb2
  obtain ⟨x0, x1, x2, x3, x4, x5, x6, x7, x8, x9, x10, x11, x12, x13⟩ := rowc14 P2.out
  obtain ⟨y0, y1, y2, y3⟩ := rowc4 A2.out
  clear x0 x1 x2 x3 x4 x5 x6 x7 x8 x9 x10 x11 x12 x13 y0 y1 y2 y3
  go_wp2_with (refine wpList_store_row rfl 58 _ _ rfl (w.heap.size + 2) _ rfl rfl 58 #[.int .i64 0, .int .i64 0, .slice none 0 0, .slice none 0 0, .int .i64 0, .int .i64 0, .int .i64 0, .int .i64 0, .int .i64 0, .int .u64 0, .int .u64 0, .int .u64 0, .int .i64 0, .int .u64 0] Z2.out (by kernel_rfl) rfl (by simp [Value.oneCell']) ?_)
  refine bodyPost_ret (v := .agg #[.int .i64 6, .int .i64 3, .slice a c.caps.length cap, .slice a2 c.starts.length cap2, .int .i64 c.threads, .int .i64 m.chan, .int .i64 m.thr, .int .i64 m.idx, .int .i64 m.kind, .int .u64 m.val, .int .u64 m.t, .int .u64 b, .int .i64 m.ok, .int .u64 m.ov]) (results_cell_row Try.results33 _ _ (w.heap.size + 2) 58 _ (0, 0) _ rfl (setRow_heap _ _ _ _ 58 (0, 0) Z2.out) Try.underlying58 rfl (by kernel_rfl)) rfl ?_
  exact ⟨rfl, row_below HB2.out (by omega) _⟩
set_option maxRecDepth 100000 in
set_option maxHeartbeats 16000000 in
theorem machCount_3n (a a2 : Option Addr) (cap cap2 : Nat) (c : ConfM) (m : MachM) (b : Int) (p q : Bool) (aa : Option Addr) (n ac : Nat) (ewhat : m.what = 6) (epl : m.pl = 3) (w : World) (hne : ¬ b = m.t)  : Calls Try.prog 33 #[(.agg (machL (.slice a c.caps.length cap) (.slice a2 c.starts.length cap2) c.threads m).toArray), .agg #[.int .u64 b, .bool p, .bool q, .slice aa n ac]] w fun e w' => e = .returned (.agg (machL (.slice a c.caps.length cap) (.slice a2 c.starts.length cap2) c.threads { m with t := b, pl := 2 }).toArray) ∧ Below w.heap.size w w' := by
  obtain ⟨W, hW, HB, R0, R1, R2, hz⟩ := three_new w (.cells #[.int .i64 6, .int .i64 3, .slice a c.caps.length cap, .slice a2 c.starts.length cap2, .int .i64 c.threads, .int .i64 m.chan, .int .i64 m.thr, .int .i64 m.idx, .int .i64 m.kind, .int .u64 m.val, .int .u64 m.t, .int .u64 m.h, .int .i64 m.ok, .int .u64 m.ov] 58) (.cells #[.int .u64 b, .bool p, .bool q, .slice aa n ac] 53) (.cells #[.int .i64 0, .int .i64 0, .slice none 0 0, .slice none 0 0, .int .i64 0, .int .i64 0, .int .i64 0, .int .i64 0, .int .i64 0, .int .u64 0, .int .u64 0, .int .u64 0, .int .i64 0, .int .u64 0] 58)
  have HW := Lib.hid hW
  clear hW
  unfold machL
  try dsimp only
  rw [ewhat]
  clear ewhat
  rw [epl]
  clear epl
  have TT := Lib.hid fun w' => machTo_any a a2 cap cap2 c { m with what := 6, pl := 3, t := b } 2 w'
  unfold machL at TT
  try dsimp only at TT
  go_enter Try.func33, Try.ntmps33
  go_upto_region 1 with fail
  rw [HW.out]
  clear HW
  obtain ⟨x0, x1, x2, x3, x4, x5, x6, x7, x8, x9, x10, x11, x12, x13⟩ := rowc14 R0.out
  obtain ⟨y0, y1, y2, y3⟩ := rowc4 R1.out
  go_upto_region 10 with fail
  have fz := frozen_of_row W w.heap.size 10 _ _ R0.out
  have r1 := heap_setCell_same W w.heap.size 10 _ _ (.int .u64 b) R0.out
  simp at r1
  have P1 := Lib.hid r1
  clear r1
  have A1 := Lib.hid ((heap_setCell_other W ⟨w.heap.size, 10, none⟩ (w.heap.size + 1) (.int .u64 b) (by show w.heap.size + 1 ≠ w.heap.size; omega)).trans R1.out)
  have Z1 := Lib.hid ((heap_setCell_other W ⟨w.heap.size, 10, none⟩ (w.heap.size + 2) (.int .u64 b) (by show w.heap.size + 2 ≠ w.heap.size; omega)).trans R2.out)
  have HB1 := Lib.hid (HB.out.setCell (p := ⟨w.heap.size, 10, none⟩) (Nat.le_refl _) (.int .u64 b))
  obtain ⟨W1, hW1⟩ : ∃ W1, W.setCell ⟨w.heap.size, 10, none⟩ (.int .u64 b) = W1 := ⟨_, rfl⟩
  rw [hW1] at P1 A1 Z1 HB1
  have HW1 := Lib.hid hW1
  clear hW1
  go_upto_region 11 with fail
  rw [HW1.out]
  clear x0 x1 x2 x3 x4 x5 x6 x7 x8 x9 x10 x11 x12 x13 y0 y1 y2 y3
  clear fz HW1
  obtain ⟨x0, x1, x2, x3, x4, x5, x6, x7, x8, x9, x10, x11, x12, x13⟩ := rowc14 P1.out
  obtain ⟨y0, y1, y2, y3⟩ := rowc4 A1.out
  go_wp2_with fail
  refine (TT.out _).mono ?_; rintro e w2 ⟨rfl, hb2⟩
  have P2 := keepR hb2 P1
  have A2 := keepR hb2 A1
  have Z2 := keepR hb2 Z1
  have HB2 := Lib.hid (below_then HB1.out hb2)
  clear x0 x1 x2 x3 x4 x5 x6 x7 x8 x9 x10 x11 x12 x13 y0 y1 y2 y3
  clear hb2
  obtain ⟨x0, x1, x2, x3, x4, x5, x6, x7, x8, x9, x10, x11, x12, x13⟩ := rowc14 P2.out
  obtain ⟨y0, y1, y2, y3⟩ := rowc4 A2.out
  clear x0 x1 x2 x3 x4 x5 x6 x7 x8 x9 x10 x11 x12 x13 y0 y1 y2 y3
  go_wp2_with (refine wpList_store_row rfl 58 _ _ rfl (w.heap.size + 2) _ rfl rfl 58 #[.int .i64 0, .int .i64 0, .slice none 0 0, .slice none 0 0, .int .i64 0, .int .i64 0, .int .i64 0, .int .i64 0, .int .i64 0, .int .u64 0, .int .u64 0, .int .u64 0, .int .i64 0, .int .u64 0] Z2.out (by kernel_rfl) rfl (by simp [Value.oneCell']) ?_)
  refine bodyPost_ret (v := .agg #[.int .i64 6, .int .i64 2, .slice a c.caps.length cap, .slice a2 c.starts.length cap2, .int .i64 c.threads, .int .i64 m.chan, .int .i64 m.thr, .int .i64 m.idx, .int .i64 m.kind, .int .u64 m.val, .int .u64 b, .int .u64 m.h, .int .i64 m.ok, .int .u64 m.ov]) (results_cell_row Try.results33 _ _ (w.heap.size + 2) 58 _ (0, 0) _ rfl (setRow_heap _ _ _ _ 58 (0, 0) Z2.out) Try.underlying58 rfl (by kernel_rfl)) rfl ?_
  exact ⟨rfl, row_below HB2.out (by omega) _⟩
set_option maxRecDepth 100000 in
set_option maxHeartbeats 16000000 in
theorem machCount_3e (a a2 : Option Addr) (cap cap2 : Nat) (c : ConfM) (m : MachM) (b : Int) (p q : Bool) (aa : Option Addr) (n ac : Nat) (ewhat : m.what = 6) (epl : m.pl = 3) (et : m.t = b) (w : World)  : Calls Try.prog 33 #[(.agg (machL (.slice a c.caps.length cap) (.slice a2 c.starts.length cap2) c.threads m).toArray), .agg #[.int .u64 b, .bool p, .bool q, .slice aa n ac]] w fun e w' => e = .returned (.agg (machL (.slice a c.caps.length cap) (.slice a2 c.starts.length cap2) c.threads { m with pl := 0, ok := 9, ov := restI (b / 2) m.h }).toArray) ∧ Below w.heap.size w w' := by
  obtain ⟨W, hW, HB, R0, R1, R2, hz⟩ := three_new w (.cells #[.int .i64 6, .int .i64 3, .slice a c.caps.length cap, .slice a2 c.starts.length cap2, .int .i64 c.threads, .int .i64 m.chan, .int .i64 m.thr, .int .i64 m.idx, .int .i64 m.kind, .int .u64 m.val, .int .u64 b, .int .u64 m.h, .int .i64 m.ok, .int .u64 m.ov] 58) (.cells #[.int .u64 b, .bool p, .bool q, .slice aa n ac] 53) (.cells #[.int .i64 0, .int .i64 0, .slice none 0 0, .slice none 0 0, .int .i64 0, .int .i64 0, .int .i64 0, .int .i64 0, .int .i64 0, .int .u64 0, .int .u64 0, .int .u64 0, .int .i64 0, .int .u64 0] 58)
  have HW := Lib.hid hW
  clear hW
  unfold machL
  try dsimp only
  rw [ewhat]
  clear ewhat
  rw [epl]
  clear epl
  rw [et]
  clear et
  have TSQ := Lib.hid fun w' => machSeq_any a a2 cap cap2 c { m with what := 6, pl := 3, t := b } w'
  unfold machL at TSQ
  try dsimp only at TSQ
  have TE := Lib.hid fun w' => machEnd_any a a2 cap cap2 c { m with what := 6, pl := 3, t := b } 9 (restI (b / 2) m.h) w'
  unfold machL at TE
  try dsimp only at TE
  have TR := Lib.hid fun w' => rrest_any (b / 2) m.h w'
  obtain ⟨nn, hnn⟩ : ∃ nn, restI (b / 2) m.h = nn := ⟨_, rfl⟩
  rw [hnn] at TR TE ⊢
  clear hnn
  go_enter Try.func33, Try.ntmps33
  go_upto_region 1 with fail
  rw [HW.out]
  clear HW
  obtain ⟨x0, x1, x2, x3, x4, x5, x6, x7, x8, x9, x10, x11, x12, x13⟩ := rowc14 R0.out
  obtain ⟨y0, y1, y2, y3⟩ := rowc4 R1.out
  go_upto_region 9 with fail
  clear x0 x1 x2 x3 x4 x5 x6 x7 x8 x9 x10 x11 x12 x13 y0 y1 y2 y3
  have KS : Hid (∀ w', Below W.heap.size W w' → (fun w' : World => w'.cell? ⟨w.heap.size, 0, none⟩ = some (.int .i64 6) ∧ w'.cell? ⟨w.heap.size, 1, none⟩ = some (.int .i64 3) ∧ w'.cell? ⟨w.heap.size, 2, none⟩ = some (.slice a c.caps.length cap) ∧ w'.cell? ⟨w.heap.size, 3, none⟩ = some (.slice a2 c.starts.length cap2) ∧ w'.cell? ⟨w.heap.size, 4, none⟩ = some (.int .i64 c.threads) ∧ w'.cell? ⟨w.heap.size, 5, none⟩ = some (.int .i64 m.chan) ∧ w'.cell? ⟨w.heap.size, 6, none⟩ = some (.int .i64 m.thr) ∧ w'.cell? ⟨w.heap.size, 7, none⟩ = some (.int .i64 m.idx) ∧ w'.cell? ⟨w.heap.size, 8, none⟩ = some (.int .i64 m.kind) ∧ w'.cell? ⟨w.heap.size, 9, none⟩ = some (.int .u64 m.val) ∧ w'.cell? ⟨w.heap.size, 10, none⟩ = some (.int .u64 b) ∧ w'.cell? ⟨w.heap.size, 11, none⟩ = some (.int .u64 m.h) ∧ w'.cell? ⟨w.heap.size, 12, none⟩ = some (.int .i64 m.ok) ∧ w'.cell? ⟨w.heap.size, 13, none⟩ = some (.int .u64 m.ov)) w') := fun w' hb => rowc14 ((hb.block _ (ltR R0)).trans R0.out)
  refine untilK KS 7 8 (by kernel_rfl) rfl ?_
  obtain ⟨u0, hu0, HU0⟩ := drew_pack W
  rw [hu0]
  clear hu0
  have hSU0 := KS.out _ HU0.out
  refine tkU (v := ?_) 0 la0 hSU0 (by kernel_rfl) (fun _ _ _ h => h) rfl ?_ ?_
  rotate_left
  · (intro w hSw; (try dsimp only at hSw); go_simp <;> with_reducible rfl)
  simp only [Act.put, List.setIfInBounds_toArray, List.set_cons_zero, List.set_cons_succ]
  refine tkU (v := ?_) 1 la1 hSU0 (by kernel_rfl) (fun _ _ _ h => h) rfl ?_ ?_
  rotate_left
  · (intro w hSw; (try dsimp only at hSw); go_simp <;> with_reducible rfl)
  simp only [Act.put, List.setIfInBounds_toArray, List.set_cons_zero, List.set_cons_succ]
  refine tkU (v := ?_) 3 la3 hSU0 (by kernel_rfl) (fun _ _ _ h => h) rfl ?_ ?_
  rotate_left
  · (intro w hSw; (try dsimp only at hSw); go_simp <;> with_reducible rfl)
  simp only [Act.put, List.setIfInBounds_toArray, List.set_cons_zero, List.set_cons_succ]
  refine tkU (v := ?_) 4 la4 hSU0 (by kernel_rfl) (fun _ _ _ h => h) rfl ?_ ?_
  rotate_left
  · (intro w hSw; (try dsimp only at hSw); go_simp <;> with_reducible rfl)
  simp only [Act.put, List.setIfInBounds_toArray, List.set_cons_zero, List.set_cons_succ]
  refine wpAnyU_ready (rs := [2]) (by kernel_rfl) rfl ?_
  refine AllReadyU.cons la2 rfl (fun K hK => ?_) ?_
  · go_simp
    go_at_call 56
    refine (TSQ.out _).mono ?_
    rintro e u1 ⟨rfl, hb⟩
    have HU1 := Lib.hid (below_then HU0.out hb)
    clear hb
    refine hK.out _ _ ?_ (fun hSU1 => ?_)
    · exact KS.out _ HU1.out
    clear hK K hSU0
    try simp only [Act.put, List.setIfInBounds_toArray, List.set_cons_zero, List.set_cons_succ]
    refine wpAnyU_ready (rs := [5]) (by kernel_rfl) rfl ?_
    refine AllReadyU.cons la5 rfl (fun K hK => ?_) ?_
    · go_simp
      go_at_call 43
      refine (TR.out _).mono ?_
      rintro e w9 ⟨rfl, rfl⟩
      refine hK.out _ _ ?_ (fun hSU2 => ?_)
      · exact KS.out _ HU1.out
      clear hK K hSU1
      try simp only [Act.put, List.setIfInBounds_toArray, List.set_cons_zero, List.set_cons_succ]
      refine wpAnyU_ready (rs := [6]) (by kernel_rfl) rfl ?_
      refine AllReadyU.cons la6 rfl (fun K hK => ?_) ?_
      · go_simp
        go_at_call 29
        refine (TE.out _).mono ?_
        rintro e u2 ⟨rfl, hb⟩
        have HU2 := Lib.hid (below_then HU1.out hb)
        clear hb
        refine hK.out _ _ ?_ (fun hSU3 => ?_)
        · exact KS.out _ HU2.out
        clear hK K hSU2
        try simp only [Act.put, List.setIfInBounds_toArray, List.set_cons_zero, List.set_cons_succ]
        refine wpAnyU_ready (rs := [7]) (by kernel_rfl) rfl ?_
        refine AllReadyU.free la7 rfl (by kernel_rfl) (fun K hK => ?_) ?_
        · have Z := keepR HU2.out R2
          refine step_store_row rfl 58 _ _ rfl (w.heap.size + 2) _ rfl rfl 58 #[.int .i64 0, .int .i64 0, .slice none 0 0, .slice none 0 0, .int .i64 0, .int .i64 0, .int .i64 0, .int .i64 0, .int .i64 0, .int .u64 0, .int .u64 0, .int .u64 0, .int .i64 0, .int .u64 0] Z.out (by kernel_rfl) rfl (by simp [Value.oneCell']) ?_
          refine hK.out _ _ ?_
          clear hK K hSU3
          try simp only [Act.put, List.setIfInBounds_toArray, List.set_cons_zero, List.set_cons_succ]
          refine wpAnyU_done (by kernel_rfl) ?_ _
          go_wp2_with fail
          refine bodyPost_ret (v := .agg #[.int .i64 6, .int .i64 0, .slice a c.caps.length cap, .slice a2 c.starts.length cap2, .int .i64 c.threads, .int .i64 m.chan, .int .i64 m.thr, .int .i64 m.idx, .int .i64 m.kind, .int .u64 m.val, .int .u64 b, .int .u64 m.h, .int .i64 9, .int .u64 nn]) (results_cell_row Try.results33 _ _ (w.heap.size + 2) 58 _ (0, 0) _ rfl (setRow_heap _ _ _ _ 58 (0, 0) Z.out) Try.underlying58 rfl (by kernel_rfl)) rfl ?_
          exact ⟨rfl, row_below (below_then HB.out HU2.out) (by omega) _⟩
        exact AllReadyU.nil
      exact AllReadyU.nil
    exact AllReadyU.nil
  exact AllReadyU.nil
end Go.Proofs.Ytjnlkemdaffgbaa
