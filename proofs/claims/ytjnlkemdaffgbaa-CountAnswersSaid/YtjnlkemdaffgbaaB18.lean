
import Derived.Test.YtjnlkemdaffgbaaB07
import Derived.Test.YtjnlkemdaffgbaaB16
import Derived.Test.YtjnlkemdaffgbaaB04
set_option linter.unusedVariables false
set_option linter.unusedSimpArgs false
/- The document's small machines: pop behind an answer. -/
namespace Go.Proofs.Ytjnlkemdaffgbaa
open Go.ChangeShapes Go.WideShapes Go.ChangeAt Go.RowKit
set_option maxRecDepth 100000

set_option maxRecDepth 100000 in
set_option maxHeartbeats 16000000 in
theorem machPop_1 (a a2 : Option Addr) (cap cap2 : Nat) (c : ConfM) (m : MachM) (b : Int) (p q : Bool) (aa : Option Addr) (n ac : Nat) (ewhat : m.what = 4) (epl : m.pl = 1) (w : World)  : Calls Try.prog 31 #[(.agg (machL (.slice a c.caps.length cap) (.slice a2 c.starts.length cap2) c.threads m).toArray), .agg #[.int .u64 b, .bool p, .bool q, .slice aa n ac]] w fun e w' => e = .returned (.agg (machL (.slice a c.caps.length cap) (.slice a2 c.starts.length cap2) c.threads { m with h := b, pl := 2 }).toArray) ∧ Below w.heap.size w w' := by
  obtain ⟨W, hW, HB, R0, R1, R2, hz⟩ := three_new w (.cells #[.int .i64 4, .int .i64 1, .slice a c.caps.length cap, .slice a2 c.starts.length cap2, .int .i64 c.threads, .int .i64 m.chan, .int .i64 m.thr, .int .i64 m.idx, .int .i64 m.kind, .int .u64 m.val, .int .u64 m.t, .int .u64 m.h, .int .i64 m.ok, .int .u64 m.ov] 58) (.cells #[.int .u64 b, .bool p, .bool q, .slice aa n ac] 53) (.cells #[.int .i64 0, .int .i64 0, .slice none 0 0, .slice none 0 0, .int .i64 0, .int .i64 0, .int .i64 0, .int .i64 0, .int .i64 0, .int .u64 0, .int .u64 0, .int .u64 0, .int .i64 0, .int .u64 0] 58)
  have HW := Lib.hid hW
  clear hW
  unfold machL
  try dsimp only
  rw [ewhat]
  clear ewhat
  rw [epl]
  clear epl
  have TT := Lib.hid fun w' => machTo_any a a2 cap cap2 c { m with what := 4, pl := 1, h := b } 2 w'
  unfold machL at TT
  try dsimp only at TT
  go_enter Try.func31, Try.ntmps31
  go_upto_region 1 with fail
  rw [HW.out]
  clear HW
  obtain ⟨x0, x1, x2, x3, x4, x5, x6, x7, x8, x9, x10, x11, x12, x13⟩ := rowc14 R0.out
  obtain ⟨y0, y1, y2, y3⟩ := rowc4 R1.out
  go_upto_region 3 with fail
  have fz := frozen_of_row W w.heap.size 11 _ _ R0.out
  have r1 := heap_setCell_same W w.heap.size 11 _ _ (.int .u64 b) R0.out
  simp at r1
  have P1 := Lib.hid r1
  clear r1
  have A1 := Lib.hid ((heap_setCell_other W ⟨w.heap.size, 11, none⟩ (w.heap.size + 1) (.int .u64 b) (by show w.heap.size + 1 ≠ w.heap.size; omega)).trans R1.out)
  have Z1 := Lib.hid ((heap_setCell_other W ⟨w.heap.size, 11, none⟩ (w.heap.size + 2) (.int .u64 b) (by show w.heap.size + 2 ≠ w.heap.size; omega)).trans R2.out)
  have HB1 := Lib.hid (HB.out.setCell (p := ⟨w.heap.size, 11, none⟩) (Nat.le_refl _) (.int .u64 b))
  obtain ⟨W1, hW1⟩ : ∃ W1, W.setCell ⟨w.heap.size, 11, none⟩ (.int .u64 b) = W1 := ⟨_, rfl⟩
  rw [hW1] at P1 A1 Z1 HB1
  have HW1 := Lib.hid hW1
  clear hW1
  go_upto_region 4 with fail
  rw [HW1.out]
  clear x0 x1 x2 x3 x4 x5 x6 x7 x8 x9 x10 x11 x12 x13 y0 y1 y2 y3
  clear fz HW1
  obtain ⟨x0, x1, x2, x3, x4, x5, x6, x7, x8, x9, x10, x11, x12, x13⟩ := rowc14 P1.out
  obtain ⟨y0, y1, y2, y3⟩ := rowc4 A1.out
  go_wp2_with fail
  refine (TT.out _).mono ?_; rintro e w2 ⟨rfl, hb2⟩
  have P2 := keepR hb2 P1
  have A2 := keepR hb2 A1
  have Z2 := keepR hb2 Z1
  have HB2 := Lib.hid (below_then HB1.out hb2)
  clear x0 x1 x2 x3 x4 x5 x6 x7 x8 x9 x10 x11 x12 x13 y0 y1 y2 y3
  clear hb2
  obtain ⟨x0, x1, x2, x3, x4, x5, x6, x7, x8, x9, x10, x11, x12, x13⟩ := rowc14 P2.out
  obtain ⟨y0, y1, y2, y3⟩ := rowc4 A2.out
  clear x0 x1 x2 x3 x4 x5 x6 x7 x8 x9 x10 x11 x12 x13 y0 y1 y2 y3
  go_wp2_with (refine wpList_store_row rfl 58 _ _ rfl (w.heap.size + 2) _ rfl rfl 58 #[.int .i64 0, .int .i64 0, .slice none 0 0, .slice none 0 0, .int .i64 0, .int .i64 0, .int .i64 0, .int .i64 0, .int .i64 0, .int .u64 0, .int .u64 0, .int .u64 0, .int .i64 0, .int .u64 0] Z2.out (by kernel_rfl) rfl (by simp [Value.oneCell']) ?_)
  refine bodyPost_ret (v := .agg #[.int .i64 4, .int .i64 2, .slice a c.caps.length cap, .slice a2 c.starts.length cap2, .int .i64 c.threads, .int .i64 m.chan, .int .i64 m.thr, .int .i64 m.idx, .int .i64 m.kind, .int .u64 m.val, .int .u64 m.t, .int .u64 b, .int .i64 m.ok, .int .u64 m.ov]) (results_cell_row Try.results31 _ _ (w.heap.size + 2) 58 _ (0, 0) _ rfl (setRow_heap _ _ _ _ 58 (0, 0) Z2.out) Try.underlying58 rfl (by kernel_rfl)) rfl ?_
  exact ⟨rfl, row_below HB2.out (by omega) _⟩
set_option maxRecDepth 100000 in
set_option maxHeartbeats 16000000 in
theorem machPop_2z (a a2 : Option Addr) (cap cap2 : Nat) (c : ConfM) (m : MachM) (b : Int) (p q : Bool) (aa : Option Addr) (n ac : Nat) (ewhat : m.what = 4) (epl : m.pl = 2) (w : World) (k : Nat) (hk : k < c.caps.length) (hg : c.good) (hc : m.chan = k) (hv : ConfV w (.agg #[.slice a c.caps.length cap, .slice a2 c.starts.length cap2, .int .i64 c.threads]) c) (hn : restI (b / 2) m.h = 0)  : Calls Try.prog 31 #[(.agg (machL (.slice a c.caps.length cap) (.slice a2 c.starts.length cap2) c.threads m).toArray), .agg #[.int .u64 b, .bool p, .bool q, .slice aa n ac]] w fun e w' => e = .returned (.agg (machL (.slice a c.caps.length cap) (.slice a2 c.starts.length cap2) c.threads { m with t := b, pl := 3 }).toArray) ∧ Below w.heap.size w w' := by
  have HV := Lib.hid hv
  clear hv
  have HKC := Lib.hid hk
  have HGC := Lib.hid hg
  have HCC := Lib.hid hc
  clear hk hg hc
  obtain ⟨W, hW, HB, R0, R1, R2, hz⟩ := three_new w (.cells #[.int .i64 4, .int .i64 2, .slice a c.caps.length cap, .slice a2 c.starts.length cap2, .int .i64 c.threads, .int .i64 m.chan, .int .i64 m.thr, .int .i64 m.idx, .int .i64 m.kind, .int .u64 m.val, .int .u64 m.t, .int .u64 m.h, .int .i64 m.ok, .int .u64 m.ov] 58) (.cells #[.int .u64 b, .bool p, .bool q, .slice aa n ac] 53) (.cells #[.int .i64 0, .int .i64 0, .slice none 0 0, .slice none 0 0, .int .i64 0, .int .i64 0, .int .i64 0, .int .i64 0, .int .i64 0, .int .u64 0, .int .u64 0, .int .u64 0, .int .i64 0, .int .u64 0] 58)
  have HW := Lib.hid hW
  clear hW
  unfold machL
  try dsimp only
  rw [ewhat]
  clear ewhat
  rw [epl]
  clear epl
  have TSQ := Lib.hid fun w' => machSeq_any a a2 cap cap2 c { m with what := 4, pl := 2, t := b } w'
  unfold machL at TSQ
  try dsimp only at TSQ
  have TC := Lib.hid fun w' (hb : Below w.heap.size w w') => machCap_any a a2 cap cap2 c { m with what := 4, pl := 2, t := b } k HKC.out HGC.out HCC.out w' (HV.out.below hb)
  unfold machL at TC
  try dsimp only at TC
  have TT := Lib.hid fun w' => machTo_any a a2 cap cap2 c { m with what := 4, pl := 2, t := b } 3 w'
  unfold machL at TT
  try dsimp only at TT
  obtain ⟨kc, hkc⟩ : ∃ kc, c.caps.getD k 0 = kc := ⟨_, rfl⟩
  have TR := Lib.hid fun w' => rrest_any (b / 2) m.h w'
  obtain ⟨nn, hnn⟩ : ∃ nn, restI (b / 2) m.h = nn := ⟨_, rfl⟩
  rw [hnn] at TR
  rw [hkc] at TC
  try rw [hnn, hkc] at hn
  try rw [hnn] at hn
  clear hnn hkc
  subst hn
  go_enter Try.func31, Try.ntmps31
  go_upto_region 1 with fail
  rw [HW.out]
  clear HW
  obtain ⟨x0, x1, x2, x3, x4, x5, x6, x7, x8, x9, x10, x11, x12, x13⟩ := rowc14 R0.out
  obtain ⟨y0, y1, y2, y3⟩ := rowc4 R1.out
  go_upto_region 6 with fail
  have fz := frozen_of_row W w.heap.size 10 _ _ R0.out
  have r1 := heap_setCell_same W w.heap.size 10 _ _ (.int .u64 b) R0.out
  simp at r1
  have P1 := Lib.hid r1
  clear r1
  have A1 := Lib.hid ((heap_setCell_other W ⟨w.heap.size, 10, none⟩ (w.heap.size + 1) (.int .u64 b) (by show w.heap.size + 1 ≠ w.heap.size; omega)).trans R1.out)
  have Z1 := Lib.hid ((heap_setCell_other W ⟨w.heap.size, 10, none⟩ (w.heap.size + 2) (.int .u64 b) (by show w.heap.size + 2 ≠ w.heap.size; omega)).trans R2.out)
  have HB1 := Lib.hid (HB.out.setCell (p := ⟨w.heap.size, 10, none⟩) (Nat.le_refl _) (.int .u64 b))
  obtain ⟨W1, hW1⟩ : ∃ W1, W.setCell ⟨w.heap.size, 10, none⟩ (.int .u64 b) = W1 := ⟨_, rfl⟩
  rw [hW1] at P1 A1 Z1 HB1
  have HW1 := Lib.hid hW1
  clear hW1
  go_upto_region 7 with fail
  rw [HW1.out]
  clear x0 x1 x2 x3 x4 x5 x6 x7 x8 x9 x10 x11 x12 x13 y0 y1 y2 y3
  clear fz HW1
  obtain ⟨x0, x1, x2, x3, x4, x5, x6, x7, x8, x9, x10, x11, x12, x13⟩ := rowc14 P1.out
  obtain ⟨y0, y1, y2, y3⟩ := rowc4 A1.out
  go_upto_region 7 with fail
  have X0 := ext_cell _ _ (ltR P1) _ x0
  have X1 := ext_cell _ _ (ltR P1) _ x1
  have X2 := ext_cell _ _ (ltR P1) _ x2
  have X3 := ext_cell _ _ (ltR P1) _ x3
  have X4 := ext_cell _ _ (ltR P1) _ x4
  have X5 := ext_cell _ _ (ltR P1) _ x5
  have X6 := ext_cell _ _ (ltR P1) _ x6
  have X7 := ext_cell _ _ (ltR P1) _ x7
  have X8 := ext_cell _ _ (ltR P1) _ x8
  have X9 := ext_cell _ _ (ltR P1) _ x9
  have X10 := ext_cell _ _ (ltR P1) _ x10
  have X11 := ext_cell _ _ (ltR P1) _ x11
  have X12 := ext_cell _ _ (ltR P1) _ x12
  have X13 := ext_cell _ _ (ltR P1) _ x13
  have Y0 := ext_cell _ _ (ltR A1) _ y0
  have Y1 := ext_cell _ _ (ltR A1) _ y1
  have Y2 := ext_cell _ _ (ltR A1) _ y2
  have Y3 := ext_cell _ _ (ltR A1) _ y3
  clear x0 x1 x2 x3 x4 x5 x6 x7 x8 x9 x10 x11 x12 x13 y0 y1 y2 y3
  refine wp_region_ext W1 (by kernel_rfl) (by kernel_rfl) (Below.refl _ _) ?_
  repeat (go_big_quiet_step (first
    | (go_at_call 56; with_reducible exact calls_ext (TSQ.out _))
    | (go_at_call 43; with_reducible exact calls_ext ((TR.out _).mono (fun e w' h => ⟨h.1, h.2 ▸ Below.refl _ _⟩)))))
  refine wpQuiet_nil ?_
  intro _ hw'
  obtain ⟨n9, rfl⟩ := hw'
  have P2 := keepR n9.below P1
  have A2 := keepR n9.below A1
  have Z2 := keepR n9.below Z1
  have HB2 := Lib.hid (below_then HB1.out n9.below)
  generalize n9.wd = w2 at *
  clear X0 X1 X2 X3 X4 X5 X6 X7 X8 X9 X10 X11 X12 X13 Y0 Y1 Y2 Y3
  obtain ⟨x0, x1, x2, x3, x4, x5, x6, x7, x8, x9, x10, x11, x12, x13⟩ := rowc14 P2.out
  obtain ⟨y0, y1, y2, y3⟩ := rowc4 A2.out
  go_wp2_with fail
  refine (TT.out _).mono ?_; rintro e w3 ⟨rfl, hb3⟩
  have P3 := keepR hb3 P2
  have A3 := keepR hb3 A2
  have Z3 := keepR hb3 Z2
  have HB3 := Lib.hid (below_then HB2.out hb3)
  clear x0 x1 x2 x3 x4 x5 x6 x7 x8 x9 x10 x11 x12 x13 y0 y1 y2 y3
  clear hb3
  obtain ⟨x0, x1, x2, x3, x4, x5, x6, x7, x8, x9, x10, x11, x12, x13⟩ := rowc14 P3.out
  obtain ⟨y0, y1, y2, y3⟩ := rowc4 A3.out
  clear x0 x1 x2 x3 x4 x5 x6 x7 x8 x9 x10 x11 x12 x13 y0 y1 y2 y3
  go_wp2_with (refine wpList_store_row rfl 58 _ _ rfl (w.heap.size + 2) _ rfl rfl 58 #[.int .i64 0, .int .i64 0, .slice none 0 0, .slice none 0 0, .int .i64 0, .int .i64 0, .int .i64 0, .int .i64 0, .int .i64 0, .int .u64 0, .int .u64 0, .int .u64 0, .int .i64 0, .int .u64 0] Z3.out (by kernel_rfl) rfl (by simp [Value.oneCell']) ?_)
  refine bodyPost_ret (v := .agg #[.int .i64 4, .int .i64 3, .slice a c.caps.length cap, .slice a2 c.starts.length cap2, .int .i64 c.threads, .int .i64 m.chan, .int .i64 m.thr, .int .i64 m.idx, .int .i64 m.kind, .int .u64 m.val, .int .u64 b, .int .u64 m.h, .int .i64 m.ok, .int .u64 m.ov]) (results_cell_row Try.results31 _ _ (w.heap.size + 2) 58 _ (0, 0) _ rfl (setRow_heap _ _ _ _ 58 (0, 0) Z3.out) Try.underlying58 rfl (by kernel_rfl)) rfl ?_
  exact ⟨rfl, row_below HB3.out (by omega) _⟩
set_option maxRecDepth 100000 in
set_option maxHeartbeats 16000000 in
theorem machPop_2g (a a2 : Option Addr) (cap cap2 : Nat) (c : ConfM) (m : MachM) (b : Int) (p q : Bool) (aa : Option Addr) (n ac : Nat) (ewhat : m.what = 4) (epl : m.pl = 2) (w : World) (k : Nat) (hk : k < c.caps.length) (hg : c.good) (hc : m.chan = k) (hv : ConfV w (.agg #[.slice a c.caps.length cap, .slice a2 c.starts.length cap2, .int .i64 c.threads]) c) (hn : c.caps.getD k 0 < restI (b / 2) m.h ∧ ¬ restI (b / 2) m.h = 0)  : Calls Try.prog 31 #[(.agg (machL (.slice a c.caps.length cap) (.slice a2 c.starts.length cap2) c.threads m).toArray), .agg #[.int .u64 b, .bool p, .bool q, .slice aa n ac]] w fun e w' => e = .returned (.agg (machL (.slice a c.caps.length cap) (.slice a2 c.starts.length cap2) c.threads { m with t := b, pl := 1 }).toArray) ∧ Below w.heap.size w w' := by
  have HV := Lib.hid hv
  clear hv
  have HKC := Lib.hid hk
  have HGC := Lib.hid hg
  have HCC := Lib.hid hc
  clear hk hg hc
  obtain ⟨W, hW, HB, R0, R1, R2, hz⟩ := three_new w (.cells #[.int .i64 4, .int .i64 2, .slice a c.caps.length cap, .slice a2 c.starts.length cap2, .int .i64 c.threads, .int .i64 m.chan, .int .i64 m.thr, .int .i64 m.idx, .int .i64 m.kind, .int .u64 m.val, .int .u64 m.t, .int .u64 m.h, .int .i64 m.ok, .int .u64 m.ov] 58) (.cells #[.int .u64 b, .bool p, .bool q, .slice aa n ac] 53) (.cells #[.int .i64 0, .int .i64 0, .slice none 0 0, .slice none 0 0, .int .i64 0, .int .i64 0, .int .i64 0, .int .i64 0, .int .i64 0, .int .u64 0, .int .u64 0, .int .u64 0, .int .i64 0, .int .u64 0] 58)
  have HW := Lib.hid hW
  clear hW
  unfold machL
  try dsimp only
  rw [ewhat]
  clear ewhat
  rw [epl]
  clear epl
  have TSQ := Lib.hid fun w' => machSeq_any a a2 cap cap2 c { m with what := 4, pl := 2, t := b } w'
  unfold machL at TSQ
  try dsimp only at TSQ
  have TC := Lib.hid fun w' (hb : Below w.heap.size w w') => machCap_any a a2 cap cap2 c { m with what := 4, pl := 2, t := b } k HKC.out HGC.out HCC.out w' (HV.out.below hb)
  unfold machL at TC
  try dsimp only at TC
  have TT := Lib.hid fun w' => machTo_any a a2 cap cap2 c { m with what := 4, pl := 2, t := b } 1 w'
  unfold machL at TT
  try dsimp only at TT
  obtain ⟨kc, hkc⟩ : ∃ kc, c.caps.getD k 0 = kc := ⟨_, rfl⟩
  have TR := Lib.hid fun w' => rrest_any (b / 2) m.h w'
  obtain ⟨nn, hnn⟩ : ∃ nn, restI (b / 2) m.h = nn := ⟨_, rfl⟩
  rw [hnn] at TR
  rw [hkc] at TC
  try rw [hnn, hkc] at hn
  try rw [hnn] at hn
  clear hnn hkc
  obtain ⟨hn1, hn2⟩ := hn
  go_enter Try.func31, Try.ntmps31
  go_upto_region 1 with fail
  rw [HW.out]
  clear HW
  obtain ⟨x0, x1, x2, x3, x4, x5, x6, x7, x8, x9, x10, x11, x12, x13⟩ := rowc14 R0.out
  obtain ⟨y0, y1, y2, y3⟩ := rowc4 R1.out
  go_upto_region 6 with fail
  have fz := frozen_of_row W w.heap.size 10 _ _ R0.out
  have r1 := heap_setCell_same W w.heap.size 10 _ _ (.int .u64 b) R0.out
  simp at r1
  have P1 := Lib.hid r1
  clear r1
  have A1 := Lib.hid ((heap_setCell_other W ⟨w.heap.size, 10, none⟩ (w.heap.size + 1) (.int .u64 b) (by show w.heap.size + 1 ≠ w.heap.size; omega)).trans R1.out)
  have Z1 := Lib.hid ((heap_setCell_other W ⟨w.heap.size, 10, none⟩ (w.heap.size + 2) (.int .u64 b) (by show w.heap.size + 2 ≠ w.heap.size; omega)).trans R2.out)
  have HB1 := Lib.hid (HB.out.setCell (p := ⟨w.heap.size, 10, none⟩) (Nat.le_refl _) (.int .u64 b))
  obtain ⟨W1, hW1⟩ : ∃ W1, W.setCell ⟨w.heap.size, 10, none⟩ (.int .u64 b) = W1 := ⟨_, rfl⟩
  rw [hW1] at P1 A1 Z1 HB1
  have HW1 := Lib.hid hW1
  clear hW1
  go_upto_region 7 with fail
  rw [HW1.out]
  clear x0 x1 x2 x3 x4 x5 x6 x7 x8 x9 x10 x11 x12 x13 y0 y1 y2 y3
  clear fz HW1
  obtain ⟨x0, x1, x2, x3, x4, x5, x6, x7, x8, x9, x10, x11, x12, x13⟩ := rowc14 P1.out
  obtain ⟨y0, y1, y2, y3⟩ := rowc4 A1.out
  go_upto_region 7 with fail
  have X0 := ext_cell _ _ (ltR P1) _ x0
  have X1 := ext_cell _ _ (ltR P1) _ x1
  have X2 := ext_cell _ _ (ltR P1) _ x2
  have X3 := ext_cell _ _ (ltR P1) _ x3
  have X4 := ext_cell _ _ (ltR P1) _ x4
  have X5 := ext_cell _ _ (ltR P1) _ x5
  have X6 := ext_cell _ _ (ltR P1) _ x6
  have X7 := ext_cell _ _ (ltR P1) _ x7
  have X8 := ext_cell _ _ (ltR P1) _ x8
  have X9 := ext_cell _ _ (ltR P1) _ x9
  have X10 := ext_cell _ _ (ltR P1) _ x10
  have X11 := ext_cell _ _ (ltR P1) _ x11
  have X12 := ext_cell _ _ (ltR P1) _ x12
  have X13 := ext_cell _ _ (ltR P1) _ x13
  have Y0 := ext_cell _ _ (ltR A1) _ y0
  have Y1 := ext_cell _ _ (ltR A1) _ y1
  have Y2 := ext_cell _ _ (ltR A1) _ y2
  have Y3 := ext_cell _ _ (ltR A1) _ y3
  clear x0 x1 x2 x3 x4 x5 x6 x7 x8 x9 x10 x11 x12 x13 y0 y1 y2 y3
  refine wp_region_ext W1 (by kernel_rfl) (by kernel_rfl) (Below.refl _ _) ?_
  repeat (go_big_quiet_step (first
    | (go_at_call 56; with_reducible exact calls_ext (TSQ.out _))
    | (go_at_call 43; with_reducible exact calls_ext ((TR.out _).mono (fun e w' h => ⟨h.1, h.2 ▸ Below.refl _ _⟩)))))
  refine wpQuiet_nil ?_
  intro _ hw'
  obtain ⟨n9, rfl⟩ := hw'
  have P2 := keepR n9.below P1
  have A2 := keepR n9.below A1
  have Z2 := keepR n9.below Z1
  have HB2 := Lib.hid (below_then HB1.out n9.below)
  generalize n9.wd = w2 at *
  clear X0 X1 X2 X3 X4 X5 X6 X7 X8 X9 X10 X11 X12 X13 Y0 Y1 Y2 Y3
  obtain ⟨x0, x1, x2, x3, x4, x5, x6, x7, x8, x9, x10, x11, x12, x13⟩ := rowc14 P2.out
  obtain ⟨y0, y1, y2, y3⟩ := rowc4 A2.out
  go_wp2_with fail
  refine (TC.out _ HB2.out).mono ?_; rintro e w3 ⟨rfl, hb3⟩
  have P3 := keepR hb3 P2
  have A3 := keepR hb3 A2
  have Z3 := keepR hb3 Z2
  have HB3 := Lib.hid (below_then HB2.out hb3)
  clear x0 x1 x2 x3 x4 x5 x6 x7 x8 x9 x10 x11 x12 x13 y0 y1 y2 y3
  clear hb3
  obtain ⟨x0, x1, x2, x3, x4, x5, x6, x7, x8, x9, x10, x11, x12, x13⟩ := rowc14 P3.out
  obtain ⟨y0, y1, y2, y3⟩ := rowc4 A3.out
  go_wp2_with fail
  refine (TT.out _).mono ?_; rintro e w4 ⟨rfl, hb4⟩
  have P4 := keepR hb4 P3
  have A4 := keepR hb4 A3
  have Z4 := keepR hb4 Z3
  have HB4 := Lib.hid (below_then HB3.out hb4)
  clear x0 x1 x2 x3 x4 x5 x6 x7 x8 x9 x10 x11 x12 x13 y0 y1 y2 y3
  clear hb4
  obtain ⟨x0, x1, x2, x3, x4, x5, x6, x7, x8, x9, x10, x11, x12, x13⟩ := rowc14 P4.out
  obtain ⟨y0, y1, y2, y3⟩ := rowc4 A4.out
  clear x0 x1 x2 x3 x4 x5 x6 x7 x8 x9 x10 x11 x12 x13 y0 y1 y2 y3
  go_wp2_with (refine wpList_store_row rfl 58 _ _ rfl (w.heap.size + 2) _ rfl rfl 58 #[.int .i64 0, .int .i64 0, .slice none 0 0, .slice none 0 0, .int .i64 0, .int .i64 0, .int .i64 0, .int .i64 0, .int .i64 0, .int .u64 0, .int .u64 0, .int .u64 0, .int .i64 0, .int .u64 0] Z4.out (by kernel_rfl) rfl (by simp [Value.oneCell']) ?_)
  refine bodyPost_ret (v := .agg #[.int .i64 4, .int .i64 1, .slice a c.caps.length cap, .slice a2 c.starts.length cap2, .int .i64 c.threads, .int .i64 m.chan, .int .i64 m.thr, .int .i64 m.idx, .int .i64 m.kind, .int .u64 m.val, .int .u64 b, .int .u64 m.h, .int .i64 m.ok, .int .u64 m.ov]) (results_cell_row Try.results31 _ _ (w.heap.size + 2) 58 _ (0, 0) _ rfl (setRow_heap _ _ _ _ 58 (0, 0) Z4.out) Try.underlying58 rfl (by kernel_rfl)) rfl ?_
  exact ⟨rfl, row_below HB4.out (by omega) _⟩
set_option maxRecDepth 100000 in
set_option maxHeartbeats 16000000 in
theorem machPop_2l (a a2 : Option Addr) (cap cap2 : Nat) (c : ConfM) (m : MachM) (b : Int) (p q : Bool) (aa : Option Addr) (n ac : Nat) (ewhat : m.what = 4) (epl : m.pl = 2) (w : World) (k : Nat) (hk : k < c.caps.length) (hg : c.good) (hc : m.chan = k) (hv : ConfV w (.agg #[.slice a c.caps.length cap, .slice a2 c.starts.length cap2, .int .i64 c.threads]) c) (hn : ¬ c.caps.getD k 0 < restI (b / 2) m.h ∧ ¬ restI (b / 2) m.h = 0)  : Calls Try.prog 31 #[(.agg (machL (.slice a c.caps.length cap) (.slice a2 c.starts.length cap2) c.threads m).toArray), .agg #[.int .u64 b, .bool p, .bool q, .slice aa n ac]] w fun e w' => e = .returned (.agg (machL (.slice a c.caps.length cap) (.slice a2 c.starts.length cap2) c.threads { m with t := b, pl := 4 }).toArray) ∧ Below w.heap.size w w' := by
  have HV := Lib.hid hv
  clear hv
  have HKC := Lib.hid hk
  have HGC := Lib.hid hg
  have HCC := Lib.hid hc
  clear hk hg hc
  obtain ⟨W, hW, HB, R0, R1, R2, hz⟩ := three_new w (.cells #[.int .i64 4, .int .i64 2, .slice a c.caps.length cap, .slice a2 c.starts.length cap2, .int .i64 c.threads, .int .i64 m.chan, .int .i64 m.thr, .int .i64 m.idx, .int .i64 m.kind, .int .u64 m.val, .int .u64 m.t, .int .u64 m.h, .int .i64 m.ok, .int .u64 m.ov] 58) (.cells #[.int .u64 b, .bool p, .bool q, .slice aa n ac] 53) (.cells #[.int .i64 0, .int .i64 0, .slice none 0 0, .slice none 0 0, .int .i64 0, .int .i64 0, .int .i64 0, .int .i64 0, .int .i64 0, .int .u64 0, .int .u64 0, .int .u64 0, .int .i64 0, .int .u64 0] 58)
  have HW := Lib.hid hW
  clear hW
  unfold machL
  try dsimp only
  rw [ewhat]
  clear ewhat
  rw [epl]
  clear epl
  have TSQ := Lib.hid fun w' => machSeq_any a a2 cap cap2 c { m with what := 4, pl := 2, t := b } w'
  unfold machL at TSQ
  try dsimp only at TSQ
  have TC := Lib.hid fun w' (hb : Below w.heap.size w w') => machCap_any a a2 cap cap2 c { m with what := 4, pl := 2, t := b } k HKC.out HGC.out HCC.out w' (HV.out.below hb)
  unfold machL at TC
  try dsimp only at TC
  have TT := Lib.hid fun w' => machTo_any a a2 cap cap2 c { m with what := 4, pl := 2, t := b } 4 w'
  unfold machL at TT
  try dsimp only at TT
  obtain ⟨kc, hkc⟩ : ∃ kc, c.caps.getD k 0 = kc := ⟨_, rfl⟩
  have TR := Lib.hid fun w' => rrest_any (b / 2) m.h w'
  obtain ⟨nn, hnn⟩ : ∃ nn, restI (b / 2) m.h = nn := ⟨_, rfl⟩
  rw [hnn] at TR
  rw [hkc] at TC
  try rw [hnn, hkc] at hn
  try rw [hnn] at hn
  clear hnn hkc
  obtain ⟨hn1, hn2⟩ := hn
  go_enter Try.func31, Try.ntmps31
  go_upto_region 1 with fail
  rw [HW.out]
  clear HW
  obtain ⟨x0, x1, x2, x3, x4, x5, x6, x7, x8, x9, x10, x11, x12, x13⟩ := rowc14 R0.out
  obtain ⟨y0, y1, y2, y3⟩ := rowc4 R1.out
  go_upto_region 6 with fail
  have fz := frozen_of_row W w.heap.size 10 _ _ R0.out
  have r1 := heap_setCell_same W w.heap.size 10 _ _ (.int .u64 b) R0.out
  simp at r1
  have P1 := Lib.hid r1
  clear r1
  have A1 := Lib.hid ((heap_setCell_other W ⟨w.heap.size, 10, none⟩ (w.heap.size + 1) (.int .u64 b) (by show w.heap.size + 1 ≠ w.heap.size; omega)).trans R1.out)
  have Z1 := Lib.hid ((heap_setCell_other W ⟨w.heap.size, 10, none⟩ (w.heap.size + 2) (.int .u64 b) (by show w.heap.size + 2 ≠ w.heap.size; omega)).trans R2.out)
  have HB1 := Lib.hid (HB.out.setCell (p := ⟨w.heap.size, 10, none⟩) (Nat.le_refl _) (.int .u64 b))
  obtain ⟨W1, hW1⟩ : ∃ W1, W.setCell ⟨w.heap.size, 10, none⟩ (.int .u64 b) = W1 := ⟨_, rfl⟩
  rw [hW1] at P1 A1 Z1 HB1
  have HW1 := Lib.hid hW1
  clear hW1
  go_upto_region 7 with fail
  rw [HW1.out]
  clear x0 x1 x2 x3 x4 x5 x6 x7 x8 x9 x10 x11 x12 x13 y0 y1 y2 y3
  clear fz HW1
  obtain ⟨x0, x1, x2, x3, x4, x5, x6, x7, x8, x9, x10, x11, x12, x13⟩ := rowc14 P1.out
  obtain ⟨y0, y1, y2, y3⟩ := rowc4 A1.out
  go_upto_region 7 with fail
  have X0 := ext_cell _ _ (ltR P1) _ x0
  have X1 := ext_cell _ _ (ltR P1) _ x1
  have X2 := ext_cell _ _ (ltR P1) _ x2
  have X3 := ext_cell _ _ (ltR P1) _ x3
  have X4 := ext_cell _ _ (ltR P1) _ x4
  have X5 := ext_cell _ _ (ltR P1) _ x5
  have X6 := ext_cell _ _ (ltR P1) _ x6
  have X7 := ext_cell _ _ (ltR P1) _ x7
  have X8 := ext_cell _ _ (ltR P1) _ x8
  have X9 := ext_cell _ _ (ltR P1) _ x9
  have X10 := ext_cell _ _ (ltR P1) _ x10
  have X11 := ext_cell _ _ (ltR P1) _ x11
  have X12 := ext_cell _ _ (ltR P1) _ x12
  have X13 := ext_cell _ _ (ltR P1) _ x13
  have Y0 := ext_cell _ _ (ltR A1) _ y0
  have Y1 := ext_cell _ _ (ltR A1) _ y1
  have Y2 := ext_cell _ _ (ltR A1) _ y2
  have Y3 := ext_cell _ _ (ltR A1) _ y3
  clear x0 x1 x2 x3 x4 x5 x6 x7 x8 x9 x10 x11 x12 x13 y0 y1 y2 y3
  refine wp_region_ext W1 (by kernel_rfl) (by kernel_rfl) (Below.refl _ _) ?_
  repeat (go_big_quiet_step (first
    | (go_at_call 56; with_reducible exact calls_ext (TSQ.out _))
    | (go_at_call 43; with_reducible exact calls_ext ((TR.out _).mono (fun e w' h => ⟨h.1, h.2 ▸ Below.refl _ _⟩)))))
  refine wpQuiet_nil ?_
  intro _ hw'
  obtain ⟨n9, rfl⟩ := hw'
  have P2 := keepR n9.below P1
  have A2 := keepR n9.below A1
  have Z2 := keepR n9.below Z1
  have HB2 := Lib.hid (below_then HB1.out n9.below)
  generalize n9.wd = w2 at *
  clear X0 X1 X2 X3 X4 X5 X6 X7 X8 X9 X10 X11 X12 X13 Y0 Y1 Y2 Y3
  obtain ⟨x0, x1, x2, x3, x4, x5, x6, x7, x8, x9, x10, x11, x12, x13⟩ := rowc14 P2.out
  obtain ⟨y0, y1, y2, y3⟩ := rowc4 A2.out
  go_wp2_with fail
  refine (TC.out _ HB2.out).mono ?_; rintro e w3 ⟨rfl, hb3⟩
  have P3 := keepR hb3 P2
  have A3 := keepR hb3 A2
  have Z3 := keepR hb3 Z2
  have HB3 := Lib.hid (below_then HB2.out hb3)
  clear x0 x1 x2 x3 x4 x5 x6 x7 x8 x9 x10 x11 x12 x13 y0 y1 y2 y3
  clear hb3
  obtain ⟨x0, x1, x2, x3, x4, x5, x6, x7, x8, x9, x10, x11, x12, x13⟩ := rowc14 P3.out
  obtain ⟨y0, y1, y2, y3⟩ := rowc4 A3.out
  go_wp2_with fail
  refine (TT.out _).mono ?_; rintro e w4 ⟨rfl, hb4⟩
  have P4 := keepR hb4 P3
  have A4 := keepR hb4 A3
  have Z4 := keepR hb4 Z3
  have HB4 := Lib.hid (below_then HB3.out hb4)
  clear x0 x1 x2 x3 x4 x5 x6 x7 x8 x9 x10 x11 x12 x13 y0 y1 y2 y3
  clear hb4
  obtain ⟨x0, x1, x2, x3, x4, x5, x6, x7, x8, x9, x10, x11, x12, x13⟩ := rowc14 P4.out
  obtain ⟨y0, y1, y2, y3⟩ := rowc4 A4.out
  clear x0 x1 x2 x3 x4 x5 x6 x7 x8 x9 x10 x11 x12 x13 y0 y1 y2 y3
  go_wp2_with (refine wpList_store_row rfl 58 _ _ rfl (w.heap.size + 2) _ rfl rfl 58 #[.int .i64 0, .int .i64 0, .slice none 0 0, .slice none 0 0, .int .i64 0, .int .i64 0, .int .i64 0, .int .i64 0, .int .i64 0, .int .u64 0, .int .u64 0, .int .u64 0, .int .i64 0, .int .u64 0] Z4.out (by kernel_rfl) rfl (by simp [Value.oneCell']) ?_)
  refine bodyPost_ret (v := .agg #[.int .i64 4, .int .i64 4, .slice a c.caps.length cap, .slice a2 c.starts.length cap2, .int .i64 c.threads, .int .i64 m.chan, .int .i64 m.thr, .int .i64 m.idx, .int .i64 m.kind, .int .u64 m.val, .int .u64 b, .int .u64 m.h, .int .i64 m.ok, .int .u64 m.ov]) (results_cell_row Try.results31 _ _ (w.heap.size + 2) 58 _ (0, 0) _ rfl (setRow_heap _ _ _ _ 58 (0, 0) Z4.out) Try.underlying58 rfl (by kernel_rfl)) rfl ?_
  exact ⟨rfl, row_below HB4.out (by omega) _⟩
set_option maxRecDepth 100000 in
set_option maxHeartbeats 16000000 in
theorem machPop_3n (a a2 : Option Addr) (cap cap2 : Nat) (c : ConfM) (m : MachM) (b : Int) (p q : Bool) (aa : Option Addr) (n ac : Nat) (ewhat : m.what = 4) (epl : m.pl = 3) (w : World) (hne : ¬ b = m.h)  : Calls Try.prog 31 #[(.agg (machL (.slice a c.caps.length cap) (.slice a2 c.starts.length cap2) c.threads m).toArray), .agg #[.int .u64 b, .bool p, .bool q, .slice aa n ac]] w fun e w' => e = .returned (.agg (machL (.slice a c.caps.length cap) (.slice a2 c.starts.length cap2) c.threads { m with h := b, pl := 2 }).toArray) ∧ Below w.heap.size w w' := by
  obtain ⟨W, hW, HB, R0, R1, R2, hz⟩ := three_new w (.cells #[.int .i64 4, .int .i64 3, .slice a c.caps.length cap, .slice a2 c.starts.length cap2, .int .i64 c.threads, .int .i64 m.chan, .int .i64 m.thr, .int .i64 m.idx, .int .i64 m.kind, .int .u64 m.val, .int .u64 m.t, .int .u64 m.h, .int .i64 m.ok, .int .u64 m.ov] 58) (.cells #[.int .u64 b, .bool p, .bool q, .slice aa n ac] 53) (.cells #[.int .i64 0, .int .i64 0, .slice none 0 0, .slice none 0 0, .int .i64 0, .int .i64 0, .int .i64 0, .int .i64 0, .int .i64 0, .int .u64 0, .int .u64 0, .int .u64 0, .int .i64 0, .int .u64 0] 58)
  have HW := Lib.hid hW
  clear hW
  unfold machL
  try dsimp only
  rw [ewhat]
  clear ewhat
  rw [epl]
  clear epl
  have TT := Lib.hid fun w' => machTo_any a a2 cap cap2 c { m with what := 4, pl := 3, h := b } 2 w'
  unfold machL at TT
  try dsimp only at TT
  go_enter Try.func31, Try.ntmps31
  go_upto_region 1 with fail
  rw [HW.out]
  clear HW
  obtain ⟨x0, x1, x2, x3, x4, x5, x6, x7, x8, x9, x10, x11, x12, x13⟩ := rowc14 R0.out
  obtain ⟨y0, y1, y2, y3⟩ := rowc4 R1.out
  go_upto_region 15 with fail
  have fz := frozen_of_row W w.heap.size 11 _ _ R0.out
  have r1 := heap_setCell_same W w.heap.size 11 _ _ (.int .u64 b) R0.out
  simp at r1
  have P1 := Lib.hid r1
  clear r1
  have A1 := Lib.hid ((heap_setCell_other W ⟨w.heap.size, 11, none⟩ (w.heap.size + 1) (.int .u64 b) (by show w.heap.size + 1 ≠ w.heap.size; omega)).trans R1.out)
  have Z1 := Lib.hid ((heap_setCell_other W ⟨w.heap.size, 11, none⟩ (w.heap.size + 2) (.int .u64 b) (by show w.heap.size + 2 ≠ w.heap.size; omega)).trans R2.out)
  have HB1 := Lib.hid (HB.out.setCell (p := ⟨w.heap.size, 11, none⟩) (Nat.le_refl _) (.int .u64 b))
  obtain ⟨W1, hW1⟩ : ∃ W1, W.setCell ⟨w.heap.size, 11, none⟩ (.int .u64 b) = W1 := ⟨_, rfl⟩
  rw [hW1] at P1 A1 Z1 HB1
  have HW1 := Lib.hid hW1
  clear hW1
  go_upto_region 16 with fail
  rw [HW1.out]
  clear x0 x1 x2 x3 x4 x5 x6 x7 x8 x9 x10 x11 x12 x13 y0 y1 y2 y3
  clear fz HW1
  obtain ⟨x0, x1, x2, x3, x4, x5, x6, x7, x8, x9, x10, x11, x12, x13⟩ := rowc14 P1.out
  obtain ⟨y0, y1, y2, y3⟩ := rowc4 A1.out
  go_wp2_with fail
  refine (TT.out _).mono ?_; rintro e w2 ⟨rfl, hb2⟩
  have P2 := keepR hb2 P1
  have A2 := keepR hb2 A1
  have Z2 := keepR hb2 Z1
  have HB2 := Lib.hid (below_then HB1.out hb2)
  clear x0 x1 x2 x3 x4 x5 x6 x7 x8 x9 x10 x11 x12 x13 y0 y1 y2 y3
  clear hb2
  obtain ⟨x0, x1, x2, x3, x4, x5, x6, x7, x8, x9, x10, x11, x12, x13⟩ := rowc14 P2.out
  obtain ⟨y0, y1, y2, y3⟩ := rowc4 A2.out
  clear x0 x1 x2 x3 x4 x5 x6 x7 x8 x9 x10 x11 x12 x13 y0 y1 y2 y3
  go_wp2_with (refine wpList_store_row rfl 58 _ _ rfl (w.heap.size + 2) _ rfl rfl 58 #[.int .i64 0, .int .i64 0, .slice none 0 0, .slice none 0 0, .int .i64 0, .int .i64 0, .int .i64 0, .int .i64 0, .int .i64 0, .int .u64 0, .int .u64 0, .int .u64 0, .int .i64 0, .int .u64 0] Z2.out (by kernel_rfl) rfl (by simp [Value.oneCell']) ?_)
  refine bodyPost_ret (v := .agg #[.int .i64 4, .int .i64 2, .slice a c.caps.length cap, .slice a2 c.starts.length cap2, .int .i64 c.threads, .int .i64 m.chan, .int .i64 m.thr, .int .i64 m.idx, .int .i64 m.kind, .int .u64 m.val, .int .u64 m.t, .int .u64 b, .int .i64 m.ok, .int .u64 m.ov]) (results_cell_row Try.results31 _ _ (w.heap.size + 2) 58 _ (0, 0) _ rfl (setRow_heap _ _ _ _ 58 (0, 0) Z2.out) Try.underlying58 rfl (by kernel_rfl)) rfl ?_
  exact ⟨rfl, row_below HB2.out (by omega) _⟩
set_option maxRecDepth 100000 in
set_option maxHeartbeats 16000000 in
theorem machPop_3c (a a2 : Option Addr) (cap cap2 : Nat) (c : ConfM) (m : MachM) (b : Int) (p q : Bool) (aa : Option Addr) (n ac : Nat) (ewhat : m.what = 4) (epl : m.pl = 3) (eh : m.h = b) (w : World) (h0 : 0 ≤ m.t) (h1 : m.t < 18446744073709551616) (hcl : closedB m.t = true)  : Calls Try.prog 31 #[(.agg (machL (.slice a c.caps.length cap) (.slice a2 c.starts.length cap2) c.threads m).toArray), .agg #[.int .u64 b, .bool p, .bool q, .slice aa n ac]] w fun e w' => e = .returned (.agg (machL (.slice a c.caps.length cap) (.slice a2 c.starts.length cap2) c.threads { m with pl := 0, ok := 5, ov := 0 }).toArray) ∧ Below w.heap.size w w' := by
  obtain ⟨W, hW, HB, R0, R1, R2, hz⟩ := three_new w (.cells #[.int .i64 4, .int .i64 3, .slice a c.caps.length cap, .slice a2 c.starts.length cap2, .int .i64 c.threads, .int .i64 m.chan, .int .i64 m.thr, .int .i64 m.idx, .int .i64 m.kind, .int .u64 m.val, .int .u64 m.t, .int .u64 b, .int .i64 m.ok, .int .u64 m.ov] 58) (.cells #[.int .u64 b, .bool p, .bool q, .slice aa n ac] 53) (.cells #[.int .i64 0, .int .i64 0, .slice none 0 0, .slice none 0 0, .int .i64 0, .int .i64 0, .int .i64 0, .int .i64 0, .int .i64 0, .int .u64 0, .int .u64 0, .int .u64 0, .int .i64 0, .int .u64 0] 58)
  have HW := Lib.hid hW
  clear hW
  unfold machL
  try dsimp only
  rw [ewhat]
  clear ewhat
  rw [epl]
  clear epl
  rw [eh]
  clear eh
  have TE := Lib.hid fun w' => machEnd_any a a2 cap cap2 c { m with what := 4, pl := 3, h := b } 5 0 w'
  unfold machL at TE
  try dsimp only at TE
  have TC := Lib.hid fun w' => rclosed1_any m.t w' h0 h1
  rw [hcl] at TC
  clear hcl h0 h1
  go_enter Try.func31, Try.ntmps31
  go_upto_region 1 with fail
  rw [HW.out]
  clear HW
  obtain ⟨x0, x1, x2, x3, x4, x5, x6, x7, x8, x9, x10, x11, x12, x13⟩ := rowc14 R0.out
  obtain ⟨y0, y1, y2, y3⟩ := rowc4 R1.out
  go_wp2_with fail
  refine (TC.out _).mono ?_; rintro e w' ⟨rfl, rfl⟩
  go_wp2_with fail
  refine (TE.out _).mono ?_; rintro e w2 ⟨rfl, hb2⟩
  have P2 := keepR hb2 R0
  have A2 := keepR hb2 R1
  have Z2 := keepR hb2 R2
  have HB2 := Lib.hid (below_then HB.out hb2)
  clear x0 x1 x2 x3 x4 x5 x6 x7 x8 x9 x10 x11 x12 x13 y0 y1 y2 y3
  clear hb2
  obtain ⟨x0, x1, x2, x3, x4, x5, x6, x7, x8, x9, x10, x11, x12, x13⟩ := rowc14 P2.out
  obtain ⟨y0, y1, y2, y3⟩ := rowc4 A2.out
  clear x0 x1 x2 x3 x4 x5 x6 x7 x8 x9 x10 x11 x12 x13 y0 y1 y2 y3
  go_wp2_with (refine wpList_store_row rfl 58 _ _ rfl (w.heap.size + 2) _ rfl rfl 58 #[.int .i64 0, .int .i64 0, .slice none 0 0, .slice none 0 0, .int .i64 0, .int .i64 0, .int .i64 0, .int .i64 0, .int .i64 0, .int .u64 0, .int .u64 0, .int .u64 0, .int .i64 0, .int .u64 0] Z2.out (by kernel_rfl) rfl (by simp [Value.oneCell']) ?_)
  refine bodyPost_ret (v := .agg #[.int .i64 4, .int .i64 0, .slice a c.caps.length cap, .slice a2 c.starts.length cap2, .int .i64 c.threads, .int .i64 m.chan, .int .i64 m.thr, .int .i64 m.idx, .int .i64 m.kind, .int .u64 m.val, .int .u64 m.t, .int .u64 b, .int .i64 5, .int .u64 0]) (results_cell_row Try.results31 _ _ (w.heap.size + 2) 58 _ (0, 0) _ rfl (setRow_heap _ _ _ _ 58 (0, 0) Z2.out) Try.underlying58 rfl (by kernel_rfl)) rfl ?_
  exact ⟨rfl, row_below HB2.out (by omega) _⟩
set_option maxRecDepth 100000 in
set_option maxHeartbeats 16000000 in
theorem machPop_3o (a a2 : Option Addr) (cap cap2 : Nat) (c : ConfM) (m : MachM) (b : Int) (p q : Bool) (aa : Option Addr) (n ac : Nat) (ewhat : m.what = 4) (epl : m.pl = 3) (eh : m.h = b) (w : World) (h0 : 0 ≤ m.t) (h1 : m.t < 18446744073709551616) (hcl : closedB m.t = false)  : Calls Try.prog 31 #[(.agg (machL (.slice a c.caps.length cap) (.slice a2 c.starts.length cap2) c.threads m).toArray), .agg #[.int .u64 b, .bool p, .bool q, .slice aa n ac]] w fun e w' => e = .returned (.agg (machL (.slice a c.caps.length cap) (.slice a2 c.starts.length cap2) c.threads { m with pl := 0, ok := 3, ov := 0 }).toArray) ∧ Below w.heap.size w w' := by
  obtain ⟨W, hW, HB, R0, R1, R2, hz⟩ := three_new w (.cells #[.int .i64 4, .int .i64 3, .slice a c.caps.length cap, .slice a2 c.starts.length cap2, .int .i64 c.threads, .int .i64 m.chan, .int .i64 m.thr, .int .i64 m.idx, .int .i64 m.kind, .int .u64 m.val, .int .u64 m.t, .int .u64 b, .int .i64 m.ok, .int .u64 m.ov] 58) (.cells #[.int .u64 b, .bool p, .bool q, .slice aa n ac] 53) (.cells #[.int .i64 0, .int .i64 0, .slice none 0 0, .slice none 0 0, .int .i64 0, .int .i64 0, .int .i64 0, .int .i64 0, .int .i64 0, .int .u64 0, .int .u64 0, .int .u64 0, .int .i64 0, .int .u64 0] 58)
  have HW := Lib.hid hW
  clear hW
  unfold machL
  try dsimp only
  rw [ewhat]
  clear ewhat
  rw [epl]
  clear epl
  rw [eh]
  clear eh
  have TE := Lib.hid fun w' => machEnd_any a a2 cap cap2 c { m with what := 4, pl := 3, h := b } 3 0 w'
  unfold machL at TE
  try dsimp only at TE
  have TC := Lib.hid fun w' => rclosed1_any m.t w' h0 h1
  rw [hcl] at TC
  clear hcl h0 h1
  go_enter Try.func31, Try.ntmps31
  go_upto_region 1 with fail
  rw [HW.out]
  clear HW
  obtain ⟨x0, x1, x2, x3, x4, x5, x6, x7, x8, x9, x10, x11, x12, x13⟩ := rowc14 R0.out
  obtain ⟨y0, y1, y2, y3⟩ := rowc4 R1.out
  go_wp2_with fail
  refine (TC.out _).mono ?_; rintro e w' ⟨rfl, rfl⟩
  go_wp2_with fail
  refine (TE.out _).mono ?_; rintro e w2 ⟨rfl, hb2⟩
  have P2 := keepR hb2 R0
  have A2 := keepR hb2 R1
  have Z2 := keepR hb2 R2
  have HB2 := Lib.hid (below_then HB.out hb2)
  clear x0 x1 x2 x3 x4 x5 x6 x7 x8 x9 x10 x11 x12 x13 y0 y1 y2 y3
  clear hb2
  obtain ⟨x0, x1, x2, x3, x4, x5, x6, x7, x8, x9, x10, x11, x12, x13⟩ := rowc14 P2.out
  obtain ⟨y0, y1, y2, y3⟩ := rowc4 A2.out
  clear x0 x1 x2 x3 x4 x5 x6 x7 x8 x9 x10 x11 x12 x13 y0 y1 y2 y3
  go_wp2_with (refine wpList_store_row rfl 58 _ _ rfl (w.heap.size + 2) _ rfl rfl 58 #[.int .i64 0, .int .i64 0, .slice none 0 0, .slice none 0 0, .int .i64 0, .int .i64 0, .int .i64 0, .int .i64 0, .int .i64 0, .int .u64 0, .int .u64 0, .int .u64 0, .int .i64 0, .int .u64 0] Z2.out (by kernel_rfl) rfl (by simp [Value.oneCell']) ?_)
  refine bodyPost_ret (v := .agg #[.int .i64 4, .int .i64 0, .slice a c.caps.length cap, .slice a2 c.starts.length cap2, .int .i64 c.threads, .int .i64 m.chan, .int .i64 m.thr, .int .i64 m.idx, .int .i64 m.kind, .int .u64 m.val, .int .u64 m.t, .int .u64 b, .int .i64 3, .int .u64 0]) (results_cell_row Try.results31 _ _ (w.heap.size + 2) 58 _ (0, 0) _ rfl (setRow_heap _ _ _ _ 58 (0, 0) Z2.out) Try.underlying58 rfl (by kernel_rfl)) rfl ?_
  exact ⟨rfl, row_below HB2.out (by omega) _⟩
set_option maxRecDepth 100000 in
set_option maxHeartbeats 16000000 in
theorem machPop_4e (a a2 : Option Addr) (cap cap2 : Nat) (c : ConfM) (m : MachM) (b : Int) (p q : Bool) (aa : Option Addr) (n ac : Nat) (ewhat : m.what = 4) (epl : m.pl = 4) (w : World) (hn : nextI m.h 1 = b)  : Calls Try.prog 31 #[(.agg (machL (.slice a c.caps.length cap) (.slice a2 c.starts.length cap2) c.threads m).toArray), .agg #[.int .u64 b, .bool p, .bool q, .slice aa n ac]] w fun e w' => e = .returned (.agg (machL (.slice a c.caps.length cap) (.slice a2 c.starts.length cap2) c.threads { m with pl := 5 }).toArray) ∧ Below w.heap.size w w' := by
  obtain ⟨W, hW, HB, R0, R1, R2, hz⟩ := three_new w (.cells #[.int .i64 4, .int .i64 4, .slice a c.caps.length cap, .slice a2 c.starts.length cap2, .int .i64 c.threads, .int .i64 m.chan, .int .i64 m.thr, .int .i64 m.idx, .int .i64 m.kind, .int .u64 m.val, .int .u64 m.t, .int .u64 m.h, .int .i64 m.ok, .int .u64 m.ov] 58) (.cells #[.int .u64 b, .bool p, .bool q, .slice aa n ac] 53) (.cells #[.int .i64 0, .int .i64 0, .slice none 0 0, .slice none 0 0, .int .i64 0, .int .i64 0, .int .i64 0, .int .i64 0, .int .i64 0, .int .u64 0, .int .u64 0, .int .u64 0, .int .i64 0, .int .u64 0] 58)
  have HW := Lib.hid hW
  clear hW
  unfold machL
  try dsimp only
  rw [ewhat]
  clear ewhat
  rw [epl]
  clear epl
  have TQ := Lib.hid fun w' => rqnext_any m.h 1 w'
  have TT := Lib.hid fun w' => machTo_any a a2 cap cap2 c { m with what := 4, pl := 4 } 5 w'
  unfold machL at TT
  try dsimp only at TT
  obtain ⟨nn, hnn⟩ : ∃ nn, nextI m.h 1 = nn := ⟨_, rfl⟩
  rw [hnn] at TQ hn
  clear hnn
  obtain rfl := hn
  go_enter Try.func31, Try.ntmps31
  go_upto_region 1 with fail
  rw [HW.out]
  clear HW
  obtain ⟨x0, x1, x2, x3, x4, x5, x6, x7, x8, x9, x10, x11, x12, x13⟩ := rowc14 R0.out
  obtain ⟨y0, y1, y2, y3⟩ := rowc4 R1.out
  go_upto_region 21 with fail
  have X0 := ext_cell _ _ (ltR R0) _ x0
  have X1 := ext_cell _ _ (ltR R0) _ x1
  have X2 := ext_cell _ _ (ltR R0) _ x2
  have X3 := ext_cell _ _ (ltR R0) _ x3
  have X4 := ext_cell _ _ (ltR R0) _ x4
  have X5 := ext_cell _ _ (ltR R0) _ x5
  have X6 := ext_cell _ _ (ltR R0) _ x6
  have X7 := ext_cell _ _ (ltR R0) _ x7
  have X8 := ext_cell _ _ (ltR R0) _ x8
  have X9 := ext_cell _ _ (ltR R0) _ x9
  have X10 := ext_cell _ _ (ltR R0) _ x10
  have X11 := ext_cell _ _ (ltR R0) _ x11
  have X12 := ext_cell _ _ (ltR R0) _ x12
  have X13 := ext_cell _ _ (ltR R0) _ x13
  have Y0 := ext_cell _ _ (ltR R1) _ y0
  have Y1 := ext_cell _ _ (ltR R1) _ y1
  have Y2 := ext_cell _ _ (ltR R1) _ y2
  have Y3 := ext_cell _ _ (ltR R1) _ y3
  clear x0 x1 x2 x3 x4 x5 x6 x7 x8 x9 x10 x11 x12 x13 y0 y1 y2 y3
  refine wp_region_ext W (by kernel_rfl) (by kernel_rfl) (Below.refl _ _) ?_
  repeat (go_big_quiet_step (first
    | (go_at_call 52; with_reducible exact calls_ext ((TQ.out _).mono (fun e w' h => ⟨h.1, h.2 ▸ Below.refl _ _⟩)))))
  refine wpQuiet_nil ?_
  intro _ hw'
  obtain ⟨n9, rfl⟩ := hw'
  have P1 := keepR n9.below R0
  have A1 := keepR n9.below R1
  have Z1 := keepR n9.below R2
  have HB1 := Lib.hid (below_then HB.out n9.below)
  generalize n9.wd = w1 at *
  clear X0 X1 X2 X3 X4 X5 X6 X7 X8 X9 X10 X11 X12 X13 Y0 Y1 Y2 Y3
  obtain ⟨x0, x1, x2, x3, x4, x5, x6, x7, x8, x9, x10, x11, x12, x13⟩ := rowc14 P1.out
  obtain ⟨y0, y1, y2, y3⟩ := rowc4 A1.out
  go_wp2_with fail
  refine (TT.out _).mono ?_; rintro e w2 ⟨rfl, hb2⟩
  have P2 := keepR hb2 P1
  have A2 := keepR hb2 A1
  have Z2 := keepR hb2 Z1
  have HB2 := Lib.hid (below_then HB1.out hb2)
  clear x0 x1 x2 x3 x4 x5 x6 x7 x8 x9 x10 x11 x12 x13 y0 y1 y2 y3
  clear hb2
  obtain ⟨x0, x1, x2, x3, x4, x5, x6, x7, x8, x9, x10, x11, x12, x13⟩ := rowc14 P2.out
  obtain ⟨y0, y1, y2, y3⟩ := rowc4 A2.out
  clear x0 x1 x2 x3 x4 x5 x6 x7 x8 x9 x10 x11 x12 x13 y0 y1 y2 y3
  go_wp2_with (refine wpList_store_row rfl 58 _ _ rfl (w.heap.size + 2) _ rfl rfl 58 #[.int .i64 0, .int .i64 0, .slice none 0 0, .slice none 0 0, .int .i64 0, .int .i64 0, .int .i64 0, .int .i64 0, .int .i64 0, .int .u64 0, .int .u64 0, .int .u64 0, .int .i64 0, .int .u64 0] Z2.out (by kernel_rfl) rfl (by simp [Value.oneCell']) ?_)
  refine bodyPost_ret (v := .agg #[.int .i64 4, .int .i64 5, .slice a c.caps.length cap, .slice a2 c.starts.length cap2, .int .i64 c.threads, .int .i64 m.chan, .int .i64 m.thr, .int .i64 m.idx, .int .i64 m.kind, .int .u64 m.val, .int .u64 m.t, .int .u64 m.h, .int .i64 m.ok, .int .u64 m.ov]) (results_cell_row Try.results31 _ _ (w.heap.size + 2) 58 _ (0, 0) _ rfl (setRow_heap _ _ _ _ 58 (0, 0) Z2.out) Try.underlying58 rfl (by kernel_rfl)) rfl ?_
  exact ⟨rfl, row_below HB2.out (by omega) _⟩
set_option maxRecDepth 100000 in
set_option maxHeartbeats 16000000 in
theorem machPop_4n (a a2 : Option Addr) (cap cap2 : Nat) (c : ConfM) (m : MachM) (b : Int) (p q : Bool) (aa : Option Addr) (n ac : Nat) (ewhat : m.what = 4) (epl : m.pl = 4) (w : World) (hn : ¬ b = nextI m.h 1)  : Calls Try.prog 31 #[(.agg (machL (.slice a c.caps.length cap) (.slice a2 c.starts.length cap2) c.threads m).toArray), .agg #[.int .u64 b, .bool p, .bool q, .slice aa n ac]] w fun e w' => e = .returned (.agg (machL (.slice a c.caps.length cap) (.slice a2 c.starts.length cap2) c.threads { m with pl := 1 }).toArray) ∧ Below w.heap.size w w' := by
  obtain ⟨W, hW, HB, R0, R1, R2, hz⟩ := three_new w (.cells #[.int .i64 4, .int .i64 4, .slice a c.caps.length cap, .slice a2 c.starts.length cap2, .int .i64 c.threads, .int .i64 m.chan, .int .i64 m.thr, .int .i64 m.idx, .int .i64 m.kind, .int .u64 m.val, .int .u64 m.t, .int .u64 m.h, .int .i64 m.ok, .int .u64 m.ov] 58) (.cells #[.int .u64 b, .bool p, .bool q, .slice aa n ac] 53) (.cells #[.int .i64 0, .int .i64 0, .slice none 0 0, .slice none 0 0, .int .i64 0, .int .i64 0, .int .i64 0, .int .i64 0, .int .i64 0, .int .u64 0, .int .u64 0, .int .u64 0, .int .i64 0, .int .u64 0] 58)
  have HW := Lib.hid hW
  clear hW
  unfold machL
  try dsimp only
  rw [ewhat]
  clear ewhat
  rw [epl]
  clear epl
  have TQ := Lib.hid fun w' => rqnext_any m.h 1 w'
  have TT := Lib.hid fun w' => machTo_any a a2 cap cap2 c { m with what := 4, pl := 4 } 1 w'
  unfold machL at TT
  try dsimp only at TT
  obtain ⟨nn, hnn⟩ : ∃ nn, nextI m.h 1 = nn := ⟨_, rfl⟩
  rw [hnn] at TQ hn
  clear hnn
  go_enter Try.func31, Try.ntmps31
  go_upto_region 1 with fail
  rw [HW.out]
  clear HW
  obtain ⟨x0, x1, x2, x3, x4, x5, x6, x7, x8, x9, x10, x11, x12, x13⟩ := rowc14 R0.out
  obtain ⟨y0, y1, y2, y3⟩ := rowc4 R1.out
  go_upto_region 21 with fail
  have X0 := ext_cell _ _ (ltR R0) _ x0
  have X1 := ext_cell _ _ (ltR R0) _ x1
  have X2 := ext_cell _ _ (ltR R0) _ x2
  have X3 := ext_cell _ _ (ltR R0) _ x3
  have X4 := ext_cell _ _ (ltR R0) _ x4
  have X5 := ext_cell _ _ (ltR R0) _ x5
  have X6 := ext_cell _ _ (ltR R0) _ x6
  have X7 := ext_cell _ _ (ltR R0) _ x7
  have X8 := ext_cell _ _ (ltR R0) _ x8
  have X9 := ext_cell _ _ (ltR R0) _ x9
  have X10 := ext_cell _ _ (ltR R0) _ x10
  have X11 := ext_cell _ _ (ltR R0) _ x11
  have X12 := ext_cell _ _ (ltR R0) _ x12
  have X13 := ext_cell _ _ (ltR R0) _ x13
  have Y0 := ext_cell _ _ (ltR R1) _ y0
  have Y1 := ext_cell _ _ (ltR R1) _ y1
  have Y2 := ext_cell _ _ (ltR R1) _ y2
  have Y3 := ext_cell _ _ (ltR R1) _ y3
  clear x0 x1 x2 x3 x4 x5 x6 x7 x8 x9 x10 x11 x12 x13 y0 y1 y2 y3
  refine wp_region_ext W (by kernel_rfl) (by kernel_rfl) (Below.refl _ _) ?_
  repeat (go_big_quiet_step (first
    | (go_at_call 52; with_reducible exact calls_ext ((TQ.out _).mono (fun e w' h => ⟨h.1, h.2 ▸ Below.refl _ _⟩)))))
  refine wpQuiet_nil ?_
  intro _ hw'
  obtain ⟨n9, rfl⟩ := hw'
  have P1 := keepR n9.below R0
  have A1 := keepR n9.below R1
  have Z1 := keepR n9.below R2
  have HB1 := Lib.hid (below_then HB.out n9.below)
  generalize n9.wd = w1 at *
  clear X0 X1 X2 X3 X4 X5 X6 X7 X8 X9 X10 X11 X12 X13 Y0 Y1 Y2 Y3
  obtain ⟨x0, x1, x2, x3, x4, x5, x6, x7, x8, x9, x10, x11, x12, x13⟩ := rowc14 P1.out
  obtain ⟨y0, y1, y2, y3⟩ := rowc4 A1.out
  go_wp2_with fail
  refine (TT.out _).mono ?_; rintro e w2 ⟨rfl, hb2⟩
  have P2 := keepR hb2 P1
  have A2 := keepR hb2 A1
  have Z2 := keepR hb2 Z1
  have HB2 := Lib.hid (below_then HB1.out hb2)
  clear x0 x1 x2 x3 x4 x5 x6 x7 x8 x9 x10 x11 x12 x13 y0 y1 y2 y3
  clear hb2
  obtain ⟨x0, x1, x2, x3, x4, x5, x6, x7, x8, x9, x10, x11, x12, x13⟩ := rowc14 P2.out
  obtain ⟨y0, y1, y2, y3⟩ := rowc4 A2.out
  clear x0 x1 x2 x3 x4 x5 x6 x7 x8 x9 x10 x11 x12 x13 y0 y1 y2 y3
  go_wp2_with (refine wpList_store_row rfl 58 _ _ rfl (w.heap.size + 2) _ rfl rfl 58 #[.int .i64 0, .int .i64 0, .slice none 0 0, .slice none 0 0, .int .i64 0, .int .i64 0, .int .i64 0, .int .i64 0, .int .i64 0, .int .u64 0, .int .u64 0, .int .u64 0, .int .i64 0, .int .u64 0] Z2.out (by kernel_rfl) rfl (by simp [Value.oneCell']) ?_)
  refine bodyPost_ret (v := .agg #[.int .i64 4, .int .i64 1, .slice a c.caps.length cap, .slice a2 c.starts.length cap2, .int .i64 c.threads, .int .i64 m.chan, .int .i64 m.thr, .int .i64 m.idx, .int .i64 m.kind, .int .u64 m.val, .int .u64 m.t, .int .u64 m.h, .int .i64 m.ok, .int .u64 m.ov]) (results_cell_row Try.results31 _ _ (w.heap.size + 2) 58 _ (0, 0) _ rfl (setRow_heap _ _ _ _ 58 (0, 0) Z2.out) Try.underlying58 rfl (by kernel_rfl)) rfl ?_
  exact ⟨rfl, row_below HB2.out (by omega) _⟩
set_option maxRecDepth 100000 in
set_option maxHeartbeats 16000000 in
theorem machPop_5k (a a2 : Option Addr) (cap cap2 : Nat) (c : ConfM) (m : MachM) (b : Int) (q : Bool) (aa : Option Addr) (n ac : Nat) (ewhat : m.what = 4) (epl : m.pl = 5) (w : World)  : Calls Try.prog 31 #[(.agg (machL (.slice a c.caps.length cap) (.slice a2 c.starts.length cap2) c.threads m).toArray), .agg #[.int .u64 b, .bool true, .bool q, .slice aa n ac]] w fun e w' => e = .returned (.agg (machL (.slice a c.caps.length cap) (.slice a2 c.starts.length cap2) c.threads { m with pl := 6 }).toArray) ∧ Below w.heap.size w w' := by
  obtain ⟨W, hW, HB, R0, R1, R2, hz⟩ := three_new w (.cells #[.int .i64 4, .int .i64 5, .slice a c.caps.length cap, .slice a2 c.starts.length cap2, .int .i64 c.threads, .int .i64 m.chan, .int .i64 m.thr, .int .i64 m.idx, .int .i64 m.kind, .int .u64 m.val, .int .u64 m.t, .int .u64 m.h, .int .i64 m.ok, .int .u64 m.ov] 58) (.cells #[.int .u64 b, .bool true, .bool q, .slice aa n ac] 53) (.cells #[.int .i64 0, .int .i64 0, .slice none 0 0, .slice none 0 0, .int .i64 0, .int .i64 0, .int .i64 0, .int .i64 0, .int .i64 0, .int .u64 0, .int .u64 0, .int .u64 0, .int .i64 0, .int .u64 0] 58)
  have HW := Lib.hid hW
  clear hW
  unfold machL
  try dsimp only
  rw [ewhat]
  clear ewhat
  rw [epl]
  clear epl
  have TT := Lib.hid fun w' => machTo_any a a2 cap cap2 c { m with what := 4, pl := 5 } 6 w'
  unfold machL at TT
  try dsimp only at TT
  go_enter Try.func31, Try.ntmps31
  go_upto_region 1 with fail
  rw [HW.out]
  clear HW
  obtain ⟨x0, x1, x2, x3, x4, x5, x6, x7, x8, x9, x10, x11, x12, x13⟩ := rowc14 R0.out
  obtain ⟨y0, y1, y2, y3⟩ := rowc4 R1.out
  go_wp2_with fail
  refine (TT.out _).mono ?_; rintro e w1 ⟨rfl, hb1⟩
  have P1 := keepR hb1 R0
  have A1 := keepR hb1 R1
  have Z1 := keepR hb1 R2
  have HB1 := Lib.hid (below_then HB.out hb1)
  clear x0 x1 x2 x3 x4 x5 x6 x7 x8 x9 x10 x11 x12 x13 y0 y1 y2 y3
  clear hb1
  obtain ⟨x0, x1, x2, x3, x4, x5, x6, x7, x8, x9, x10, x11, x12, x13⟩ := rowc14 P1.out
  obtain ⟨y0, y1, y2, y3⟩ := rowc4 A1.out
  clear x0 x1 x2 x3 x4 x5 x6 x7 x8 x9 x10 x11 x12 x13 y0 y1 y2 y3
  go_wp2_with (refine wpList_store_row rfl 58 _ _ rfl (w.heap.size + 2) _ rfl rfl 58 #[.int .i64 0, .int .i64 0, .slice none 0 0, .slice none 0 0, .int .i64 0, .int .i64 0, .int .i64 0, .int .i64 0, .int .i64 0, .int .u64 0, .int .u64 0, .int .u64 0, .int .i64 0, .int .u64 0] Z1.out (by kernel_rfl) rfl (by simp [Value.oneCell']) ?_)
  refine bodyPost_ret (v := .agg #[.int .i64 4, .int .i64 6, .slice a c.caps.length cap, .slice a2 c.starts.length cap2, .int .i64 c.threads, .int .i64 m.chan, .int .i64 m.thr, .int .i64 m.idx, .int .i64 m.kind, .int .u64 m.val, .int .u64 m.t, .int .u64 m.h, .int .i64 m.ok, .int .u64 m.ov]) (results_cell_row Try.results31 _ _ (w.heap.size + 2) 58 _ (0, 0) _ rfl (setRow_heap _ _ _ _ 58 (0, 0) Z1.out) Try.underlying58 rfl (by kernel_rfl)) rfl ?_
  exact ⟨rfl, row_below HB1.out (by omega) _⟩
set_option maxRecDepth 100000 in
set_option maxHeartbeats 16000000 in
theorem machPop_5n (a a2 : Option Addr) (cap cap2 : Nat) (c : ConfM) (m : MachM) (b : Int) (q : Bool) (aa : Option Addr) (n ac : Nat) (ewhat : m.what = 4) (epl : m.pl = 5) (w : World)  : Calls Try.prog 31 #[(.agg (machL (.slice a c.caps.length cap) (.slice a2 c.starts.length cap2) c.threads m).toArray), .agg #[.int .u64 b, .bool false, .bool q, .slice aa n ac]] w fun e w' => e = .returned (.agg (machL (.slice a c.caps.length cap) (.slice a2 c.starts.length cap2) c.threads { m with pl := 1 }).toArray) ∧ Below w.heap.size w w' := by
  obtain ⟨W, hW, HB, R0, R1, R2, hz⟩ := three_new w (.cells #[.int .i64 4, .int .i64 5, .slice a c.caps.length cap, .slice a2 c.starts.length cap2, .int .i64 c.threads, .int .i64 m.chan, .int .i64 m.thr, .int .i64 m.idx, .int .i64 m.kind, .int .u64 m.val, .int .u64 m.t, .int .u64 m.h, .int .i64 m.ok, .int .u64 m.ov] 58) (.cells #[.int .u64 b, .bool false, .bool q, .slice aa n ac] 53) (.cells #[.int .i64 0, .int .i64 0, .slice none 0 0, .slice none 0 0, .int .i64 0, .int .i64 0, .int .i64 0, .int .i64 0, .int .i64 0, .int .u64 0, .int .u64 0, .int .u64 0, .int .i64 0, .int .u64 0] 58)
  have HW := Lib.hid hW
  clear hW
  unfold machL
  try dsimp only
  rw [ewhat]
  clear ewhat
  rw [epl]
  clear epl
  have TT := Lib.hid fun w' => machTo_any a a2 cap cap2 c { m with what := 4, pl := 5 } 1 w'
  unfold machL at TT
  try dsimp only at TT
  go_enter Try.func31, Try.ntmps31
  go_upto_region 1 with fail
  rw [HW.out]
  clear HW
  obtain ⟨x0, x1, x2, x3, x4, x5, x6, x7, x8, x9, x10, x11, x12, x13⟩ := rowc14 R0.out
  obtain ⟨y0, y1, y2, y3⟩ := rowc4 R1.out
  go_wp2_with fail
  refine (TT.out _).mono ?_; rintro e w1 ⟨rfl, hb1⟩
  have P1 := keepR hb1 R0
  have A1 := keepR hb1 R1
  have Z1 := keepR hb1 R2
  have HB1 := Lib.hid (below_then HB.out hb1)
  clear x0 x1 x2 x3 x4 x5 x6 x7 x8 x9 x10 x11 x12 x13 y0 y1 y2 y3
  clear hb1
  obtain ⟨x0, x1, x2, x3, x4, x5, x6, x7, x8, x9, x10, x11, x12, x13⟩ := rowc14 P1.out
  obtain ⟨y0, y1, y2, y3⟩ := rowc4 A1.out
  clear x0 x1 x2 x3 x4 x5 x6 x7 x8 x9 x10 x11 x12 x13 y0 y1 y2 y3
  go_wp2_with (refine wpList_store_row rfl 58 _ _ rfl (w.heap.size + 2) _ rfl rfl 58 #[.int .i64 0, .int .i64 0, .slice none 0 0, .slice none 0 0, .int .i64 0, .int .i64 0, .int .i64 0, .int .i64 0, .int .i64 0, .int .u64 0, .int .u64 0, .int .u64 0, .int .i64 0, .int .u64 0] Z1.out (by kernel_rfl) rfl (by simp [Value.oneCell']) ?_)
  refine bodyPost_ret (v := .agg #[.int .i64 4, .int .i64 1, .slice a c.caps.length cap, .slice a2 c.starts.length cap2, .int .i64 c.threads, .int .i64 m.chan, .int .i64 m.thr, .int .i64 m.idx, .int .i64 m.kind, .int .u64 m.val, .int .u64 m.t, .int .u64 m.h, .int .i64 m.ok, .int .u64 m.ov]) (results_cell_row Try.results31 _ _ (w.heap.size + 2) 58 _ (0, 0) _ rfl (setRow_heap _ _ _ _ 58 (0, 0) Z1.out) Try.underlying58 rfl (by kernel_rfl)) rfl ?_
  exact ⟨rfl, row_below HB1.out (by omega) _⟩
set_option maxRecDepth 100000 in
set_option maxHeartbeats 16000000 in
theorem machPop_6 (a a2 : Option Addr) (cap cap2 : Nat) (c : ConfM) (m : MachM) (b : Int) (p q : Bool) (aa : Option Addr) (n ac : Nat) (ewhat : m.what = 4) (epl : m.pl = 6) (w : World)  : Calls Try.prog 31 #[(.agg (machL (.slice a c.caps.length cap) (.slice a2 c.starts.length cap2) c.threads m).toArray), .agg #[.int .u64 b, .bool p, .bool q, .slice aa n ac]] w fun e w' => e = .returned (.agg (machL (.slice a c.caps.length cap) (.slice a2 c.starts.length cap2) c.threads { m with val := b, pl := 7 }).toArray) ∧ Below w.heap.size w w' := by
  obtain ⟨W, hW, HB, R0, R1, R2, hz⟩ := three_new w (.cells #[.int .i64 4, .int .i64 6, .slice a c.caps.length cap, .slice a2 c.starts.length cap2, .int .i64 c.threads, .int .i64 m.chan, .int .i64 m.thr, .int .i64 m.idx, .int .i64 m.kind, .int .u64 m.val, .int .u64 m.t, .int .u64 m.h, .int .i64 m.ok, .int .u64 m.ov] 58) (.cells #[.int .u64 b, .bool p, .bool q, .slice aa n ac] 53) (.cells #[.int .i64 0, .int .i64 0, .slice none 0 0, .slice none 0 0, .int .i64 0, .int .i64 0, .int .i64 0, .int .i64 0, .int .i64 0, .int .u64 0, .int .u64 0, .int .u64 0, .int .i64 0, .int .u64 0] 58)
  have HW := Lib.hid hW
  clear hW
  unfold machL
  try dsimp only
  rw [ewhat]
  clear ewhat
  rw [epl]
  clear epl
  have TT := Lib.hid fun w' => machTo_any a a2 cap cap2 c { m with what := 4, pl := 6, val := b } 7 w'
  unfold machL at TT
  try dsimp only at TT
  go_enter Try.func31, Try.ntmps31
  go_upto_region 1 with fail
  rw [HW.out]
  clear HW
  obtain ⟨x0, x1, x2, x3, x4, x5, x6, x7, x8, x9, x10, x11, x12, x13⟩ := rowc14 R0.out
  obtain ⟨y0, y1, y2, y3⟩ := rowc4 R1.out
  go_upto_region 29 with fail
  have fz := frozen_of_row W w.heap.size 9 _ _ R0.out
  have r1 := heap_setCell_same W w.heap.size 9 _ _ (.int .u64 b) R0.out
  simp at r1
  have P1 := Lib.hid r1
  clear r1
  have A1 := Lib.hid ((heap_setCell_other W ⟨w.heap.size, 9, none⟩ (w.heap.size + 1) (.int .u64 b) (by show w.heap.size + 1 ≠ w.heap.size; omega)).trans R1.out)
  have Z1 := Lib.hid ((heap_setCell_other W ⟨w.heap.size, 9, none⟩ (w.heap.size + 2) (.int .u64 b) (by show w.heap.size + 2 ≠ w.heap.size; omega)).trans R2.out)
  have HB1 := Lib.hid (HB.out.setCell (p := ⟨w.heap.size, 9, none⟩) (Nat.le_refl _) (.int .u64 b))
  obtain ⟨W1, hW1⟩ : ∃ W1, W.setCell ⟨w.heap.size, 9, none⟩ (.int .u64 b) = W1 := ⟨_, rfl⟩
  rw [hW1] at P1 A1 Z1 HB1
  have HW1 := Lib.hid hW1
  clear hW1
  go_upto_region 30 with fail
  rw [HW1.out]
  clear x0 x1 x2 x3 x4 x5 x6 x7 x8 x9 x10 x11 x12 x13 y0 y1 y2 y3
  clear fz HW1
  obtain ⟨x0, x1, x2, x3, x4, x5, x6, x7, x8, x9, x10, x11, x12, x13⟩ := rowc14 P1.out
  obtain ⟨y0, y1, y2, y3⟩ := rowc4 A1.out
  go_wp2_with fail
  refine (TT.out _).mono ?_; rintro e w2 ⟨rfl, hb2⟩
  have P2 := keepR hb2 P1
  have A2 := keepR hb2 A1
  have Z2 := keepR hb2 Z1
  have HB2 := Lib.hid (below_then HB1.out hb2)
  clear x0 x1 x2 x3 x4 x5 x6 x7 x8 x9 x10 x11 x12 x13 y0 y1 y2 y3
  clear hb2
  obtain ⟨x0, x1, x2, x3, x4, x5, x6, x7, x8, x9, x10, x11, x12, x13⟩ := rowc14 P2.out
  obtain ⟨y0, y1, y2, y3⟩ := rowc4 A2.out
  clear x0 x1 x2 x3 x4 x5 x6 x7 x8 x9 x10 x11 x12 x13 y0 y1 y2 y3
  go_wp2_with (refine wpList_store_row rfl 58 _ _ rfl (w.heap.size + 2) _ rfl rfl 58 #[.int .i64 0, .int .i64 0, .slice none 0 0, .slice none 0 0, .int .i64 0, .int .i64 0, .int .i64 0, .int .i64 0, .int .i64 0, .int .u64 0, .int .u64 0, .int .u64 0, .int .i64 0, .int .u64 0] Z2.out (by kernel_rfl) rfl (by simp [Value.oneCell']) ?_)
  refine bodyPost_ret (v := .agg #[.int .i64 4, .int .i64 7, .slice a c.caps.length cap, .slice a2 c.starts.length cap2, .int .i64 c.threads, .int .i64 m.chan, .int .i64 m.thr, .int .i64 m.idx, .int .i64 m.kind, .int .u64 b, .int .u64 m.t, .int .u64 m.h, .int .i64 m.ok, .int .u64 m.ov]) (results_cell_row Try.results31 _ _ (w.heap.size + 2) 58 _ (0, 0) _ rfl (setRow_heap _ _ _ _ 58 (0, 0) Z2.out) Try.underlying58 rfl (by kernel_rfl)) rfl ?_
  exact ⟨rfl, row_below HB2.out (by omega) _⟩
set_option maxRecDepth 100000 in
set_option maxHeartbeats 16000000 in
theorem machPop_7 (a a2 : Option Addr) (cap cap2 : Nat) (c : ConfM) (m : MachM) (b : Int) (p q : Bool) (aa : Option Addr) (n ac : Nat) (ewhat : m.what = 4) (epl : m.pl = 7) (w : World)  : Calls Try.prog 31 #[(.agg (machL (.slice a c.caps.length cap) (.slice a2 c.starts.length cap2) c.threads m).toArray), .agg #[.int .u64 b, .bool p, .bool q, .slice aa n ac]] w fun e w' => e = .returned (.agg (machL (.slice a c.caps.length cap) (.slice a2 c.starts.length cap2) c.threads { m with pl := 0, ok := 6, ov := m.val }).toArray) ∧ Below w.heap.size w w' := by
  obtain ⟨W, hW, HB, R0, R1, R2, hz⟩ := three_new w (.cells #[.int .i64 4, .int .i64 7, .slice a c.caps.length cap, .slice a2 c.starts.length cap2, .int .i64 c.threads, .int .i64 m.chan, .int .i64 m.thr, .int .i64 m.idx, .int .i64 m.kind, .int .u64 m.val, .int .u64 m.t, .int .u64 m.h, .int .i64 m.ok, .int .u64 m.ov] 58) (.cells #[.int .u64 b, .bool p, .bool q, .slice aa n ac] 53) (.cells #[.int .i64 0, .int .i64 0, .slice none 0 0, .slice none 0 0, .int .i64 0, .int .i64 0, .int .i64 0, .int .i64 0, .int .i64 0, .int .u64 0, .int .u64 0, .int .u64 0, .int .i64 0, .int .u64 0] 58)
  have HW := Lib.hid hW
  clear hW
  unfold machL
  try dsimp only
  rw [ewhat]
  clear ewhat
  rw [epl]
  clear epl
  have TE := Lib.hid fun w' => machEnd_any a a2 cap cap2 c { m with what := 4, pl := 7 } 6 m.val w'
  unfold machL at TE
  try dsimp only at TE
  go_enter Try.func31, Try.ntmps31
  go_upto_region 1 with fail
  rw [HW.out]
  clear HW
  obtain ⟨x0, x1, x2, x3, x4, x5, x6, x7, x8, x9, x10, x11, x12, x13⟩ := rowc14 R0.out
  obtain ⟨y0, y1, y2, y3⟩ := rowc4 R1.out
  go_wp2_with fail
  refine (TE.out _).mono ?_; rintro e w1 ⟨rfl, hb1⟩
  have P1 := keepR hb1 R0
  have A1 := keepR hb1 R1
  have Z1 := keepR hb1 R2
  have HB1 := Lib.hid (below_then HB.out hb1)
  clear x0 x1 x2 x3 x4 x5 x6 x7 x8 x9 x10 x11 x12 x13 y0 y1 y2 y3
  clear hb1
  obtain ⟨x0, x1, x2, x3, x4, x5, x6, x7, x8, x9, x10, x11, x12, x13⟩ := rowc14 P1.out
  obtain ⟨y0, y1, y2, y3⟩ := rowc4 A1.out
  clear x0 x1 x2 x3 x4 x5 x6 x7 x8 x9 x10 x11 x12 x13 y0 y1 y2 y3
  go_wp2_with (refine wpList_store_row rfl 58 _ _ rfl (w.heap.size + 2) _ rfl rfl 58 #[.int .i64 0, .int .i64 0, .slice none 0 0, .slice none 0 0, .int .i64 0, .int .i64 0, .int .i64 0, .int .i64 0, .int .i64 0, .int .u64 0, .int .u64 0, .int .u64 0, .int .i64 0, .int .u64 0] Z1.out (by kernel_rfl) rfl (by simp [Value.oneCell']) ?_)
  refine bodyPost_ret (v := .agg #[.int .i64 4, .int .i64 0, .slice a c.caps.length cap, .slice a2 c.starts.length cap2, .int .i64 c.threads, .int .i64 m.chan, .int .i64 m.thr, .int .i64 m.idx, .int .i64 m.kind, .int .u64 m.val, .int .u64 m.t, .int .u64 m.h, .int .i64 6, .int .u64 m.val]) (results_cell_row Try.results31 _ _ (w.heap.size + 2) 58 _ (0, 0) _ rfl (setRow_heap _ _ _ _ 58 (0, 0) Z1.out) Try.underlying58 rfl (by kernel_rfl)) rfl ?_
  exact ⟨rfl, row_below HB1.out (by omega) _⟩
end Go.Proofs.Ytjnlkemdaffgbaa
