
import Derived.Test.YtmkngpjjimalhaaB07
import Derived.Test.YtmkngpjjimalhaaB05
import Derived.Test.YtmkngpjjimalhaaB12
set_option linter.unusedVariables false
set_option linter.unusedSimpArgs false
/- The document's small machines: seq. -/
namespace Go.Proofs.Ytmkngpjjimalhaa
open Go.ChangeShapes Go.WideShapes Go.ChangeAt Go.RowKit
set_option maxRecDepth 100000

theorem rseq1_any (a : Int) (w : World) :
    Calls Try.prog 72 #[.int .u64 a] w fun e w' => e = .returned (.int .u64 (a / 2)) ∧ w = w' := by
  go_enter Try.func72, Try.ntmps72
  go_wp2
  go_ret
  exact ⟨rfl, rfl⟩
set_option maxHeartbeats 4000000 in
theorem machSeq_any (a a2 : Option Addr) (cap cap2 : Nat) (c : ConfM) (m : MachM) (w : World) : Calls Try.prog 54 #[(.agg (machL (.slice a c.caps.length cap) (.slice a2 c.starts.length cap2) c.threads m).toArray)] w fun e w' => e = .returned (.int .u64 (m.t / 2)) ∧ Below w.heap.size w w' := by
  obtain ⟨W, hW⟩ : ∃ W, w.alloc (.cells #[.int .i64 m.what, .int .i64 m.pl, .slice a c.caps.length cap, .slice a2 c.starts.length cap2, .int .i64 c.threads, .int .i64 m.chan, .int .i64 m.thr, .int .i64 m.idx, .int .i64 m.kind, .int .u64 m.val, .int .u64 m.t, .int .u64 m.h, .int .i64 m.ok, .int .u64 m.ov] 56) = W := ⟨_, rfl⟩
  have HB : Hid (Below w.heap.size w W) := hW ▸ below_new (Below.refl w.heap.size w) _
  have R0 : Hid (W.heap[w.heap.size]? = some (.cells #[.int .i64 m.what, .int .i64 m.pl, .slice a c.caps.length cap, .slice a2 c.starts.length cap2, .int .i64 c.threads, .int .i64 m.chan, .int .i64 m.thr, .int .i64 m.idx, .int .i64 m.kind, .int .u64 m.val, .int .u64 m.t, .int .u64 m.h, .int .i64 m.ok, .int .u64 m.ov] 56 (0, 0))) := hW ▸ heap_alloc_new _ _
  have HW := Lib.hid hW
  clear hW
  unfold machL
  go_enter Try.func54, Try.ntmps54
  go_upto_region 1 with fail
  rw [HW.out]
  clear HW
  have q10 := cell_of_row _ _ 10 _ _ _ R0.out
  simp at q10
  go_wp2_with (go_at_call 72; refine (rseq1_any _ _).mono ?_; rintro e w' ⟨rfl, rfl⟩)
  go_ret
  exact ⟨rfl, HB.out⟩
end Go.Proofs.Ytmkngpjjimalhaa
/- The document's small machines: to, capacity; Closed and Rest of its sequence numbers. -/
namespace Go.Proofs.Ytmkngpjjimalhaa
open Go.ChangeShapes Go.WideShapes Go.ChangeAt Go.RowKit
set_option maxRecDepth 100000

set_option maxRecDepth 100000 in
set_option maxHeartbeats 16000000 in
theorem machTo_any (a a2 : Option Addr) (cap cap2 : Nat) (c : ConfM) (m : MachM) (p : Int) (w : World) : Calls Try.prog 32 #[(.agg (machL (.slice a c.caps.length cap) (.slice a2 c.starts.length cap2) c.threads m).toArray), .int .i64 p] w fun e w' => e = .returned (.agg (machL (.slice a c.caps.length cap) (.slice a2 c.starts.length cap2) c.threads { m with pl := p }).toArray) ∧ Below w.heap.size w w' := by
  obtain ⟨W, hW, HB, R0, R1, hz⟩ := two_new w (.cells #[.int .i64 m.what, .int .i64 m.pl, .slice a c.caps.length cap, .slice a2 c.starts.length cap2, .int .i64 c.threads, .int .i64 m.chan, .int .i64 m.thr, .int .i64 m.idx, .int .i64 m.kind, .int .u64 m.val, .int .u64 m.t, .int .u64 m.h, .int .i64 m.ok, .int .u64 m.ov] 56) (.cells #[.int .i64 0, .int .i64 0, .slice none 0 0, .slice none 0 0, .int .i64 0, .int .i64 0, .int .i64 0, .int .i64 0, .int .i64 0, .int .u64 0, .int .u64 0, .int .u64 0, .int .i64 0, .int .u64 0] 56)
  have HW := Lib.hid hW
  clear hW
  unfold machL
  dsimp only
  have f1 := frozen_of_row W w.heap.size 1 _ _ R0.out
  have r1 := heap_setCell_same W w.heap.size 1 _ _ (.int .i64 p) R0.out
  simp at r1
  have R3 := Lib.hid r1
  clear r1
  have Q1 := Lib.hid ((heap_setCell_other W ⟨w.heap.size, 1, none⟩ (w.heap.size + 1) (.int .i64 p) (by show w.heap.size + 1 ≠ w.heap.size; omega)).trans R1.out)
  have HB5 := Lib.hid (HB.out.setCell (p := ⟨w.heap.size, 1, none⟩) (Nat.le_refl _) (.int .i64 p))
  obtain ⟨W5, hW5⟩ : ∃ W5, W.setCell ⟨w.heap.size, 1, none⟩ (.int .i64 p) = W5 := ⟨_, rfl⟩
  rw [hW5] at R3 Q1 HB5
  have HW5 := Lib.hid hW5
  clear hW5
  go_enter Try.func32, Try.ntmps32
  go_upto_region 1 with fail
  rw [HW.out]
  clear HW
  obtain ⟨x0, x1, x2, x3, x4, x5, x6, x7, x8, x9, x10, x11, x12, x13⟩ := rowc14 R0.out
  go_upto_region 2 with fail
  rw [HW5.out]
  clear HW5 x0 x1 x2 x3 x4 x5 x6 x7 x8 x9 x10 x11 x12 x13 f1
  obtain ⟨x0, x1, x2, x3, x4, x5, x6, x7, x8, x9, x10, x11, x12, x13⟩ := rowc14 R3.out
  go_wp2_with (refine wpList_store_row rfl 56 _ _ rfl (w.heap.size + 1) _ rfl rfl 56 #[.int .i64 0, .int .i64 0, .slice none 0 0, .slice none 0 0, .int .i64 0, .int .i64 0, .int .i64 0, .int .i64 0, .int .i64 0, .int .u64 0, .int .u64 0, .int .u64 0, .int .i64 0, .int .u64 0] Q1.out (by kernel_rfl) rfl (by simp [Value.oneCell']) ?_)
  refine bodyPost_ret (v := .agg #[.int .i64 m.what, .int .i64 p, .slice a c.caps.length cap, .slice a2 c.starts.length cap2, .int .i64 c.threads, .int .i64 m.chan, .int .i64 m.thr, .int .i64 m.idx, .int .i64 m.kind, .int .u64 m.val, .int .u64 m.t, .int .u64 m.h, .int .i64 m.ok, .int .u64 m.ov]) (results_cell_row Try.results32 _ _ (w.heap.size + 1) 56 _ (0, 0) _ rfl (setRow_heap _ _ _ _ 56 (0, 0) Q1.out) Try.underlying56 rfl (by kernel_rfl)) rfl ?_
  exact ⟨rfl, row_below HB5.out (by omega) _⟩
set_option maxRecDepth 100000 in
set_option maxHeartbeats 16000000 in
theorem machCap_any (a a2 : Option Addr) (cap cap2 : Nat) (c : ConfM) (m : MachM) (k : Nat) (hk : k < c.caps.length) (hg : c.good) (hc : m.chan = k) (w : World) (hv : ConfV w (.agg #[.slice a c.caps.length cap, .slice a2 c.starts.length cap2, .int .i64 c.threads]) c) : Calls Try.prog 63 #[(.agg (machL (.slice a c.caps.length cap) (.slice a2 c.starts.length cap2) c.threads m).toArray)] w fun e w' => e = .returned (.int .u64 (c.caps.getD k 0)) ∧ Below w.heap.size w w' := by
  obtain ⟨W, hW⟩ : ∃ W, w.alloc (.cells #[.int .i64 m.what, .int .i64 m.pl, .slice a c.caps.length cap, .slice a2 c.starts.length cap2, .int .i64 c.threads, .int .i64 k, .int .i64 m.thr, .int .i64 m.idx, .int .i64 m.kind, .int .u64 m.val, .int .u64 m.t, .int .u64 m.h, .int .i64 m.ok, .int .u64 m.ov] 56) = W := ⟨_, rfl⟩
  have HB : Hid (Below w.heap.size w W) := hW ▸ below_new (Below.refl w.heap.size w) _
  have R0 : Hid (W.heap[w.heap.size]? = some (.cells #[.int .i64 m.what, .int .i64 m.pl, .slice a c.caps.length cap, .slice a2 c.starts.length cap2, .int .i64 c.threads, .int .i64 k, .int .i64 m.thr, .int .i64 m.idx, .int .i64 m.kind, .int .u64 m.val, .int .u64 m.t, .int .u64 m.h, .int .i64 m.ok, .int .u64 m.ov] 56 (0, 0))) := hW ▸ heap_alloc_new _ _
  have HW := Lib.hid hW
  clear hW
  unfold machL
  rw [hc]
  clear hc
  obtain ⟨vc, vs, e, h1, h2⟩ := hv
  simp only [Value.agg.injEq, Array.mk.injEq, List.cons.injEq] at e
  obtain ⟨rfl, rfl, -⟩ := e
  obtain ⟨b, off, he, hb, hcl⟩ := h1.cellAt k hk
  subst he
  have HC : Hid (W.cell? ⟨b, off + k, none⟩ = some (.int .i64 (c.caps.getD k 0))) := (HB.out.cell (p := ⟨b, off + k, none⟩) hb).trans hcl
  have hc0 := (hg.cap k hk).1
  have hc1 := (hg.cap k hk).2
  have hl := hg.len
  clear h1 h2 hg hcl
  obtain ⟨q, hq⟩ : ∃ q, c.caps.getD k 0 = q := ⟨_, rfl⟩
  rw [hq] at HC hc0 hc1
  rw [hq]
  clear hq
  have hkI : (k : Int) < (c.caps.length : Int) := by omega
  have hwq : IntKind.u64.wrap q = q := by rw [IntKind.wrap_u64]; omega
  go_enter Try.func63, Try.ntmps63
  go_upto_region 1 with fail
  rw [HW.out]
  clear HW
  obtain ⟨x0, x1, x2, x3, x4, x5, x6, x7, x8, x9, x10, x11, x12, x13⟩ := rowc14 R0.out
  have hcx := HC.out
  go_wp2_with fail
  go_ret
  exact ⟨by first | rfl | rw [hwq], HB.out⟩
theorem rclosed1_any (x : Int) (w : World) (h0 : 0 ≤ x) (h1 : x < 18446744073709551616) : Calls Try.prog 61 #[.int .u64 x] w fun e w' => e = .returned (.bool (closedB x)) ∧ w = w' := by
  have hx := and1 x h0 h1
  obtain ⟨y, hy⟩ : ∃ y, bits BinOp.and IntKind.u64 x 1 = y := ⟨_, rfl⟩
  rw [hy] at hx
  have hv : closedB x = (y == 1) := by unfold closedB; rw [hx]; by_cases h : x % 2 = 1 <;> simp [h]
  rw [hv]
  clear hv hx h0 h1
  go_enter Try.func61, Try.ntmps61
  go_wp2
  go_ret
  exact ⟨by first | rfl | rw [hy], rfl⟩
theorem restI_eq (a b : Int) : bits BinOp.and IntKind.u64 (IntKind.u64.wrap (a - b)) 9223372036854775807 = restI a b := by
  rw [and63 _ (by rw [IntKind.wrap_u64]; omega) (by rw [IntKind.wrap_u64]; omega), IntKind.wrap_u64]
  unfold restI
  omega
theorem rrest_any (x y : Int) (w : World) : Calls Try.prog 62 #[.int .u64 x, .int .u64 y] w fun e w' => e = .returned (.int .u64 (restI x y)) ∧ w = w' := by
  rw [← restI_eq]
  go_enter Try.func62, Try.ntmps62
  go_wp2
  go_ret
  exact ⟨rfl, rfl⟩
end Go.Proofs.Ytmkngpjjimalhaa
