/- The record of an access: what the program and the document's answer hand back. -/
import Derived.Test.YtipjfcjdefdoeaaItems
import Derived.Test.YtipjfcjdefdoeaaMmS
import Derived.Deep.DeepCutAuto
namespace Go.Proofs.Ytipjfcjdefdoeaa
open Go.ChangeShapes Go.WideShapes Go.ChangeAt Go.RowKit
set_option maxRecDepth 100000

theorem alloc3_rows (w : World) (o0 o1 o2 : Obj) : (((w.alloc o0).alloc o1).alloc o2).heap[w.heap.size]? = some o0 ∧ (((w.alloc o0).alloc o1).alloc o2).heap[w.heap.size + 1]? = some o1 ∧ (((w.alloc o0).alloc o1).alloc o2).heap[w.heap.size + 2]? = some o2 ∧ Below w.heap.size w (((w.alloc o0).alloc o1).alloc o2) := by
  have h1 := below_new (Below.refl _ ((w.alloc o0).alloc o1)) o2
  refine ⟨(h1.block _ (by simp; omega)).trans (heap_alloc2_old _ _ _), (h1.block _ (by simp)).trans (heap_alloc2_new _ _ _), ?_, below_new (below_new (below_new (Below.refl _ _) _) _) _⟩
  have := heap_alloc_new ((w.alloc o0).alloc o1) o2
  simpa using this
set_option maxHeartbeats 4000000 in
theorem ritem_any (th : Int) (b1 : AccM) (b2 : AnsM) (aa : Option Addr) (n ac : Nat) (w : World) : Calls Try.prog 12 #[.int .i64 th, accV b1, .agg #[.int .u64 b2.val, .bool b2.ok, .bool b2.late, .slice aa n ac]] w fun e w' => e = .returned (itemV ⟨th, b1, b2.val, b2.ok⟩) ∧ Below w.heap.size w w' := by
  obtain ⟨hr0, hr1, hr2, hrb⟩ := alloc3_rows w (.cells #[.int .i64 b1.kind, .int .i64 b1.addr, .int .u64 b1.old, .int .u64 b1.new, .int .i64 b1.til] 34) (.cells #[.int .u64 b2.val, .bool b2.ok, .bool b2.late, .slice aa n ac] 38) (.cells zeroItem 42)
  obtain ⟨W, hW⟩ : ∃ W, ((w.alloc (.cells #[.int .i64 b1.kind, .int .i64 b1.addr, .int .u64 b1.old, .int .u64 b1.new, .int .i64 b1.til] 34)).alloc (.cells #[.int .u64 b2.val, .bool b2.ok, .bool b2.late, .slice aa n ac] 38)).alloc (.cells zeroItem 42) = W := ⟨_, rfl⟩
  rw [hW] at hr0 hr1 hr2 hrb
  have R0 := Lib.hid hr0
  have R1 := Lib.hid hr1
  have R2 := Lib.hid hr2
  have HB := Lib.hid hrb
  have HW := Lib.hid hW
  clear hr0 hr1 hr2 hrb hW
  unfold accV
  go_enter Try.func12, Try.ntmps12
  go_upto_region 1 with fail
  rw [show (#[.int .i64 0, .int .i64 0, .int .i64 0, .int .u64 0, .int .u64 0, .int .i64 0, .int .u64 0, .bool false] : Array Value) = zeroItem from rfl, HW.out]
  clear HW
  obtain ⟨y0, y1, y2, y3, y4⟩ := rowc5 R0.out
  obtain ⟨z0, z1, z2, z3⟩ := rowc4 R1.out
  go_wp2_with (refine wpList_store_row rfl 42 _ _ rfl (w.heap.size + 2) _ rfl rfl 42 zeroItem R2.out (by kernel_rfl) rfl (by simp [Value.oneCell']) ?_)
  refine bodyPost_ret (v := itemV ⟨th, b1, b2.val, b2.ok⟩) (results_cell_row Try.results12 _ _ (w.heap.size + 2) 42 _ (0, 0) _ rfl (setRow_heap _ _ _ _ 42 (0, 0) R2.out) Try.underlying42 rfl (by kernel_rfl)) rfl ?_
  exact ⟨rfl, row_below HB.out (by omega) _⟩
end Go.Proofs.Ytipjfcjdefdoeaa
