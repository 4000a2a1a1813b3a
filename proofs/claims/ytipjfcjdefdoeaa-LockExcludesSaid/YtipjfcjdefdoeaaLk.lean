/- The machines of a lock: what the program's functions hand back. -/
import Derived.Test.YtipjfcjdefdoeaaScope
import Derived.Test.YtipjfcjdefdoeaaLyW
import Derived.Test.YtipjfcjdefdoeaaMmS
import Derived.Test.YtipjfcjdefdoeaaLyN
import Derived.Deep.DeepCutAuto
namespace Go.Proofs.Ytipjfcjdefdoeaa
open Go.ChangeShapes Go.WideShapes Go.ChangeAt Go.RowKit
set_option maxRecDepth 100000

/-- a frame of a machine of a lock, by its place and its list -/
def lkV (pc : Int) (v : Value) : Value := .agg #[.int .i64 0, .int .i64 pc, .slice none 0 0, v, .slice none 0 0]
theorem rowc5' {w : World} {g : Nat} {T : TypeId} {v0 v1 v2 v3 v4 : Value} (h : w.heap[g]? = some (.cells #[v0, v1, v2, v3, v4] T (0, 0))) :
    w.cell? ⟨g, 0, none⟩ = some v0 ∧ w.cell? ⟨g, 1, none⟩ = some v1 ∧ w.cell? ⟨g, 2, none⟩ = some v2 ∧ w.cell? ⟨g, 3, none⟩ = some v3 ∧ w.cell? ⟨g, 4, none⟩ = some v4 :=
  ⟨cell_of_row _ _ 0 _ _ _ h, cell_of_row _ _ 1 _ _ _ h, cell_of_row _ _ 2 _ _ _ h, cell_of_row _ _ 3 _ _ _ h, cell_of_row _ _ 4 _ _ _ h⟩
--TAKE
set_option maxHeartbeats 4000000 in
theorem take_any (v : Value) (c : ConfM) (k : Nat) (hk : k < c.caps.length) (w : World) (h : ConfV w v c) (hg : c.good) :
    Calls Try.prog 27 #[v, .int .i64 k] w fun e w' => ∃ b, e = .returned (lkV 1 (.slice (some ⟨b, 0, none⟩) 1 1)) ∧ Hid (w'.heap[b]? = some (.cells #[.int .i64 (c.base k + 2)] 3 (0, 0))) ∧ Hid (w.heap.size ≤ b) ∧ Hid (Below w.heap.size w w') := by
  have HV := Lib.hid h
  obtain ⟨vc, vs, rfl, h1, h2⟩ := h
  obtain ⟨a, cap, rfl, -⟩ := h1.len
  obtain ⟨a2, cap2, rfl, -⟩ := h2.len
  obtain ⟨W, hW⟩ : ∃ W, (w.alloc (.cells #[.slice a c.caps.length cap, .slice a2 c.starts.length cap2, .int .i64 c.threads] 52)).alloc (.cells #[.int .i64 0, .int .i64 0, .slice none 0 0, .slice none 0 0, .slice none 0 0] 71) = W := ⟨_, rfl⟩
  have HB : Hid (Below w.heap.size w W) := hW ▸ below_new (below_new (Below.refl w.heap.size w) _) _
  have R0 : Hid (W.heap[w.heap.size]? = some (.cells #[.slice a c.caps.length cap, .slice a2 c.starts.length cap2, .int .i64 c.threads] 52 (0, 0))) := hW ▸ heap_alloc2_old _ _ _
  have R1 : Hid (W.heap[w.heap.size + 1]? = some (.cells #[.int .i64 0, .int .i64 0, .slice none 0 0, .slice none 0 0, .slice none 0 0] 71 (0, 0))) := hW ▸ heap_alloc2_new _ _ _
  have HW := Lib.hid hW
  have hz : w.heap.size + 2 = W.heap.size := by rw [← hW]; simp
  clear hW h1 h2
  have hl := hg.len
  have hn := hg.base8 k (Nat.le_of_lt hk)
  go_enter Try.func27, Try.ntmps27
  go_upto_region 1 with fail
  rw [HW.out]
  clear HW
  obtain ⟨x0, x1, x2⟩ := rowc3 R0.out
  go_wp2_with fail
  refine (lockW_any _ c k hk _ (HV.out.below HB.out) hg).mono ?_; rintro e w1 ⟨rfl, hb1⟩
  obtain ⟨W2, hW2⟩ : ∃ W2, w1.alloc (.cells #[.int .i64 (c.base k + 2)] 3) = W2 := ⟨_, rfl⟩
  have HB2 : Hid (Below W.heap.size W W2) := hW2 ▸ below_new hb1 _
  have R2 : Hid (W2.heap[w1.heap.size]? = some (.cells #[.int .i64 (c.base k + 2)] 3 (0, 0))) := hW2 ▸ heap_alloc_new _ _
  have R1' := Lib.hid ((HB2.out.block (w.heap.size + 1) (by omega)).trans R1.out)
  have hz1 := hb1.size
  obtain ⟨b, hb⟩ : ∃ b, w1.heap.size = b := ⟨_, rfl⟩
  rw [hb] at R2 hz1
  have HW2 := Lib.hid hW2
  have Hb := Lib.hid hb
  clear hb1 hW2 hb x0 x1 x2
  go_wp2_with (refine wpList_store_row rfl 71 _ _ rfl (w.heap.size + 1) _ rfl rfl 71 #[.int .i64 0, .int .i64 0, .slice none 0 0, .slice none 0 0, .slice none 0 0] (by first | exact R1'.out | (rw [HW2.out]; exact R1'.out)) (by kernel_rfl) rfl (by simp [Value.oneCell']) ?_)
  rw [HW2.out, Hb.out]
  refine bodyPost_ret (v := lkV 1 (.slice (some ⟨b, 0, none⟩) 1 1)) (results_cell_row Try.results27 _ _ (w.heap.size + 1) 71 _ (0, 0) _ rfl (setRow_heap _ _ _ _ 71 (0, 0) R1'.out) Try.underlying71 rfl (by kernel_rfl)) rfl ?_
  exact ⟨b, rfl, Lib.hid ((setRow_other W2 (w.heap.size + 1) b _ (by omega)).trans R2.out), Lib.hid (by show w.heap.size ≤ b; omega), Lib.hid (row_below (below_then HB.out HB2.out) (by omega) _)⟩
set_option maxHeartbeats 4000000 in
theorem release_any (v : Value) (c : ConfM) (k : Nat) (hk : k < c.caps.length) (w : World) (h : ConfV w v c) (hg : c.good) :
    Calls Try.prog 25 #[v, .int .i64 k] w fun e w' => ∃ b, e = .returned (lkV 2 (.slice (some ⟨b, 0, none⟩) 1 1)) ∧ Hid (w'.heap[b]? = some (.cells #[.int .i64 (c.base k + 2)] 3 (0, 0))) ∧ Hid (w.heap.size ≤ b) ∧ Hid (Below w.heap.size w w') := by
  have HV := Lib.hid h
  obtain ⟨vc, vs, rfl, h1, h2⟩ := h
  obtain ⟨a, cap, rfl, -⟩ := h1.len
  obtain ⟨a2, cap2, rfl, -⟩ := h2.len
  obtain ⟨W, hW⟩ : ∃ W, (w.alloc (.cells #[.slice a c.caps.length cap, .slice a2 c.starts.length cap2, .int .i64 c.threads] 52)).alloc (.cells #[.int .i64 0, .int .i64 0, .slice none 0 0, .slice none 0 0, .slice none 0 0] 71) = W := ⟨_, rfl⟩
  have HB : Hid (Below w.heap.size w W) := hW ▸ below_new (below_new (Below.refl w.heap.size w) _) _
  have R0 : Hid (W.heap[w.heap.size]? = some (.cells #[.slice a c.caps.length cap, .slice a2 c.starts.length cap2, .int .i64 c.threads] 52 (0, 0))) := hW ▸ heap_alloc2_old _ _ _
  have R1 : Hid (W.heap[w.heap.size + 1]? = some (.cells #[.int .i64 0, .int .i64 0, .slice none 0 0, .slice none 0 0, .slice none 0 0] 71 (0, 0))) := hW ▸ heap_alloc2_new _ _ _
  have HW := Lib.hid hW
  have hz : w.heap.size + 2 = W.heap.size := by rw [← hW]; simp
  clear hW h1 h2
  have hl := hg.len
  have hn := hg.base8 k (Nat.le_of_lt hk)
  go_enter Try.func25, Try.ntmps25
  go_upto_region 1 with fail
  rw [HW.out]
  clear HW
  obtain ⟨x0, x1, x2⟩ := rowc3 R0.out
  go_wp2_with fail
  refine (lockW_any _ c k hk _ (HV.out.below HB.out) hg).mono ?_; rintro e w1 ⟨rfl, hb1⟩
  obtain ⟨W2, hW2⟩ : ∃ W2, w1.alloc (.cells #[.int .i64 (c.base k + 2)] 3) = W2 := ⟨_, rfl⟩
  have HB2 : Hid (Below W.heap.size W W2) := hW2 ▸ below_new hb1 _
  have R2 : Hid (W2.heap[w1.heap.size]? = some (.cells #[.int .i64 (c.base k + 2)] 3 (0, 0))) := hW2 ▸ heap_alloc_new _ _
  have R1' := Lib.hid ((HB2.out.block (w.heap.size + 1) (by omega)).trans R1.out)
  have hz1 := hb1.size
  obtain ⟨b, hb⟩ : ∃ b, w1.heap.size = b := ⟨_, rfl⟩
  rw [hb] at R2 hz1
  have HW2 := Lib.hid hW2
  have Hb := Lib.hid hb
  clear hb1 hW2 hb x0 x1 x2
  go_wp2_with (refine wpList_store_row rfl 71 _ _ rfl (w.heap.size + 1) _ rfl rfl 71 #[.int .i64 0, .int .i64 0, .slice none 0 0, .slice none 0 0, .slice none 0 0] (by first | exact R1'.out | (rw [HW2.out]; exact R1'.out)) (by kernel_rfl) rfl (by simp [Value.oneCell']) ?_)
  rw [HW2.out, Hb.out]
  refine bodyPost_ret (v := lkV 2 (.slice (some ⟨b, 0, none⟩) 1 1)) (results_cell_row Try.results25 _ _ (w.heap.size + 1) 71 _ (0, 0) _ rfl (setRow_heap _ _ _ _ 71 (0, 0) R1'.out) Try.underlying71 rfl (by kernel_rfl)) rfl ?_
  exact ⟨b, rfl, Lib.hid ((setRow_other W2 (w.heap.size + 1) b _ (by omega)).trans R2.out), Lib.hid (by show w.heap.size ≤ b; omega), Lib.hid (row_below (below_then HB.out HB2.out) (by omega) _)⟩
theorem heap_alloc3_1 (w : World) (a b c : Obj) : (((w.alloc a).alloc b).alloc c).heap[w.heap.size]? = some a := by
  rw [heap_alloc_old _ _ (by simp <;> omega), heap_alloc_old _ _ (by simp <;> omega), heap_alloc_new]
theorem heap_alloc3_2 (w : World) (a b c : Obj) : (((w.alloc a).alloc b).alloc c).heap[w.heap.size + 1]? = some b := by
  rw [heap_alloc_old _ _ (by simp <;> omega)]
  have := heap_alloc_new (w.alloc a) b
  simpa using this
theorem heap_alloc3_3 (w : World) (a b c : Obj) : (((w.alloc a).alloc b).alloc c).heap[w.heap.size + 2]? = some c := by
  have := heap_alloc_new ((w.alloc a).alloc b) c
  simpa using this
set_option maxHeartbeats 4000000 in
theorem lkNext1 (b : Nat) (ad : Int) (w : World) (h : w.heap[b]? = some (.cells #[.int .i64 ad] 3 (0, 0))) :
    Calls Try.prog 30 #[lkV 1 (.slice (some ⟨b, 0, none⟩) 1 1)] w fun e w' => e = .returned (accV ⟨3, ad, 0, 1, 0⟩) ∧ Below w.heap.size w w' := by
  obtain ⟨W, hW⟩ : ∃ W, (w.alloc (.cells #[.int .i64 0, .int .i64 1, .slice none 0 0, .slice (some ⟨b, 0, none⟩) 1 1, .slice none 0 0] 71)).alloc (.cells #[.int .i64 0, .int .i64 0, .int .u64 0, .int .u64 0, .int .i64 0] 34) = W := ⟨_, rfl⟩
  have HB : Hid (Below w.heap.size w W) := hW ▸ below_new (below_new (Below.refl w.heap.size w) _) _
  have R0 : Hid (W.heap[w.heap.size]? = some (.cells #[.int .i64 0, .int .i64 1, .slice none 0 0, .slice (some ⟨b, 0, none⟩) 1 1, .slice none 0 0] 71 (0, 0))) := hW ▸ heap_alloc2_old _ _ _
  have R1 : Hid (W.heap[w.heap.size + 1]? = some (.cells #[.int .i64 0, .int .i64 0, .int .u64 0, .int .u64 0, .int .i64 0] 34 (0, 0))) := hW ▸ heap_alloc2_new _ _ _
  have hbl : b < w.heap.size := (Array.getElem?_eq_some_iff.1 h).1
  have c0 := cell_of_row _ b 0 _ _ _ ((HB.out.block b hbl).trans h)
  simp at c0
  have HW := Lib.hid hW
  clear hW h hbl
  unfold lkV
  go_enter Try.func30, Try.ntmps30
  go_upto_region 1 with fail
  rw [HW.out]
  clear HW
  obtain ⟨x0, x1, x2, x3, x4⟩ := rowc5' R0.out
  go_wp2_with (refine wpList_store_row rfl 34 _ _ rfl (w.heap.size + 1) _ rfl rfl 34 #[.int .i64 0, .int .i64 0, .int .u64 0, .int .u64 0, .int .i64 0] R1.out (by kernel_rfl) rfl (by simp [Value.oneCell']) ?_)
  refine bodyPost_ret (v := accV ⟨3, ad, 0, 1, 0⟩) (results_cell_row Try.results30 _ _ (w.heap.size + 1) 34 _ (0, 0) _ rfl (setRow_heap _ _ _ _ 34 (0, 0) R1.out) Try.underlying34 rfl (by kernel_rfl)) rfl ?_
  exact ⟨rfl, row_below HB.out (by omega) _⟩
set_option maxHeartbeats 4000000 in
theorem lkNext2 (b : Nat) (ad : Int) (w : World) (h : w.heap[b]? = some (.cells #[.int .i64 ad] 3 (0, 0))) :
    Calls Try.prog 30 #[lkV 2 (.slice (some ⟨b, 0, none⟩) 1 1)] w fun e w' => e = .returned (accV ⟨2, ad, 0, 0, 0⟩) ∧ Below w.heap.size w w' := by
  obtain ⟨W, hW⟩ : ∃ W, (w.alloc (.cells #[.int .i64 0, .int .i64 2, .slice none 0 0, .slice (some ⟨b, 0, none⟩) 1 1, .slice none 0 0] 71)).alloc (.cells #[.int .i64 0, .int .i64 0, .int .u64 0, .int .u64 0, .int .i64 0] 34) = W := ⟨_, rfl⟩
  have HB : Hid (Below w.heap.size w W) := hW ▸ below_new (below_new (Below.refl w.heap.size w) _) _
  have R0 : Hid (W.heap[w.heap.size]? = some (.cells #[.int .i64 0, .int .i64 2, .slice none 0 0, .slice (some ⟨b, 0, none⟩) 1 1, .slice none 0 0] 71 (0, 0))) := hW ▸ heap_alloc2_old _ _ _
  have R1 : Hid (W.heap[w.heap.size + 1]? = some (.cells #[.int .i64 0, .int .i64 0, .int .u64 0, .int .u64 0, .int .i64 0] 34 (0, 0))) := hW ▸ heap_alloc2_new _ _ _
  have hbl : b < w.heap.size := (Array.getElem?_eq_some_iff.1 h).1
  have c0 := cell_of_row _ b 0 _ _ _ ((HB.out.block b hbl).trans h)
  simp at c0
  have HW := Lib.hid hW
  clear hW h hbl
  unfold lkV
  go_enter Try.func30, Try.ntmps30
  go_upto_region 1 with fail
  rw [HW.out]
  clear HW
  obtain ⟨x0, x1, x2, x3, x4⟩ := rowc5' R0.out
  go_wp2_with (refine wpList_store_row rfl 34 _ _ rfl (w.heap.size + 1) _ rfl rfl 34 #[.int .i64 0, .int .i64 0, .int .u64 0, .int .u64 0, .int .i64 0] R1.out (by kernel_rfl) rfl (by simp [Value.oneCell']) ?_)
  refine bodyPost_ret (v := accV ⟨2, ad, 0, 0, 0⟩) (results_cell_row Try.results30 _ _ (w.heap.size + 1) 34 _ (0, 0) _ rfl (setRow_heap _ _ _ _ 34 (0, 0) R1.out) Try.underlying34 rfl (by kernel_rfl)) rfl ?_
  exact ⟨rfl, row_below HB.out (by omega) _⟩
set_option maxHeartbeats 4000000 in
theorem lkNext3 (w : World) :
    Calls Try.prog 30 #[lkV 3 (.slice none 0 0)] w fun e w' => e = .returned (accV ⟨0, 0, 0, 0, 0⟩) ∧ Below w.heap.size w w' := by
  obtain ⟨W, hW⟩ : ∃ W, (w.alloc (.cells #[.int .i64 0, .int .i64 3, .slice none 0 0, .slice none 0 0, .slice none 0 0] 71)).alloc (.cells #[.int .i64 0, .int .i64 0, .int .u64 0, .int .u64 0, .int .i64 0] 34) = W := ⟨_, rfl⟩
  have HB : Hid (Below w.heap.size w W) := hW ▸ below_new (below_new (Below.refl w.heap.size w) _) _
  have R0 : Hid (W.heap[w.heap.size]? = some (.cells #[.int .i64 0, .int .i64 3, .slice none 0 0, .slice none 0 0, .slice none 0 0] 71 (0, 0))) := hW ▸ heap_alloc2_old _ _ _
  have R1 : Hid (W.heap[w.heap.size + 1]? = some (.cells #[.int .i64 0, .int .i64 0, .int .u64 0, .int .u64 0, .int .i64 0] 34 (0, 0))) := hW ▸ heap_alloc2_new _ _ _
  have HW := Lib.hid hW
  clear hW
  unfold lkV
  go_enter Try.func30, Try.ntmps30
  go_upto_region 1 with fail
  rw [HW.out]
  clear HW
  obtain ⟨x0, x1, x2, x3, x4⟩ := rowc5' R0.out
  go_wp2_with (refine wpList_store_row rfl 34 _ _ rfl (w.heap.size + 1) _ rfl rfl 34 #[.int .i64 0, .int .i64 0, .int .u64 0, .int .u64 0, .int .i64 0] R1.out (by kernel_rfl) rfl (by simp [Value.oneCell']) ?_)
  refine bodyPost_ret (v := accV ⟨0, 0, 0, 0, 0⟩) (results_cell_row Try.results30 _ _ (w.heap.size + 1) 34 _ (0, 0) _ rfl (setRow_heap _ _ _ _ 34 (0, 0) R1.out) Try.underlying34 rfl (by kernel_rfl)) rfl ?_
  exact ⟨rfl, row_below HB.out (by omega) _⟩
set_option maxHeartbeats 4000000 in
theorem lkEnd1 (l : Value) (w : World) :
    Calls Try.prog 28 #[lkV 1 l] w fun e w' => e = .returned (.tuple #[.agg #[.int .i64 0, .int .u64 0], .bool false]) ∧ Below w.heap.size w w' := by
  obtain ⟨W, hW⟩ : ∃ W, (w.alloc (.cells #[.int .i64 0, .int .i64 1, .slice none 0 0, l, .slice none 0 0] 71)).alloc (.cells #[.int .i64 0, .int .u64 0] 66) = W := ⟨_, rfl⟩
  have HB : Hid (Below w.heap.size w W) := hW ▸ below_new (below_new (Below.refl w.heap.size w) _) _
  have R0 : Hid (W.heap[w.heap.size]? = some (.cells #[.int .i64 0, .int .i64 1, .slice none 0 0, l, .slice none 0 0] 71 (0, 0))) := hW ▸ heap_alloc2_old _ _ _
  have R1 : Hid (W.heap[w.heap.size + 1]? = some (.cells #[.int .i64 0, .int .u64 0] 66 (0, 0))) := hW ▸ heap_alloc2_new _ _ _
  have HW := Lib.hid hW
  clear hW
  unfold lkV
  go_enter Try.func28, Try.ntmps28
  go_upto_region 1 with fail
  rw [HW.out]
  clear HW
  obtain ⟨x0, x1, x2, x3, x4⟩ := rowc5' R0.out
  go_wp2_with (refine wpList_store_row rfl 66 _ _ rfl (w.heap.size + 1) _ rfl rfl 66 #[.int .i64 0, .int .u64 0] R1.out (by kernel_rfl) rfl (by simp [Value.oneCell']) ?_)
  refine bodyPost_ret (v := .tuple #[.agg #[.int .i64 0, .int .u64 0], .bool false]) (results_cell_tmp Try.results28 _ _ (w.heap.size + 1) 66 _ (0, 0) _ rfl (setRow_heap _ _ _ _ 66 (0, 0) R1.out) Try.underlying66 rfl (by kernel_rfl) _ rfl) rfl ?_
  exact ⟨rfl, row_below HB.out (by omega) _⟩
set_option maxHeartbeats 4000000 in
theorem lkEnd2 (l : Value) (w : World) :
    Calls Try.prog 28 #[lkV 2 l] w fun e w' => e = .returned (.tuple #[.agg #[.int .i64 0, .int .u64 0], .bool false]) ∧ Below w.heap.size w w' := by
  obtain ⟨W, hW⟩ : ∃ W, (w.alloc (.cells #[.int .i64 0, .int .i64 2, .slice none 0 0, l, .slice none 0 0] 71)).alloc (.cells #[.int .i64 0, .int .u64 0] 66) = W := ⟨_, rfl⟩
  have HB : Hid (Below w.heap.size w W) := hW ▸ below_new (below_new (Below.refl w.heap.size w) _) _
  have R0 : Hid (W.heap[w.heap.size]? = some (.cells #[.int .i64 0, .int .i64 2, .slice none 0 0, l, .slice none 0 0] 71 (0, 0))) := hW ▸ heap_alloc2_old _ _ _
  have R1 : Hid (W.heap[w.heap.size + 1]? = some (.cells #[.int .i64 0, .int .u64 0] 66 (0, 0))) := hW ▸ heap_alloc2_new _ _ _
  have HW := Lib.hid hW
  clear hW
  unfold lkV
  go_enter Try.func28, Try.ntmps28
  go_upto_region 1 with fail
  rw [HW.out]
  clear HW
  obtain ⟨x0, x1, x2, x3, x4⟩ := rowc5' R0.out
  go_wp2_with (refine wpList_store_row rfl 66 _ _ rfl (w.heap.size + 1) _ rfl rfl 66 #[.int .i64 0, .int .u64 0] R1.out (by kernel_rfl) rfl (by simp [Value.oneCell']) ?_)
  refine bodyPost_ret (v := .tuple #[.agg #[.int .i64 0, .int .u64 0], .bool false]) (results_cell_tmp Try.results28 _ _ (w.heap.size + 1) 66 _ (0, 0) _ rfl (setRow_heap _ _ _ _ 66 (0, 0) R1.out) Try.underlying66 rfl (by kernel_rfl) _ rfl) rfl ?_
  exact ⟨rfl, row_below HB.out (by omega) _⟩
set_option maxHeartbeats 4000000 in
theorem lkEnd3 (l : Value) (w : World) :
    Calls Try.prog 28 #[lkV 3 l] w fun e w' => e = .returned (.tuple #[.agg #[.int .i64 1, .int .u64 0], .bool true]) ∧ Below w.heap.size w w' := by
  obtain ⟨W, hW⟩ : ∃ W, (w.alloc (.cells #[.int .i64 0, .int .i64 3, .slice none 0 0, l, .slice none 0 0] 71)).alloc (.cells #[.int .i64 0, .int .u64 0] 66) = W := ⟨_, rfl⟩
  have HB : Hid (Below w.heap.size w W) := hW ▸ below_new (below_new (Below.refl w.heap.size w) _) _
  have R0 : Hid (W.heap[w.heap.size]? = some (.cells #[.int .i64 0, .int .i64 3, .slice none 0 0, l, .slice none 0 0] 71 (0, 0))) := hW ▸ heap_alloc2_old _ _ _
  have R1 : Hid (W.heap[w.heap.size + 1]? = some (.cells #[.int .i64 0, .int .u64 0] 66 (0, 0))) := hW ▸ heap_alloc2_new _ _ _
  have HW := Lib.hid hW
  clear hW
  unfold lkV
  go_enter Try.func28, Try.ntmps28
  go_upto_region 1 with fail
  rw [HW.out]
  clear HW
  obtain ⟨x0, x1, x2, x3, x4⟩ := rowc5' R0.out
  go_wp2_with (refine wpList_store_row rfl 66 _ _ rfl (w.heap.size + 1) _ rfl rfl 66 #[.int .i64 0, .int .u64 0] R1.out (by kernel_rfl) rfl (by simp [Value.oneCell']) ?_)
  refine bodyPost_ret (v := .tuple #[.agg #[.int .i64 1, .int .u64 0], .bool true]) (results_cell_tmp Try.results28 _ _ (w.heap.size + 1) 66 _ (0, 0) _ rfl (setRow_heap _ _ _ _ 66 (0, 0) R1.out) Try.underlying66 rfl (by kernel_rfl) _ rfl) rfl ?_
  exact ⟨rfl, row_below HB.out (by omega) _⟩
set_option maxHeartbeats 4000000 in
theorem lkRes1 (la : Option Addr) (ln lc : Nat) (z : Value) (x : Int) (p : Bool) (w : World) :
    Calls Try.prog 29 #[lkV 1 (.slice la ln lc), .agg #[.int .u64 x, .bool true, .bool p, z]] w fun e w' => e = .returned (lkV 3 (.slice none 0 0)) ∧ Below w.heap.size w w' := by
  obtain ⟨W, hW⟩ : ∃ W, ((w.alloc (.cells #[.int .i64 0, .int .i64 1, .slice none 0 0, (.slice la ln lc), .slice none 0 0] 71)).alloc (.cells #[.int .u64 x, .bool true, .bool p, z] 38)).alloc (.cells #[.int .i64 0, .int .i64 0, .slice none 0 0, .slice none 0 0, .slice none 0 0] 71) = W := ⟨_, rfl⟩
  have HB : Hid (Below w.heap.size w W) := hW ▸ below_new (below_new (below_new (Below.refl w.heap.size w) _) _) _
  have R0 : Hid (W.heap[w.heap.size]? = some (.cells #[.int .i64 0, .int .i64 1, .slice none 0 0, (.slice la ln lc), .slice none 0 0] 71 (0, 0))) := hW ▸ heap_alloc3_1 _ _ _ _
  have R1 : Hid (W.heap[w.heap.size + 1]? = some (.cells #[.int .u64 x, .bool true, .bool p, z] 38 (0, 0))) := hW ▸ heap_alloc3_2 _ _ _ _
  have R2 : Hid (W.heap[w.heap.size + 2]? = some (.cells #[.int .i64 0, .int .i64 0, .slice none 0 0, .slice none 0 0, .slice none 0 0] 71 (0, 0))) := hW ▸ heap_alloc3_3 _ _ _ _
  have HW := Lib.hid hW
  clear hW
  unfold lkV
  go_enter Try.func29, Try.ntmps29
  go_wp2_with fail
  rw [HW.out]
  clear HW
  obtain ⟨x0, x1, x2, x3, x4⟩ := rowc5' R0.out
  obtain ⟨y0, y1, y2, y3⟩ := rowc4 R1.out
  refine wp_scopes 3 fun f HF => ?_
  go_wp2_with fail
  go_step3
  refine scopes_goto ((HF.out 0).trans rfl) ?_
  go_wp2_with fail
  go_step3
  go_wp2_with (refine wpList_store_row rfl 71 _ _ rfl (w.heap.size + 2) _ rfl rfl 71 #[.int .i64 0, .int .i64 0, .slice none 0 0, .slice none 0 0, .slice none 0 0] R2.out (by kernel_rfl) rfl (by simp [Value.oneCell']) ?_)
  have RR := setRow_heap W (w.heap.size + 2) _ #[.int .i64 0, .int .i64 3, .slice none 0 0, .slice none 0 0, .slice none 0 0] _ (0, 0) R2.out
  have BB := row_below HB.out (show w.heap.size ≤ w.heap.size + 2 by omega) #[.int .i64 0, .int .i64 3, .slice none 0 0, .slice none 0 0, .slice none 0 0]
  try rw [scopes_ret]
  refine bodyPost_ret (v := lkV 3 (.slice none 0 0)) (results_cell_row Try.results29 _ _ (w.heap.size + 2) 71 _ (0, 0) _ rfl RR Try.underlying71 rfl (by kernel_rfl)) rfl ?_
  exact ⟨rfl, BB⟩
set_option maxHeartbeats 4000000 in
theorem lkRes1n (la : Option Addr) (ln lc : Nat) (z : Value) (x : Int) (p : Bool) (w : World) :
    Calls Try.prog 29 #[lkV 1 (.slice la ln lc), .agg #[.int .u64 x, .bool false, .bool p, z]] w fun e w' => e = .returned (lkV 1 (.slice la ln lc)) ∧ Below w.heap.size w w' := by
  obtain ⟨W, hW⟩ : ∃ W, ((w.alloc (.cells #[.int .i64 0, .int .i64 1, .slice none 0 0, (.slice la ln lc), .slice none 0 0] 71)).alloc (.cells #[.int .u64 x, .bool false, .bool p, z] 38)).alloc (.cells #[.int .i64 0, .int .i64 0, .slice none 0 0, .slice none 0 0, .slice none 0 0] 71) = W := ⟨_, rfl⟩
  have HB : Hid (Below w.heap.size w W) := hW ▸ below_new (below_new (below_new (Below.refl w.heap.size w) _) _) _
  have R0 : Hid (W.heap[w.heap.size]? = some (.cells #[.int .i64 0, .int .i64 1, .slice none 0 0, (.slice la ln lc), .slice none 0 0] 71 (0, 0))) := hW ▸ heap_alloc3_1 _ _ _ _
  have R1 : Hid (W.heap[w.heap.size + 1]? = some (.cells #[.int .u64 x, .bool false, .bool p, z] 38 (0, 0))) := hW ▸ heap_alloc3_2 _ _ _ _
  have R2 : Hid (W.heap[w.heap.size + 2]? = some (.cells #[.int .i64 0, .int .i64 0, .slice none 0 0, .slice none 0 0, .slice none 0 0] 71 (0, 0))) := hW ▸ heap_alloc3_3 _ _ _ _
  have HW := Lib.hid hW
  clear hW
  unfold lkV
  go_enter Try.func29, Try.ntmps29
  go_wp2_with fail
  rw [HW.out]
  clear HW
  obtain ⟨x0, x1, x2, x3, x4⟩ := rowc5' R0.out
  obtain ⟨y0, y1, y2, y3⟩ := rowc4 R1.out
  refine wp_scopes 3 fun f HF => ?_
  go_wp2_with fail
  go_step3
  refine scopes_goto ((HF.out 0).trans rfl) ?_
  go_wp2_with fail
  go_step3
  refine scopes_goto ((HF.out 2).trans rfl) ?_
  have fz := frozen_of_row W w.heap.size 1 _ _ R0.out
  have RS := heap_setCell_same W w.heap.size 1 _ _ (.int .i64 1) R0.out
  simp at RS
  have RS := Lib.hid RS
  have R2' := Lib.hid ((heap_setCell_other W ⟨w.heap.size, 1, none⟩ (w.heap.size + 2) (.int .i64 1) (by show w.heap.size + 2 ≠ w.heap.size; omega)).trans R2.out)
  have HB' := Lib.hid (HB.out.setCell (p := ⟨w.heap.size, 1, none⟩) (Nat.le_refl _) (.int .i64 1))
  obtain ⟨W5, hW5⟩ : ∃ W5, W.setCell ⟨w.heap.size, 1, none⟩ (.int .i64 1) = W5 := ⟨_, rfl⟩
  rw [hW5] at RS R2' HB'
  go_upto_region 6 with fail
  clear x0 x1 x2 x3 x4 fz hW5
  obtain ⟨x0, x1, x2, x3, x4⟩ := rowc5' RS.out
  go_wp2_with (refine wpList_store_row rfl 71 _ _ rfl (w.heap.size + 2) _ rfl rfl 71 #[.int .i64 0, .int .i64 0, .slice none 0 0, .slice none 0 0, .slice none 0 0] R2'.out (by kernel_rfl) rfl (by simp [Value.oneCell']) ?_)
  have RR := setRow_heap W5 (w.heap.size + 2) _ #[.int .i64 0, .int .i64 1, .slice none 0 0, (.slice la ln lc), .slice none 0 0] _ (0, 0) R2'.out
  have BB := row_below HB'.out (show w.heap.size ≤ w.heap.size + 2 by omega) #[.int .i64 0, .int .i64 1, .slice none 0 0, (.slice la ln lc), .slice none 0 0]
  try rw [scopes_ret]
  refine bodyPost_ret (v := lkV 1 (.slice la ln lc)) (results_cell_row Try.results29 _ _ (w.heap.size + 2) 71 _ (0, 0) _ rfl RR Try.underlying71 rfl (by kernel_rfl)) rfl ?_
  exact ⟨rfl, BB⟩
set_option maxHeartbeats 4000000 in
theorem lkRes2 (la : Option Addr) (ln lc : Nat) (z : Value) (x : Int) (p q : Bool) (w : World) :
    Calls Try.prog 29 #[lkV 2 (.slice la ln lc), .agg #[.int .u64 x, .bool q, .bool p, z]] w fun e w' => e = .returned (lkV 3 (.slice none 0 0)) ∧ Below w.heap.size w w' := by
  obtain ⟨W, hW⟩ : ∃ W, ((w.alloc (.cells #[.int .i64 0, .int .i64 2, .slice none 0 0, (.slice la ln lc), .slice none 0 0] 71)).alloc (.cells #[.int .u64 x, .bool q, .bool p, z] 38)).alloc (.cells #[.int .i64 0, .int .i64 0, .slice none 0 0, .slice none 0 0, .slice none 0 0] 71) = W := ⟨_, rfl⟩
  have HB : Hid (Below w.heap.size w W) := hW ▸ below_new (below_new (below_new (Below.refl w.heap.size w) _) _) _
  have R0 : Hid (W.heap[w.heap.size]? = some (.cells #[.int .i64 0, .int .i64 2, .slice none 0 0, (.slice la ln lc), .slice none 0 0] 71 (0, 0))) := hW ▸ heap_alloc3_1 _ _ _ _
  have R1 : Hid (W.heap[w.heap.size + 1]? = some (.cells #[.int .u64 x, .bool q, .bool p, z] 38 (0, 0))) := hW ▸ heap_alloc3_2 _ _ _ _
  have R2 : Hid (W.heap[w.heap.size + 2]? = some (.cells #[.int .i64 0, .int .i64 0, .slice none 0 0, .slice none 0 0, .slice none 0 0] 71 (0, 0))) := hW ▸ heap_alloc3_3 _ _ _ _
  have HW := Lib.hid hW
  clear hW
  unfold lkV
  go_enter Try.func29, Try.ntmps29
  go_wp2_with fail
  rw [HW.out]
  clear HW
  obtain ⟨x0, x1, x2, x3, x4⟩ := rowc5' R0.out
  obtain ⟨y0, y1, y2, y3⟩ := rowc4 R1.out
  refine wp_scopes 3 fun f HF => ?_
  go_wp2_with fail
  go_step3
  refine scopes_goto ((HF.out 1).trans rfl) ?_
  go_wp2_with (refine wpList_store_row rfl 71 _ _ rfl (w.heap.size + 2) _ rfl rfl 71 #[.int .i64 0, .int .i64 0, .slice none 0 0, .slice none 0 0, .slice none 0 0] R2.out (by kernel_rfl) rfl (by simp [Value.oneCell']) ?_)
  have RR := setRow_heap W (w.heap.size + 2) _ #[.int .i64 0, .int .i64 3, .slice none 0 0, .slice none 0 0, .slice none 0 0] _ (0, 0) R2.out
  have BB := row_below HB.out (show w.heap.size ≤ w.heap.size + 2 by omega) #[.int .i64 0, .int .i64 3, .slice none 0 0, .slice none 0 0, .slice none 0 0]
  try rw [scopes_ret]
  refine bodyPost_ret (v := lkV 3 (.slice none 0 0)) (results_cell_row Try.results29 _ _ (w.heap.size + 2) 71 _ (0, 0) _ rfl RR Try.underlying71 rfl (by kernel_rfl)) rfl ?_
  exact ⟨rfl, BB⟩
set_option maxHeartbeats 4000000 in
theorem lkRes3 (la : Option Addr) (ln lc : Nat) (z : Value) (x : Int) (p q : Bool) (w : World) :
    Calls Try.prog 29 #[lkV 3 (.slice la ln lc), .agg #[.int .u64 x, .bool q, .bool p, z]] w fun e w' => e = .returned (lkV 3 (.slice la ln lc)) ∧ Below w.heap.size w w' := by
  obtain ⟨W, hW⟩ : ∃ W, ((w.alloc (.cells #[.int .i64 0, .int .i64 3, .slice none 0 0, (.slice la ln lc), .slice none 0 0] 71)).alloc (.cells #[.int .u64 x, .bool q, .bool p, z] 38)).alloc (.cells #[.int .i64 0, .int .i64 0, .slice none 0 0, .slice none 0 0, .slice none 0 0] 71) = W := ⟨_, rfl⟩
  have HB : Hid (Below w.heap.size w W) := hW ▸ below_new (below_new (below_new (Below.refl w.heap.size w) _) _) _
  have R0 : Hid (W.heap[w.heap.size]? = some (.cells #[.int .i64 0, .int .i64 3, .slice none 0 0, (.slice la ln lc), .slice none 0 0] 71 (0, 0))) := hW ▸ heap_alloc3_1 _ _ _ _
  have R1 : Hid (W.heap[w.heap.size + 1]? = some (.cells #[.int .u64 x, .bool q, .bool p, z] 38 (0, 0))) := hW ▸ heap_alloc3_2 _ _ _ _
  have R2 : Hid (W.heap[w.heap.size + 2]? = some (.cells #[.int .i64 0, .int .i64 0, .slice none 0 0, .slice none 0 0, .slice none 0 0] 71 (0, 0))) := hW ▸ heap_alloc3_3 _ _ _ _
  have HW := Lib.hid hW
  clear hW
  unfold lkV
  go_enter Try.func29, Try.ntmps29
  go_wp2_with fail
  rw [HW.out]
  clear HW
  obtain ⟨x0, x1, x2, x3, x4⟩ := rowc5' R0.out
  obtain ⟨y0, y1, y2, y3⟩ := rowc4 R1.out
  refine wp_scopes 3 fun f HF => ?_
  go_wp2_with (refine wpList_store_row rfl 71 _ _ rfl (w.heap.size + 2) _ rfl rfl 71 #[.int .i64 0, .int .i64 0, .slice none 0 0, .slice none 0 0, .slice none 0 0] R2.out (by kernel_rfl) rfl (by simp [Value.oneCell']) ?_)
  have RR := setRow_heap W (w.heap.size + 2) _ #[.int .i64 0, .int .i64 3, .slice none 0 0, (.slice la ln lc), .slice none 0 0] _ (0, 0) R2.out
  have BB := row_below HB.out (show w.heap.size ≤ w.heap.size + 2 by omega) #[.int .i64 0, .int .i64 3, .slice none 0 0, (.slice la ln lc), .slice none 0 0]
  try rw [scopes_ret]
  refine bodyPost_ret (v := lkV 3 (.slice la ln lc)) (results_cell_row Try.results29 _ _ (w.heap.size + 2) 71 _ (0, 0) _ rfl RR Try.underlying71 rfl (by kernel_rfl)) rfl ?_
  exact ⟨rfl, BB⟩
end Go.Proofs.Ytipjfcjdefdoeaa
