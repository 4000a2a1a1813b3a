/- Layer 7: the chapter's example. -/
import Derived.Test.YtipjfcjdefdoeaaLk
import Derived.Test.YtipjfcjdefdoeaaMmR
import Derived.Test.YtipjfcjdefdoeaaConf
namespace Go.Proofs.Ytipjfcjdefdoeaa
open Go.ChangeShapes Go.WideShapes Go.ChangeAt Go.RowKit
set_option maxRecDepth 100000

theorem rowc2 {w : World} {g : Nat} {T : TypeId} {v0 v1 : Value} (h : w.heap[g]? = some (.cells #[v0, v1] T (0, 0))) :
    w.cell? ⟨g, 0, none⟩ = some v0 ∧ w.cell? ⟨g, 1, none⟩ = some v1 :=
  ⟨cell_of_row _ _ 0 _ _ _ h, cell_of_row _ _ 1 _ _ _ h⟩
def oneC : ConfM := ⟨[1], [0], 2⟩
theorem oneC_good : oneC.good := ⟨by decide, rfl, by decide, by decide, by decide⟩
theorem box_alloc3_1 (w : World) (a b c : Obj) : (((w.alloc a).alloc b).alloc c).heap[w.heap.size]? = some a := heap_alloc3_1 w a b c
set_option maxHeartbeats 4000000 in
theorem one_any (w : World) : Calls Try.prog 23 #[] w fun e w' => ∃ v, e = .returned v ∧ ConfV w' v oneC ∧ Below w.heap.size w w' := by
  obtain ⟨W, hW⟩ : ∃ W, ((w.alloc (.cells #[.slice none 0 0, .slice none 0 0, .int .i64 0] 52)).alloc (.cells #[.int .i64 1] 3)).alloc (.cells #[.int .u64 0] 32) = W := ⟨_, rfl⟩
  have HB : Hid (Below w.heap.size w W) := hW ▸ below_new (below_new (below_new (Below.refl w.heap.size w) _) _) _
  have R0 : Hid (W.heap[w.heap.size]? = some (.cells #[.slice none 0 0, .slice none 0 0, .int .i64 0] 52 (0, 0))) := hW ▸ heap_alloc3_1 _ _ _ _
  have R1 : Hid (W.heap[w.heap.size + 1]? = some (.cells #[.int .i64 1] 3 (0, 0))) := hW ▸ heap_alloc3_2 _ _ _ _
  have R2 : Hid (W.heap[w.heap.size + 2]? = some (.cells #[.int .u64 0] 32 (0, 0))) := hW ▸ heap_alloc3_3 _ _ _ _
  have HW := Lib.hid hW
  clear hW
  go_enter Try.func23, Try.ntmps23
  go_wp2_with (refine wpList_store_row rfl 52 _ _ rfl (w.heap.size) _ rfl rfl 52 #[.slice none 0 0, .slice none 0 0, .int .i64 0] (by rw [HW.out]; exact R0.out) (by kernel_rfl) rfl (by simp [Value.oneCell']) ?_)
  rw [HW.out]
  refine bodyPost_ret (v := .agg #[.slice (some ⟨w.heap.size + 1, 0, none⟩) 1 1, .slice (some ⟨w.heap.size + 2, 0, none⟩) 1 1, .int .i64 2]) (results_cell_row Try.results23 _ _ (w.heap.size) 52 _ (0, 0) _ rfl (setRow_heap _ _ _ _ 52 (0, 0) R0.out) Try.underlying52 rfl (by kernel_rfl)) rfl ?_
  have Q1 := (setRow_other W w.heap.size (w.heap.size + 1) #[.slice (some ⟨w.heap.size + 1, 0, none⟩) 1 1, .slice (some ⟨w.heap.size + 2, 0, none⟩) 1 1, .int .i64 2] (by omega)).trans R1.out
  have Q2 := (setRow_other W w.heap.size (w.heap.size + 2) #[.slice (some ⟨w.heap.size + 1, 0, none⟩) 1 1, .slice (some ⟨w.heap.size + 2, 0, none⟩) 1 1, .int .i64 2] (by omega)).trans R2.out
  exact ⟨_, rfl, ⟨_, _, rfl, one_lit Q1 (by decide), one_lit Q2 (by decide)⟩, row_below HB.out (Nat.le_refl _) _⟩
set_option maxHeartbeats 16000000 in
theorem awake7_any (w : World) : Calls Try.prog 18 #[] w fun e w' => e = .returned (.bool true) ∧ Below w.heap.size w w' := by
  go_enter Try.func18, Try.ntmps18
  go_wp2_with fail
  refine (one_any _).mono ?_; rintro e w1 ⟨cv, rfl, hc, hb1⟩
  have HC := Lib.hid hc
  have HB1 := Lib.hid hb1
  clear hc hb1
  go_wp2_with fail
  refine (take_any _ oneC 0 (by decide) _ HC.out oneC_good).mono ?_; rintro e w2 ⟨b, rfl, RA, hbw, HB2⟩
  unfold lkV
  obtain ⟨W3, hW3⟩ : ∃ W3, (w2.alloc (.cells #[.int .i64 0, .int .i64 0, .slice none 0 0, .slice none 0 0, .slice none 0 0] 71)).setRow w2.heap.size #[.int .i64 0, .int .i64 1, .slice none 0 0, .slice (some ⟨b, 0, none⟩) 1 1, .slice none 0 0] = W3 := ⟨_, rfl⟩
  have N3 : Hid ((w2.alloc (.cells #[.int .i64 0, .int .i64 0, .slice none 0 0, .slice none 0 0, .slice none 0 0] 71)).heap[w2.heap.size]? = some (.cells #[.int .i64 0, .int .i64 0, .slice none 0 0, .slice none 0 0, .slice none 0 0] 71 (0, 0))) := heap_alloc_new _ _
  have HB3 : Hid (Below w2.heap.size w2 W3) := hW3 ▸ row_below (below_new (Below.refl _ _) _) (Nat.le_refl _) _
  have R3 : Hid (W3.heap[w2.heap.size]? = some (.cells #[.int .i64 0, .int .i64 1, .slice none 0 0, .slice (some ⟨b, 0, none⟩) 1 1, .slice none 0 0] 71 (0, 0))) := hW3 ▸ setRow_heap _ _ _ _ _ (0, 0) N3.out
  have HW3 := Lib.hid hW3
  clear hW3
  go_upto_region 2 with (refine wpList_store_row rfl 71 _ _ rfl (w2.heap.size) _ rfl rfl 71 #[.int .i64 0, .int .i64 0, .slice none 0 0, .slice none 0 0, .slice none 0 0] N3.out (by kernel_rfl) rfl (by simp [Value.oneCell']) ?_)
  rw [HW3.out]
  try simp only [Act.put]
  clear HW3 N3
  obtain ⟨F, hF⟩ : ∃ F, w2.heap.size = F := ⟨_, rfl⟩
  have hFw : Hid (w.heap.size ≤ F) := by
    have h1 := HB1.out.size; have h2 := HB2.out.size; show w.heap.size ≤ F; omega
  rw [hF] at R3
  rw [hF]
  clear hF
  have RA3 := Lib.hid ((HB3.out.block b (Array.getElem?_eq_some_iff.1 RA.out).1).trans RA.out)
  obtain ⟨x0, x1, x2, x3, x4⟩ := rowc5' R3.out

  go_wp2_with fail
  refine (lkNext1 b _ _ RA3.out).mono ?_; rintro e w4 ⟨rfl, hb4⟩
  have HB4 := Lib.hid hb4
  unfold accV
  dsimp only
  clear hb4 x0 x1 x2 x3 x4
  obtain ⟨W5, hW5⟩ : ∃ W5, (w4.alloc (.cells #[.int .i64 0, .int .i64 0, .int .u64 0, .int .u64 0, .int .i64 0] 34)).setRow w4.heap.size #[.int .i64 3, .int .i64 (oneC.base 0 + 2), .int .u64 0, .int .u64 1, .int .i64 0] = W5 := ⟨_, rfl⟩
  have N5 : Hid ((w4.alloc (.cells #[.int .i64 0, .int .i64 0, .int .u64 0, .int .u64 0, .int .i64 0] 34)).heap[w4.heap.size]? = some (.cells #[.int .i64 0, .int .i64 0, .int .u64 0, .int .u64 0, .int .i64 0] 34 (0, 0))) := heap_alloc_new _ _
  have HB5 : Hid (Below w4.heap.size w4 W5) := hW5 ▸ row_below (below_new (Below.refl _ _) _) (Nat.le_refl _) _
  have R5 : Hid (W5.heap[w4.heap.size]? = some (.cells #[.int .i64 3, .int .i64 (oneC.base 0 + 2), .int .u64 0, .int .u64 1, .int .i64 0] 34 (0, 0))) := hW5 ▸ setRow_heap _ _ _ _ _ (0, 0) N5.out
  have HW5 := Lib.hid hW5
  clear hW5
  go_upto_region 3 with (refine wpList_store_row rfl 34 _ _ rfl (w4.heap.size) _ rfl rfl 34 #[.int .i64 0, .int .i64 0, .int .u64 0, .int .u64 0, .int .i64 0] N5.out (by kernel_rfl) rfl (by simp [Value.oneCell']) ?_)
  rw [HW5.out]
  try simp only [Act.put]
  clear HW5 N5
  have hFl := (Array.getElem?_eq_some_iff.1 R3.out).1
  have hFs := HB4.out.size
  obtain ⟨A, hA⟩ : ∃ A, w4.heap.size = A := ⟨_, rfl⟩
  have hAF : Hid (A ≠ F) := by show A ≠ F; omega
  clear hFl hFs
  rw [hA] at R5
  rw [hA]
  clear hA
  have R3a := Lib.hid ((HB4.out.block F (Array.getElem?_eq_some_iff.1 R3.out).1).trans R3.out)
  have R3b := Lib.hid ((HB5.out.block F (Array.getElem?_eq_some_iff.1 R3a.out).1).trans R3a.out)
  obtain ⟨x0, x1, x2, x3, x4⟩ := rowc5' R3b.out

  go_wp2_with fail
  refine (lkRes1 (some ⟨b, 0, none⟩) 1 1 _ _ _ _).mono ?_; rintro e w6 ⟨rfl, hb6⟩
  have HB6 := Lib.hid hb6
  unfold lkV
  clear hb6 x0 x1 x2 x3 x4
  have R3c := Lib.hid ((HB6.out.block F (Array.getElem?_eq_some_iff.1 R3b.out).1).trans R3b.out)
  have R5a := Lib.hid ((HB6.out.block A (Array.getElem?_eq_some_iff.1 R5.out).1).trans R5.out)

  obtain ⟨W7, hW7⟩ : ∃ W7, w6.setRow F #[.int .i64 0, .int .i64 3, .slice none 0 0, .slice none 0 0, .slice none 0 0] = W7 := ⟨_, rfl⟩
  have HB7' : Hid (Below w.heap.size w W7) := hW7 ▸ row_below (below_then HB1.out (below_then HB2.out (below_then HB3.out (below_then HB4.out (below_then HB5.out HB6.out))))) hFw.out _
  have R7 : Hid (W7.heap[F]? = some (.cells #[.int .i64 0, .int .i64 3, .slice none 0 0, .slice none 0 0, .slice none 0 0] 71 (0, 0))) := hW7 ▸ setRow_heap _ _ _ _ _ (0, 0) R3c.out
  have R5b : Hid (W7.heap[A]? = some (.cells #[.int .i64 3, .int .i64 (oneC.base 0 + 2), .int .u64 0, .int .u64 1, .int .i64 0] 34 (0, 0))) := hW7 ▸ (setRow_other w6 F A _ hAF.out).trans R5a.out
  have HW7 := Lib.hid hW7
  clear hW7
  go_upto_region 4 with (refine wpList_store_row rfl 71 _ _ rfl F _ rfl rfl 71 _ R3c.out (by kernel_rfl) rfl (by simp [Value.oneCell']) ?_)
  rw [HW7.out]
  try simp only [Act.put]
  clear HW7
  obtain ⟨x0, x1, x2, x3, x4⟩ := rowc5' R7.out

  go_wp2_with fail
  refine (lkEnd3 _ _).mono ?_; rintro e w8 ⟨rfl, hb8⟩
  have HB8 := Lib.hid hb8
  clear hb8 x0 x1 x2 x3 x4
  obtain ⟨W9, hW9⟩ : ∃ W9, (w8.alloc (.cells #[.int .i64 0, .int .u64 0] 66)).setRow w8.heap.size #[.int .i64 1, .int .u64 0] = W9 := ⟨_, rfl⟩
  have N9 : Hid ((w8.alloc (.cells #[.int .i64 0, .int .u64 0] 66)).heap[w8.heap.size]? = some (.cells #[.int .i64 0, .int .u64 0] 66 (0, 0))) := heap_alloc_new _ _
  have HB9 : Hid (Below w8.heap.size w8 W9) := hW9 ▸ row_below (below_new (Below.refl _ _) _) (Nat.le_refl _) _
  have R9 : Hid (W9.heap[w8.heap.size]? = some (.cells #[.int .i64 1, .int .u64 0] 66 (0, 0))) := hW9 ▸ setRow_heap _ _ _ _ _ (0, 0) N9.out
  have HW9 := Lib.hid hW9
  clear hW9
  go_upto_region 5 with (refine wpList_store_row rfl 66 _ _ rfl (w8.heap.size) _ rfl rfl 66 #[.int .i64 0, .int .u64 0] N9.out (by kernel_rfl) rfl (by simp [Value.oneCell']) ?_)
  rw [HW9.out]
  try simp only [Act.put]
  clear HW9 N9
  obtain ⟨O, hO⟩ : ∃ O, w8.heap.size = O := ⟨_, rfl⟩
  rw [hO] at R9
  rw [hO]
  clear hO
  have R5c := Lib.hid ((HB8.out.block A (Array.getElem?_eq_some_iff.1 R5b.out).1).trans R5b.out)
  have R5d := Lib.hid ((HB9.out.block A (Array.getElem?_eq_some_iff.1 R5c.out).1).trans R5c.out)
  obtain ⟨x0, x1, x2, x3, x4⟩ := rowc5' R5d.out
  obtain ⟨y0, y1⟩ := rowc2 R9.out

  have HBE := Lib.hid (below_then HB7'.out (below_then HB8.out HB9.out))
  go_wp2_with fail
  go_ret
  exact ⟨rfl, HBE.out⟩
end Go.Proofs.Ytipjfcjdefdoeaa
