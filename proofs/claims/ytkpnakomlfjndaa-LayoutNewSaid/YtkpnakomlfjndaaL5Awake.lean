/- Layer 5: the chapter's example. -/
import Derived.Test.YtkpnakomlfjndaaLyW
import Derived.Test.YtkpnakomlfjndaaLyC
import Derived.Test.YtkpnakomlfjndaaCodes6
namespace Go.Proofs.Ytkpnakomlfjndaa
open Go.ChangeShapes Go.WideShapes Go.ChangeAt Go.RowKit
set_option maxRecDepth 100000

theorem box_at {w : World} {o : Obj} {n : Nat} (h : w.heap.size = n) : (w.alloc o).heap[n]? = some o := by subst h; exact heap_alloc_new _ _
def exConf : ConfM := ⟨[2, 0], [0, 0], 1⟩
theorem exConf_good : exConf.good := ⟨by decide, by decide, by decide, by decide, by decide⟩
theorem sl2_at {w : World} {k : IntKind} {b : Nat} {x y : Int} {T : TypeId} (h : w.heap[b]? = some (.cells #[.int k x, .int k y] T (0, 0))) (hx : x = k.wrap x) (hy : y = k.wrap y) : SlI w k (.slice (some ⟨b, 0, none⟩) 2 2) [x, y] := by
  refine ⟨by simp, by intro z hz; simp at hz; rcases hz with rfl | rfl <;> assumption, _, 2, rfl, Nat.le_refl _, fun t ht => ⟨b, 0, rfl, (Array.getElem?_eq_some_iff.1 h).1, ?_⟩⟩
  obtain rfl | rfl : t = 0 ∨ t = 1 := by simp at ht; omega
  · exact cell_of_row _ _ 0 _ _ _ h
  · exact cell_of_row _ _ 1 _ _ _ h
set_option maxHeartbeats 2000000 in
theorem awake5_any (w : World) : Calls Try.prog 21 #[] w fun e w' => e = .returned (.bool true) ∧ Below w.heap.size w w' := by
  have H1 : Hid ((((w.alloc (.cells #[.int .i64 2, .int .i64 0] 3)).alloc (.cells #[.int .u64 0, .int .u64 0] 26)).alloc (.cells zeroConf 46)).heap[w.heap.size + 2]? = some (.cells zeroConf 46 (0, 0))) := box_at (by simp)
  obtain ⟨W, hW⟩ : ∃ W, (((w.alloc (.cells #[.int .i64 2, .int .i64 0] 3)).alloc (.cells #[.int .u64 0, .int .u64 0] 26)).alloc (.cells zeroConf 46)).setRow (w.heap.size + 2) #[.slice (some ⟨w.heap.size, 0, none⟩) 2 2, .slice (some ⟨w.heap.size + 1, 0, none⟩) 2 2, .int .i64 1] = W := ⟨_, rfl⟩
  have HW := Lib.hid hW
  have RM : Hid (W.heap[w.heap.size + 2]? = some (.cells #[.slice (some ⟨w.heap.size, 0, none⟩) 2 2, .slice (some ⟨w.heap.size + 1, 0, none⟩) 2 2, .int .i64 1] 46 (0, 0))) := hW ▸ setRow_heap _ _ _ _ _ (0, 0) H1.out
  have b1 := below_new (Below.refl _ (w.alloc (.cells #[.int .i64 2, .int .i64 0] 3))) (.cells #[.int .u64 0, .int .u64 0] 26)
  have b2 := below_new b1 (.cells zeroConf 46)
  have b3 := below_new (Below.refl _ ((w.alloc (.cells #[.int .i64 2, .int .i64 0] 3)).alloc (.cells #[.int .u64 0, .int .u64 0] 26))) (.cells zeroConf 46)
  have RA : W.heap[w.heap.size]? = some (.cells #[.int .i64 2, .int .i64 0] 3 (0, 0)) := hW ▸ (setRow_other _ _ _ _ (by omega)).trans ((b2.block _ (by simp)).trans (heap_alloc_new _ _))
  have RB : W.heap[w.heap.size + 1]? = some (.cells #[.int .u64 0, .int .u64 0] 26 (0, 0)) := hW ▸ (setRow_other _ _ _ _ (by omega)).trans ((b3.block _ (by simp)).trans (box_at (by simp)))
  have hz : w.heap.size + 3 = W.heap.size := by rw [← hW]; simp
  have HB : Hid (Below w.heap.size w W) := hW ▸ row_below (below_new (below_new (below_new (Below.refl _ _) _) _) _) (by omega) _
  have HV : Hid (ConfV W (.agg #[.slice (some ⟨w.heap.size, 0, none⟩) 2 2, .slice (some ⟨w.heap.size + 1, 0, none⟩) 2 2, .int .i64 1]) exConf) := ⟨_, _, rfl, sl2_at RA (by decide) (by decide), sl2_at RB (by decide) (by decide)⟩
  clear b1 b2 b3 RA RB hW
  have T1 := Lib.hid fun w' h => tailW_any (.agg #[.slice (some ⟨w.heap.size, 0, none⟩) 2 2, .slice (some ⟨w.heap.size + 1, 0, none⟩) 2 2, .int .i64 1]) exConf 1 (by decide) w' h exConf_good
  have T2 := Lib.hid fun w' h => claimW_any (.agg #[.slice (some ⟨w.heap.size, 0, none⟩) 2 2, .slice (some ⟨w.heap.size + 1, 0, none⟩) 2 2, .int .i64 1]) exConf 0 (by omega) (by omega) w' h exConf_good
  have T3 := Lib.hid fun w' h => checkC_any (.agg #[.slice (some ⟨w.heap.size, 0, none⟩) 2 2, .slice (some ⟨w.heap.size + 1, 0, none⟩) 2 2, .int .i64 1]) exConf w' h
  rw [show exConf.base 1 + 0 = 9 by decide +kernel] at T1
  rw [show exConf.thrW 0 + 0 = 16 by decide +kernel] at T2
  rw [checkC_good exConf_good] at T3
  go_enter Try.func21, Try.ntmps21
  go_upto_region 2 with (first
    | (refine wpList_store_row rfl 46 _ _ rfl (w.heap.size + 2) _ rfl rfl 46 zeroConf H1.out (by kernel_rfl) rfl (by simp [Value.oneCell']) ?_))
  rw [show (#[.slice none 0 0, .slice none 0 0, .int .i64 0] : Array Value) = zeroConf from rfl, HW.out]
  clear HW H1
  obtain ⟨x0, x1, x2⟩ := rowc3 RM.out
  go_wp2_with fail
  refine (T1.out _ HV.out).mono ?_; rintro e w1 ⟨rfl, hb1⟩
  have HB1 := Lib.hid (below_then HB.out hb1)
  have HV1 := Lib.hid (HV.out.below hb1)
  have R1 := Lib.hid ((hb1.block (w.heap.size + 2) (by omega)).trans RM.out)
  have hz1 := hb1.size
  clear hb1 x0 x1 x2
  obtain ⟨x0, x1, x2⟩ := rowc3 R1.out
  go_wp2_with fail
  refine (T2.out _ HV1.out).mono ?_; rintro e w2 ⟨rfl, hb1⟩
  have HB2 := Lib.hid (below_then HB1.out hb1)
  have HV2 := Lib.hid (HV1.out.below hb1)
  have R2 := Lib.hid ((hb1.block (w.heap.size + 2) (by omega)).trans R1.out)
  have hz2 := hb1.size
  clear hb1 x0 x1 x2
  obtain ⟨x0, x1, x2⟩ := rowc3 R2.out
  go_wp2_with fail
  refine (T3.out _ HV2.out).mono ?_; rintro e w3 ⟨rfl, hb1⟩
  have HB3 := Lib.hid (below_then HB2.out hb1)
  clear hb1
  go_wp2
  go_ret
  exact ⟨rfl, HB3.out⟩
end Go.Proofs.Ytkpnakomlfjndaa
