/- Layer 2: the examples of the chapter hold. -/
import Derived.Test.YtmlndajbgajmpaaL2Builds
namespace Go.Proofs.Ytmlndajbgajmpaa
open Go.ChangeShapes Go.WideShapes Go.ChangeAt Go.RowKit
theorem awake_any (w : World) :
    Calls Try.prog 9 #[] w fun e w' => e = .returned (.bool true) ∧ Below w.heap.size w w' := by
  have e1 : (cntI 4 == 24) = true := by decide
  have e2 : decide (ordL 3 [0, 0, 0] = [1, 2, 0]) = true := by decide
  have R := Lib.hid fun w' => order_read 3 (.slice (some ⟨w.heap.size, 0, none⟩) 3 3) [0, 0, 0] w'
  have L1 := Lib.hid (SlI.lit w .i64 3 [0, 0, 0] (by decide) (by decide))
  have E2 := Lib.hid e2
  clear e2
  go_enter Try.func9, Try.ntmps9
  go_wp2_with (first
    | (go_at_call 14; refine (R.out _ L1.out).mono ?_; rintro e w1 ⟨u, rfl, hu, hb⟩)
    | (go_at_call 13; refine (same_any u _ _ [1, 2, 0] _ (hu.below ((Below.refl _ _).alloc (Nat.le_refl _) _)) (SlI.lit w1 .i64 3 [1, 2, 0] (by decide) (by decide))).mono ?_; rintro e w2 ⟨n2, rfl, rfl⟩; rw [E2.out])
    | (go_at_call 19; refine (count_any _ _).mono ?_; rintro e w' ⟨rfl, rfl⟩))
  go_ret
  exact ⟨rfl, below_drewN (below_new (below_then (below_new (Below.refl _ _) _) hb) _) _⟩
end Go.Proofs.Ytmlndajbgajmpaa
