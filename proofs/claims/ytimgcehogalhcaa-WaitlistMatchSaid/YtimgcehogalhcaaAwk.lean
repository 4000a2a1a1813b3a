/- Layer 13: the law's example. -/
import Derived.Test.YtimgcehogalhcaaPc
namespace Go.Proofs.Ytimgcehogalhcaa
open Go.ChangeShapes Go.WideShapes Go.ChangeAt Go.RowKit
set_option maxRecDepth 100000

set_option maxRecDepth 100000 in
set_option maxHeartbeats 4000000 in
theorem awake_any (w : World) : Calls Try.prog 8 #[] w fun e w' => e = .returned (.bool true) ∧ Below w.heap.size w w' := by
  have T1 := Lib.hid fun w' => precord_any 2 1 w'
  have T2 := Lib.hid fun w' => pthread_any 13 w' (by unfold I64; omega)
  have T3 := Lib.hid fun w' => pcase_any 13 w' (by unfold I64; omega)
  rw [show recordE 2 1 = 13 from by decide] at T1
  rw [show threadE 13 = 2 from by decide] at T2
  rw [show caseE 13 = 1 from by decide] at T3
  go_enter Try.func8, Try.ntmps8
  go_wp2_with fail
  refine (T1.out _).mono ?_; rintro e w1 ⟨rfl, hb1⟩
  go_wp2_with fail
  refine (T2.out _).mono ?_; rintro e w2 ⟨rfl, hb2⟩
  go_wp2_with fail
  refine (T3.out _).mono ?_; rintro e w3 ⟨rfl, hb3⟩
  have HB := Lib.hid (below_then (below_then hb1 hb2) hb3)
  clear hb1 hb2 hb3
  go_wp2
  go_ret
  exact ⟨rfl, HB.out⟩
end Go.Proofs.Ytimgcehogalhcaa
