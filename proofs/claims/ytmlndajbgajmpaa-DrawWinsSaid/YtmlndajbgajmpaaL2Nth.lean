/- Layer 2: the permutation with a number, as the two calls make it. -/
import Derived.Test.YtmlndajbgajmpaaL2Awake
import Derived.Test.YtmlndajbgajmpaaL2Fair
namespace Go.Proofs.Ytmlndajbgajmpaa
open Go.ChangeShapes Go.WideShapes Go.ChangeAt Go.RowKit
theorem ordL_nth (n k : Nat) (h1 : 1 ≤ n) (h2 : n ≤ 5) (hk : k < fact n) : nthB n k = true ∧ nthL n k = nthR n k ∧ ordL n (nthR n k) = perm n k := by
  obtain ⟨_, _, hb, hl⟩ := nth_yes (n : Int) (k : Int) (by rw [cntI_in n (by omega)]; omega)
  rw [Int.toNat_natCast, Int.toNat_natCast] at hl
  refine ⟨hb, hl, ?_⟩
  unfold ordL
  rw [if_pos (by omega), Int.toNat_natCast]
  rfl
end Go.Proofs.Ytmlndajbgajmpaa
