/- Layer 3: the document's check of an operation. -/
import Derived.Test.YtkciejealeinoaaL3Shape
import Derived.Test.YtkciejealeinoaaPlain2
namespace Go.Proofs.Ytkciejealeinoaa
open Go.ChangeShapes Go.WideShapes Go.ChangeAt Go.RowKit
set_option maxRecDepth 100000

theorem okD_step (l : List Int) (k : Nat) (hk : k < l.length) (x : Int) (hx : l.getD k 0 = x) : okD k (l.drop k) = (decide (0 ≤ x ∧ x ≤ k) && okD (k + 1) (l.drop (k + 1))) := by
  have e : l.drop k = x :: l.drop (k + 1) := by
    rw [List.drop_eq_getElem_cons hk]; congr 1
    simpa [List.getD_eq_getElem?_getD, hk] using hx
  rw [e]; rfl
end Go.Proofs.Ytkciejealeinoaa
