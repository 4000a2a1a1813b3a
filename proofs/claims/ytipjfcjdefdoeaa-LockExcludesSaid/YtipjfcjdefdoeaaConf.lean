/- A valid configuration, plainly. -/
import Derived.Test.YtipjfcjdefdoeaaOp
namespace Go.Proofs.Ytipjfcjdefdoeaa
open Go.ChangeShapes Go.WideShapes Go.ChangeAt Go.RowKit
set_option maxRecDepth 100000

/-- a valid configuration -/
structure ConfM.good (c : ConfM) : Prop where
  len : c.caps.length ≤ 8
  same : c.starts.length = c.caps.length
  caps : ∀ x ∈ c.caps, 0 ≤ x ∧ x ≤ 16
  starts : ∀ x ∈ c.starts, 0 ≤ x ∧ x < 9223372036854775808
  thr : 1 ≤ c.threads ∧ c.threads ≤ 8
theorem below_setRow {B g : Nat} {a w : World} (h : Below B a w) (hB : B ≤ g) (cs : Array Value) : Below B a (w.setRow g cs) :=
  ⟨h.os, h.tape, h.output, by simpa [World.setRow] using h.size, fun k hk => (setRow_other w g k cs (by omega)).trans (h.block k hk)⟩
end Go.Proofs.Ytipjfcjdefdoeaa
