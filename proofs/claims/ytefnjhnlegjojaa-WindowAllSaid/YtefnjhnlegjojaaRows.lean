/-
  No cell of these rows narrows 'for every input' (looked for: loops, veiled, ifaces, maps, wideKeys, modest, calm, conditions, laid).
  DERIVED. THE GIVEN ROWS OF THIS SEAT. 5 by the template 'for every input the law returns true; each argument reads behind the call as it read before'; 0 by the template 'total and deterministic' (their statements: YtefnjhnlegjojaaTotals.lean).
  GIVEN WITH THE SEED: the statements are not yours to turn. If you find one false, say at which input.
  Laid BY PROGRAM, IN A SANDBOX (cutbox-rows.mjs): the forced cells as the released guide's own fill.sh prints them over the translation 96f94443e73a9270… (all of the seat's roots in one cut). By AI agents, Wed Nov 11 2026. No macro, syntax, notation, axiom, sorry.
-/
import Derived.Test.YtefnjhnlegjojaaChecked
import GoSem.Claim
import GoSem.ClaimJoined
import GoSem.ClaimMapViews
import Derived.JoinedTies
import Derived.KernelRfl
namespace Go.Proofs.Ytefnjhnlegjojaa
/- THE CELL 'sum', in the pinned program and in every row, IS THE sha256 OF THE DUMP (.gsa) THAT YtefnjhnlegjojaaProg.lean LOADS. Nothing in Lean hashes anything: it is a label: what it is worth is what the hold of that sum in a sandbox is worth. -/
noncomputable def Try.pinned : Pinned := { name := "ytefnjhnlegjojaa", sum := "96f94443e73a9270f98310fde9302f44bc29aab991cb2e2c1fbe60f52ee53ab1", checked := Try.checked }
namespace Rows
def none {H : Type} : Left H := { results := [], args := [] }

/-- 'chanfabriclaw19.WindowRounds': WHATEVER THE INPUT: true; the input reads as it did. -/
def windowRoundsSpec : ChangeSpec := { name := "windowRounds", fn := fun _ => fun
  | [d1, d2, d3] => { results := [.lit (.bool true)], args := [d1, d2, d3] }
  | _ => none }
def windowRoundsRow : OpenClaim := { program := "ytefnjhnlegjojaa", sum := "96f94443e73a9270f98310fde9302f44bc29aab991cb2e2c1fbe60f52ee53ab1", func := "chanfabric/chanfabriclaw19.WindowRounds", spec := "windowRounds", apart := false }
def WindowRoundsSaid : Prop := windowRoundsRow.holds Try.pinned (OpenSpec.ofChange windowRoundsSpec)

/-- ITS FALSE NEIGHBOUR: 'it returns false'. Refute it at one input. -/
def windowRoundsWrong : ChangeSpec := { name := "windowRounds", fn := fun _ => fun
  | [d1, d2, d3] => { results := [.lit (.bool false)], args := [d1, d2, d3] }
  | _ => none }
def WindowRoundsWrongFalsely : Prop := windowRoundsRow.holds Try.pinned (OpenSpec.ofChange windowRoundsWrong)

/-- 'chanfabriclaw19.WindowMeasures': WHATEVER THE INPUT: true; the input reads as it did. -/
def windowMeasuresSpec : ChangeSpec := { name := "windowMeasures", fn := fun _ => fun
  | [d1, d2, d3] => { results := [.lit (.bool true)], args := [d1, d2, d3] }
  | _ => none }
def windowMeasuresRow : OpenClaim := { program := "ytefnjhnlegjojaa", sum := "96f94443e73a9270f98310fde9302f44bc29aab991cb2e2c1fbe60f52ee53ab1", func := "chanfabric/chanfabriclaw19.WindowMeasures", spec := "windowMeasures", apart := false }
def WindowMeasuresSaid : Prop := windowMeasuresRow.holds Try.pinned (OpenSpec.ofChange windowMeasuresSpec)

/-- ITS FALSE NEIGHBOUR: 'it returns false'. Refute it at one input. -/
def windowMeasuresWrong : ChangeSpec := { name := "windowMeasures", fn := fun _ => fun
  | [d1, d2, d3] => { results := [.lit (.bool false)], args := [d1, d2, d3] }
  | _ => none }
def WindowMeasuresWrongFalsely : Prop := windowMeasuresRow.holds Try.pinned (OpenSpec.ofChange windowMeasuresWrong)

/-- 'chanfabriclaw19.WindowBounds': WHATEVER THE INPUT: true; the input reads as it did. -/
def windowBoundsSpec : ChangeSpec := { name := "windowBounds", fn := fun _ => fun
  | [d1, d2, d3, d4] => { results := [.lit (.bool true)], args := [d1, d2, d3, d4] }
  | _ => none }
def windowBoundsRow : OpenClaim := { program := "ytefnjhnlegjojaa", sum := "96f94443e73a9270f98310fde9302f44bc29aab991cb2e2c1fbe60f52ee53ab1", func := "chanfabric/chanfabriclaw19.WindowBounds", spec := "windowBounds", apart := false }
def WindowBoundsSaid : Prop := windowBoundsRow.holds Try.pinned (OpenSpec.ofChange windowBoundsSpec)

/-- ITS FALSE NEIGHBOUR: 'it returns false'. Refute it at one input. -/
def windowBoundsWrong : ChangeSpec := { name := "windowBounds", fn := fun _ => fun
  | [d1, d2, d3, d4] => { results := [.lit (.bool false)], args := [d1, d2, d3, d4] }
  | _ => none }
def WindowBoundsWrongFalsely : Prop := windowBoundsRow.holds Try.pinned (OpenSpec.ofChange windowBoundsWrong)

/-- 'chanfabriclaw19.WindowFair': WHATEVER THE INPUT: true; the input reads as it did. -/
def windowFairSpec : ChangeSpec := { name := "windowFair", fn := fun _ => fun
  | [d1, d2, d3, d4] => { results := [.lit (.bool true)], args := [d1, d2, d3, d4] }
  | _ => none }
def windowFairRow : OpenClaim := { program := "ytefnjhnlegjojaa", sum := "96f94443e73a9270f98310fde9302f44bc29aab991cb2e2c1fbe60f52ee53ab1", func := "chanfabric/chanfabriclaw19.WindowFair", spec := "windowFair", apart := false }
def WindowFairSaid : Prop := windowFairRow.holds Try.pinned (OpenSpec.ofChange windowFairSpec)

/-- ITS FALSE NEIGHBOUR: 'it returns false'. Refute it at one input. -/
def windowFairWrong : ChangeSpec := { name := "windowFair", fn := fun _ => fun
  | [d1, d2, d3, d4] => { results := [.lit (.bool false)], args := [d1, d2, d3, d4] }
  | _ => none }
def WindowFairWrongFalsely : Prop := windowFairRow.holds Try.pinned (OpenSpec.ofChange windowFairWrong)

/-- 'chanfabriclaw19.WindowAll': WHATEVER THE INPUT: true; the input reads as it did. -/
def windowAllSpec : ChangeSpec := { name := "windowAll", fn := fun _ => fun
  | [d] => { results := [.lit (.bool true)], args := [d] }
  | _ => none }
def windowAllRow : OpenClaim := { program := "ytefnjhnlegjojaa", sum := "96f94443e73a9270f98310fde9302f44bc29aab991cb2e2c1fbe60f52ee53ab1", func := "chanfabric/chanfabriclaw19.WindowAll", spec := "windowAll", apart := false }
def WindowAllSaid : Prop := windowAllRow.holds Try.pinned (OpenSpec.ofChange windowAllSpec)

/-- ITS FALSE NEIGHBOUR: 'it returns false'. Refute it at one input. -/
def windowAllWrong : ChangeSpec := { name := "windowAll", fn := fun _ => fun
  | [d] => { results := [.lit (.bool false)], args := [d] }
  | _ => none }
def WindowAllWrongFalsely : Prop := windowAllRow.holds Try.pinned (OpenSpec.ofChange windowAllWrong)

/- THE SECOND FORM. 'bulk': how many values and letters a reading holds, each counted each time it is reached (what is shared counts as often as it is met; a slice's spare places count too). A statement '..UptoSaid' is the law's where the arguments, and the package variables that the reading takes, are together of bulk at most 1048576: NARROWER than '..Said'. Prove '..Said' where nothing that the law and all that it calls make is longer than what came in: it says more and counts as full. Else prove '..UptoSaid'. A law counts once. -/
mutual
def uptoBulk {H : Type} : DataW H → Nat
  | .lit (.string bytes) => bytes.length + 1
  | .lit _ => 1
  | .nil => 1
  | .ptr d => uptoBulk d + 1
  | .slice elems spare => uptoBulkAll elems + uptoBulkAll spare + 1
  | .agg parts => uptoBulkAll parts + 1
  | .iface _ d => uptoBulk d + 1
  | .map entries => uptoBulkEntries entries + 1
  | .held _ => 1
def uptoBulkAll {H : Type} : List (DataW H) → Nat
  | [] => 0
  | d :: r => uptoBulk d + uptoBulkAll r
def uptoBulkEntries {H : Type} : List (Lit × DataW H) → Nat
  | [] => 0
  | x :: r => uptoBulkEntry x + uptoBulkEntries r
def uptoBulkEntry {H : Type} : Lit × DataW H → Nat
  | (.string bytes, d) => bytes.length + uptoBulk d + 1
  | (_, d) => uptoBulk d + 1
 end
def uptoSmall : (H : Type) → List (DataW H) → Bool := fun _ ds => decide (uptoBulkAll ds ≤ 1048576)
def OpenSpec.upto (s : _root_.Go.ChangeSpec) : _root_.Go.OpenSpec := { _root_.Go.OpenSpec.ofChange s with cond := some uptoSmall }

/-- 'chanfabriclaw19.WindowRounds', WHERE WHAT IT READS IS OF BULK AT MOST 1048576: true; the input reads as it did. -/
def windowRoundsUptoRow : OpenClaim := { program := "ytefnjhnlegjojaa", sum := "96f94443e73a9270f98310fde9302f44bc29aab991cb2e2c1fbe60f52ee53ab1", func := "chanfabric/chanfabriclaw19.WindowRounds", spec := "windowRounds", apart := false, narrowed := true }
def WindowRoundsUptoSaid : Prop := windowRoundsUptoRow.holds Try.pinned (OpenSpec.upto windowRoundsSpec)

/-- 'chanfabriclaw19.WindowMeasures', WHERE WHAT IT READS IS OF BULK AT MOST 1048576: true; the input reads as it did. -/
def windowMeasuresUptoRow : OpenClaim := { program := "ytefnjhnlegjojaa", sum := "96f94443e73a9270f98310fde9302f44bc29aab991cb2e2c1fbe60f52ee53ab1", func := "chanfabric/chanfabriclaw19.WindowMeasures", spec := "windowMeasures", apart := false, narrowed := true }
def WindowMeasuresUptoSaid : Prop := windowMeasuresUptoRow.holds Try.pinned (OpenSpec.upto windowMeasuresSpec)

/-- 'chanfabriclaw19.WindowBounds', WHERE WHAT IT READS IS OF BULK AT MOST 1048576: true; the input reads as it did. -/
def windowBoundsUptoRow : OpenClaim := { program := "ytefnjhnlegjojaa", sum := "96f94443e73a9270f98310fde9302f44bc29aab991cb2e2c1fbe60f52ee53ab1", func := "chanfabric/chanfabriclaw19.WindowBounds", spec := "windowBounds", apart := false, narrowed := true }
def WindowBoundsUptoSaid : Prop := windowBoundsUptoRow.holds Try.pinned (OpenSpec.upto windowBoundsSpec)

/-- 'chanfabriclaw19.WindowFair', WHERE WHAT IT READS IS OF BULK AT MOST 1048576: true; the input reads as it did. -/
def windowFairUptoRow : OpenClaim := { program := "ytefnjhnlegjojaa", sum := "96f94443e73a9270f98310fde9302f44bc29aab991cb2e2c1fbe60f52ee53ab1", func := "chanfabric/chanfabriclaw19.WindowFair", spec := "windowFair", apart := false, narrowed := true }
def WindowFairUptoSaid : Prop := windowFairUptoRow.holds Try.pinned (OpenSpec.upto windowFairSpec)

/-- 'chanfabriclaw19.WindowAll', WHERE WHAT IT READS IS OF BULK AT MOST 1048576: true; the input reads as it did. -/
def windowAllUptoRow : OpenClaim := { program := "ytefnjhnlegjojaa", sum := "96f94443e73a9270f98310fde9302f44bc29aab991cb2e2c1fbe60f52ee53ab1", func := "chanfabric/chanfabriclaw19.WindowAll", spec := "windowAll", apart := false, narrowed := true }
def WindowAllUptoSaid : Prop := windowAllUptoRow.holds Try.pinned (OpenSpec.upto windowAllSpec)

end Rows
end Go.Proofs.Ytefnjhnlegjojaa
