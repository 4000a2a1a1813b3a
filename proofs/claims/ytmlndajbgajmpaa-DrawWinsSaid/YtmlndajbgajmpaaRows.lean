/-
  No cell of these rows narrows 'for every input' (looked for: loops, veiled, ifaces, maps, wideKeys, modest, calm, conditions, laid).
  DERIVED. THE GIVEN ROWS OF THIS SEAT. 6 by the template 'for every input the law returns true; each argument reads behind the call as it read before'; 0 by the template 'total and deterministic' (their statements: YtmlndajbgajmpaaTotals.lean).
  GIVEN WITH THE SEED: the statements are not yours to turn. If you find one false, say at which input.
  Laid BY PROGRAM, IN A SANDBOX (cutbox-rows.mjs): the forced cells as the released guide's own fill.sh prints them over the translation e0a60cfbcb312f26… (all of the seat's roots in one cut). By AI agents, Wed Nov 11 2026. No macro, syntax, notation, axiom, sorry.
-/
import Derived.Test.YtmlndajbgajmpaaChecked
import GoSem.Claim
import GoSem.ClaimJoined
import GoSem.ClaimMapViews
import Derived.JoinedTies
import Derived.KernelRfl
namespace Go.Proofs.Ytmlndajbgajmpaa
/- THE CELL 'sum', in the pinned program and in every row, IS THE sha256 OF THE DUMP (.gsa) THAT YtmlndajbgajmpaaProg.lean LOADS. Nothing in Lean hashes anything: it is a label: what it is worth is what the hold of that sum in a sandbox is worth. -/
noncomputable def Try.pinned : Pinned := { name := "ytmlndajbgajmpaa", sum := "e0a60cfbcb312f263ab0db41a8eb4bfbabafe5d7b092418f990a1ca6845923f2", checked := Try.checked }
namespace Rows
def none {H : Type} : Left H := { results := [], args := [] }

/-- 'chanfabriclaw2.DrawOrders': WHATEVER THE INPUT: true; the input reads as it did. -/
def drawOrdersSpec : ChangeSpec := { name := "drawOrders", fn := fun _ => fun
  | [d1, d2, d3] => { results := [.lit (.bool true)], args := [d1, d2, d3] }
  | _ => none }
def drawOrdersRow : OpenClaim := { program := "ytmlndajbgajmpaa", sum := "e0a60cfbcb312f263ab0db41a8eb4bfbabafe5d7b092418f990a1ca6845923f2", func := "chanfabric/chanfabriclaw2.DrawOrders", spec := "drawOrders", apart := false }
def DrawOrdersSaid : Prop := drawOrdersRow.holds Try.pinned (OpenSpec.ofChange drawOrdersSpec)

/-- ITS FALSE NEIGHBOUR: 'it returns false'. Refute it at one input. -/
def drawOrdersWrong : ChangeSpec := { name := "drawOrders", fn := fun _ => fun
  | [d1, d2, d3] => { results := [.lit (.bool false)], args := [d1, d2, d3] }
  | _ => none }
def DrawOrdersWrongFalsely : Prop := drawOrdersRow.holds Try.pinned (OpenSpec.ofChange drawOrdersWrong)

/-- 'chanfabriclaw2.DrawReads': WHATEVER THE INPUT: true; the input reads as it did. -/
def drawReadsSpec : ChangeSpec := { name := "drawReads", fn := fun _ => fun
  | [d1, d2, d3, d4] => { results := [.lit (.bool true)], args := [d1, d2, d3, d4] }
  | _ => none }
def drawReadsRow : OpenClaim := { program := "ytmlndajbgajmpaa", sum := "e0a60cfbcb312f263ab0db41a8eb4bfbabafe5d7b092418f990a1ca6845923f2", func := "chanfabric/chanfabriclaw2.DrawReads", spec := "drawReads", apart := false }
def DrawReadsSaid : Prop := drawReadsRow.holds Try.pinned (OpenSpec.ofChange drawReadsSpec)

/-- ITS FALSE NEIGHBOUR: 'it returns false'. Refute it at one input. -/
def drawReadsWrong : ChangeSpec := { name := "drawReads", fn := fun _ => fun
  | [d1, d2, d3, d4] => { results := [.lit (.bool false)], args := [d1, d2, d3, d4] }
  | _ => none }
def DrawReadsWrongFalsely : Prop := drawReadsRow.holds Try.pinned (OpenSpec.ofChange drawReadsWrong)

/-- 'chanfabriclaw2.DrawTrip': WHATEVER THE INPUT: true; the input reads as it did. -/
def drawTripSpec : ChangeSpec := { name := "drawTrip", fn := fun _ => fun
  | [d] => { results := [.lit (.bool true)], args := [d] }
  | _ => none }
def drawTripRow : OpenClaim := { program := "ytmlndajbgajmpaa", sum := "e0a60cfbcb312f263ab0db41a8eb4bfbabafe5d7b092418f990a1ca6845923f2", func := "chanfabric/chanfabriclaw2.DrawTrip", spec := "drawTrip", apart := false }
def DrawTripSaid : Prop := drawTripRow.holds Try.pinned (OpenSpec.ofChange drawTripSpec)

/-- ITS FALSE NEIGHBOUR: 'it returns false'. Refute it at one input. -/
def drawTripWrong : ChangeSpec := { name := "drawTrip", fn := fun _ => fun
  | [d] => { results := [.lit (.bool false)], args := [d] }
  | _ => none }
def DrawTripWrongFalsely : Prop := drawTripRow.holds Try.pinned (OpenSpec.ofChange drawTripWrong)

/-- 'chanfabriclaw2.DrawNumbers': WHATEVER THE INPUT: true; the input reads as it did. -/
def drawNumbersSpec : ChangeSpec := { name := "drawNumbers", fn := fun _ => fun
  | [d1, d2, d3, d4] => { results := [.lit (.bool true)], args := [d1, d2, d3, d4] }
  | _ => none }
def drawNumbersRow : OpenClaim := { program := "ytmlndajbgajmpaa", sum := "e0a60cfbcb312f263ab0db41a8eb4bfbabafe5d7b092418f990a1ca6845923f2", func := "chanfabric/chanfabriclaw2.DrawNumbers", spec := "drawNumbers", apart := false }
def DrawNumbersSaid : Prop := drawNumbersRow.holds Try.pinned (OpenSpec.ofChange drawNumbersSpec)

/-- ITS FALSE NEIGHBOUR: 'it returns false'. Refute it at one input. -/
def drawNumbersWrong : ChangeSpec := { name := "drawNumbers", fn := fun _ => fun
  | [d1, d2, d3, d4] => { results := [.lit (.bool false)], args := [d1, d2, d3, d4] }
  | _ => none }
def DrawNumbersWrongFalsely : Prop := drawNumbersRow.holds Try.pinned (OpenSpec.ofChange drawNumbersWrong)

/-- 'chanfabriclaw2.DrawFair': WHATEVER THE INPUT: true; the input reads as it did. -/
def drawFairSpec : ChangeSpec := { name := "drawFair", fn := fun _ => fun
  | [d] => { results := [.lit (.bool true)], args := [d] }
  | _ => none }
def drawFairRow : OpenClaim := { program := "ytmlndajbgajmpaa", sum := "e0a60cfbcb312f263ab0db41a8eb4bfbabafe5d7b092418f990a1ca6845923f2", func := "chanfabric/chanfabriclaw2.DrawFair", spec := "drawFair", apart := false }
def DrawFairSaid : Prop := drawFairRow.holds Try.pinned (OpenSpec.ofChange drawFairSpec)

/-- ITS FALSE NEIGHBOUR: 'it returns false'. Refute it at one input. -/
def drawFairWrong : ChangeSpec := { name := "drawFair", fn := fun _ => fun
  | [d] => { results := [.lit (.bool false)], args := [d] }
  | _ => none }
def DrawFairWrongFalsely : Prop := drawFairRow.holds Try.pinned (OpenSpec.ofChange drawFairWrong)

/-- 'chanfabriclaw2.DrawWins': WHATEVER THE INPUT: true; the input reads as it did. -/
def drawWinsSpec : ChangeSpec := { name := "drawWins", fn := fun _ => fun
  | [d1, d2] => { results := [.lit (.bool true)], args := [d1, d2] }
  | _ => none }
def drawWinsRow : OpenClaim := { program := "ytmlndajbgajmpaa", sum := "e0a60cfbcb312f263ab0db41a8eb4bfbabafe5d7b092418f990a1ca6845923f2", func := "chanfabric/chanfabriclaw2.DrawWins", spec := "drawWins", apart := false }
def DrawWinsSaid : Prop := drawWinsRow.holds Try.pinned (OpenSpec.ofChange drawWinsSpec)

/-- ITS FALSE NEIGHBOUR: 'it returns false'. Refute it at one input. -/
def drawWinsWrong : ChangeSpec := { name := "drawWins", fn := fun _ => fun
  | [d1, d2] => { results := [.lit (.bool false)], args := [d1, d2] }
  | _ => none }
def DrawWinsWrongFalsely : Prop := drawWinsRow.holds Try.pinned (OpenSpec.ofChange drawWinsWrong)

/- THE SECOND FORM. 'bulk': how many values and letters a reading holds, each counted each time it is reached (what is shared counts as often as it is met; a slice's spare places count too). A statement '..UptoSaid' is the law's where the arguments, and the package variables that the reading takes, are together of bulk at most 1048576: NARROWER than '..Said'. Prove '..Said' where nothing that the law and all that it calls make is longer than what came in: it says more and counts as full. Else prove '..UptoSaid'. A law counts once. -/
mutual
def uptoBulk {H : Type} : DataW H → Nat
  | .lit (.string bytes) => bytes.length + 1
  | .lit _ => 1
  | .nil => 1
  | .ptr d => uptoBulk d + 1
  | .slice elems spare => uptoBulkAll elems + uptoBulkAll spare + 1
  | .agg parts => uptoBulkAll parts + 1
  | .iface _ d => uptoBulk d + 1
  | .map entries => uptoBulkEntries entries + 1
  | .held _ => 1
def uptoBulkAll {H : Type} : List (DataW H) → Nat
  | [] => 0
  | d :: r => uptoBulk d + uptoBulkAll r
def uptoBulkEntries {H : Type} : List (Lit × DataW H) → Nat
  | [] => 0
  | x :: r => uptoBulkEntry x + uptoBulkEntries r
def uptoBulkEntry {H : Type} : Lit × DataW H → Nat
  | (.string bytes, d) => bytes.length + uptoBulk d + 1
  | (_, d) => uptoBulk d + 1
 end
def uptoSmall : (H : Type) → List (DataW H) → Bool := fun _ ds => decide (uptoBulkAll ds ≤ 1048576)
def OpenSpec.upto (s : _root_.Go.ChangeSpec) : _root_.Go.OpenSpec := { _root_.Go.OpenSpec.ofChange s with cond := some uptoSmall }

/-- 'chanfabriclaw2.DrawOrders', WHERE WHAT IT READS IS OF BULK AT MOST 1048576: true; the input reads as it did. -/
def drawOrdersUptoRow : OpenClaim := { program := "ytmlndajbgajmpaa", sum := "e0a60cfbcb312f263ab0db41a8eb4bfbabafe5d7b092418f990a1ca6845923f2", func := "chanfabric/chanfabriclaw2.DrawOrders", spec := "drawOrders", apart := false, narrowed := true }
def DrawOrdersUptoSaid : Prop := drawOrdersUptoRow.holds Try.pinned (OpenSpec.upto drawOrdersSpec)

/-- 'chanfabriclaw2.DrawReads', WHERE WHAT IT READS IS OF BULK AT MOST 1048576: true; the input reads as it did. -/
def drawReadsUptoRow : OpenClaim := { program := "ytmlndajbgajmpaa", sum := "e0a60cfbcb312f263ab0db41a8eb4bfbabafe5d7b092418f990a1ca6845923f2", func := "chanfabric/chanfabriclaw2.DrawReads", spec := "drawReads", apart := false, narrowed := true }
def DrawReadsUptoSaid : Prop := drawReadsUptoRow.holds Try.pinned (OpenSpec.upto drawReadsSpec)

/-- 'chanfabriclaw2.DrawTrip', WHERE WHAT IT READS IS OF BULK AT MOST 1048576: true; the input reads as it did. -/
def drawTripUptoRow : OpenClaim := { program := "ytmlndajbgajmpaa", sum := "e0a60cfbcb312f263ab0db41a8eb4bfbabafe5d7b092418f990a1ca6845923f2", func := "chanfabric/chanfabriclaw2.DrawTrip", spec := "drawTrip", apart := false, narrowed := true }
def DrawTripUptoSaid : Prop := drawTripUptoRow.holds Try.pinned (OpenSpec.upto drawTripSpec)

/-- 'chanfabriclaw2.DrawNumbers', WHERE WHAT IT READS IS OF BULK AT MOST 1048576: true; the input reads as it did. -/
def drawNumbersUptoRow : OpenClaim := { program := "ytmlndajbgajmpaa", sum := "e0a60cfbcb312f263ab0db41a8eb4bfbabafe5d7b092418f990a1ca6845923f2", func := "chanfabric/chanfabriclaw2.DrawNumbers", spec := "drawNumbers", apart := false, narrowed := true }
def DrawNumbersUptoSaid : Prop := drawNumbersUptoRow.holds Try.pinned (OpenSpec.upto drawNumbersSpec)

/-- 'chanfabriclaw2.DrawFair', WHERE WHAT IT READS IS OF BULK AT MOST 1048576: true; the input reads as it did. -/
def drawFairUptoRow : OpenClaim := { program := "ytmlndajbgajmpaa", sum := "e0a60cfbcb312f263ab0db41a8eb4bfbabafe5d7b092418f990a1ca6845923f2", func := "chanfabric/chanfabriclaw2.DrawFair", spec := "drawFair", apart := false, narrowed := true }
def DrawFairUptoSaid : Prop := drawFairUptoRow.holds Try.pinned (OpenSpec.upto drawFairSpec)

/-- 'chanfabriclaw2.DrawWins', WHERE WHAT IT READS IS OF BULK AT MOST 1048576: true; the input reads as it did. -/
def drawWinsUptoRow : OpenClaim := { program := "ytmlndajbgajmpaa", sum := "e0a60cfbcb312f263ab0db41a8eb4bfbabafe5d7b092418f990a1ca6845923f2", func := "chanfabric/chanfabriclaw2.DrawWins", spec := "drawWins", apart := false, narrowed := true }
def DrawWinsUptoSaid : Prop := drawWinsUptoRow.holds Try.pinned (OpenSpec.upto drawWinsSpec)

end Rows
end Go.Proofs.Ytmlndajbgajmpaa
