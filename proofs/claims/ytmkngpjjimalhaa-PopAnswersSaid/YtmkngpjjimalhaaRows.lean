/-
  No cell of these rows narrows 'for every input' (looked for: loops, veiled, ifaces, maps, wideKeys, modest, calm, conditions, laid).
  DERIVED. THE GIVEN ROWS OF THIS SEAT. 3 by the template 'for every input the law returns true; each argument reads behind the call as it read before'; 0 by the template 'total and deterministic' (their statements: YtmkngpjjimalhaaTotals.lean).
  GIVEN WITH THE SEED: the statements are not yours to turn. If you find one false, say at which input.
  Laid BY PROGRAM, IN A SANDBOX (cutbox-rows.mjs): the forced cells as the released guide's own fill.sh prints them over the translation ee3c4aceb09af2e8… (all of the seat's roots in one cut). By AI agents, Wed Nov 11 2026. No macro, syntax, notation, axiom, sorry.
-/
import Derived.Test.YtmkngpjjimalhaaChecked
import GoSem.Claim
import GoSem.ClaimJoined
import GoSem.ClaimMapViews
import Derived.JoinedTies
import Derived.KernelRfl
namespace Go.Proofs.Ytmkngpjjimalhaa
/- THE CELL 'sum', in the pinned program and in every row, IS THE sha256 OF THE DUMP (.gsa) THAT YtmkngpjjimalhaaProg.lean LOADS. Nothing in Lean hashes anything: it is a label: what it is worth is what the hold of that sum in a sandbox is worth. -/
noncomputable def Try.pinned : Pinned := { name := "ytmkngpjjimalhaa", sum := "ee3c4aceb09af2e88bb09e1916bed2e08a62a4b1af321f065f72a11ad6ea3dfb", checked := Try.checked }
namespace Rows
def none {H : Type} : Left H := { results := [], args := [] }

/-- 'chanfabriclaw9.PopAccesses': WHATEVER THE INPUT: true; the input reads as it did. -/
def popAccessesSpec : ChangeSpec := { name := "popAccesses", fn := fun _ => fun
  | [d1, d2] => { results := [.lit (.bool true)], args := [d1, d2] }
  | _ => none }
def popAccessesRow : OpenClaim := { program := "ytmkngpjjimalhaa", sum := "ee3c4aceb09af2e88bb09e1916bed2e08a62a4b1af321f065f72a11ad6ea3dfb", func := "chanfabric/chanfabriclaw9.PopAccesses", spec := "popAccesses", apart := false }
def PopAccessesSaid : Prop := popAccessesRow.holds Try.pinned (OpenSpec.ofChange popAccessesSpec)

/-- ITS FALSE NEIGHBOUR: 'it returns false'. Refute it at one input. -/
def popAccessesWrong : ChangeSpec := { name := "popAccesses", fn := fun _ => fun
  | [d1, d2] => { results := [.lit (.bool false)], args := [d1, d2] }
  | _ => none }
def PopAccessesWrongFalsely : Prop := popAccessesRow.holds Try.pinned (OpenSpec.ofChange popAccessesWrong)

/-- 'chanfabriclaw9.PopAnswers': WHATEVER THE INPUT: true; the input reads as it did. -/
def popAnswersSpec : ChangeSpec := { name := "popAnswers", fn := fun _ => fun
  | [d1, d2] => { results := [.lit (.bool true)], args := [d1, d2] }
  | _ => none }
def popAnswersRow : OpenClaim := { program := "ytmkngpjjimalhaa", sum := "ee3c4aceb09af2e88bb09e1916bed2e08a62a4b1af321f065f72a11ad6ea3dfb", func := "chanfabric/chanfabriclaw9.PopAnswers", spec := "popAnswers", apart := false }
def PopAnswersSaid : Prop := popAnswersRow.holds Try.pinned (OpenSpec.ofChange popAnswersSpec)

/-- ITS FALSE NEIGHBOUR: 'it returns false'. Refute it at one input. -/
def popAnswersWrong : ChangeSpec := { name := "popAnswers", fn := fun _ => fun
  | [d1, d2] => { results := [.lit (.bool false)], args := [d1, d2] }
  | _ => none }
def PopAnswersWrongFalsely : Prop := popAnswersRow.holds Try.pinned (OpenSpec.ofChange popAnswersWrong)

/-- 'chanfabriclaw9.PopAlone': WHATEVER THE INPUT: true; the input reads as it did. -/
def popAloneSpec : ChangeSpec := { name := "popAlone", fn := fun _ => fun
  | [d1, d2, d3] => { results := [.lit (.bool true)], args := [d1, d2, d3] }
  | _ => none }
def popAloneRow : OpenClaim := { program := "ytmkngpjjimalhaa", sum := "ee3c4aceb09af2e88bb09e1916bed2e08a62a4b1af321f065f72a11ad6ea3dfb", func := "chanfabric/chanfabriclaw9.PopAlone", spec := "popAlone", apart := false }
def PopAloneSaid : Prop := popAloneRow.holds Try.pinned (OpenSpec.ofChange popAloneSpec)

/-- ITS FALSE NEIGHBOUR: 'it returns false'. Refute it at one input. -/
def popAloneWrong : ChangeSpec := { name := "popAlone", fn := fun _ => fun
  | [d1, d2, d3] => { results := [.lit (.bool false)], args := [d1, d2, d3] }
  | _ => none }
def PopAloneWrongFalsely : Prop := popAloneRow.holds Try.pinned (OpenSpec.ofChange popAloneWrong)

/- THE SECOND FORM. 'bulk': how many values and letters a reading holds, each counted each time it is reached (what is shared counts as often as it is met; a slice's spare places count too). A statement '..UptoSaid' is the law's where the arguments, and the package variables that the reading takes, are together of bulk at most 1048576: NARROWER than '..Said'. Prove '..Said' where nothing that the law and all that it calls make is longer than what came in: it says more and counts as full. Else prove '..UptoSaid'. A law counts once. -/
mutual
def uptoBulk {H : Type} : DataW H → Nat
  | .lit (.string bytes) => bytes.length + 1
  | .lit _ => 1
  | .nil => 1
  | .ptr d => uptoBulk d + 1
  | .slice elems spare => uptoBulkAll elems + uptoBulkAll spare + 1
  | .agg parts => uptoBulkAll parts + 1
  | .iface _ d => uptoBulk d + 1
  | .map entries => uptoBulkEntries entries + 1
  | .held _ => 1
def uptoBulkAll {H : Type} : List (DataW H) → Nat
  | [] => 0
  | d :: r => uptoBulk d + uptoBulkAll r
def uptoBulkEntries {H : Type} : List (Lit × DataW H) → Nat
  | [] => 0
  | x :: r => uptoBulkEntry x + uptoBulkEntries r
def uptoBulkEntry {H : Type} : Lit × DataW H → Nat
  | (.string bytes, d) => bytes.length + uptoBulk d + 1
  | (_, d) => uptoBulk d + 1
 end
def uptoSmall : (H : Type) → List (DataW H) → Bool := fun _ ds => decide (uptoBulkAll ds ≤ 1048576)
def OpenSpec.upto (s : _root_.Go.ChangeSpec) : _root_.Go.OpenSpec := { _root_.Go.OpenSpec.ofChange s with cond := some uptoSmall }

/-- 'chanfabriclaw9.PopAccesses', WHERE WHAT IT READS IS OF BULK AT MOST 1048576: true; the input reads as it did. -/
def popAccessesUptoRow : OpenClaim := { program := "ytmkngpjjimalhaa", sum := "ee3c4aceb09af2e88bb09e1916bed2e08a62a4b1af321f065f72a11ad6ea3dfb", func := "chanfabric/chanfabriclaw9.PopAccesses", spec := "popAccesses", apart := false, narrowed := true }
def PopAccessesUptoSaid : Prop := popAccessesUptoRow.holds Try.pinned (OpenSpec.upto popAccessesSpec)

/-- 'chanfabriclaw9.PopAnswers', WHERE WHAT IT READS IS OF BULK AT MOST 1048576: true; the input reads as it did. -/
def popAnswersUptoRow : OpenClaim := { program := "ytmkngpjjimalhaa", sum := "ee3c4aceb09af2e88bb09e1916bed2e08a62a4b1af321f065f72a11ad6ea3dfb", func := "chanfabric/chanfabriclaw9.PopAnswers", spec := "popAnswers", apart := false, narrowed := true }
def PopAnswersUptoSaid : Prop := popAnswersUptoRow.holds Try.pinned (OpenSpec.upto popAnswersSpec)

/-- 'chanfabriclaw9.PopAlone', WHERE WHAT IT READS IS OF BULK AT MOST 1048576: true; the input reads as it did. -/
def popAloneUptoRow : OpenClaim := { program := "ytmkngpjjimalhaa", sum := "ee3c4aceb09af2e88bb09e1916bed2e08a62a4b1af321f065f72a11ad6ea3dfb", func := "chanfabric/chanfabriclaw9.PopAlone", spec := "popAlone", apart := false, narrowed := true }
def PopAloneUptoSaid : Prop := popAloneUptoRow.holds Try.pinned (OpenSpec.upto popAloneSpec)

end Rows
end Go.Proofs.Ytmkngpjjimalhaa
