/-
  No cell of these rows narrows 'for every input' (looked for: loops, veiled, ifaces, maps, wideKeys, modest, calm, conditions, laid).
  DERIVED. THE GIVEN ROWS OF THIS SEAT. 3 by the template 'for every input the law returns true; each argument reads behind the call as it read before'; 0 by the template 'total and deterministic' (their statements: YtfegfefddfdkeaaTotals.lean).
  GIVEN WITH THE SEED: the statements are not yours to turn. If you find one false, say at which input.
  Laid BY PROGRAM, IN A SANDBOX (cutbox-rows.mjs): the forced cells as the released guide's own fill.sh prints them over the translation 9ac67126cc32104b… (all of the seat's roots in one cut). By AI agents, Wed Nov 11 2026. No macro, syntax, notation, axiom, sorry.
-/
import Derived.Test.YtfegfefddfdkeaaChecked
import GoSem.Claim
import GoSem.ClaimJoined
import GoSem.ClaimMapViews
import Derived.JoinedTies
import Derived.KernelRfl
namespace Go.Proofs.Ytfegfefddfdkeaa
/- THE CELL 'sum', in the pinned program and in every row, IS THE sha256 OF THE DUMP (.gsa) THAT YtfegfefddfdkeaaProg.lean LOADS. Nothing in Lean hashes anything: it is a label: what it is worth is what the hold of that sum in a sandbox is worth. -/
noncomputable def Try.pinned : Pinned := { name := "ytfegfefddfdkeaa", sum := "9ac67126cc32104b80544a7e854d4e02f14d9fd871ab35363ff9e6306eb29899", checked := Try.checked }
namespace Rows
def none {H : Type} : Left H := { results := [], args := [] }

/-- 'chanfabriclaw10.ShutAccesses': WHATEVER THE INPUT: true; the input reads as it did. -/
def shutAccessesSpec : ChangeSpec := { name := "shutAccesses", fn := fun _ => fun
  | [d1, d2] => { results := [.lit (.bool true)], args := [d1, d2] }
  | _ => none }
def shutAccessesRow : OpenClaim := { program := "ytfegfefddfdkeaa", sum := "9ac67126cc32104b80544a7e854d4e02f14d9fd871ab35363ff9e6306eb29899", func := "chanfabric/chanfabriclaw10.ShutAccesses", spec := "shutAccesses", apart := false }
def ShutAccessesSaid : Prop := shutAccessesRow.holds Try.pinned (OpenSpec.ofChange shutAccessesSpec)

/-- ITS FALSE NEIGHBOUR: 'it returns false'. Refute it at one input. -/
def shutAccessesWrong : ChangeSpec := { name := "shutAccesses", fn := fun _ => fun
  | [d1, d2] => { results := [.lit (.bool false)], args := [d1, d2] }
  | _ => none }
def ShutAccessesWrongFalsely : Prop := shutAccessesRow.holds Try.pinned (OpenSpec.ofChange shutAccessesWrong)

/-- 'chanfabriclaw10.ShutAnswers': WHATEVER THE INPUT: true; the input reads as it did. -/
def shutAnswersSpec : ChangeSpec := { name := "shutAnswers", fn := fun _ => fun
  | [d1, d2, d3] => { results := [.lit (.bool true)], args := [d1, d2, d3] }
  | _ => none }
def shutAnswersRow : OpenClaim := { program := "ytfegfefddfdkeaa", sum := "9ac67126cc32104b80544a7e854d4e02f14d9fd871ab35363ff9e6306eb29899", func := "chanfabric/chanfabriclaw10.ShutAnswers", spec := "shutAnswers", apart := false }
def ShutAnswersSaid : Prop := shutAnswersRow.holds Try.pinned (OpenSpec.ofChange shutAnswersSpec)

/-- ITS FALSE NEIGHBOUR: 'it returns false'. Refute it at one input. -/
def shutAnswersWrong : ChangeSpec := { name := "shutAnswers", fn := fun _ => fun
  | [d1, d2, d3] => { results := [.lit (.bool false)], args := [d1, d2, d3] }
  | _ => none }
def ShutAnswersWrongFalsely : Prop := shutAnswersRow.holds Try.pinned (OpenSpec.ofChange shutAnswersWrong)

/-- 'chanfabriclaw10.ShutOnce': WHATEVER THE INPUT: true; the input reads as it did. -/
def shutOnceSpec : ChangeSpec := { name := "shutOnce", fn := fun _ => fun
  | [d1, d2, d3] => { results := [.lit (.bool true)], args := [d1, d2, d3] }
  | _ => none }
def shutOnceRow : OpenClaim := { program := "ytfegfefddfdkeaa", sum := "9ac67126cc32104b80544a7e854d4e02f14d9fd871ab35363ff9e6306eb29899", func := "chanfabric/chanfabriclaw10.ShutOnce", spec := "shutOnce", apart := false }
def ShutOnceSaid : Prop := shutOnceRow.holds Try.pinned (OpenSpec.ofChange shutOnceSpec)

/-- ITS FALSE NEIGHBOUR: 'it returns false'. Refute it at one input. -/
def shutOnceWrong : ChangeSpec := { name := "shutOnce", fn := fun _ => fun
  | [d1, d2, d3] => { results := [.lit (.bool false)], args := [d1, d2, d3] }
  | _ => none }
def ShutOnceWrongFalsely : Prop := shutOnceRow.holds Try.pinned (OpenSpec.ofChange shutOnceWrong)

/- THE SECOND FORM. 'bulk': how many values and letters a reading holds, each counted each time it is reached (what is shared counts as often as it is met; a slice's spare places count too). A statement '..UptoSaid' is the law's where the arguments, and the package variables that the reading takes, are together of bulk at most 1048576: NARROWER than '..Said'. Prove '..Said' where nothing that the law and all that it calls make is longer than what came in: it says more and counts as full. Else prove '..UptoSaid'. A law counts once. -/
mutual
def uptoBulk {H : Type} : DataW H → Nat
  | .lit (.string bytes) => bytes.length + 1
  | .lit _ => 1
  | .nil => 1
  | .ptr d => uptoBulk d + 1
  | .slice elems spare => uptoBulkAll elems + uptoBulkAll spare + 1
  | .agg parts => uptoBulkAll parts + 1
  | .iface _ d => uptoBulk d + 1
  | .map entries => uptoBulkEntries entries + 1
  | .held _ => 1
def uptoBulkAll {H : Type} : List (DataW H) → Nat
  | [] => 0
  | d :: r => uptoBulk d + uptoBulkAll r
def uptoBulkEntries {H : Type} : List (Lit × DataW H) → Nat
  | [] => 0
  | x :: r => uptoBulkEntry x + uptoBulkEntries r
def uptoBulkEntry {H : Type} : Lit × DataW H → Nat
  | (.string bytes, d) => bytes.length + uptoBulk d + 1
  | (_, d) => uptoBulk d + 1
 end
def uptoSmall : (H : Type) → List (DataW H) → Bool := fun _ ds => decide (uptoBulkAll ds ≤ 1048576)
def OpenSpec.upto (s : _root_.Go.ChangeSpec) : _root_.Go.OpenSpec := { _root_.Go.OpenSpec.ofChange s with cond := some uptoSmall }

/-- 'chanfabriclaw10.ShutAccesses', WHERE WHAT IT READS IS OF BULK AT MOST 1048576: true; the input reads as it did. -/
def shutAccessesUptoRow : OpenClaim := { program := "ytfegfefddfdkeaa", sum := "9ac67126cc32104b80544a7e854d4e02f14d9fd871ab35363ff9e6306eb29899", func := "chanfabric/chanfabriclaw10.ShutAccesses", spec := "shutAccesses", apart := false, narrowed := true }
def ShutAccessesUptoSaid : Prop := shutAccessesUptoRow.holds Try.pinned (OpenSpec.upto shutAccessesSpec)

/-- 'chanfabriclaw10.ShutAnswers', WHERE WHAT IT READS IS OF BULK AT MOST 1048576: true; the input reads as it did. -/
def shutAnswersUptoRow : OpenClaim := { program := "ytfegfefddfdkeaa", sum := "9ac67126cc32104b80544a7e854d4e02f14d9fd871ab35363ff9e6306eb29899", func := "chanfabric/chanfabriclaw10.ShutAnswers", spec := "shutAnswers", apart := false, narrowed := true }
def ShutAnswersUptoSaid : Prop := shutAnswersUptoRow.holds Try.pinned (OpenSpec.upto shutAnswersSpec)

/-- 'chanfabriclaw10.ShutOnce', WHERE WHAT IT READS IS OF BULK AT MOST 1048576: true; the input reads as it did. -/
def shutOnceUptoRow : OpenClaim := { program := "ytfegfefddfdkeaa", sum := "9ac67126cc32104b80544a7e854d4e02f14d9fd871ab35363ff9e6306eb29899", func := "chanfabric/chanfabriclaw10.ShutOnce", spec := "shutOnce", apart := false, narrowed := true }
def ShutOnceUptoSaid : Prop := shutOnceUptoRow.holds Try.pinned (OpenSpec.upto shutOnceSpec)

end Rows
end Go.Proofs.Ytfegfefddfdkeaa
