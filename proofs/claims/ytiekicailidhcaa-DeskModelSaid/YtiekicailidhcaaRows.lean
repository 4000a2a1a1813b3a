/-
  No cell of these rows narrows 'for every input' (looked for: loops, veiled, ifaces, maps, wideKeys, modest, calm, conditions, laid).
  DERIVED. THE GIVEN ROWS OF THIS SEAT. 6 by the template 'for every input the law returns true; each argument reads behind the call as it read before'; 0 by the template 'total and deterministic' (their statements: YtiekicailidhcaaTotals.lean).
  GIVEN WITH THE SEED: the statements are not yours to turn. If you find one false, say at which input.
  Laid BY PROGRAM, IN A SANDBOX (cutbox-rows.mjs): the forced cells as the released guide's own fill.sh prints them over the translation f9bd895947f9e78b… (all of the seat's roots in one cut). By AI agents, Wed Nov 11 2026. No macro, syntax, notation, axiom, sorry.
-/
import Derived.Test.YtiekicailidhcaaChecked
import GoSem.Claim
import GoSem.ClaimJoined
import GoSem.ClaimMapViews
import Derived.JoinedTies
import Derived.KernelRfl
namespace Go.Proofs.Ytiekicailidhcaa
/- THE CELL 'sum', in the pinned program and in every row, IS THE sha256 OF THE DUMP (.gsa) THAT YtiekicailidhcaaProg.lean LOADS. Nothing in Lean hashes anything: it is a label: what it is worth is what the hold of that sum in a sandbox is worth. -/
noncomputable def Try.pinned : Pinned := { name := "ytiekicailidhcaa", sum := "f9bd895947f9e78bce5d62a95848317c414f249d6ebbc1a7d4d7669eb0617cd1", checked := Try.checked }
namespace Rows
def none {H : Type} : Left H := { results := [], args := [] }

/-- 'chanfabriclaw15.DeskDoes': WHATEVER THE INPUT: true; the input reads as it did. -/
def deskDoesSpec : ChangeSpec := { name := "deskDoes", fn := fun _ => fun
  | [d] => { results := [.lit (.bool true)], args := [d] }
  | _ => none }
def deskDoesRow : OpenClaim := { program := "ytiekicailidhcaa", sum := "f9bd895947f9e78bce5d62a95848317c414f249d6ebbc1a7d4d7669eb0617cd1", func := "chanfabric/chanfabriclaw15.DeskDoes", spec := "deskDoes", inPlace := ["slices.overlaps[chanfabric/api.Done]"], unfollowed := true, recurses := true, apart := false }
def DeskDoesSaid : Prop := deskDoesRow.holds Try.pinned (OpenSpec.ofChange deskDoesSpec)

/-- ITS FALSE NEIGHBOUR: 'it returns false'. Refute it at one input. -/
def deskDoesWrong : ChangeSpec := { name := "deskDoes", fn := fun _ => fun
  | [d] => { results := [.lit (.bool false)], args := [d] }
  | _ => none }
def DeskDoesWrongFalsely : Prop := deskDoesRow.holds Try.pinned (OpenSpec.ofChange deskDoesWrong)

/-- 'chanfabriclaw15.DeskTicks': WHATEVER THE INPUT: true; the input reads as it did. -/
def deskTicksSpec : ChangeSpec := { name := "deskTicks", fn := fun _ => fun
  | [d1, d2, d3] => { results := [.lit (.bool true)], args := [d1, d2, d3] }
  | _ => none }
def deskTicksRow : OpenClaim := { program := "ytiekicailidhcaa", sum := "f9bd895947f9e78bce5d62a95848317c414f249d6ebbc1a7d4d7669eb0617cd1", func := "chanfabric/chanfabriclaw15.DeskTicks", spec := "deskTicks", inPlace := ["slices.overlaps[chanfabric/api.Done]"], unfollowed := true, recurses := true, apart := false }
def DeskTicksSaid : Prop := deskTicksRow.holds Try.pinned (OpenSpec.ofChange deskTicksSpec)

/-- ITS FALSE NEIGHBOUR: 'it returns false'. Refute it at one input. -/
def deskTicksWrong : ChangeSpec := { name := "deskTicks", fn := fun _ => fun
  | [d1, d2, d3] => { results := [.lit (.bool false)], args := [d1, d2, d3] }
  | _ => none }
def DeskTicksWrongFalsely : Prop := deskTicksRow.holds Try.pinned (OpenSpec.ofChange deskTicksWrong)

/-- 'chanfabriclaw15.DeskChoices': WHATEVER THE INPUT: true; the input reads as it did. -/
def deskChoicesSpec : ChangeSpec := { name := "deskChoices", fn := fun _ => fun
  | [d1, d2] => { results := [.lit (.bool true)], args := [d1, d2] }
  | _ => none }
def deskChoicesRow : OpenClaim := { program := "ytiekicailidhcaa", sum := "f9bd895947f9e78bce5d62a95848317c414f249d6ebbc1a7d4d7669eb0617cd1", func := "chanfabric/chanfabriclaw15.DeskChoices", spec := "deskChoices", inPlace := ["slices.overlaps[chanfabric/api.Done]"], unfollowed := true, recurses := true, apart := false }
def DeskChoicesSaid : Prop := deskChoicesRow.holds Try.pinned (OpenSpec.ofChange deskChoicesSpec)

/-- ITS FALSE NEIGHBOUR: 'it returns false'. Refute it at one input. -/
def deskChoicesWrong : ChangeSpec := { name := "deskChoices", fn := fun _ => fun
  | [d1, d2] => { results := [.lit (.bool false)], args := [d1, d2] }
  | _ => none }
def DeskChoicesWrongFalsely : Prop := deskChoicesRow.holds Try.pinned (OpenSpec.ofChange deskChoicesWrong)

/-- 'chanfabriclaw15.DeskRests': WHATEVER THE INPUT: true; the input reads as it did. -/
def deskRestsSpec : ChangeSpec := { name := "deskRests", fn := fun _ => fun
  | [d] => { results := [.lit (.bool true)], args := [d] }
  | _ => none }
def deskRestsRow : OpenClaim := { program := "ytiekicailidhcaa", sum := "f9bd895947f9e78bce5d62a95848317c414f249d6ebbc1a7d4d7669eb0617cd1", func := "chanfabric/chanfabriclaw15.DeskRests", spec := "deskRests", inPlace := ["slices.overlaps[chanfabric/api.Done]"], unfollowed := true, recurses := true, apart := false }
def DeskRestsSaid : Prop := deskRestsRow.holds Try.pinned (OpenSpec.ofChange deskRestsSpec)

/-- ITS FALSE NEIGHBOUR: 'it returns false'. Refute it at one input. -/
def deskRestsWrong : ChangeSpec := { name := "deskRests", fn := fun _ => fun
  | [d] => { results := [.lit (.bool false)], args := [d] }
  | _ => none }
def DeskRestsWrongFalsely : Prop := deskRestsRow.holds Try.pinned (OpenSpec.ofChange deskRestsWrong)

/-- 'chanfabriclaw15.DeskModel': WHATEVER THE INPUT: true; the input reads as it did. -/
def deskModelSpec : ChangeSpec := { name := "deskModel", fn := fun _ => fun
  | [d] => { results := [.lit (.bool true)], args := [d] }
  | _ => none }
def deskModelRow : OpenClaim := { program := "ytiekicailidhcaa", sum := "f9bd895947f9e78bce5d62a95848317c414f249d6ebbc1a7d4d7669eb0617cd1", func := "chanfabric/chanfabriclaw15.DeskModel", spec := "deskModel", inPlace := ["slices.overlaps[chanfabric/api.Done]"], unfollowed := true, recurses := true, apart := false }
def DeskModelSaid : Prop := deskModelRow.holds Try.pinned (OpenSpec.ofChange deskModelSpec)

/-- ITS FALSE NEIGHBOUR: 'it returns false'. Refute it at one input. -/
def deskModelWrong : ChangeSpec := { name := "deskModel", fn := fun _ => fun
  | [d] => { results := [.lit (.bool false)], args := [d] }
  | _ => none }
def DeskModelWrongFalsely : Prop := deskModelRow.holds Try.pinned (OpenSpec.ofChange deskModelWrong)

/-- 'chanfabriclaw15.DeskFair': WHATEVER THE INPUT: true; the input reads as it did. -/
def deskFairSpec : ChangeSpec := { name := "deskFair", fn := fun _ => fun
  | [d1, d2] => { results := [.lit (.bool true)], args := [d1, d2] }
  | _ => none }
def deskFairRow : OpenClaim := { program := "ytiekicailidhcaa", sum := "f9bd895947f9e78bce5d62a95848317c414f249d6ebbc1a7d4d7669eb0617cd1", func := "chanfabric/chanfabriclaw15.DeskFair", spec := "deskFair", inPlace := ["slices.overlaps[chanfabric/api.Done]"], unfollowed := true, recurses := true, apart := false }
def DeskFairSaid : Prop := deskFairRow.holds Try.pinned (OpenSpec.ofChange deskFairSpec)

/-- ITS FALSE NEIGHBOUR: 'it returns false'. Refute it at one input. -/
def deskFairWrong : ChangeSpec := { name := "deskFair", fn := fun _ => fun
  | [d1, d2] => { results := [.lit (.bool false)], args := [d1, d2] }
  | _ => none }
def DeskFairWrongFalsely : Prop := deskFairRow.holds Try.pinned (OpenSpec.ofChange deskFairWrong)

/- THE SECOND FORM. 'bulk': how many values and letters a reading holds, each counted each time it is reached (what is shared counts as often as it is met; a slice's spare places count too). A statement '..UptoSaid' is the law's where the arguments, and the package variables that the reading takes, are together of bulk at most 1048576: NARROWER than '..Said'. Prove '..Said' where nothing that the law and all that it calls make is longer than what came in: it says more and counts as full. Else prove '..UptoSaid'. A law counts once. -/
mutual
def uptoBulk {H : Type} : DataW H → Nat
  | .lit (.string bytes) => bytes.length + 1
  | .lit _ => 1
  | .nil => 1
  | .ptr d => uptoBulk d + 1
  | .slice elems spare => uptoBulkAll elems + uptoBulkAll spare + 1
  | .agg parts => uptoBulkAll parts + 1
  | .iface _ d => uptoBulk d + 1
  | .map entries => uptoBulkEntries entries + 1
  | .held _ => 1
def uptoBulkAll {H : Type} : List (DataW H) → Nat
  | [] => 0
  | d :: r => uptoBulk d + uptoBulkAll r
def uptoBulkEntries {H : Type} : List (Lit × DataW H) → Nat
  | [] => 0
  | x :: r => uptoBulkEntry x + uptoBulkEntries r
def uptoBulkEntry {H : Type} : Lit × DataW H → Nat
  | (.string bytes, d) => bytes.length + uptoBulk d + 1
  | (_, d) => uptoBulk d + 1
 end
def uptoSmall : (H : Type) → List (DataW H) → Bool := fun _ ds => decide (uptoBulkAll ds ≤ 1048576)
def OpenSpec.upto (s : _root_.Go.ChangeSpec) : _root_.Go.OpenSpec := { _root_.Go.OpenSpec.ofChange s with cond := some uptoSmall }

/-- 'chanfabriclaw15.DeskDoes', WHERE WHAT IT READS IS OF BULK AT MOST 1048576: true; the input reads as it did. -/
def deskDoesUptoRow : OpenClaim := { program := "ytiekicailidhcaa", sum := "f9bd895947f9e78bce5d62a95848317c414f249d6ebbc1a7d4d7669eb0617cd1", func := "chanfabric/chanfabriclaw15.DeskDoes", spec := "deskDoes", inPlace := ["slices.overlaps[chanfabric/api.Done]"], unfollowed := true, recurses := true, apart := false, narrowed := true }
def DeskDoesUptoSaid : Prop := deskDoesUptoRow.holds Try.pinned (OpenSpec.upto deskDoesSpec)

/-- 'chanfabriclaw15.DeskTicks', WHERE WHAT IT READS IS OF BULK AT MOST 1048576: true; the input reads as it did. -/
def deskTicksUptoRow : OpenClaim := { program := "ytiekicailidhcaa", sum := "f9bd895947f9e78bce5d62a95848317c414f249d6ebbc1a7d4d7669eb0617cd1", func := "chanfabric/chanfabriclaw15.DeskTicks", spec := "deskTicks", inPlace := ["slices.overlaps[chanfabric/api.Done]"], unfollowed := true, recurses := true, apart := false, narrowed := true }
def DeskTicksUptoSaid : Prop := deskTicksUptoRow.holds Try.pinned (OpenSpec.upto deskTicksSpec)

/-- 'chanfabriclaw15.DeskChoices', WHERE WHAT IT READS IS OF BULK AT MOST 1048576: true; the input reads as it did. -/
def deskChoicesUptoRow : OpenClaim := { program := "ytiekicailidhcaa", sum := "f9bd895947f9e78bce5d62a95848317c414f249d6ebbc1a7d4d7669eb0617cd1", func := "chanfabric/chanfabriclaw15.DeskChoices", spec := "deskChoices", inPlace := ["slices.overlaps[chanfabric/api.Done]"], unfollowed := true, recurses := true, apart := false, narrowed := true }
def DeskChoicesUptoSaid : Prop := deskChoicesUptoRow.holds Try.pinned (OpenSpec.upto deskChoicesSpec)

/-- 'chanfabriclaw15.DeskRests', WHERE WHAT IT READS IS OF BULK AT MOST 1048576: true; the input reads as it did. -/
def deskRestsUptoRow : OpenClaim := { program := "ytiekicailidhcaa", sum := "f9bd895947f9e78bce5d62a95848317c414f249d6ebbc1a7d4d7669eb0617cd1", func := "chanfabric/chanfabriclaw15.DeskRests", spec := "deskRests", inPlace := ["slices.overlaps[chanfabric/api.Done]"], unfollowed := true, recurses := true, apart := false, narrowed := true }
def DeskRestsUptoSaid : Prop := deskRestsUptoRow.holds Try.pinned (OpenSpec.upto deskRestsSpec)

/-- 'chanfabriclaw15.DeskModel', WHERE WHAT IT READS IS OF BULK AT MOST 1048576: true; the input reads as it did. -/
def deskModelUptoRow : OpenClaim := { program := "ytiekicailidhcaa", sum := "f9bd895947f9e78bce5d62a95848317c414f249d6ebbc1a7d4d7669eb0617cd1", func := "chanfabric/chanfabriclaw15.DeskModel", spec := "deskModel", inPlace := ["slices.overlaps[chanfabric/api.Done]"], unfollowed := true, recurses := true, apart := false, narrowed := true }
def DeskModelUptoSaid : Prop := deskModelUptoRow.holds Try.pinned (OpenSpec.upto deskModelSpec)

/-- 'chanfabriclaw15.DeskFair', WHERE WHAT IT READS IS OF BULK AT MOST 1048576: true; the input reads as it did. -/
def deskFairUptoRow : OpenClaim := { program := "ytiekicailidhcaa", sum := "f9bd895947f9e78bce5d62a95848317c414f249d6ebbc1a7d4d7669eb0617cd1", func := "chanfabric/chanfabriclaw15.DeskFair", spec := "deskFair", inPlace := ["slices.overlaps[chanfabric/api.Done]"], unfollowed := true, recurses := true, apart := false, narrowed := true }
def DeskFairUptoSaid : Prop := deskFairUptoRow.holds Try.pinned (OpenSpec.upto deskFairSpec)

end Rows
end Go.Proofs.Ytiekicailidhcaa
