/-
  No cell of these rows narrows 'for every input' (looked for: loops, veiled, ifaces, maps, wideKeys, modest, calm, conditions, laid).
  DERIVED. THE GIVEN ROWS OF THIS SEAT. 7 by the template 'for every input the law returns true; each argument reads behind the call as it read before'; 0 by the template 'total and deterministic' (their statements: YtkciejealeinoaaTotals.lean).
  GIVEN WITH THE SEED: the statements are not yours to turn. If you find one false, say at which input.
  Laid BY PROGRAM, IN A SANDBOX (cutbox-rows.mjs): the forced cells as the released guide's own fill.sh prints them over the translation fcec5f9e679a3929… (all of the seat's roots in one cut). By AI agents, Wed Nov 11 2026. No macro, syntax, notation, axiom, sorry.
-/
import Derived.Test.YtkciejealeinoaaChecked
import GoSem.Claim
import GoSem.ClaimJoined
import GoSem.ClaimMapViews
import Derived.JoinedTies
import Derived.KernelRfl
namespace Go.Proofs.Ytkciejealeinoaa
/- THE CELL 'sum', in the pinned program and in every row, IS THE sha256 OF THE DUMP (.gsa) THAT YtkciejealeinoaaProg.lean LOADS. Nothing in Lean hashes anything: it is a label: what it is worth is what the hold of that sum in a sandbox is worth. -/
noncomputable def Try.pinned : Pinned := { name := "ytkciejealeinoaa", sum := "fcec5f9e679a392959e92234108dd90a23283760f0a3d6a6bfd1ff0490d08a9c", checked := Try.checked }
namespace Rows
def none {H : Type} : Left H := { results := [], args := [] }

/-- 'chanfabriclaw3.CasesLocks': WHATEVER THE INPUT: true; the input reads as it did. -/
def casesLocksSpec : ChangeSpec := { name := "casesLocks", fn := fun _ => fun
  | [d1, d2, d3] => { results := [.lit (.bool true)], args := [d1, d2, d3] }
  | _ => none }
def casesLocksRow : OpenClaim := { program := "ytkciejealeinoaa", sum := "fcec5f9e679a392959e92234108dd90a23283760f0a3d6a6bfd1ff0490d08a9c", func := "chanfabric/chanfabriclaw3.CasesLocks", spec := "casesLocks", unfollowed := true, recurses := true, apart := false }
def CasesLocksSaid : Prop := casesLocksRow.holds Try.pinned (OpenSpec.ofChange casesLocksSpec)

/-- ITS FALSE NEIGHBOUR: 'it returns false'. Refute it at one input. -/
def casesLocksWrong : ChangeSpec := { name := "casesLocks", fn := fun _ => fun
  | [d1, d2, d3] => { results := [.lit (.bool false)], args := [d1, d2, d3] }
  | _ => none }
def CasesLocksWrongFalsely : Prop := casesLocksRow.holds Try.pinned (OpenSpec.ofChange casesLocksWrong)

/-- 'chanfabriclaw4.MemoryKinds': WHATEVER THE INPUT: true; the input reads as it did. -/
def memoryKindsSpec : ChangeSpec := { name := "memoryKinds", fn := fun _ => fun
  | [d] => { results := [.lit (.bool true)], args := [d] }
  | _ => none }
def memoryKindsRow : OpenClaim := { program := "ytkciejealeinoaa", sum := "fcec5f9e679a392959e92234108dd90a23283760f0a3d6a6bfd1ff0490d08a9c", func := "chanfabric/chanfabriclaw4.MemoryKinds", spec := "memoryKinds", apart := false }
def MemoryKindsSaid : Prop := memoryKindsRow.holds Try.pinned (OpenSpec.ofChange memoryKindsSpec)

/-- ITS FALSE NEIGHBOUR: 'it returns false'. Refute it at one input. -/
def memoryKindsWrong : ChangeSpec := { name := "memoryKinds", fn := fun _ => fun
  | [d] => { results := [.lit (.bool false)], args := [d] }
  | _ => none }
def MemoryKindsWrongFalsely : Prop := memoryKindsRow.holds Try.pinned (OpenSpec.ofChange memoryKindsWrong)

/-- 'chanfabriclaw4.MemoryApplies': WHATEVER THE INPUT: true; the input reads as it did. -/
def memoryAppliesSpec : ChangeSpec := { name := "memoryApplies", fn := fun _ => fun
  | [d1, d2, d3] => { results := [.lit (.bool true)], args := [d1, d2, d3] }
  | _ => none }
def memoryAppliesRow : OpenClaim := { program := "ytkciejealeinoaa", sum := "fcec5f9e679a392959e92234108dd90a23283760f0a3d6a6bfd1ff0490d08a9c", func := "chanfabric/chanfabriclaw4.MemoryApplies", spec := "memoryApplies", apart := false }
def MemoryAppliesSaid : Prop := memoryAppliesRow.holds Try.pinned (OpenSpec.ofChange memoryAppliesSpec)

/-- ITS FALSE NEIGHBOUR: 'it returns false'. Refute it at one input. -/
def memoryAppliesWrong : ChangeSpec := { name := "memoryApplies", fn := fun _ => fun
  | [d1, d2, d3] => { results := [.lit (.bool false)], args := [d1, d2, d3] }
  | _ => none }
def MemoryAppliesWrongFalsely : Prop := memoryAppliesRow.holds Try.pinned (OpenSpec.ofChange memoryAppliesWrong)

/-- 'chanfabriclaw4.MemoryTicks': WHATEVER THE INPUT: true; the input reads as it did. -/
def memoryTicksSpec : ChangeSpec := { name := "memoryTicks", fn := fun _ => fun
  | [d1, d2, d3] => { results := [.lit (.bool true)], args := [d1, d2, d3] }
  | _ => none }
def memoryTicksRow : OpenClaim := { program := "ytkciejealeinoaa", sum := "fcec5f9e679a392959e92234108dd90a23283760f0a3d6a6bfd1ff0490d08a9c", func := "chanfabric/chanfabriclaw4.MemoryTicks", spec := "memoryTicks", apart := false }
def MemoryTicksSaid : Prop := memoryTicksRow.holds Try.pinned (OpenSpec.ofChange memoryTicksSpec)

/-- ITS FALSE NEIGHBOUR: 'it returns false'. Refute it at one input. -/
def memoryTicksWrong : ChangeSpec := { name := "memoryTicks", fn := fun _ => fun
  | [d1, d2, d3] => { results := [.lit (.bool false)], args := [d1, d2, d3] }
  | _ => none }
def MemoryTicksWrongFalsely : Prop := memoryTicksRow.holds Try.pinned (OpenSpec.ofChange memoryTicksWrong)

/-- 'chanfabriclaw4.MemoryOne': WHATEVER THE INPUT: true; the input reads as it did. -/
def memoryOneSpec : ChangeSpec := { name := "memoryOne", fn := fun _ => fun
  | [d] => { results := [.lit (.bool true)], args := [d] }
  | _ => none }
def memoryOneRow : OpenClaim := { program := "ytkciejealeinoaa", sum := "fcec5f9e679a392959e92234108dd90a23283760f0a3d6a6bfd1ff0490d08a9c", func := "chanfabric/chanfabriclaw4.MemoryOne", spec := "memoryOne", apart := false }
def MemoryOneSaid : Prop := memoryOneRow.holds Try.pinned (OpenSpec.ofChange memoryOneSpec)

/-- ITS FALSE NEIGHBOUR: 'it returns false'. Refute it at one input. -/
def memoryOneWrong : ChangeSpec := { name := "memoryOne", fn := fun _ => fun
  | [d] => { results := [.lit (.bool false)], args := [d] }
  | _ => none }
def MemoryOneWrongFalsely : Prop := memoryOneRow.holds Try.pinned (OpenSpec.ofChange memoryOneWrong)

/-- 'chanfabriclaw4.MemoryWaits': WHATEVER THE INPUT: true; the input reads as it did. -/
def memoryWaitsSpec : ChangeSpec := { name := "memoryWaits", fn := fun _ => fun
  | [d1, d2, d3, d4, d5] => { results := [.lit (.bool true)], args := [d1, d2, d3, d4, d5] }
  | _ => none }
def memoryWaitsRow : OpenClaim := { program := "ytkciejealeinoaa", sum := "fcec5f9e679a392959e92234108dd90a23283760f0a3d6a6bfd1ff0490d08a9c", func := "chanfabric/chanfabriclaw4.MemoryWaits", spec := "memoryWaits", apart := false }
def MemoryWaitsSaid : Prop := memoryWaitsRow.holds Try.pinned (OpenSpec.ofChange memoryWaitsSpec)

/-- ITS FALSE NEIGHBOUR: 'it returns false'. Refute it at one input. -/
def memoryWaitsWrong : ChangeSpec := { name := "memoryWaits", fn := fun _ => fun
  | [d1, d2, d3, d4, d5] => { results := [.lit (.bool false)], args := [d1, d2, d3, d4, d5] }
  | _ => none }
def MemoryWaitsWrongFalsely : Prop := memoryWaitsRow.holds Try.pinned (OpenSpec.ofChange memoryWaitsWrong)

/-- 'chanfabriclaw4.MemoryLists': WHATEVER THE INPUT: true; the input reads as it did. -/
def memoryListsSpec : ChangeSpec := { name := "memoryLists", fn := fun _ => fun
  | [d1, d2] => { results := [.lit (.bool true)], args := [d1, d2] }
  | _ => none }
def memoryListsRow : OpenClaim := { program := "ytkciejealeinoaa", sum := "fcec5f9e679a392959e92234108dd90a23283760f0a3d6a6bfd1ff0490d08a9c", func := "chanfabric/chanfabriclaw4.MemoryLists", spec := "memoryLists", apart := false }
def MemoryListsSaid : Prop := memoryListsRow.holds Try.pinned (OpenSpec.ofChange memoryListsSpec)

/-- ITS FALSE NEIGHBOUR: 'it returns false'. Refute it at one input. -/
def memoryListsWrong : ChangeSpec := { name := "memoryLists", fn := fun _ => fun
  | [d1, d2] => { results := [.lit (.bool false)], args := [d1, d2] }
  | _ => none }
def MemoryListsWrongFalsely : Prop := memoryListsRow.holds Try.pinned (OpenSpec.ofChange memoryListsWrong)

/- THE SECOND FORM. 'bulk': how many values and letters a reading holds, each counted each time it is reached (what is shared counts as often as it is met; a slice's spare places count too). A statement '..UptoSaid' is the law's where the arguments, and the package variables that the reading takes, are together of bulk at most 1048576: NARROWER than '..Said'. Prove '..Said' where nothing that the law and all that it calls make is longer than what came in: it says more and counts as full. Else prove '..UptoSaid'. A law counts once. -/
mutual
def uptoBulk {H : Type} : DataW H → Nat
  | .lit (.string bytes) => bytes.length + 1
  | .lit _ => 1
  | .nil => 1
  | .ptr d => uptoBulk d + 1
  | .slice elems spare => uptoBulkAll elems + uptoBulkAll spare + 1
  | .agg parts => uptoBulkAll parts + 1
  | .iface _ d => uptoBulk d + 1
  | .map entries => uptoBulkEntries entries + 1
  | .held _ => 1
def uptoBulkAll {H : Type} : List (DataW H) → Nat
  | [] => 0
  | d :: r => uptoBulk d + uptoBulkAll r
def uptoBulkEntries {H : Type} : List (Lit × DataW H) → Nat
  | [] => 0
  | x :: r => uptoBulkEntry x + uptoBulkEntries r
def uptoBulkEntry {H : Type} : Lit × DataW H → Nat
  | (.string bytes, d) => bytes.length + uptoBulk d + 1
  | (_, d) => uptoBulk d + 1
 end
def uptoSmall : (H : Type) → List (DataW H) → Bool := fun _ ds => decide (uptoBulkAll ds ≤ 1048576)
def OpenSpec.upto (s : _root_.Go.ChangeSpec) : _root_.Go.OpenSpec := { _root_.Go.OpenSpec.ofChange s with cond := some uptoSmall }

/-- 'chanfabriclaw3.CasesLocks', WHERE WHAT IT READS IS OF BULK AT MOST 1048576: true; the input reads as it did. -/
def casesLocksUptoRow : OpenClaim := { program := "ytkciejealeinoaa", sum := "fcec5f9e679a392959e92234108dd90a23283760f0a3d6a6bfd1ff0490d08a9c", func := "chanfabric/chanfabriclaw3.CasesLocks", spec := "casesLocks", unfollowed := true, recurses := true, apart := false, narrowed := true }
def CasesLocksUptoSaid : Prop := casesLocksUptoRow.holds Try.pinned (OpenSpec.upto casesLocksSpec)

/-- 'chanfabriclaw4.MemoryKinds', WHERE WHAT IT READS IS OF BULK AT MOST 1048576: true; the input reads as it did. -/
def memoryKindsUptoRow : OpenClaim := { program := "ytkciejealeinoaa", sum := "fcec5f9e679a392959e92234108dd90a23283760f0a3d6a6bfd1ff0490d08a9c", func := "chanfabric/chanfabriclaw4.MemoryKinds", spec := "memoryKinds", apart := false, narrowed := true }
def MemoryKindsUptoSaid : Prop := memoryKindsUptoRow.holds Try.pinned (OpenSpec.upto memoryKindsSpec)

/-- 'chanfabriclaw4.MemoryApplies', WHERE WHAT IT READS IS OF BULK AT MOST 1048576: true; the input reads as it did. -/
def memoryAppliesUptoRow : OpenClaim := { program := "ytkciejealeinoaa", sum := "fcec5f9e679a392959e92234108dd90a23283760f0a3d6a6bfd1ff0490d08a9c", func := "chanfabric/chanfabriclaw4.MemoryApplies", spec := "memoryApplies", apart := false, narrowed := true }
def MemoryAppliesUptoSaid : Prop := memoryAppliesUptoRow.holds Try.pinned (OpenSpec.upto memoryAppliesSpec)

/-- 'chanfabriclaw4.MemoryTicks', WHERE WHAT IT READS IS OF BULK AT MOST 1048576: true; the input reads as it did. -/
def memoryTicksUptoRow : OpenClaim := { program := "ytkciejealeinoaa", sum := "fcec5f9e679a392959e92234108dd90a23283760f0a3d6a6bfd1ff0490d08a9c", func := "chanfabric/chanfabriclaw4.MemoryTicks", spec := "memoryTicks", apart := false, narrowed := true }
def MemoryTicksUptoSaid : Prop := memoryTicksUptoRow.holds Try.pinned (OpenSpec.upto memoryTicksSpec)

/-- 'chanfabriclaw4.MemoryOne', WHERE WHAT IT READS IS OF BULK AT MOST 1048576: true; the input reads as it did. -/
def memoryOneUptoRow : OpenClaim := { program := "ytkciejealeinoaa", sum := "fcec5f9e679a392959e92234108dd90a23283760f0a3d6a6bfd1ff0490d08a9c", func := "chanfabric/chanfabriclaw4.MemoryOne", spec := "memoryOne", apart := false, narrowed := true }
def MemoryOneUptoSaid : Prop := memoryOneUptoRow.holds Try.pinned (OpenSpec.upto memoryOneSpec)

/-- 'chanfabriclaw4.MemoryWaits', WHERE WHAT IT READS IS OF BULK AT MOST 1048576: true; the input reads as it did. -/
def memoryWaitsUptoRow : OpenClaim := { program := "ytkciejealeinoaa", sum := "fcec5f9e679a392959e92234108dd90a23283760f0a3d6a6bfd1ff0490d08a9c", func := "chanfabric/chanfabriclaw4.MemoryWaits", spec := "memoryWaits", apart := false, narrowed := true }
def MemoryWaitsUptoSaid : Prop := memoryWaitsUptoRow.holds Try.pinned (OpenSpec.upto memoryWaitsSpec)

/-- 'chanfabriclaw4.MemoryLists', WHERE WHAT IT READS IS OF BULK AT MOST 1048576: true; the input reads as it did. -/
def memoryListsUptoRow : OpenClaim := { program := "ytkciejealeinoaa", sum := "fcec5f9e679a392959e92234108dd90a23283760f0a3d6a6bfd1ff0490d08a9c", func := "chanfabric/chanfabriclaw4.MemoryLists", spec := "memoryLists", apart := false, narrowed := true }
def MemoryListsUptoSaid : Prop := memoryListsUptoRow.holds Try.pinned (OpenSpec.upto memoryListsSpec)

end Rows
end Go.Proofs.Ytkciejealeinoaa
