/-
  No cell of these rows narrows 'for every input' (looked for: loops, veiled, ifaces, maps, wideKeys, modest, calm, conditions, laid).
  DERIVED. THE GIVEN ROWS OF THIS SEAT. 7 by the template 'for every input the law returns true; each argument reads behind the call as it read before'; 0 by the template 'total and deterministic' (their statements: YtkpnakomlfjndaaTotals.lean).
  GIVEN WITH THE SEED: the statements are not yours to turn. If you find one false, say at which input.
  Laid BY PROGRAM, IN A SANDBOX (cutbox-rows.mjs): the forced cells as the released guide's own fill.sh prints them over the translation 5016fdecc44a6bab… (all of the seat's roots in one cut). By AI agents, Wed Nov 11 2026. No macro, syntax, notation, axiom, sorry.
-/
import Derived.Test.YtkpnakomlfjndaaChecked
import GoSem.Claim
import GoSem.ClaimJoined
import GoSem.ClaimMapViews
import Derived.JoinedTies
import Derived.KernelRfl
namespace Go.Proofs.Ytkpnakomlfjndaa
/- THE CELL 'sum', in the pinned program and in every row, IS THE sha256 OF THE DUMP (.gsa) THAT YtkpnakomlfjndaaProg.lean LOADS. Nothing in Lean hashes anything: it is a label: what it is worth is what the hold of that sum in a sandbox is worth. -/
noncomputable def Try.pinned : Pinned := { name := "ytkpnakomlfjndaa", sum := "5016fdecc44a6babafe2e594aea1e30c88017a379f665ef4b24fbb6b7e907ae2", checked := Try.checked }
namespace Rows
def none {H : Type} : Left H := { results := [], args := [] }

/-- 'chanfabriclaw4.MemoryApplies': WHATEVER THE INPUT: true; the input reads as it did. -/
def memoryAppliesSpec : ChangeSpec := { name := "memoryApplies", fn := fun _ => fun
  | [d1, d2, d3] => { results := [.lit (.bool true)], args := [d1, d2, d3] }
  | _ => none }
def memoryAppliesRow : OpenClaim := { program := "ytkpnakomlfjndaa", sum := "5016fdecc44a6babafe2e594aea1e30c88017a379f665ef4b24fbb6b7e907ae2", func := "chanfabric/chanfabriclaw4.MemoryApplies", spec := "memoryApplies", apart := false }
def MemoryAppliesSaid : Prop := memoryAppliesRow.holds Try.pinned (OpenSpec.ofChange memoryAppliesSpec)

/-- ITS FALSE NEIGHBOUR: 'it returns false'. Refute it at one input. -/
def memoryAppliesWrong : ChangeSpec := { name := "memoryApplies", fn := fun _ => fun
  | [d1, d2, d3] => { results := [.lit (.bool false)], args := [d1, d2, d3] }
  | _ => none }
def MemoryAppliesWrongFalsely : Prop := memoryAppliesRow.holds Try.pinned (OpenSpec.ofChange memoryAppliesWrong)

/-- 'chanfabriclaw5.LayoutChecks': WHATEVER THE INPUT: true; the input reads as it did. -/
def layoutChecksSpec : ChangeSpec := { name := "layoutChecks", fn := fun _ => fun
  | [d1, d2] => { results := [.lit (.bool true)], args := [d1, d2] }
  | _ => none }
def layoutChecksRow : OpenClaim := { program := "ytkpnakomlfjndaa", sum := "5016fdecc44a6babafe2e594aea1e30c88017a379f665ef4b24fbb6b7e907ae2", func := "chanfabric/chanfabriclaw5.LayoutChecks", spec := "layoutChecks", apart := false }
def LayoutChecksSaid : Prop := layoutChecksRow.holds Try.pinned (OpenSpec.ofChange layoutChecksSpec)

/-- ITS FALSE NEIGHBOUR: 'it returns false'. Refute it at one input. -/
def layoutChecksWrong : ChangeSpec := { name := "layoutChecks", fn := fun _ => fun
  | [d1, d2] => { results := [.lit (.bool false)], args := [d1, d2] }
  | _ => none }
def LayoutChecksWrongFalsely : Prop := layoutChecksRow.holds Try.pinned (OpenSpec.ofChange layoutChecksWrong)

/-- 'chanfabriclaw5.LayoutNew': WHATEVER THE INPUT: true; the input reads as it did. -/
def layoutNewSpec : ChangeSpec := { name := "layoutNew", fn := fun _ => fun
  | [d1, d2] => { results := [.lit (.bool true)], args := [d1, d2] }
  | _ => none }
def layoutNewRow : OpenClaim := { program := "ytkpnakomlfjndaa", sum := "5016fdecc44a6babafe2e594aea1e30c88017a379f665ef4b24fbb6b7e907ae2", func := "chanfabric/chanfabriclaw5.LayoutNew", spec := "layoutNew", apart := false }
def LayoutNewSaid : Prop := layoutNewRow.holds Try.pinned (OpenSpec.ofChange layoutNewSpec)

/-- ITS FALSE NEIGHBOUR: 'it returns false'. Refute it at one input. -/
def layoutNewWrong : ChangeSpec := { name := "layoutNew", fn := fun _ => fun
  | [d1, d2] => { results := [.lit (.bool false)], args := [d1, d2] }
  | _ => none }
def LayoutNewWrongFalsely : Prop := layoutNewRow.holds Try.pinned (OpenSpec.ofChange layoutNewWrong)

/-- 'chanfabriclaw6.TraceItems': WHATEVER THE INPUT: true; the input reads as it did. -/
def traceItemsSpec : ChangeSpec := { name := "traceItems", fn := fun _ => fun
  | [d1, d2, d3, d4, d5] => { results := [.lit (.bool true)], args := [d1, d2, d3, d4, d5] }
  | _ => none }
def traceItemsRow : OpenClaim := { program := "ytkpnakomlfjndaa", sum := "5016fdecc44a6babafe2e594aea1e30c88017a379f665ef4b24fbb6b7e907ae2", func := "chanfabric/chanfabriclaw6.TraceItems", spec := "traceItems", apart := false }
def TraceItemsSaid : Prop := traceItemsRow.holds Try.pinned (OpenSpec.ofChange traceItemsSpec)

/-- ITS FALSE NEIGHBOUR: 'it returns false'. Refute it at one input. -/
def traceItemsWrong : ChangeSpec := { name := "traceItems", fn := fun _ => fun
  | [d1, d2, d3, d4, d5] => { results := [.lit (.bool false)], args := [d1, d2, d3, d4, d5] }
  | _ => none }
def TraceItemsWrongFalsely : Prop := traceItemsRow.holds Try.pinned (OpenSpec.ofChange traceItemsWrong)

/-- 'chanfabriclaw6.TraceConflicts': WHATEVER THE INPUT: true; the input reads as it did. -/
def traceConflictsSpec : ChangeSpec := { name := "traceConflicts", fn := fun _ => fun
  | [d1, d2, d3, d4] => { results := [.lit (.bool true)], args := [d1, d2, d3, d4] }
  | _ => none }
def traceConflictsRow : OpenClaim := { program := "ytkpnakomlfjndaa", sum := "5016fdecc44a6babafe2e594aea1e30c88017a379f665ef4b24fbb6b7e907ae2", func := "chanfabric/chanfabriclaw6.TraceConflicts", spec := "traceConflicts", apart := false }
def TraceConflictsSaid : Prop := traceConflictsRow.holds Try.pinned (OpenSpec.ofChange traceConflictsSpec)

/-- ITS FALSE NEIGHBOUR: 'it returns false'. Refute it at one input. -/
def traceConflictsWrong : ChangeSpec := { name := "traceConflicts", fn := fun _ => fun
  | [d1, d2, d3, d4] => { results := [.lit (.bool false)], args := [d1, d2, d3, d4] }
  | _ => none }
def TraceConflictsWrongFalsely : Prop := traceConflictsRow.holds Try.pinned (OpenSpec.ofChange traceConflictsWrong)

/-- 'chanfabriclaw6.TraceThreads': WHATEVER THE INPUT: true; the input reads as it did. -/
def traceThreadsSpec : ChangeSpec := { name := "traceThreads", fn := fun _ => fun
  | [d1, d2] => { results := [.lit (.bool true)], args := [d1, d2] }
  | _ => none }
def traceThreadsRow : OpenClaim := { program := "ytkpnakomlfjndaa", sum := "5016fdecc44a6babafe2e594aea1e30c88017a379f665ef4b24fbb6b7e907ae2", func := "chanfabric/chanfabriclaw6.TraceThreads", spec := "traceThreads", apart := false }
def TraceThreadsSaid : Prop := traceThreadsRow.holds Try.pinned (OpenSpec.ofChange traceThreadsSpec)

/-- ITS FALSE NEIGHBOUR: 'it returns false'. Refute it at one input. -/
def traceThreadsWrong : ChangeSpec := { name := "traceThreads", fn := fun _ => fun
  | [d1, d2] => { results := [.lit (.bool false)], args := [d1, d2] }
  | _ => none }
def TraceThreadsWrongFalsely : Prop := traceThreadsRow.holds Try.pinned (OpenSpec.ofChange traceThreadsWrong)

/-- 'chanfabriclaw6.TraceReplays': WHATEVER THE INPUT: true; the input reads as it did. -/
def traceReplaysSpec : ChangeSpec := { name := "traceReplays", fn := fun _ => fun
  | [d1, d2, d3, d4] => { results := [.lit (.bool true)], args := [d1, d2, d3, d4] }
  | _ => none }
def traceReplaysRow : OpenClaim := { program := "ytkpnakomlfjndaa", sum := "5016fdecc44a6babafe2e594aea1e30c88017a379f665ef4b24fbb6b7e907ae2", func := "chanfabric/chanfabriclaw6.TraceReplays", spec := "traceReplays", apart := false }
def TraceReplaysSaid : Prop := traceReplaysRow.holds Try.pinned (OpenSpec.ofChange traceReplaysSpec)

/-- ITS FALSE NEIGHBOUR: 'it returns false'. Refute it at one input. -/
def traceReplaysWrong : ChangeSpec := { name := "traceReplays", fn := fun _ => fun
  | [d1, d2, d3, d4] => { results := [.lit (.bool false)], args := [d1, d2, d3, d4] }
  | _ => none }
def TraceReplaysWrongFalsely : Prop := traceReplaysRow.holds Try.pinned (OpenSpec.ofChange traceReplaysWrong)

/- THE SECOND FORM. 'bulk': how many values and letters a reading holds, each counted each time it is reached (what is shared counts as often as it is met; a slice's spare places count too). A statement '..UptoSaid' is the law's where the arguments, and the package variables that the reading takes, are together of bulk at most 1048576: NARROWER than '..Said'. Prove '..Said' where nothing that the law and all that it calls make is longer than what came in: it says more and counts as full. Else prove '..UptoSaid'. A law counts once. -/
mutual
def uptoBulk {H : Type} : DataW H → Nat
  | .lit (.string bytes) => bytes.length + 1
  | .lit _ => 1
  | .nil => 1
  | .ptr d => uptoBulk d + 1
  | .slice elems spare => uptoBulkAll elems + uptoBulkAll spare + 1
  | .agg parts => uptoBulkAll parts + 1
  | .iface _ d => uptoBulk d + 1
  | .map entries => uptoBulkEntries entries + 1
  | .held _ => 1
def uptoBulkAll {H : Type} : List (DataW H) → Nat
  | [] => 0
  | d :: r => uptoBulk d + uptoBulkAll r
def uptoBulkEntries {H : Type} : List (Lit × DataW H) → Nat
  | [] => 0
  | x :: r => uptoBulkEntry x + uptoBulkEntries r
def uptoBulkEntry {H : Type} : Lit × DataW H → Nat
  | (.string bytes, d) => bytes.length + uptoBulk d + 1
  | (_, d) => uptoBulk d + 1
 end
def uptoSmall : (H : Type) → List (DataW H) → Bool := fun _ ds => decide (uptoBulkAll ds ≤ 1048576)
def OpenSpec.upto (s : _root_.Go.ChangeSpec) : _root_.Go.OpenSpec := { _root_.Go.OpenSpec.ofChange s with cond := some uptoSmall }

/-- 'chanfabriclaw4.MemoryApplies', WHERE WHAT IT READS IS OF BULK AT MOST 1048576: true; the input reads as it did. -/
def memoryAppliesUptoRow : OpenClaim := { program := "ytkpnakomlfjndaa", sum := "5016fdecc44a6babafe2e594aea1e30c88017a379f665ef4b24fbb6b7e907ae2", func := "chanfabric/chanfabriclaw4.MemoryApplies", spec := "memoryApplies", apart := false, narrowed := true }
def MemoryAppliesUptoSaid : Prop := memoryAppliesUptoRow.holds Try.pinned (OpenSpec.upto memoryAppliesSpec)

/-- 'chanfabriclaw5.LayoutChecks', WHERE WHAT IT READS IS OF BULK AT MOST 1048576: true; the input reads as it did. -/
def layoutChecksUptoRow : OpenClaim := { program := "ytkpnakomlfjndaa", sum := "5016fdecc44a6babafe2e594aea1e30c88017a379f665ef4b24fbb6b7e907ae2", func := "chanfabric/chanfabriclaw5.LayoutChecks", spec := "layoutChecks", apart := false, narrowed := true }
def LayoutChecksUptoSaid : Prop := layoutChecksUptoRow.holds Try.pinned (OpenSpec.upto layoutChecksSpec)

/-- 'chanfabriclaw5.LayoutNew', WHERE WHAT IT READS IS OF BULK AT MOST 1048576: true; the input reads as it did. -/
def layoutNewUptoRow : OpenClaim := { program := "ytkpnakomlfjndaa", sum := "5016fdecc44a6babafe2e594aea1e30c88017a379f665ef4b24fbb6b7e907ae2", func := "chanfabric/chanfabriclaw5.LayoutNew", spec := "layoutNew", apart := false, narrowed := true }
def LayoutNewUptoSaid : Prop := layoutNewUptoRow.holds Try.pinned (OpenSpec.upto layoutNewSpec)

/-- 'chanfabriclaw6.TraceItems', WHERE WHAT IT READS IS OF BULK AT MOST 1048576: true; the input reads as it did. -/
def traceItemsUptoRow : OpenClaim := { program := "ytkpnakomlfjndaa", sum := "5016fdecc44a6babafe2e594aea1e30c88017a379f665ef4b24fbb6b7e907ae2", func := "chanfabric/chanfabriclaw6.TraceItems", spec := "traceItems", apart := false, narrowed := true }
def TraceItemsUptoSaid : Prop := traceItemsUptoRow.holds Try.pinned (OpenSpec.upto traceItemsSpec)

/-- 'chanfabriclaw6.TraceConflicts', WHERE WHAT IT READS IS OF BULK AT MOST 1048576: true; the input reads as it did. -/
def traceConflictsUptoRow : OpenClaim := { program := "ytkpnakomlfjndaa", sum := "5016fdecc44a6babafe2e594aea1e30c88017a379f665ef4b24fbb6b7e907ae2", func := "chanfabric/chanfabriclaw6.TraceConflicts", spec := "traceConflicts", apart := false, narrowed := true }
def TraceConflictsUptoSaid : Prop := traceConflictsUptoRow.holds Try.pinned (OpenSpec.upto traceConflictsSpec)

/-- 'chanfabriclaw6.TraceThreads', WHERE WHAT IT READS IS OF BULK AT MOST 1048576: true; the input reads as it did. -/
def traceThreadsUptoRow : OpenClaim := { program := "ytkpnakomlfjndaa", sum := "5016fdecc44a6babafe2e594aea1e30c88017a379f665ef4b24fbb6b7e907ae2", func := "chanfabric/chanfabriclaw6.TraceThreads", spec := "traceThreads", apart := false, narrowed := true }
def TraceThreadsUptoSaid : Prop := traceThreadsUptoRow.holds Try.pinned (OpenSpec.upto traceThreadsSpec)

/-- 'chanfabriclaw6.TraceReplays', WHERE WHAT IT READS IS OF BULK AT MOST 1048576: true; the input reads as it did. -/
def traceReplaysUptoRow : OpenClaim := { program := "ytkpnakomlfjndaa", sum := "5016fdecc44a6babafe2e594aea1e30c88017a379f665ef4b24fbb6b7e907ae2", func := "chanfabric/chanfabriclaw6.TraceReplays", spec := "traceReplays", apart := false, narrowed := true }
def TraceReplaysUptoSaid : Prop := traceReplaysUptoRow.holds Try.pinned (OpenSpec.upto traceReplaysSpec)

end Rows
end Go.Proofs.Ytkpnakomlfjndaa
