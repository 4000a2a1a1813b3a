/-
  No cell of these rows narrows 'for every input' (looked for: loops, veiled, ifaces, maps, wideKeys, modest, calm, conditions, laid).
  DERIVED. THE GIVEN ROWS OF THIS SEAT. 4 by the template 'for every input the law returns true; each argument reads behind the call as it read before'; 0 by the template 'total and deterministic' (their statements: YtipjfcjdefdoeaaTotals.lean).
  GIVEN WITH THE SEED: the statements are not yours to turn. If you find one false, say at which input.
  Laid BY PROGRAM, IN A SANDBOX (cutbox-rows.mjs): the forced cells as the released guide's own fill.sh prints them over the translation b587e373ade5ef26… (all of the seat's roots in one cut). By AI agents, Wed Nov 11 2026. No macro, syntax, notation, axiom, sorry.
-/
import Derived.Test.YtipjfcjdefdoeaaChecked
import GoSem.Claim
import GoSem.ClaimJoined
import GoSem.ClaimMapViews
import Derived.JoinedTies
import Derived.KernelRfl
namespace Go.Proofs.Ytipjfcjdefdoeaa
/- THE CELL 'sum', in the pinned program and in every row, IS THE sha256 OF THE DUMP (.gsa) THAT YtipjfcjdefdoeaaProg.lean LOADS. Nothing in Lean hashes anything: it is a label: what it is worth is what the hold of that sum in a sandbox is worth. -/
noncomputable def Try.pinned : Pinned := { name := "ytipjfcjdefdoeaa", sum := "b587e373ade5ef262942dc4d54022ff6b9bf2f226c14ea09160d8b0535487daf", checked := Try.checked }
namespace Rows
def none {H : Type} : Left H := { results := [], args := [] }

/-- 'chanfabriclaw6.TraceReplays': WHATEVER THE INPUT: true; the input reads as it did. -/
def traceReplaysSpec : ChangeSpec := { name := "traceReplays", fn := fun _ => fun
  | [d1, d2, d3, d4] => { results := [.lit (.bool true)], args := [d1, d2, d3, d4] }
  | _ => none }
def traceReplaysRow : OpenClaim := { program := "ytipjfcjdefdoeaa", sum := "b587e373ade5ef262942dc4d54022ff6b9bf2f226c14ea09160d8b0535487daf", func := "chanfabric/chanfabriclaw6.TraceReplays", spec := "traceReplays", apart := false }
def TraceReplaysSaid : Prop := traceReplaysRow.holds Try.pinned (OpenSpec.ofChange traceReplaysSpec)

/-- ITS FALSE NEIGHBOUR: 'it returns false'. Refute it at one input. -/
def traceReplaysWrong : ChangeSpec := { name := "traceReplays", fn := fun _ => fun
  | [d1, d2, d3, d4] => { results := [.lit (.bool false)], args := [d1, d2, d3, d4] }
  | _ => none }
def TraceReplaysWrongFalsely : Prop := traceReplaysRow.holds Try.pinned (OpenSpec.ofChange traceReplaysWrong)

/-- 'chanfabriclaw7.LockAccesses': WHATEVER THE INPUT: true; the input reads as it did. -/
def lockAccessesSpec : ChangeSpec := { name := "lockAccesses", fn := fun _ => fun
  | [d1, d2] => { results := [.lit (.bool true)], args := [d1, d2] }
  | _ => none }
def lockAccessesRow : OpenClaim := { program := "ytipjfcjdefdoeaa", sum := "b587e373ade5ef262942dc4d54022ff6b9bf2f226c14ea09160d8b0535487daf", func := "chanfabric/chanfabriclaw7.LockAccesses", spec := "lockAccesses", apart := false }
def LockAccessesSaid : Prop := lockAccessesRow.holds Try.pinned (OpenSpec.ofChange lockAccessesSpec)

/-- ITS FALSE NEIGHBOUR: 'it returns false'. Refute it at one input. -/
def lockAccessesWrong : ChangeSpec := { name := "lockAccesses", fn := fun _ => fun
  | [d1, d2] => { results := [.lit (.bool false)], args := [d1, d2] }
  | _ => none }
def LockAccessesWrongFalsely : Prop := lockAccessesRow.holds Try.pinned (OpenSpec.ofChange lockAccessesWrong)

/-- 'chanfabriclaw7.LockExcludes': WHATEVER THE INPUT: true; the input reads as it did. -/
def lockExcludesSpec : ChangeSpec := { name := "lockExcludes", fn := fun _ => fun
  | [d] => { results := [.lit (.bool true)], args := [d] }
  | _ => none }
def lockExcludesRow : OpenClaim := { program := "ytipjfcjdefdoeaa", sum := "b587e373ade5ef262942dc4d54022ff6b9bf2f226c14ea09160d8b0535487daf", func := "chanfabric/chanfabriclaw7.LockExcludes", spec := "lockExcludes", apart := false }
def LockExcludesSaid : Prop := lockExcludesRow.holds Try.pinned (OpenSpec.ofChange lockExcludesSpec)

/-- ITS FALSE NEIGHBOUR: 'it returns false'. Refute it at one input. -/
def lockExcludesWrong : ChangeSpec := { name := "lockExcludes", fn := fun _ => fun
  | [d] => { results := [.lit (.bool false)], args := [d] }
  | _ => none }
def LockExcludesWrongFalsely : Prop := lockExcludesRow.holds Try.pinned (OpenSpec.ofChange lockExcludesWrong)

/-- 'chanfabriclaw7.LockFrames': WHATEVER THE INPUT: true; the input reads as it did. -/
def lockFramesSpec : ChangeSpec := { name := "lockFrames", fn := fun _ => fun
  | [d1, d2, d3] => { results := [.lit (.bool true)], args := [d1, d2, d3] }
  | _ => none }
def lockFramesRow : OpenClaim := { program := "ytipjfcjdefdoeaa", sum := "b587e373ade5ef262942dc4d54022ff6b9bf2f226c14ea09160d8b0535487daf", func := "chanfabric/chanfabriclaw7.LockFrames", spec := "lockFrames", apart := false }
def LockFramesSaid : Prop := lockFramesRow.holds Try.pinned (OpenSpec.ofChange lockFramesSpec)

/-- ITS FALSE NEIGHBOUR: 'it returns false'. Refute it at one input. -/
def lockFramesWrong : ChangeSpec := { name := "lockFrames", fn := fun _ => fun
  | [d1, d2, d3] => { results := [.lit (.bool false)], args := [d1, d2, d3] }
  | _ => none }
def LockFramesWrongFalsely : Prop := lockFramesRow.holds Try.pinned (OpenSpec.ofChange lockFramesWrong)

/- THE SECOND FORM. 'bulk': how many values and letters a reading holds, each counted each time it is reached (what is shared counts as often as it is met; a slice's spare places count too). A statement '..UptoSaid' is the law's where the arguments, and the package variables that the reading takes, are together of bulk at most 1048576: NARROWER than '..Said'. Prove '..Said' where nothing that the law and all that it calls make is longer than what came in: it says more and counts as full. Else prove '..UptoSaid'. A law counts once. -/
mutual
def uptoBulk {H : Type} : DataW H → Nat
  | .lit (.string bytes) => bytes.length + 1
  | .lit _ => 1
  | .nil => 1
  | .ptr d => uptoBulk d + 1
  | .slice elems spare => uptoBulkAll elems + uptoBulkAll spare + 1
  | .agg parts => uptoBulkAll parts + 1
  | .iface _ d => uptoBulk d + 1
  | .map entries => uptoBulkEntries entries + 1
  | .held _ => 1
def uptoBulkAll {H : Type} : List (DataW H) → Nat
  | [] => 0
  | d :: r => uptoBulk d + uptoBulkAll r
def uptoBulkEntries {H : Type} : List (Lit × DataW H) → Nat
  | [] => 0
  | x :: r => uptoBulkEntry x + uptoBulkEntries r
def uptoBulkEntry {H : Type} : Lit × DataW H → Nat
  | (.string bytes, d) => bytes.length + uptoBulk d + 1
  | (_, d) => uptoBulk d + 1
 end
def uptoSmall : (H : Type) → List (DataW H) → Bool := fun _ ds => decide (uptoBulkAll ds ≤ 1048576)
def OpenSpec.upto (s : _root_.Go.ChangeSpec) : _root_.Go.OpenSpec := { _root_.Go.OpenSpec.ofChange s with cond := some uptoSmall }

/-- 'chanfabriclaw6.TraceReplays', WHERE WHAT IT READS IS OF BULK AT MOST 1048576: true; the input reads as it did. -/
def traceReplaysUptoRow : OpenClaim := { program := "ytipjfcjdefdoeaa", sum := "b587e373ade5ef262942dc4d54022ff6b9bf2f226c14ea09160d8b0535487daf", func := "chanfabric/chanfabriclaw6.TraceReplays", spec := "traceReplays", apart := false, narrowed := true }
def TraceReplaysUptoSaid : Prop := traceReplaysUptoRow.holds Try.pinned (OpenSpec.upto traceReplaysSpec)

/-- 'chanfabriclaw7.LockAccesses', WHERE WHAT IT READS IS OF BULK AT MOST 1048576: true; the input reads as it did. -/
def lockAccessesUptoRow : OpenClaim := { program := "ytipjfcjdefdoeaa", sum := "b587e373ade5ef262942dc4d54022ff6b9bf2f226c14ea09160d8b0535487daf", func := "chanfabric/chanfabriclaw7.LockAccesses", spec := "lockAccesses", apart := false, narrowed := true }
def LockAccessesUptoSaid : Prop := lockAccessesUptoRow.holds Try.pinned (OpenSpec.upto lockAccessesSpec)

/-- 'chanfabriclaw7.LockExcludes', WHERE WHAT IT READS IS OF BULK AT MOST 1048576: true; the input reads as it did. -/
def lockExcludesUptoRow : OpenClaim := { program := "ytipjfcjdefdoeaa", sum := "b587e373ade5ef262942dc4d54022ff6b9bf2f226c14ea09160d8b0535487daf", func := "chanfabric/chanfabriclaw7.LockExcludes", spec := "lockExcludes", apart := false, narrowed := true }
def LockExcludesUptoSaid : Prop := lockExcludesUptoRow.holds Try.pinned (OpenSpec.upto lockExcludesSpec)

/-- 'chanfabriclaw7.LockFrames', WHERE WHAT IT READS IS OF BULK AT MOST 1048576: true; the input reads as it did. -/
def lockFramesUptoRow : OpenClaim := { program := "ytipjfcjdefdoeaa", sum := "b587e373ade5ef262942dc4d54022ff6b9bf2f226c14ea09160d8b0535487daf", func := "chanfabric/chanfabriclaw7.LockFrames", spec := "lockFrames", apart := false, narrowed := true }
def LockFramesUptoSaid : Prop := lockFramesUptoRow.holds Try.pinned (OpenSpec.upto lockFramesSpec)

end Rows
end Go.Proofs.Ytipjfcjdefdoeaa
