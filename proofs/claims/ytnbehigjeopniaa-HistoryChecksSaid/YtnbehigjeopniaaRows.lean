/-
  No cell of these rows narrows 'for every input' (looked for: loops, veiled, ifaces, maps, wideKeys, modest, calm, conditions, laid).
  DERIVED. THE GIVEN ROWS OF THIS SEAT. 5 by the template 'for every input the law returns true; each argument reads behind the call as it read before'; 0 by the template 'total and deterministic' (their statements: YtnbehigjeopniaaTotals.lean).
  GIVEN WITH THE SEED: the statements are not yours to turn. If you find one false, say at which input.
  Laid BY PROGRAM, IN A SANDBOX (cutbox-rows.mjs): the forced cells as the released guide's own fill.sh prints them over the translation 5f84b242ceee0e0c… (all of the seat's roots in one cut). By AI agents, Wed Nov 11 2026. No macro, syntax, notation, axiom, sorry.
-/
import Derived.Test.YtnbehigjeopniaaChecked
import GoSem.Claim
import GoSem.ClaimJoined
import GoSem.ClaimMapViews
import Derived.JoinedTies
import Derived.KernelRfl
namespace Go.Proofs.Ytnbehigjeopniaa
/- THE CELL 'sum', in the pinned program and in every row, IS THE sha256 OF THE DUMP (.gsa) THAT YtnbehigjeopniaaProg.lean LOADS. Nothing in Lean hashes anything: it is a label: what it is worth is what the hold of that sum in a sandbox is worth. -/
noncomputable def Try.pinned : Pinned := { name := "ytnbehigjeopniaa", sum := "5f84b242ceee0e0c4694ab26f97d91987b3b4767b7ccfc0b68f9972083764adc", checked := Try.checked }
namespace Rows
def none {H : Type} : Left H := { results := [], args := [] }

/-- 'chanfabriclaw16.HistoryChecks': WHATEVER THE INPUT: true; the input reads as it did. -/
def historyChecksSpec : ChangeSpec := { name := "historyChecks", fn := fun _ => fun
  | [d1, d2, d3, d4, d5] => { results := [.lit (.bool true)], args := [d1, d2, d3, d4, d5] }
  | _ => none }
def historyChecksRow : OpenClaim := { program := "ytnbehigjeopniaa", sum := "5f84b242ceee0e0c4694ab26f97d91987b3b4767b7ccfc0b68f9972083764adc", func := "chanfabric/chanfabriclaw16.HistoryChecks", spec := "historyChecks", unfollowed := true, recurses := true, plainKeys := false, apart := false }
def HistoryChecksSaid : Prop := historyChecksRow.holds Try.pinned (OpenSpec.ofChange historyChecksSpec)

/-- ITS FALSE NEIGHBOUR: 'it returns false'. Refute it at one input. -/
def historyChecksWrong : ChangeSpec := { name := "historyChecks", fn := fun _ => fun
  | [d1, d2, d3, d4, d5] => { results := [.lit (.bool false)], args := [d1, d2, d3, d4, d5] }
  | _ => none }
def HistoryChecksWrongFalsely : Prop := historyChecksRow.holds Try.pinned (OpenSpec.ofChange historyChecksWrong)

/-- 'chanfabriclaw16.HistoryAsks': WHATEVER THE INPUT: true; the input reads as it did. -/
def historyAsksSpec : ChangeSpec := { name := "historyAsks", fn := fun _ => fun
  | [d1, d2, d3, d4] => { results := [.lit (.bool true)], args := [d1, d2, d3, d4] }
  | _ => none }
def historyAsksRow : OpenClaim := { program := "ytnbehigjeopniaa", sum := "5f84b242ceee0e0c4694ab26f97d91987b3b4767b7ccfc0b68f9972083764adc", func := "chanfabric/chanfabriclaw16.HistoryAsks", spec := "historyAsks", unfollowed := true, recurses := true, plainKeys := false, apart := false }
def HistoryAsksSaid : Prop := historyAsksRow.holds Try.pinned (OpenSpec.ofChange historyAsksSpec)

/-- ITS FALSE NEIGHBOUR: 'it returns false'. Refute it at one input. -/
def historyAsksWrong : ChangeSpec := { name := "historyAsks", fn := fun _ => fun
  | [d1, d2, d3, d4] => { results := [.lit (.bool false)], args := [d1, d2, d3, d4] }
  | _ => none }
def HistoryAsksWrongFalsely : Prop := historyAsksRow.holds Try.pinned (OpenSpec.ofChange historyAsksWrong)

/-- 'chanfabriclaw16.HistoryPrecedes': WHATEVER THE INPUT: true; the input reads as it did. -/
def historyPrecedesSpec : ChangeSpec := { name := "historyPrecedes", fn := fun _ => fun
  | [d1, d2, d3, d4] => { results := [.lit (.bool true)], args := [d1, d2, d3, d4] }
  | _ => none }
def historyPrecedesRow : OpenClaim := { program := "ytnbehigjeopniaa", sum := "5f84b242ceee0e0c4694ab26f97d91987b3b4767b7ccfc0b68f9972083764adc", func := "chanfabric/chanfabriclaw16.HistoryPrecedes", spec := "historyPrecedes", unfollowed := true, recurses := true, plainKeys := false, apart := false }
def HistoryPrecedesSaid : Prop := historyPrecedesRow.holds Try.pinned (OpenSpec.ofChange historyPrecedesSpec)

/-- ITS FALSE NEIGHBOUR: 'it returns false'. Refute it at one input. -/
def historyPrecedesWrong : ChangeSpec := { name := "historyPrecedes", fn := fun _ => fun
  | [d1, d2, d3, d4] => { results := [.lit (.bool false)], args := [d1, d2, d3, d4] }
  | _ => none }
def HistoryPrecedesWrongFalsely : Prop := historyPrecedesRow.holds Try.pinned (OpenSpec.ofChange historyPrecedesWrong)

/-- 'chanfabriclaw16.HistoryOrders': WHATEVER THE INPUT: true; the input reads as it did. -/
def historyOrdersSpec : ChangeSpec := { name := "historyOrders", fn := fun _ => fun
  | [d] => { results := [.lit (.bool true)], args := [d] }
  | _ => none }
def historyOrdersRow : OpenClaim := { program := "ytnbehigjeopniaa", sum := "5f84b242ceee0e0c4694ab26f97d91987b3b4767b7ccfc0b68f9972083764adc", func := "chanfabric/chanfabriclaw16.HistoryOrders", spec := "historyOrders", unfollowed := true, recurses := true, plainKeys := false, apart := false }
def HistoryOrdersSaid : Prop := historyOrdersRow.holds Try.pinned (OpenSpec.ofChange historyOrdersSpec)

/-- ITS FALSE NEIGHBOUR: 'it returns false'. Refute it at one input. -/
def historyOrdersWrong : ChangeSpec := { name := "historyOrders", fn := fun _ => fun
  | [d] => { results := [.lit (.bool false)], args := [d] }
  | _ => none }
def HistoryOrdersWrongFalsely : Prop := historyOrdersRow.holds Try.pinned (OpenSpec.ofChange historyOrdersWrong)

/-- 'chanfabriclaw16.HistoryOpen': WHATEVER THE INPUT: true; the input reads as it did. -/
def historyOpenSpec : ChangeSpec := { name := "historyOpen", fn := fun _ => fun
  | [d] => { results := [.lit (.bool true)], args := [d] }
  | _ => none }
def historyOpenRow : OpenClaim := { program := "ytnbehigjeopniaa", sum := "5f84b242ceee0e0c4694ab26f97d91987b3b4767b7ccfc0b68f9972083764adc", func := "chanfabric/chanfabriclaw16.HistoryOpen", spec := "historyOpen", unfollowed := true, recurses := true, plainKeys := false, apart := false }
def HistoryOpenSaid : Prop := historyOpenRow.holds Try.pinned (OpenSpec.ofChange historyOpenSpec)

/-- ITS FALSE NEIGHBOUR: 'it returns false'. Refute it at one input. -/
def historyOpenWrong : ChangeSpec := { name := "historyOpen", fn := fun _ => fun
  | [d] => { results := [.lit (.bool false)], args := [d] }
  | _ => none }
def HistoryOpenWrongFalsely : Prop := historyOpenRow.holds Try.pinned (OpenSpec.ofChange historyOpenWrong)

/- THE SECOND FORM. 'bulk': how many values and letters a reading holds, each counted each time it is reached (what is shared counts as often as it is met; a slice's spare places count too). A statement '..UptoSaid' is the law's where the arguments, and the package variables that the reading takes, are together of bulk at most 1048576: NARROWER than '..Said'. Prove '..Said' where nothing that the law and all that it calls make is longer than what came in: it says more and counts as full. Else prove '..UptoSaid'. A law counts once. -/
mutual
def uptoBulk {H : Type} : DataW H → Nat
  | .lit (.string bytes) => bytes.length + 1
  | .lit _ => 1
  | .nil => 1
  | .ptr d => uptoBulk d + 1
  | .slice elems spare => uptoBulkAll elems + uptoBulkAll spare + 1
  | .agg parts => uptoBulkAll parts + 1
  | .iface _ d => uptoBulk d + 1
  | .map entries => uptoBulkEntries entries + 1
  | .held _ => 1
def uptoBulkAll {H : Type} : List (DataW H) → Nat
  | [] => 0
  | d :: r => uptoBulk d + uptoBulkAll r
def uptoBulkEntries {H : Type} : List (Lit × DataW H) → Nat
  | [] => 0
  | x :: r => uptoBulkEntry x + uptoBulkEntries r
def uptoBulkEntry {H : Type} : Lit × DataW H → Nat
  | (.string bytes, d) => bytes.length + uptoBulk d + 1
  | (_, d) => uptoBulk d + 1
 end
def uptoSmall : (H : Type) → List (DataW H) → Bool := fun _ ds => decide (uptoBulkAll ds ≤ 1048576)
def OpenSpec.upto (s : _root_.Go.ChangeSpec) : _root_.Go.OpenSpec := { _root_.Go.OpenSpec.ofChange s with cond := some uptoSmall }

/-- 'chanfabriclaw16.HistoryChecks', WHERE WHAT IT READS IS OF BULK AT MOST 1048576: true; the input reads as it did. -/
def historyChecksUptoRow : OpenClaim := { program := "ytnbehigjeopniaa", sum := "5f84b242ceee0e0c4694ab26f97d91987b3b4767b7ccfc0b68f9972083764adc", func := "chanfabric/chanfabriclaw16.HistoryChecks", spec := "historyChecks", unfollowed := true, recurses := true, plainKeys := false, apart := false, narrowed := true }
def HistoryChecksUptoSaid : Prop := historyChecksUptoRow.holds Try.pinned (OpenSpec.upto historyChecksSpec)

/-- 'chanfabriclaw16.HistoryAsks', WHERE WHAT IT READS IS OF BULK AT MOST 1048576: true; the input reads as it did. -/
def historyAsksUptoRow : OpenClaim := { program := "ytnbehigjeopniaa", sum := "5f84b242ceee0e0c4694ab26f97d91987b3b4767b7ccfc0b68f9972083764adc", func := "chanfabric/chanfabriclaw16.HistoryAsks", spec := "historyAsks", unfollowed := true, recurses := true, plainKeys := false, apart := false, narrowed := true }
def HistoryAsksUptoSaid : Prop := historyAsksUptoRow.holds Try.pinned (OpenSpec.upto historyAsksSpec)

/-- 'chanfabriclaw16.HistoryPrecedes', WHERE WHAT IT READS IS OF BULK AT MOST 1048576: true; the input reads as it did. -/
def historyPrecedesUptoRow : OpenClaim := { program := "ytnbehigjeopniaa", sum := "5f84b242ceee0e0c4694ab26f97d91987b3b4767b7ccfc0b68f9972083764adc", func := "chanfabric/chanfabriclaw16.HistoryPrecedes", spec := "historyPrecedes", unfollowed := true, recurses := true, plainKeys := false, apart := false, narrowed := true }
def HistoryPrecedesUptoSaid : Prop := historyPrecedesUptoRow.holds Try.pinned (OpenSpec.upto historyPrecedesSpec)

/-- 'chanfabriclaw16.HistoryOrders', WHERE WHAT IT READS IS OF BULK AT MOST 1048576: true; the input reads as it did. -/
def historyOrdersUptoRow : OpenClaim := { program := "ytnbehigjeopniaa", sum := "5f84b242ceee0e0c4694ab26f97d91987b3b4767b7ccfc0b68f9972083764adc", func := "chanfabric/chanfabriclaw16.HistoryOrders", spec := "historyOrders", unfollowed := true, recurses := true, plainKeys := false, apart := false, narrowed := true }
def HistoryOrdersUptoSaid : Prop := historyOrdersUptoRow.holds Try.pinned (OpenSpec.upto historyOrdersSpec)

/-- 'chanfabriclaw16.HistoryOpen', WHERE WHAT IT READS IS OF BULK AT MOST 1048576: true; the input reads as it did. -/
def historyOpenUptoRow : OpenClaim := { program := "ytnbehigjeopniaa", sum := "5f84b242ceee0e0c4694ab26f97d91987b3b4767b7ccfc0b68f9972083764adc", func := "chanfabric/chanfabriclaw16.HistoryOpen", spec := "historyOpen", unfollowed := true, recurses := true, plainKeys := false, apart := false, narrowed := true }
def HistoryOpenUptoSaid : Prop := historyOpenUptoRow.holds Try.pinned (OpenSpec.upto historyOpenSpec)

end Rows
end Go.Proofs.Ytnbehigjeopniaa
