/-
  No cell of these rows narrows 'for every input' (looked for: loops, veiled, ifaces, maps, wideKeys, modest, calm, conditions, laid).
  DERIVED. THE GIVEN ROWS OF THIS SEAT. 6 by the template 'for every input the law returns true; each argument reads behind the call as it read before'; 0 by the template 'total and deterministic' (their statements: YtckjdlphilpgfaaTotals.lean).
  GIVEN WITH THE SEED: the statements are not yours to turn. If you find one false, say at which input.
  Laid BY PROGRAM, IN A SANDBOX (cutbox-rows.mjs): the forced cells as the released guide's own fill.sh prints them over the translation 1d33f806a967a0bb… (all of the seat's roots in one cut). By AI agents, Wed Nov 11 2026. No macro, syntax, notation, axiom, sorry.
-/
import Derived.Test.YtckjdlphilpgfaaChecked
import GoSem.Claim
import GoSem.ClaimJoined
import GoSem.ClaimMapViews
import Derived.JoinedTies
import Derived.KernelRfl
namespace Go.Proofs.Ytckjdlphilpgfaa
/- THE CELL 'sum', in the pinned program and in every row, IS THE sha256 OF THE DUMP (.gsa) THAT YtckjdlphilpgfaaProg.lean LOADS. Nothing in Lean hashes anything: it is a label: what it is worth is what the hold of that sum in a sandbox is worth. -/
noncomputable def Try.pinned : Pinned := { name := "ytckjdlphilpgfaa", sum := "1d33f806a967a0bb011d0f2dfd7e5b030ee51d1e66fb132e8d510e5a5e9af74e", checked := Try.checked }
namespace Rows
def none {H : Type} : Left H := { results := [], args := [] }

/-- 'chanfabriclaw14.ModelApplies': WHATEVER THE INPUT: true; the input reads as it did. -/
def modelAppliesSpec : ChangeSpec := { name := "modelApplies", fn := fun _ => fun
  | [d1, d2] => { results := [.lit (.bool true)], args := [d1, d2] }
  | _ => none }
def modelAppliesRow : OpenClaim := { program := "ytckjdlphilpgfaa", sum := "1d33f806a967a0bb011d0f2dfd7e5b030ee51d1e66fb132e8d510e5a5e9af74e", func := "chanfabric/chanfabriclaw14.ModelApplies", spec := "modelApplies", apart := false }
def ModelAppliesSaid : Prop := modelAppliesRow.holds Try.pinned (OpenSpec.ofChange modelAppliesSpec)

/-- ITS FALSE NEIGHBOUR: 'it returns false'. Refute it at one input. -/
def modelAppliesWrong : ChangeSpec := { name := "modelApplies", fn := fun _ => fun
  | [d1, d2] => { results := [.lit (.bool false)], args := [d1, d2] }
  | _ => none }
def ModelAppliesWrongFalsely : Prop := modelAppliesRow.holds Try.pinned (OpenSpec.ofChange modelAppliesWrong)

/-- 'chanfabriclaw14.ModelPairs': WHATEVER THE INPUT: true; the input reads as it did. -/
def modelPairsSpec : ChangeSpec := { name := "modelPairs", fn := fun _ => fun
  | [d1, d2, d3] => { results := [.lit (.bool true)], args := [d1, d2, d3] }
  | _ => none }
def modelPairsRow : OpenClaim := { program := "ytckjdlphilpgfaa", sum := "1d33f806a967a0bb011d0f2dfd7e5b030ee51d1e66fb132e8d510e5a5e9af74e", func := "chanfabric/chanfabriclaw14.ModelPairs", spec := "modelPairs", apart := false }
def ModelPairsSaid : Prop := modelPairsRow.holds Try.pinned (OpenSpec.ofChange modelPairsSpec)

/-- ITS FALSE NEIGHBOUR: 'it returns false'. Refute it at one input. -/
def modelPairsWrong : ChangeSpec := { name := "modelPairs", fn := fun _ => fun
  | [d1, d2, d3] => { results := [.lit (.bool false)], args := [d1, d2, d3] }
  | _ => none }
def ModelPairsWrongFalsely : Prop := modelPairsRow.holds Try.pinned (OpenSpec.ofChange modelPairsWrong)

/-- 'chanfabriclaw14.ModelCoulds': WHATEVER THE INPUT: true; the input reads as it did. -/
def modelCouldsSpec : ChangeSpec := { name := "modelCoulds", fn := fun _ => fun
  | [d] => { results := [.lit (.bool true)], args := [d] }
  | _ => none }
def modelCouldsRow : OpenClaim := { program := "ytckjdlphilpgfaa", sum := "1d33f806a967a0bb011d0f2dfd7e5b030ee51d1e66fb132e8d510e5a5e9af74e", func := "chanfabric/chanfabriclaw14.ModelCoulds", spec := "modelCoulds", apart := false }
def ModelCouldsSaid : Prop := modelCouldsRow.holds Try.pinned (OpenSpec.ofChange modelCouldsSpec)

/-- ITS FALSE NEIGHBOUR: 'it returns false'. Refute it at one input. -/
def modelCouldsWrong : ChangeSpec := { name := "modelCoulds", fn := fun _ => fun
  | [d] => { results := [.lit (.bool false)], args := [d] }
  | _ => none }
def ModelCouldsWrongFalsely : Prop := modelCouldsRow.holds Try.pinned (OpenSpec.ofChange modelCouldsWrong)

/-- 'chanfabriclaw14.ModelEnabled': WHATEVER THE INPUT: true; the input reads as it did. -/
def modelEnabledSpec : ChangeSpec := { name := "modelEnabled", fn := fun _ => fun
  | [d] => { results := [.lit (.bool true)], args := [d] }
  | _ => none }
def modelEnabledRow : OpenClaim := { program := "ytckjdlphilpgfaa", sum := "1d33f806a967a0bb011d0f2dfd7e5b030ee51d1e66fb132e8d510e5a5e9af74e", func := "chanfabric/chanfabriclaw14.ModelEnabled", spec := "modelEnabled", apart := false }
def ModelEnabledSaid : Prop := modelEnabledRow.holds Try.pinned (OpenSpec.ofChange modelEnabledSpec)

/-- ITS FALSE NEIGHBOUR: 'it returns false'. Refute it at one input. -/
def modelEnabledWrong : ChangeSpec := { name := "modelEnabled", fn := fun _ => fun
  | [d] => { results := [.lit (.bool false)], args := [d] }
  | _ => none }
def ModelEnabledWrongFalsely : Prop := modelEnabledRow.holds Try.pinned (OpenSpec.ofChange modelEnabledWrong)

/-- 'chanfabriclaw14.ModelReady': WHATEVER THE INPUT: true; the input reads as it did. -/
def modelReadySpec : ChangeSpec := { name := "modelReady", fn := fun _ => fun
  | [d1, d2] => { results := [.lit (.bool true)], args := [d1, d2] }
  | _ => none }
def modelReadyRow : OpenClaim := { program := "ytckjdlphilpgfaa", sum := "1d33f806a967a0bb011d0f2dfd7e5b030ee51d1e66fb132e8d510e5a5e9af74e", func := "chanfabric/chanfabriclaw14.ModelReady", spec := "modelReady", unfollowed := true, recurses := true, apart := false }
def ModelReadySaid : Prop := modelReadyRow.holds Try.pinned (OpenSpec.ofChange modelReadySpec)

/-- ITS FALSE NEIGHBOUR: 'it returns false'. Refute it at one input. -/
def modelReadyWrong : ChangeSpec := { name := "modelReady", fn := fun _ => fun
  | [d1, d2] => { results := [.lit (.bool false)], args := [d1, d2] }
  | _ => none }
def ModelReadyWrongFalsely : Prop := modelReadyRow.holds Try.pinned (OpenSpec.ofChange modelReadyWrong)

/-- 'chanfabriclaw14.ModelOrder': WHATEVER THE INPUT: true; the input reads as it did. -/
def modelOrderSpec : ChangeSpec := { name := "modelOrder", fn := fun _ => fun
  | [d] => { results := [.lit (.bool true)], args := [d] }
  | _ => none }
def modelOrderRow : OpenClaim := { program := "ytckjdlphilpgfaa", sum := "1d33f806a967a0bb011d0f2dfd7e5b030ee51d1e66fb132e8d510e5a5e9af74e", func := "chanfabric/chanfabriclaw14.ModelOrder", spec := "modelOrder", apart := false }
def ModelOrderSaid : Prop := modelOrderRow.holds Try.pinned (OpenSpec.ofChange modelOrderSpec)

/-- ITS FALSE NEIGHBOUR: 'it returns false'. Refute it at one input. -/
def modelOrderWrong : ChangeSpec := { name := "modelOrder", fn := fun _ => fun
  | [d] => { results := [.lit (.bool false)], args := [d] }
  | _ => none }
def ModelOrderWrongFalsely : Prop := modelOrderRow.holds Try.pinned (OpenSpec.ofChange modelOrderWrong)

/- THE SECOND FORM. 'bulk': how many values and letters a reading holds, each counted each time it is reached (what is shared counts as often as it is met; a slice's spare places count too). A statement '..UptoSaid' is the law's where the arguments, and the package variables that the reading takes, are together of bulk at most 1048576: NARROWER than '..Said'. Prove '..Said' where nothing that the law and all that it calls make is longer than what came in: it says more and counts as full. Else prove '..UptoSaid'. A law counts once. -/
mutual
def uptoBulk {H : Type} : DataW H → Nat
  | .lit (.string bytes) => bytes.length + 1
  | .lit _ => 1
  | .nil => 1
  | .ptr d => uptoBulk d + 1
  | .slice elems spare => uptoBulkAll elems + uptoBulkAll spare + 1
  | .agg parts => uptoBulkAll parts + 1
  | .iface _ d => uptoBulk d + 1
  | .map entries => uptoBulkEntries entries + 1
  | .held _ => 1
def uptoBulkAll {H : Type} : List (DataW H) → Nat
  | [] => 0
  | d :: r => uptoBulk d + uptoBulkAll r
def uptoBulkEntries {H : Type} : List (Lit × DataW H) → Nat
  | [] => 0
  | x :: r => uptoBulkEntry x + uptoBulkEntries r
def uptoBulkEntry {H : Type} : Lit × DataW H → Nat
  | (.string bytes, d) => bytes.length + uptoBulk d + 1
  | (_, d) => uptoBulk d + 1
 end
def uptoSmall : (H : Type) → List (DataW H) → Bool := fun _ ds => decide (uptoBulkAll ds ≤ 1048576)
def OpenSpec.upto (s : _root_.Go.ChangeSpec) : _root_.Go.OpenSpec := { _root_.Go.OpenSpec.ofChange s with cond := some uptoSmall }

/-- 'chanfabriclaw14.ModelApplies', WHERE WHAT IT READS IS OF BULK AT MOST 1048576: true; the input reads as it did. -/
def modelAppliesUptoRow : OpenClaim := { program := "ytckjdlphilpgfaa", sum := "1d33f806a967a0bb011d0f2dfd7e5b030ee51d1e66fb132e8d510e5a5e9af74e", func := "chanfabric/chanfabriclaw14.ModelApplies", spec := "modelApplies", apart := false, narrowed := true }
def ModelAppliesUptoSaid : Prop := modelAppliesUptoRow.holds Try.pinned (OpenSpec.upto modelAppliesSpec)

/-- 'chanfabriclaw14.ModelPairs', WHERE WHAT IT READS IS OF BULK AT MOST 1048576: true; the input reads as it did. -/
def modelPairsUptoRow : OpenClaim := { program := "ytckjdlphilpgfaa", sum := "1d33f806a967a0bb011d0f2dfd7e5b030ee51d1e66fb132e8d510e5a5e9af74e", func := "chanfabric/chanfabriclaw14.ModelPairs", spec := "modelPairs", apart := false, narrowed := true }
def ModelPairsUptoSaid : Prop := modelPairsUptoRow.holds Try.pinned (OpenSpec.upto modelPairsSpec)

/-- 'chanfabriclaw14.ModelCoulds', WHERE WHAT IT READS IS OF BULK AT MOST 1048576: true; the input reads as it did. -/
def modelCouldsUptoRow : OpenClaim := { program := "ytckjdlphilpgfaa", sum := "1d33f806a967a0bb011d0f2dfd7e5b030ee51d1e66fb132e8d510e5a5e9af74e", func := "chanfabric/chanfabriclaw14.ModelCoulds", spec := "modelCoulds", apart := false, narrowed := true }
def ModelCouldsUptoSaid : Prop := modelCouldsUptoRow.holds Try.pinned (OpenSpec.upto modelCouldsSpec)

/-- 'chanfabriclaw14.ModelEnabled', WHERE WHAT IT READS IS OF BULK AT MOST 1048576: true; the input reads as it did. -/
def modelEnabledUptoRow : OpenClaim := { program := "ytckjdlphilpgfaa", sum := "1d33f806a967a0bb011d0f2dfd7e5b030ee51d1e66fb132e8d510e5a5e9af74e", func := "chanfabric/chanfabriclaw14.ModelEnabled", spec := "modelEnabled", apart := false, narrowed := true }
def ModelEnabledUptoSaid : Prop := modelEnabledUptoRow.holds Try.pinned (OpenSpec.upto modelEnabledSpec)

/-- 'chanfabriclaw14.ModelReady', WHERE WHAT IT READS IS OF BULK AT MOST 1048576: true; the input reads as it did. -/
def modelReadyUptoRow : OpenClaim := { program := "ytckjdlphilpgfaa", sum := "1d33f806a967a0bb011d0f2dfd7e5b030ee51d1e66fb132e8d510e5a5e9af74e", func := "chanfabric/chanfabriclaw14.ModelReady", spec := "modelReady", unfollowed := true, recurses := true, apart := false, narrowed := true }
def ModelReadyUptoSaid : Prop := modelReadyUptoRow.holds Try.pinned (OpenSpec.upto modelReadySpec)

/-- 'chanfabriclaw14.ModelOrder', WHERE WHAT IT READS IS OF BULK AT MOST 1048576: true; the input reads as it did. -/
def modelOrderUptoRow : OpenClaim := { program := "ytckjdlphilpgfaa", sum := "1d33f806a967a0bb011d0f2dfd7e5b030ee51d1e66fb132e8d510e5a5e9af74e", func := "chanfabric/chanfabriclaw14.ModelOrder", spec := "modelOrder", apart := false, narrowed := true }
def ModelOrderUptoSaid : Prop := modelOrderUptoRow.holds Try.pinned (OpenSpec.upto modelOrderSpec)

end Rows
end Go.Proofs.Ytckjdlphilpgfaa
