/- A region that draws its order, whose operations only read and whose callees make memory of their own: one walk in the order of the text. -/
import Derived.Test.YtimgcehogalhcaaLib
import Derived.Deep.QuietTactic
import Derived.BigQuiet
import Derived.Deep.DeepCutAuto
namespace Go.Proofs.Ytimgcehogalhcaa
open Go.ChangeShapes Go.WideShapes Go.ChangeAt Go.RowKit
set_option maxRecDepth 100000

/-- a world that holds more than W, and W's memory as it was -/
structure Ext (W : World) where
  wd : World
  below : Below W.heap.size W wd
instance (W : World) : Nonempty (Ext W) := ⟨⟨W, Below.refl _ _⟩⟩
theorem wp_region_ext {P : Program} {id : Nat} {Q : Exit → Act → World → Prop} {a : Act} {w : World} {l : List Oper} (W : World) (hm : P.follows .mixedOrders = true) (hB : Region.lexB .any l.toArray = true) (hW : Below W.heap.size W w)
    (h : wpQuiet P l.toArray (fun w' => ∃ n : Ext W, w' = n.wd) (fun a' => ∀ w', (∃ n : Ext W, w' = n.wd) → Q .normal a' w') l a) : (Code.region id l.toArray true).wp P Q a w :=
  wp_region_quiet (C := fun w' => ∃ n : Ext W, w' = n.wd) hm hB ⟨⟨_, below_drewN hW 1⟩, rfl⟩ (by simpa using h)
theorem calls_ext {P : Program} {f : FuncId} {args : Array Value} {W : World} {n : Ext W} {v : Value}
    (h : Calls P f args n.wd fun e w' => e = .returned v ∧ Below n.wd.heap.size n.wd w') : Calls P f args n.wd fun e w'' => e = .returned v ∧ ∃ m : Ext W, w'' = m.wd :=
  h.mono fun _ w' ⟨he, hm⟩ => ⟨he, ⟨w', below_then n.below hm⟩, rfl⟩
theorem calls_ext_draw {P : Program} {f : FuncId} {args : Array Value} {W : World} {n : Ext W} {v : Value}
    (h : Calls P f args n.wd fun e w' => e = .returned v ∧ ∃ m, n.wd.drewN m = w') : Calls P f args n.wd fun e w'' => e = .returned v ∧ ∃ m : Ext W, w'' = m.wd :=
  h.mono fun _ w' ⟨he, m, hm⟩ => ⟨he, ⟨w', hm ▸ below_drewN n.below m⟩, rfl⟩
theorem ext_cell {W : World} (b o : Nat) (h : b < W.heap.size) (v : Value) (hc : W.cell? ⟨b, o, none⟩ = some v) (n : Ext W) : n.wd.cell? ⟨b, o, none⟩ = some v := (n.below.cell (p := ⟨b, o, none⟩) h).trans hc
end Go.Proofs.Ytimgcehogalhcaa
