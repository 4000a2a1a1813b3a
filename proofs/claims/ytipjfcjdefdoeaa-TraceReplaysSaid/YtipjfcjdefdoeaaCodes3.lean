/- The reader of choices: valid selects. -/
import Derived.Test.YtipjfcjdefdoeaaCodes2
import Derived.Test.YtipjfcjdefdoeaaOpP
namespace Go.Proofs.Ytipjfcjdefdoeaa
open Go.ChangeShapes Go.WideShapes Go.ChangeAt Go.RowKit
set_option maxRecDepth 100000

def zeroCase : Array Value := #[.bool false, .int .i64 0, .int .u64 0]
theorem OwnI.one {w : World} {base : Nat} {e : TypeId} {k : IntKind} {v : Value} {l : List Int} (h : OwnI w base e k v l) : v.oneCell' = true := by
  rcases h.shape with ⟨rfl, _⟩ | ⟨g, cap, rfl, _⟩ <;> rfl
/-- the slice lies in a block from B on -/
def newB (B : Nat) (v : Value) : Prop := ∀ a n c, v = .slice (some a) n c → n = 0 ∨ B ≤ a.block
theorem newB.off {B g : Nat} {v : Value} (h : newB B v) (hg : g < B) : offB g v := fun a n c e => (h a n c e).imp id fun h => by omega
theorem newB.mono {B C : Nat} {v : Value} (h : newB B v) (hc : C ≤ B) : newB C v := fun a n c e => (h a n c e).imp id fun h => by omega
theorem newB.nil (B : Nat) : newB B (.slice none 0 0) := fun a n c e => by simp at e
theorem OwnI.newB {w : World} {base : Nat} {e : TypeId} {k : IntKind} {v : Value} {l : List Int} (h : OwnI w base e k v l) : newB base v := by
  intro a n c e
  subst e
  exact .inr (h.own_ge a.block rfl)
/-- an operation whose lists lie in blocks from B on -/
def OpN (w : World) (B : Nat) (v : Value) (op : OpM) : Prop :=
  ∃ vc vd, v = .agg #[.int .i64 op.kind, .int .i64 op.mode, .int .i64 op.chan, .int .u64 op.val, .int .i64 op.dl, vc, vd] ∧ SlC w vc op.cases ∧ SlI w .i64 vd op.draws ∧ newB B vc ∧ newB B vd
theorem OpN.opx {w : World} {B g : Nat} {v : Value} {op : OpM} (h : OpN w B v op) (hg : g < B) : OpX w g v op := by
  obtain ⟨vc, vd, e, h1, h2, h3, h4⟩ := h; exact ⟨vc, vd, e, h1, h2, h3.off hg, h4.off hg⟩
theorem OpN.grown {w w' : World} {B b : Nat} {v : Value} {op : OpM} (h : OpN w B v op) (hg : w.grownBy w' (some b)) (hb : b < B) : OpN w' B v op := by
  obtain ⟨vc, vd, e, h1, h2, h3, h4⟩ := h; exact ⟨vc, vd, e, h1.grown hg (h3.off hb), h2.grown hg (h4.off hb), h3, h4⟩
theorem OpN.mono {w : World} {B C : Nat} {v : Value} {op : OpM} (h : OpN w B v op) (hc : C ≤ B) : OpN w C v op := by
  obtain ⟨vc, vd, e, h1, h2, h3, h4⟩ := h; exact ⟨vc, vd, e, h1, h2, h3.mono hc, h4.mono hc⟩
theorem all7 {k0 k1 k2 k3 k4 : IntKind} {n0 n1 n2 n3 n4 : Int} {u v : Value} (hu : u.oneCell' = true) (hv : v.oneCell' = true) : (#[.int k0 n0, .int k1 n1, .int k2 n2, .int k3 n3, .int k4 n4, u, v] : Array Value).all (·.oneCell') = true := by
  have hi : ∀ k n, (Value.int k n).oneCell' = true := fun _ _ => rfl
  simp [hi, hu, hv]
end Go.Proofs.Ytipjfcjdefdoeaa
