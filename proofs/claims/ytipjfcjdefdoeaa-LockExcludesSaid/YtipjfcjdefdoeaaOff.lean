/- What reads the same whatever is done to two blocks. -/
import Derived.Test.YtipjfcjdefdoeaaMm
import Derived.Test.YtipjfcjdefdoeaaDrawE
namespace Go.Proofs.Ytipjfcjdefdoeaa
open Go.ChangeShapes Go.WideShapes Go.ChangeAt Go.RowKit
set_option maxRecDepth 100000

/-- the worlds that hold w0's memory but for the blocks a and b -/
def Off (a b : Nat) (w0 : World) : World → Prop := fun w => w0.heap.size ≤ w.heap.size ∧ ∀ j, j < w0.heap.size → j ≠ a → j ≠ b → w.heap[j]? = w0.heap[j]?
theorem Off.self (a b : Nat) (w : World) : Off a b w w := ⟨Nat.le_refl _, fun _ _ _ _ => rfl⟩
theorem Off.trans {a b : Nat} {w0 w1 w2 : World} (h : Off a b w0 w1) (h2 : Off a b w1 w2) : Off a b w0 w2 :=
  ⟨Nat.le_trans h.1 h2.1, fun j hj ha hb => (h2.2 j (Nat.lt_of_lt_of_le hj h.1) ha hb).trans (h.2 j hj ha hb)⟩
theorem Off.below {a b : Nat} {w w' : World} (h : Below w.heap.size w w') : Off a b w w' := ⟨h.size, fun j hj _ _ => h.block j hj⟩
theorem Off.wide (a b : Nat) (w0 : World) : Wide (Off a b w0) := fun _ _ h hb => h.trans (Off.below hb)
theorem Off.grown {a b : Nat} {w w' : World} (h : w.grownBy w' (some a)) : Off a b w w' := ⟨h.size, fun j hj ha _ => h.block j hj (by simp; omega)⟩
theorem Off.setRow {a b : Nat} (w : World) (cs : Array Value) : Off a b w (w.setRow b cs) := ⟨by simp [World.setRow], fun j _ _ hb => setRow_other w b j cs hb⟩
theorem Off.setCell {a b : Nat} (w : World) (o : Nat) (u : Value) : Off a b w (w.setCell ⟨b, o, none⟩ u) := ⟨by simp, fun j _ _ hb => heap_setCell_other w ⟨b, o, none⟩ j u hb⟩
theorem Off.nx {a b : Nat} {w0 w w' : World} (h : Off a b w0 w) (hb : Below w.heap.size w w') (h1 : a < w.heap.size) (h2 : b < w.heap.size) : ∀ w2, Off a b w' w2 → Nx (Off a b w0) w w' w2 := fun w2 h3 =>
  ⟨h.trans ((Off.below hb).trans h3), ⟨h3.1, fun j hj hj2 => h3.2 j hj2 (by omega) (by omega)⟩⟩
theorem OwnI.stays {a b : Nat} {w : World} {base : Nat} {e : TypeId} {k : IntKind} {v : Value} {l : List Int} (h : OwnI w base e k v l) (h1 : a < base) (h2 : b < base) (hl : l.length ≤ 140737488351232) (hw : ∀ x ∈ l, x = k.wrap x) : StI (Off a b w) k v l := by
  intro w2 ho
  have h3 : OwnI w2 base e k v l := by
    refine ⟨h.1, ?_⟩
    rcases h.2 with h4 | ⟨g, cap, cur, h4, h5, h6, h7⟩
    · exact .inl h4
    · exact .inr ⟨g, cap, cur, h4, h5, (ho.2 g (Array.getElem?_eq_some_iff.1 h6).1 (by omega) (by omega)).trans h6, h7⟩
  exact h3.read hl hw
theorem StI.sub {G H : World → Prop} {k : IntKind} {v : Value} {l : List Int} (h : StI G k v l) (hs : ∀ w, H w → G w) : StI H k v l := fun w hw => h w (hs w hw)
theorem CodesE.grown {w w' : World} {g b : Nat} (h : CodesE w g) (hg : g < b) (ho : w.grownBy w' (some b)) : CodesE w' g :=
  h.kept (B := g + 1) (Nat.lt_succ_self _) ⟨ho.os, ho.tape, ho.output, ho.size, fun j hj => ho.block j (by have := h.lt; omega) (by simp; omega)⟩
theorem sl1_at {w : World} {k : IntKind} {b : Nat} {x : Int} {T : TypeId} (h : w.heap[b]? = some (.cells #[.int k x] T (0, 0))) (hx : x = k.wrap x) : SlI w k (.slice (some ⟨b, 0, none⟩) 1 1) [x] := by
  refine ⟨by simp, by intro z hz; simp at hz; subst hz; exact hx, _, 1, rfl, Nat.le_refl _, fun t ht => ⟨b, 0, rfl, (Array.getElem?_eq_some_iff.1 h).1, ?_⟩⟩
  obtain rfl : t = 0 := by simp at ht; omega
  exact cell_of_row _ _ 0 _ _ _ h
theorem sll2_at {w : World} {b : Nat} {u0 u1 : Value} {l0 l1 : List Int} {T : TypeId} (h : w.heap[b]? = some (.cells #[u0, u1] T (0, 0))) (h0 : SlI w .i64 u0 l0) (h1 : SlI w .i64 u1 l1) : SlL w (.slice (some ⟨b, 0, none⟩) 2 2) [u0, u1] [l0, l1] := by
  refine ⟨by simp, rfl, _, 2, rfl, Nat.le_refl _, fun t ht => ⟨b, 0, rfl, (Array.getElem?_eq_some_iff.1 h).1, ?_⟩⟩
  obtain rfl | rfl : t = 0 ∨ t = 1 := by simp at ht; omega
  · exact ⟨cell_of_row _ _ 0 _ _ _ h, h0⟩
  · exact ⟨cell_of_row _ _ 1 _ _ _ h, h1⟩
end Go.Proofs.Ytipjfcjdefdoeaa
