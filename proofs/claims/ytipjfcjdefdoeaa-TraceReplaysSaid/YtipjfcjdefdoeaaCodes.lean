/- The reader of choices: what its methods return, whatever the choices are. -/
import Derived.Test.YtipjfcjdefdoeaaCases
import Derived.Test.YtipjfcjdefdoeaaDrawE
import Derived.Test.YtipjfcjdefdoeaaDrawCfg
namespace Go.Proofs.Ytipjfcjdefdoeaa
open Go.ChangeShapes Go.WideShapes Go.ChangeAt Go.RowKit
set_option maxRecDepth 100000

theorem SlC.offOf {w : World} {v : Value} {l : List CaseM} (h : SlC w v l) {g : Nat} (hg : w.heap.size ≤ g) : offB g v := by
  intro a n c e
  obtain ⟨_, _, a', cap, rfl, _, h5⟩ := h
  rcases Nat.eq_zero_or_pos l.length with h0 | h0
  · simp only [Value.slice.injEq] at e; exact .inl (by omega)
  · obtain ⟨b, off, rfl, hlt, _⟩ := h5 0 h0
    simp only [Value.slice.injEq, Option.some.injEq] at e
    obtain ⟨rfl, _⟩ := e
    exact .inr (by simp; omega)
theorem SlC.grown {w w' : World} {v : Value} {l : List CaseM} {g : Nat} (h : SlC w v l) (hg : w.grownBy w' (some g)) (ho : offB g v) : SlC w' v l := by
  obtain ⟨h1, h2, a, cap, rfl, h4, h5⟩ := h
  refine ⟨h1, h2, a, cap, rfl, h4, fun t ht => ?_⟩
  obtain ⟨b, off, rfl, hlt, c0, c1, c2⟩ := h5 t ht
  have hb : b ≠ g := (ho _ _ _ rfl).resolve_left (by omega)
  have k : ∀ j, w'.cell? ⟨b, j, none⟩ = w.cell? ⟨b, j, none⟩ := fun j => World.cell?_of_block (a := ⟨b, j, none⟩) (hg.block b hlt (by simpa using hb))
  exact ⟨b, off, rfl, Nat.lt_of_lt_of_le hlt hg.size, (k _).trans c0, (k _).trans c1, (k _).trans c2⟩
/-- a configuration, an operation, that lie beside the reader's block -/
def ConfX (w : World) (g : Nat) (v : Value) (c : ConfM) : Prop :=
  ∃ vc vs, v = .agg #[vc, vs, .int .i64 c.threads] ∧ SlI w .i64 vc c.caps ∧ SlI w .u64 vs c.starts ∧ offB g vc ∧ offB g vs
theorem ConfX.conf {w : World} {g : Nat} {v : Value} {c : ConfM} (h : ConfX w g v c) : ConfV w v c := by
  obtain ⟨vc, vs, e, h1, h2, _⟩ := h; exact ⟨vc, vs, e, h1, h2⟩
theorem ConfX.below {w w' : World} {g : Nat} {v : Value} {c : ConfM} (h : ConfX w g v c) (hb : Below w.heap.size w w') : ConfX w' g v c := by
  obtain ⟨vc, vs, e, h1, h2, h3⟩ := h; exact ⟨vc, vs, e, h1.below hb, h2.below hb, h3⟩
theorem ConfX.grown {w w' : World} {g : Nat} {v : Value} {c : ConfM} (h : ConfX w g v c) (hg : w.grownBy w' (some g)) : ConfX w' g v c := by
  obtain ⟨vc, vs, e, h1, h2, h3, h4⟩ := h; exact ⟨vc, vs, e, h1.grown hg h3, h2.grown hg h4, h3, h4⟩
def OpX (w : World) (g : Nat) (v : Value) (op : OpM) : Prop :=
  ∃ vc vd, v = .agg #[.int .i64 op.kind, .int .i64 op.mode, .int .i64 op.chan, .int .u64 op.val, .int .i64 op.dl, vc, vd] ∧ SlC w vc op.cases ∧ SlI w .i64 vd op.draws ∧ offB g vc ∧ offB g vd
theorem OpX.opv {w : World} {g : Nat} {v : Value} {op : OpM} (h : OpX w g v op) : OpV w v op := by
  obtain ⟨vc, vs, e, h1, h2, _⟩ := h; exact ⟨vc, vs, e, h1, h2⟩
theorem OpX.below {w w' : World} {g : Nat} {v : Value} {op : OpM} (h : OpX w g v op) (hb : Below w.heap.size w w') : OpX w' g v op := by
  obtain ⟨vc, vs, e, h1, h2, h3⟩ := h; exact ⟨vc, vs, e, h1.below hb, h2.below hb, h3⟩
theorem OpX.grown {w w' : World} {g : Nat} {v : Value} {op : OpM} (h : OpX w g v op) (hg : w.grownBy w' (some g)) : OpX w' g v op := by
  obtain ⟨vc, vs, e, h1, h2, h3, h4⟩ := h; exact ⟨vc, vs, e, h1.grown hg h3, h2.grown hg h4, h3, h4⟩
theorem OpV.opx {w : World} {g : Nat} {v : Value} {op : OpM} (h : OpV w v op) (hg : w.heap.size ≤ g) : OpX w g v op := by
  obtain ⟨vc, vs, e, h1, h2⟩ := h; exact ⟨vc, vs, e, h1, h2, h1.offOf hg, h2.offOf hg⟩
theorem configE (g : Nat) (w : World) (h : CodesE w g) :
    Calls Try.prog 20 #[.pointer (some ⟨g, 0, none⟩)] w fun e w' => ∃ v c, e = .returned v ∧ ConfX w' g v c ∧ c.caps.length = c.starts.length ∧ 1 ≤ c.caps.length ∧ c.caps.length ≤ 3 ∧ 2 ≤ c.threads ∧ c.threads ≤ 4 ∧ CodesE w' g ∧ w.grownBy w' (some g) := by
  obtain ⟨r, val, h⟩ := h
  refine (config_any g r val w h).mono ?_
  rintro e w' ⟨vc, vs, t, caps, starts, r', rfl, h1, h2, h3, h4, h5, h6, h7, h8, h9, h10, h11⟩
  exact ⟨_, ⟨caps, starts, t⟩, rfl, ⟨vc, vs, rfl, h1, h2, h10, h11⟩, h3, h4, h5, h6, h7, ⟨_, _, h8⟩, h9⟩
end Go.Proofs.Ytipjfcjdefdoeaa
