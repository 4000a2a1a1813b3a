/- Slices of whole numbers that a call only reads, and slices that it owns: words that the contracts of all layers use. -/
import Derived.WalkKit
import Derived.WalkLawsBesides
import Derived.WalkSpells
import Derived.ProofKit
import Derived.Lib.Hide
import Derived.LoopTactic
namespace Go.Proofs.Ytimgcehogalhcaa
open Go.ChangeShapes Go.WideShapes Go.ChangeAt Go.RowKit
set_option maxRecDepth 100000

theorem ret_u64 {a b : Int} (h : a = b) : Ending.returned (.int .u64 a) = .returned (.int .u64 b) := by rw [h]
theorem ret_i64 {a b : Int} (h : a = b) : Ending.returned (.int .i64 a) = .returned (.int .i64 b) := by rw [h]
theorem ret_bool {a b : Bool} (h : a = b) : Ending.returned (.bool a) = .returned (.bool b) := by rw [h]

/-- The slice value v reads in w as the list l of numbers of kind k. -/
def SlI (w : World) (k : IntKind) (v : Value) (l : List Int) : Prop :=
  l.length ≤ 140737488351232 ∧ (∀ x ∈ l, x = k.wrap x) ∧ ∃ a cap, v = .slice a l.length cap ∧ l.length ≤ cap ∧
    ∀ t, t < l.length → ∃ b off, a = some ⟨b, off, none⟩ ∧ b < w.heap.size ∧ w.cell? ⟨b, off + t, none⟩ = some (.int k (l.getD t 0))
theorem SlI.below {w w' : World} {k : IntKind} {v : Value} {l : List Int} (h : SlI w k v l) (hb : Below w.heap.size w w') : SlI w' k v l := by
  obtain ⟨h1, h2, a, cap, h3, h4, h5⟩ := h
  refine ⟨h1, h2, a, cap, h3, h4, fun t ht => ?_⟩
  obtain ⟨b, off, e, hlt, hc⟩ := h5 t ht
  exact ⟨b, off, e, Nat.lt_of_lt_of_le hlt hb.size, (hb.cell (p := ⟨b, off + t, none⟩) hlt).trans hc⟩
theorem SlI.drew {w : World} {k : IntKind} {v : Value} {l : List Int} (h : SlI w k v l) (n : Nat) : SlI (w.drewN n) k v l := h
/-- opened where it is not empty -/
theorem SlI.open {w : World} {k : IntKind} {v : Value} {l : List Int} (h : SlI w k v l) (hne : l ≠ []) :
    ∃ b off cap, v = .slice (some ⟨b, off, none⟩) l.length cap ∧ l.length ≤ cap ∧ b < w.heap.size ∧ ∀ t, t < l.length → w.cell? ⟨b, off + t, none⟩ = some (.int k (l.getD t 0)) := by
  obtain ⟨_, _, a, cap, rfl, h4, h5⟩ := h
  obtain ⟨b, off, rfl, hlt, _⟩ := h5 0 (List.length_pos_iff.2 hne)
  refine ⟨b, off, cap, rfl, h4, hlt, fun t ht => ?_⟩
  obtain ⟨b', off', e, _, hc⟩ := h5 t ht
  simp only [Option.some.injEq, Addr.mk.injEq] at e
  obtain ⟨rfl, rfl, _⟩ := e
  exact hc
theorem SlI.len {w : World} {k : IntKind} {v : Value} {l : List Int} (h : SlI w k v l) : ∃ a cap, v = .slice a l.length cap ∧ l.length ≤ cap := by
  obtain ⟨_, _, a, cap, rfl, h4, h5⟩ := h
  exact ⟨a, cap, rfl, h4⟩
theorem SlI.nil (w : World) (k : IntKind) : SlI w k (.slice none 0 0) [] :=
  ⟨by simp, by simp, none, 0, rfl, Nat.le_refl _, fun t ht => by simp at ht⟩
/-- The slice value v owns, among the blocks from base on, a row of numbers of kind k that reads as l (element type e). -/
def OwnI (w : World) (base : Nat) (e : TypeId) (k : IntKind) (v : Value) (l : List Int) : Prop :=
  w.ownsRow base e 1 v l.length (l.map (.int k))
theorem OwnI.shape {w : World} {base : Nat} {e : TypeId} {k : IntKind} {v : Value} {l : List Int} (h : OwnI w base e k v l) :
    (v = .slice none 0 0 ∧ l = []) ∨ ∃ g cap, v = .slice (some ⟨g, 0, none⟩) l.length cap ∧ base ≤ g ∧ g < w.heap.size ∧ l.length ≤ cap ∧ l.length ≤ maxLen := by
  rcases h.2 with ⟨rfl, h2⟩ | ⟨g, cap, cur, rfl, h3, h4, h5, h6, _, _⟩
  · exact .inl ⟨rfl, List.length_eq_zero_iff.1 h2⟩
  · refine .inr ⟨g, cap, rfl, h3, ?_, h5, by omega⟩
    exact (Array.getElem?_eq_some_iff.1 h4).1
theorem OwnI.cell {w : World} {base : Nat} {e : TypeId} {k : IntKind} {g n cap : Nat} {l : List Int} (h : OwnI w base e k (.slice (some ⟨g, 0, none⟩) n cap) l) (i : Nat) (hi : i < l.length) :
    w.cell? ⟨g, i, none⟩ = some (.int k (l.getD i 0)) ∧ w.frozen? ⟨g, i, none⟩ = false := by
  have hn : n = l.length := by
    rcases h.2 with ⟨h1, h2⟩ | ⟨g, cap, cur, h1, _⟩
    · simp at h1
    · simp only [Value.slice.injEq] at h1; exact h1.2.1
  subst hn
  refine ⟨?_, h.frozenAt i⟩
  rw [World.ownsRow.cellAt h i (by omega)]
  simp [List.getD_eq_getElem?_getD, hi]
theorem OwnI.store {w : World} {base : Nat} {e : TypeId} {k : IntKind} {g n cap : Nat} {l : List Int} (h : OwnI w base e k (.slice (some ⟨g, 0, none⟩) n cap) l) (i : Nat) (x : Int) (hn : n = l.length) :
    OwnI (w.setCell ⟨g, i, none⟩ (.int k x)) base e k (.slice (some ⟨g, 0, none⟩) n cap) (l.set i x) := by
  subst hn
  have := (World.ownsRow.stored h i (.int k x)).1
  unfold OwnI
  rw [List.length_set, List.map_set]
  exact this
theorem OwnI.drew {w : World} {base : Nat} {e : TypeId} {k : IntKind} {v : Value} {l : List Int} (h : OwnI w base e k v l) (n : Nat) : OwnI (w.drewN n) base e k v l := h
/-- what is owned reads -/
theorem OwnI.read {w : World} {base : Nat} {e : TypeId} {k : IntKind} {v : Value} {l : List Int} (h : OwnI w base e k v l) (hl : l.length ≤ 140737488351232) (hw : ∀ x ∈ l, x = k.wrap x) : SlI w k v l := by
  rcases h.shape with ⟨rfl, rfl⟩ | ⟨g, cap, rfl, h1, h2, h3, h4⟩
  · exact SlI.nil w k
  · refine ⟨hl, hw, some ⟨g, 0, none⟩, cap, rfl, h3, fun t ht => ⟨g, 0, rfl, h2, ?_⟩⟩
    rw [Nat.zero_add]; exact (h.cell t ht).1
theorem OwnI.kept {w w' : World} {base : Nat} {e : TypeId} {k : IntKind} {v : Value} {l : List Int} {row : Option Nat} (h : OwnI w base e k v l) (hg : w.grownBy w' row) (hne : v.ownBlock = none ∨ v.ownBlock ≠ row) : OwnI w' base e k v l := World.ownsRow.kept h hg hne
theorem OwnI.below {w w' : World} {base : Nat} {e : TypeId} {k : IntKind} {v : Value} {l : List Int} (h : OwnI w base e k v l) (hb : Below w.heap.size w w') : OwnI w' base e k v l := by
  refine h.kept (row := none) ⟨hb.os, hb.tape, hb.output, hb.size, fun j hj _ => hb.block j hj⟩ ?_
  cases hv : v.ownBlock with
  | none => exact .inl rfl
  | some x => exact .inr (by simp)
theorem OwnI.alloc {w : World} {base : Nat} {e : TypeId} {k : IntKind} {v : Value} {l : List Int} (h : OwnI w base e k v l) (o : Obj) : OwnI (w.alloc o) base e k v l := World.ownsRow.alloc h o
theorem OwnI.ne {w : World} {base : Nat} {e : TypeId} {k : IntKind} {v : Value} {l : List Int} (h : OwnI w base e k v l) {g : Nat} (hg : g < base) : v.ownBlock = none ∨ v.ownBlock ≠ some g := by
  rcases h.shape with ⟨rfl, _⟩ | ⟨g', cap, rfl, h1, _⟩
  · exact .inl rfl
  · refine .inr ?_
    simp only [Value.ownBlock, ne_eq, Option.some.injEq]
    omega
theorem OwnI.nil (w : World) (base : Nat) (e : TypeId) (k : IntKind) : OwnI w base e k (.slice none 0 0) [] := World.ownsRow_nil w base e 1
theorem grownBy_trans {a b c : World} {row : Option Nat} (h : a.grownBy b row) (h2 : b.grownBy c row) : a.grownBy c row :=
  ⟨h2.os.trans h.os, h2.tape.trans h.tape, h2.output.trans h.output, Nat.le_trans h.size h2.size, fun k hk hr => (h2.block k (Nat.lt_of_lt_of_le hk h.size) hr).trans (h.block k hk hr)⟩
theorem grownBy_refl (a : World) (row : Option Nat) : a.grownBy a row := ⟨rfl, rfl, rfl, Nat.le_refl _, fun _ _ _ => rfl⟩
theorem grownBy_of_below {a b c : World} {row : Option Nat} (h : a.grownBy b row) (h2 : Below a.heap.size b c) : a.grownBy c row :=
  ⟨h2.os.trans h.os, h2.tape.trans h.tape, h2.output.trans h.output, Nat.le_trans h.size h2.size, fun k hk hr => (h2.block k hk).trans (h.block k hk hr)⟩
theorem grownBy_of_new {a b c : World} {row r2 : Option Nat} (h : a.grownBy b row) (h2 : b.grownBy c r2) (hr2 : ∀ k, r2 = some k → a.heap.size ≤ k) : a.grownBy c row :=
  ⟨h2.os.trans h.os, h2.tape.trans h.tape, h2.output.trans h.output, Nat.le_trans h.size h2.size, fun k hk hr => (h2.block k (Nat.lt_of_lt_of_le hk h.size) (fun e => by have := hr2 k e.symm; omega)).trans (h.block k hk hr)⟩
theorem grownBy_setCell (w : World) (a : Addr) (u : Value) : w.grownBy (w.setCell a u) (some a.block) :=
  ⟨rfl, rfl, rfl, by simp, fun k _ hk => heap_setCell_other w a k u (fun e => hk (by rw [e]))⟩
theorem OwnI.setOther {w : World} {base : Nat} {e : TypeId} {k : IntKind} {g n cap : Nat} {l : List Int} (h : OwnI w base e k (.slice (some ⟨g, 0, none⟩) n cap) l) (a : Addr) (hne : g ≠ a.block) (u : Value) :
    OwnI (w.setCell a u) base e k (.slice (some ⟨g, 0, none⟩) n cap) l :=
  h.kept (grownBy_setCell w a u) (.inr (by simpa [Value.ownBlock] using hne))
theorem OwnI.own_ge {w : World} {base : Nat} {e : TypeId} {k : IntKind} {v : Value} {l : List Int} (h : OwnI w base e k v l) : ∀ j, v.ownBlock = some j → base ≤ j := fun j hj => (World.ownsRow.lt h j hj).1
/-- the head of what is owned reads -/
theorem OwnI.readTake {w : World} {base : Nat} {e : TypeId} {k : IntKind} {g n cap : Nat} {l : List Int} (h : OwnI w base e k (.slice (some ⟨g, 0, none⟩) n cap) l) (m : Nat) (hm : m ≤ l.length) (hl : l.length ≤ 140737488351232) (hw : ∀ x ∈ l, x = k.wrap x) :
    SlI w k (.slice (some ⟨g, 0, none⟩) m cap) (l.take m) := by
  have hlen : (l.take m).length = m := by simp; omega
  obtain ⟨h1, h2, a, cap', e1, h4, h5⟩ := h.read hl hw
  simp only [Value.slice.injEq] at e1
  obtain ⟨rfl, rfl, rfl⟩ := e1
  refine ⟨by omega, fun x hx => hw x (List.mem_of_mem_take hx), _, cap, by rw [hlen], by omega, fun t ht => ?_⟩
  obtain ⟨b, off, e2, e3, e4⟩ := h5 t (by omega)
  refine ⟨b, off, e2, e3, ?_⟩
  rw [e4]
  simp [List.getD_eq_getElem?_getD, show t < m by omega]
/-- The slice value v owns a row that reads as the bools l. -/
def OwnB (w : World) (base : Nat) (e : TypeId) (v : Value) (l : List Bool) : Prop := w.ownsRow base e 1 v l.length (l.map Value.bool)
theorem OwnB.cell {w : World} {base : Nat} {e : TypeId} {g n cap : Nat} {l : List Bool} (h : OwnB w base e (.slice (some ⟨g, 0, none⟩) n cap) l) (i : Nat) (hi : i < l.length) :
    w.cell? ⟨g, i, none⟩ = some (.bool (l.getD i false)) ∧ w.frozen? ⟨g, i, none⟩ = false := by
  have hn : n = l.length := by
    rcases h.2 with ⟨h1, h2⟩ | ⟨g, cap, cur, h1, _⟩
    · simp at h1
    · simp only [Value.slice.injEq] at h1; exact h1.2.1
  subst hn
  refine ⟨?_, h.frozenAt i⟩
  rw [World.ownsRow.cellAt h i (by omega)]
  simp [List.getD_eq_getElem?_getD, hi]
theorem OwnB.store {w : World} {base : Nat} {e : TypeId} {g n cap : Nat} {l : List Bool} (h : OwnB w base e (.slice (some ⟨g, 0, none⟩) n cap) l) (i : Nat) (x : Bool) (hn : n = l.length) :
    OwnB (w.setCell ⟨g, i, none⟩ (.bool x)) base e (.slice (some ⟨g, 0, none⟩) n cap) (l.set i x) := by
  subst hn
  have := (World.ownsRow.stored h i (.bool x)).1
  unfold OwnB
  rw [List.length_set, List.map_set]
  exact this
theorem below_then {w a b : World} (h : Below w.heap.size w a) (hb : Below a.heap.size a b) : Below w.heap.size w b := h.trans (hb.mono h.size)
theorem below_new {w a : World} (h : Below w.heap.size w a) (o : Obj) : Below w.heap.size w (a.alloc o) := h.alloc h.size o
theorem below_grown {w a b : World} {g : Nat} (h : Below w.heap.size w a) (hb : a.grownBy b (some g)) (hg : w.heap.size ≤ g) : Below w.heap.size w b := h.grown hb h.size fun k hk => by cases hk; exact hg
/-- a list that was just written out -/
theorem SlI.lit (w : World) (k : IntKind) (e : TypeId) (l : List Int) (hw : ∀ x ∈ l, x = k.wrap x) (hl : l.length ≤ 140737488351232) :
    SlI (w.alloc (.cells (l.map (Value.int k)).toArray e)) k (.slice (some ⟨w.heap.size, 0, none⟩) l.length l.length) l := by
  refine ⟨hl, hw, _, _, rfl, Nat.le_refl _, fun t ht => ⟨_, 0, rfl, by simp, ?_⟩⟩
  rw [World.cell?_alloc_at _ _ _ _ rfl, Nat.zero_add]
  simp [List.getD_eq_getElem?_getD, ht]
/-- the slice does not lie in block g -/
def offB (g : Nat) (v : Value) : Prop := ∀ a n c, v = .slice (some a) n c → n = 0 ∨ a.block ≠ g
theorem offB.nil (g : Nat) : offB g (.slice none 0 0) := fun a n c h => by simp at h
theorem OwnI.off {w : World} {base : Nat} {e : TypeId} {k : IntKind} {v : Value} {l : List Int} (h : OwnI w base e k v l) {g : Nat} (hg : g < base) : offB g v := by
  intro a n c e
  subst e
  have := h.own_ge a.block rfl
  exact .inr (by omega)
theorem SlI.offOf {w : World} {k : IntKind} {v : Value} {l : List Int} (h : SlI w k v l) {g : Nat} (hg : w.heap.size ≤ g) : offB g v := by
  intro a n c e
  obtain ⟨_, _, a', cap, rfl, _, h5⟩ := h
  rcases Nat.eq_zero_or_pos l.length with h0 | h0
  · simp only [Value.slice.injEq] at e; exact .inl (by omega)
  · obtain ⟨b, off, rfl, hlt, _⟩ := h5 0 h0
    simp only [Value.slice.injEq, Option.some.injEq] at e
    obtain ⟨rfl, _⟩ := e
    exact .inr (by simp; omega)
theorem SlI.grown {w w' : World} {k : IntKind} {v : Value} {l : List Int} {g : Nat} (h : SlI w k v l) (hg : w.grownBy w' (some g)) (ho : offB g v) : SlI w' k v l := by
  obtain ⟨h1, h2, a, cap, rfl, h4, h5⟩ := h
  refine ⟨h1, h2, a, cap, rfl, h4, fun t ht => ?_⟩
  obtain ⟨b, off, rfl, hlt, hc⟩ := h5 t ht
  have hb : b ≠ g := (ho _ _ _ rfl).resolve_left (by omega)
  exact ⟨b, off, rfl, Nat.lt_of_lt_of_le hlt hg.size, (World.cell?_of_block (a := ⟨b, off + t, none⟩) (hg.block b hlt (by simpa using hb))).trans hc⟩
theorem OwnI.mono_base {w : World} {base b' : Nat} {e : TypeId} {k : IntKind} {v : Value} {l : List Int} (h : OwnI w base e k v l) (hb : b' ≤ base) : OwnI w b' e k v l := by
  refine ⟨h.1, ?_⟩
  rcases h.2 with h1 | ⟨g, cap, cur, h1, h2, h3⟩
  · exact .inl h1
  · exact .inr ⟨g, cap, cur, h1, Nat.le_trans hb h2, h3⟩
theorem undrewB {B : Nat} {a b : World} (h : Below B a.drew b) : Below B a b := ⟨h.os, h.tape, h.output, h.size, h.block⟩
theorem undrewG {a b : World} {row : Option Nat} (h : a.drew.grownBy b row) : a.grownBy b row := ⟨h.os, h.tape, h.output, h.size, h.block⟩
/-- what was laid in the newest block reads later as it did -/
theorem below_last {a b : World} {o : Obj} (h : Below (a.alloc o).heap.size (a.alloc o) b) (j : Nat) : b.cell? ⟨a.heap.size, j, none⟩ = (a.alloc o).cell? ⟨a.heap.size, j, none⟩ := h.cell (p := ⟨a.heap.size, j, none⟩) (by simp)
theorem SlI.litAt (w : World) (k : IntKind) (e : TypeId) (l : List Int) (g : Nat) (hg : g = w.heap.size) (hw : ∀ x ∈ l, x = k.wrap x) (hl : l.length ≤ 140737488351232) :
    SlI (w.alloc (.cells (l.map (Value.int k)).toArray e)) k (.slice (some ⟨g, 0, none⟩) l.length l.length) l := by
  subst hg; exact SlI.lit w k e l hw hl
theorem i64_ok (x : Int) (h0 : -9223372036854775808 ≤ x) (h1 : x ≤ 9223372036854775807) : x = IntKind.i64.wrap x := by
  rw [IntKind.wrap_i64]; omega
end Go.Proofs.Ytimgcehogalhcaa
