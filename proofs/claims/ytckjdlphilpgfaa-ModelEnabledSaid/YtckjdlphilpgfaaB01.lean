import Derived.WalkKit
import Derived.WalkLawsBesides
import Derived.WalkSpells
import Derived.ProofKit
import Derived.Lib.Hide
import Derived.LoopTactic
import Derived.Test.YtckjdlphilpgfaaRows
import Derived.SizedLaws
import Derived.OpenShut
set_option linter.unusedVariables false
set_option linter.unusedSimpArgs false
/- Slices of whole numbers that a call only reads, and slices that it owns: words that the contracts of all layers use. -/
namespace Go.Proofs.Ytckjdlphilpgfaa
open Go.ChangeShapes Go.WideShapes Go.ChangeAt Go.RowKit
set_option maxRecDepth 100000

theorem ret_u64 {a b : Int} (h : a = b) : Ending.returned (.int .u64 a) = .returned (.int .u64 b) := by rw [h]
theorem ret_i64 {a b : Int} (h : a = b) : Ending.returned (.int .i64 a) = .returned (.int .i64 b) := by rw [h]
theorem ret_bool {a b : Bool} (h : a = b) : Ending.returned (.bool a) = .returned (.bool b) := by rw [h]

/-- The slice value v reads in w as the list l of numbers of kind k. -/
def SlI (w : World) (k : IntKind) (v : Value) (l : List Int) : Prop :=
  l.length ≤ 140737488351232 ∧ (∀ x ∈ l, x = k.wrap x) ∧ ∃ a cap, v = .slice a l.length cap ∧ l.length ≤ cap ∧
    ∀ t, t < l.length → ∃ b off, a = some ⟨b, off, none⟩ ∧ b < w.heap.size ∧ w.cell? ⟨b, off + t, none⟩ = some (.int k (l.getD t 0))
theorem SlI.below {w w' : World} {k : IntKind} {v : Value} {l : List Int} (h : SlI w k v l) (hb : Below w.heap.size w w') : SlI w' k v l := by
  obtain ⟨h1, h2, a, cap, h3, h4, h5⟩ := h
  refine ⟨h1, h2, a, cap, h3, h4, fun t ht => ?_⟩
  obtain ⟨b, off, e, hlt, hc⟩ := h5 t ht
  exact ⟨b, off, e, Nat.lt_of_lt_of_le hlt hb.size, (hb.cell (p := ⟨b, off + t, none⟩) hlt).trans hc⟩
theorem SlI.drew {w : World} {k : IntKind} {v : Value} {l : List Int} (h : SlI w k v l) (n : Nat) : SlI (w.drewN n) k v l := h
/-- opened where it is not empty -/
theorem SlI.open {w : World} {k : IntKind} {v : Value} {l : List Int} (h : SlI w k v l) (hne : l ≠ []) :
    ∃ b off cap, v = .slice (some ⟨b, off, none⟩) l.length cap ∧ l.length ≤ cap ∧ b < w.heap.size ∧ ∀ t, t < l.length → w.cell? ⟨b, off + t, none⟩ = some (.int k (l.getD t 0)) := by
  obtain ⟨_, _, a, cap, rfl, h4, h5⟩ := h
  obtain ⟨b, off, rfl, hlt, _⟩ := h5 0 (List.length_pos_iff.2 hne)
  refine ⟨b, off, cap, rfl, h4, hlt, fun t ht => ?_⟩
  obtain ⟨b', off', e, _, hc⟩ := h5 t ht
  simp only [Option.some.injEq, Addr.mk.injEq] at e
  obtain ⟨rfl, rfl, _⟩ := e
  exact hc
theorem SlI.len {w : World} {k : IntKind} {v : Value} {l : List Int} (h : SlI w k v l) : ∃ a cap, v = .slice a l.length cap ∧ l.length ≤ cap := by
  obtain ⟨_, _, a, cap, rfl, h4, h5⟩ := h
  exact ⟨a, cap, rfl, h4⟩
theorem SlI.nil (w : World) (k : IntKind) : SlI w k (.slice none 0 0) [] :=
  ⟨by simp, by simp, none, 0, rfl, Nat.le_refl _, fun t ht => by simp at ht⟩
/-- The slice value v owns, among the blocks from base on, a row of numbers of kind k that reads as l (element type e). -/
def OwnI (w : World) (base : Nat) (e : TypeId) (k : IntKind) (v : Value) (l : List Int) : Prop :=
  w.ownsRow base e 1 v l.length (l.map (.int k))
theorem OwnI.shape {w : World} {base : Nat} {e : TypeId} {k : IntKind} {v : Value} {l : List Int} (h : OwnI w base e k v l) :
    (v = .slice none 0 0 ∧ l = []) ∨ ∃ g cap, v = .slice (some ⟨g, 0, none⟩) l.length cap ∧ base ≤ g ∧ g < w.heap.size ∧ l.length ≤ cap ∧ l.length ≤ maxLen := by
  rcases h.2 with ⟨rfl, h2⟩ | ⟨g, cap, cur, rfl, h3, h4, h5, h6, _, _⟩
  · exact .inl ⟨rfl, List.length_eq_zero_iff.1 h2⟩
  · refine .inr ⟨g, cap, rfl, h3, ?_, h5, by omega⟩
    exact (Array.getElem?_eq_some_iff.1 h4).1
theorem OwnI.cell {w : World} {base : Nat} {e : TypeId} {k : IntKind} {g n cap : Nat} {l : List Int} (h : OwnI w base e k (.slice (some ⟨g, 0, none⟩) n cap) l) (i : Nat) (hi : i < l.length) :
    w.cell? ⟨g, i, none⟩ = some (.int k (l.getD i 0)) ∧ w.frozen? ⟨g, i, none⟩ = false := by
  have hn : n = l.length := by
    rcases h.2 with ⟨h1, h2⟩ | ⟨g, cap, cur, h1, _⟩
    · simp at h1
    · simp only [Value.slice.injEq] at h1; exact h1.2.1
  subst hn
  refine ⟨?_, h.frozenAt i⟩
  rw [World.ownsRow.cellAt h i (by omega)]
  simp [List.getD_eq_getElem?_getD, hi]
theorem OwnI.store {w : World} {base : Nat} {e : TypeId} {k : IntKind} {g n cap : Nat} {l : List Int} (h : OwnI w base e k (.slice (some ⟨g, 0, none⟩) n cap) l) (i : Nat) (x : Int) (hn : n = l.length) :
    OwnI (w.setCell ⟨g, i, none⟩ (.int k x)) base e k (.slice (some ⟨g, 0, none⟩) n cap) (l.set i x) := by
  subst hn
  have := (World.ownsRow.stored h i (.int k x)).1
  unfold OwnI
  rw [List.length_set, List.map_set]
  exact this
theorem OwnI.drew {w : World} {base : Nat} {e : TypeId} {k : IntKind} {v : Value} {l : List Int} (h : OwnI w base e k v l) (n : Nat) : OwnI (w.drewN n) base e k v l := h
/-- what is owned reads -/
theorem OwnI.read {w : World} {base : Nat} {e : TypeId} {k : IntKind} {v : Value} {l : List Int} (h : OwnI w base e k v l) (hl : l.length ≤ 140737488351232) (hw : ∀ x ∈ l, x = k.wrap x) : SlI w k v l := by
  rcases h.shape with ⟨rfl, rfl⟩ | ⟨g, cap, rfl, h1, h2, h3, h4⟩
  · exact SlI.nil w k
  · refine ⟨hl, hw, some ⟨g, 0, none⟩, cap, rfl, h3, fun t ht => ⟨g, 0, rfl, h2, ?_⟩⟩
    rw [Nat.zero_add]; exact (h.cell t ht).1
theorem OwnI.kept {w w' : World} {base : Nat} {e : TypeId} {k : IntKind} {v : Value} {l : List Int} {row : Option Nat} (h : OwnI w base e k v l) (hg : w.grownBy w' row) (hne : v.ownBlock = none ∨ v.ownBlock ≠ row) : OwnI w' base e k v l := World.ownsRow.kept h hg hne
theorem OwnI.below {w w' : World} {base : Nat} {e : TypeId} {k : IntKind} {v : Value} {l : List Int} (h : OwnI w base e k v l) (hb : Below w.heap.size w w') : OwnI w' base e k v l := by
  refine h.kept (row := none) ⟨hb.os, hb.tape, hb.output, hb.size, fun j hj _ => hb.block j hj⟩ ?_
  cases hv : v.ownBlock with
  | none => exact .inl rfl
  | some x => exact .inr (by simp)
theorem OwnI.alloc {w : World} {base : Nat} {e : TypeId} {k : IntKind} {v : Value} {l : List Int} (h : OwnI w base e k v l) (o : Obj) : OwnI (w.alloc o) base e k v l := World.ownsRow.alloc h o
theorem OwnI.ne {w : World} {base : Nat} {e : TypeId} {k : IntKind} {v : Value} {l : List Int} (h : OwnI w base e k v l) {g : Nat} (hg : g < base) : v.ownBlock = none ∨ v.ownBlock ≠ some g := by
  rcases h.shape with ⟨rfl, _⟩ | ⟨g', cap, rfl, h1, _⟩
  · exact .inl rfl
  · refine .inr ?_
    simp only [Value.ownBlock, ne_eq, Option.some.injEq]
    omega
theorem OwnI.nil (w : World) (base : Nat) (e : TypeId) (k : IntKind) : OwnI w base e k (.slice none 0 0) [] := World.ownsRow_nil w base e 1
theorem grownBy_trans {a b c : World} {row : Option Nat} (h : a.grownBy b row) (h2 : b.grownBy c row) : a.grownBy c row :=
  ⟨h2.os.trans h.os, h2.tape.trans h.tape, h2.output.trans h.output, Nat.le_trans h.size h2.size, fun k hk hr => (h2.block k (Nat.lt_of_lt_of_le hk h.size) hr).trans (h.block k hk hr)⟩
theorem grownBy_refl (a : World) (row : Option Nat) : a.grownBy a row := ⟨rfl, rfl, rfl, Nat.le_refl _, fun _ _ _ => rfl⟩
theorem grownBy_of_below {a b c : World} {row : Option Nat} (h : a.grownBy b row) (h2 : Below a.heap.size b c) : a.grownBy c row :=
  ⟨h2.os.trans h.os, h2.tape.trans h.tape, h2.output.trans h.output, Nat.le_trans h.size h2.size, fun k hk hr => (h2.block k hk).trans (h.block k hk hr)⟩
theorem grownBy_of_new {a b c : World} {row r2 : Option Nat} (h : a.grownBy b row) (h2 : b.grownBy c r2) (hr2 : ∀ k, r2 = some k → a.heap.size ≤ k) : a.grownBy c row :=
  ⟨h2.os.trans h.os, h2.tape.trans h.tape, h2.output.trans h.output, Nat.le_trans h.size h2.size, fun k hk hr => (h2.block k (Nat.lt_of_lt_of_le hk h.size) (fun e => by have := hr2 k e.symm; omega)).trans (h.block k hk hr)⟩
theorem grownBy_setCell (w : World) (a : Addr) (u : Value) : w.grownBy (w.setCell a u) (some a.block) :=
  ⟨rfl, rfl, rfl, by simp, fun k _ hk => heap_setCell_other w a k u (fun e => hk (by rw [e]))⟩
theorem OwnI.setOther {w : World} {base : Nat} {e : TypeId} {k : IntKind} {g n cap : Nat} {l : List Int} (h : OwnI w base e k (.slice (some ⟨g, 0, none⟩) n cap) l) (a : Addr) (hne : g ≠ a.block) (u : Value) :
    OwnI (w.setCell a u) base e k (.slice (some ⟨g, 0, none⟩) n cap) l :=
  h.kept (grownBy_setCell w a u) (.inr (by simpa [Value.ownBlock] using hne))
theorem OwnI.own_ge {w : World} {base : Nat} {e : TypeId} {k : IntKind} {v : Value} {l : List Int} (h : OwnI w base e k v l) : ∀ j, v.ownBlock = some j → base ≤ j := fun j hj => (World.ownsRow.lt h j hj).1
/-- the head of what is owned reads -/
theorem OwnI.readTake {w : World} {base : Nat} {e : TypeId} {k : IntKind} {g n cap : Nat} {l : List Int} (h : OwnI w base e k (.slice (some ⟨g, 0, none⟩) n cap) l) (m : Nat) (hm : m ≤ l.length) (hl : l.length ≤ 140737488351232) (hw : ∀ x ∈ l, x = k.wrap x) :
    SlI w k (.slice (some ⟨g, 0, none⟩) m cap) (l.take m) := by
  have hlen : (l.take m).length = m := by simp; omega
  obtain ⟨h1, h2, a, cap', e1, h4, h5⟩ := h.read hl hw
  simp only [Value.slice.injEq] at e1
  obtain ⟨rfl, rfl, rfl⟩ := e1
  refine ⟨by omega, fun x hx => hw x (List.mem_of_mem_take hx), _, cap, by rw [hlen], by omega, fun t ht => ?_⟩
  obtain ⟨b, off, e2, e3, e4⟩ := h5 t (by omega)
  refine ⟨b, off, e2, e3, ?_⟩
  rw [e4]
  simp [List.getD_eq_getElem?_getD, show t < m by omega]
/-- The slice value v owns a row that reads as the bools l. -/
def OwnB (w : World) (base : Nat) (e : TypeId) (v : Value) (l : List Bool) : Prop := w.ownsRow base e 1 v l.length (l.map Value.bool)
theorem OwnB.cell {w : World} {base : Nat} {e : TypeId} {g n cap : Nat} {l : List Bool} (h : OwnB w base e (.slice (some ⟨g, 0, none⟩) n cap) l) (i : Nat) (hi : i < l.length) :
    w.cell? ⟨g, i, none⟩ = some (.bool (l.getD i false)) ∧ w.frozen? ⟨g, i, none⟩ = false := by
  have hn : n = l.length := by
    rcases h.2 with ⟨h1, h2⟩ | ⟨g, cap, cur, h1, _⟩
    · simp at h1
    · simp only [Value.slice.injEq] at h1; exact h1.2.1
  subst hn
  refine ⟨?_, h.frozenAt i⟩
  rw [World.ownsRow.cellAt h i (by omega)]
  simp [List.getD_eq_getElem?_getD, hi]
theorem OwnB.store {w : World} {base : Nat} {e : TypeId} {g n cap : Nat} {l : List Bool} (h : OwnB w base e (.slice (some ⟨g, 0, none⟩) n cap) l) (i : Nat) (x : Bool) (hn : n = l.length) :
    OwnB (w.setCell ⟨g, i, none⟩ (.bool x)) base e (.slice (some ⟨g, 0, none⟩) n cap) (l.set i x) := by
  subst hn
  have := (World.ownsRow.stored h i (.bool x)).1
  unfold OwnB
  rw [List.length_set, List.map_set]
  exact this
theorem below_then {w a b : World} (h : Below w.heap.size w a) (hb : Below a.heap.size a b) : Below w.heap.size w b := h.trans (hb.mono h.size)
theorem below_new {w a : World} (h : Below w.heap.size w a) (o : Obj) : Below w.heap.size w (a.alloc o) := h.alloc h.size o
theorem below_grown {w a b : World} {g : Nat} (h : Below w.heap.size w a) (hb : a.grownBy b (some g)) (hg : w.heap.size ≤ g) : Below w.heap.size w b := h.grown hb h.size fun k hk => by cases hk; exact hg
/-- a list that was just written out -/
theorem SlI.lit (w : World) (k : IntKind) (e : TypeId) (l : List Int) (hw : ∀ x ∈ l, x = k.wrap x) (hl : l.length ≤ 140737488351232) :
    SlI (w.alloc (.cells (l.map (Value.int k)).toArray e)) k (.slice (some ⟨w.heap.size, 0, none⟩) l.length l.length) l := by
  refine ⟨hl, hw, _, _, rfl, Nat.le_refl _, fun t ht => ⟨_, 0, rfl, by simp, ?_⟩⟩
  rw [World.cell?_alloc_at _ _ _ _ rfl, Nat.zero_add]
  simp [List.getD_eq_getElem?_getD, ht]
/-- the slice does not lie in block g -/
def offB (g : Nat) (v : Value) : Prop := ∀ a n c, v = .slice (some a) n c → n = 0 ∨ a.block ≠ g
theorem offB.nil (g : Nat) : offB g (.slice none 0 0) := fun a n c h => by simp at h
theorem OwnI.off {w : World} {base : Nat} {e : TypeId} {k : IntKind} {v : Value} {l : List Int} (h : OwnI w base e k v l) {g : Nat} (hg : g < base) : offB g v := by
  intro a n c e
  subst e
  have := h.own_ge a.block rfl
  exact .inr (by omega)
theorem SlI.offOf {w : World} {k : IntKind} {v : Value} {l : List Int} (h : SlI w k v l) {g : Nat} (hg : w.heap.size ≤ g) : offB g v := by
  intro a n c e
  obtain ⟨_, _, a', cap, rfl, _, h5⟩ := h
  rcases Nat.eq_zero_or_pos l.length with h0 | h0
  · simp only [Value.slice.injEq] at e; exact .inl (by omega)
  · obtain ⟨b, off, rfl, hlt, _⟩ := h5 0 h0
    simp only [Value.slice.injEq, Option.some.injEq] at e
    obtain ⟨rfl, _⟩ := e
    exact .inr (by simp; omega)
theorem SlI.grown {w w' : World} {k : IntKind} {v : Value} {l : List Int} {g : Nat} (h : SlI w k v l) (hg : w.grownBy w' (some g)) (ho : offB g v) : SlI w' k v l := by
  obtain ⟨h1, h2, a, cap, rfl, h4, h5⟩ := h
  refine ⟨h1, h2, a, cap, rfl, h4, fun t ht => ?_⟩
  obtain ⟨b, off, rfl, hlt, hc⟩ := h5 t ht
  have hb : b ≠ g := (ho _ _ _ rfl).resolve_left (by omega)
  exact ⟨b, off, rfl, Nat.lt_of_lt_of_le hlt hg.size, (World.cell?_of_block (a := ⟨b, off + t, none⟩) (hg.block b hlt (by simpa using hb))).trans hc⟩
theorem OwnI.mono_base {w : World} {base b' : Nat} {e : TypeId} {k : IntKind} {v : Value} {l : List Int} (h : OwnI w base e k v l) (hb : b' ≤ base) : OwnI w b' e k v l := by
  refine ⟨h.1, ?_⟩
  rcases h.2 with h1 | ⟨g, cap, cur, h1, h2, h3⟩
  · exact .inl h1
  · exact .inr ⟨g, cap, cur, h1, Nat.le_trans hb h2, h3⟩
theorem undrewB {B : Nat} {a b : World} (h : Below B a.drew b) : Below B a b := ⟨h.os, h.tape, h.output, h.size, h.block⟩
theorem undrewG {a b : World} {row : Option Nat} (h : a.drew.grownBy b row) : a.grownBy b row := ⟨h.os, h.tape, h.output, h.size, h.block⟩
/-- what was laid in the newest block reads later as it did -/
theorem below_last {a b : World} {o : Obj} (h : Below (a.alloc o).heap.size (a.alloc o) b) (j : Nat) : b.cell? ⟨a.heap.size, j, none⟩ = (a.alloc o).cell? ⟨a.heap.size, j, none⟩ := h.cell (p := ⟨a.heap.size, j, none⟩) (by simp)
theorem SlI.litAt (w : World) (k : IntKind) (e : TypeId) (l : List Int) (g : Nat) (hg : g = w.heap.size) (hw : ∀ x ∈ l, x = k.wrap x) (hl : l.length ≤ 140737488351232) :
    SlI (w.alloc (.cells (l.map (Value.int k)).toArray e)) k (.slice (some ⟨g, 0, none⟩) l.length l.length) l := by
  subst hg; exact SlI.lit w k e l hw hl
theorem i64_ok (x : Int) (h0 : -9223372036854775808 ≤ x) (h1 : x ≤ 9223372036854775807) : x = IntKind.i64.wrap x := by
  rw [IntKind.wrap_i64]; omega
end Go.Proofs.Ytckjdlphilpgfaa
/- From the reading of a law's arguments to the words of the walks, and from a walk to the row. -/
namespace Go.Proofs.Ytckjdlphilpgfaa
open Go.ChangeShapes Go.WideShapes Go.ChangeAt Go.RowKit
set_option maxRecDepth 100000

theorem own : ownKnob Try.prog.godebug = none := by kernel_rfl
theorem Try.laidOut : laidOutB Try.prog = true := by kernel_rfl
theorem wrap_of_wf {k : IntKind} {n : Int} (h : (Lit.int k n).wf = true) : n = k.wrap n := by
  cases k <;> simp [Lit.wf, IntKind.min, IntKind.max, IntKind.signed, IntKind.bits] at h <;> simp [IntKind.wrap, IntKind.bits, IntKind.signed] <;> omega
set_option maxRecDepth 100000 in
/-- AN ARGUMENT THAT IS A SLICE OF WHOLE NUMBERS, nil or not. -/
theorem view_sl {H : Type} {enc : TypeId × Value → H} {W : World} {t e : TypeId} {k : IntKind} {v : Value} {d : DataW H} {p : List MemPlace} (ht : Try.prog.underlying t = some (.slice e)) (he : Try.prog.underlying e = some (.int k)) (hc : Try.prog.cellsOf e = 1)
    (hsz : ∀ elems sp, d = .slice elems sp → (elems.length + sp.length) * Try.prog.bytesOf e ≤ reachBytes) (hby : 1 ≤ Try.prog.bytesOf e)
    (hval : Value.okWide Try.prog W .any 0 t v) (hd : DataW.Trod enc Try.prog W 0 (fun _ => true) true t v d p) : ∃ l, SlI W k v l := by
  obtain ⟨a0, len, cap, rfl⟩ := okWide_slice ht hval
  obtain ⟨fuel, hf⟩ := hd
  rcases open_ints ht he hc hf with ⟨hcs, hx⟩ | ⟨a, len', cap', zs, hcs, _, hl, hm, hz, hx, hcell, hwz⟩
  · simp [Value.cells] at hcs
    obtain ⟨rfl, rfl, rfl⟩ := hcs
    exact ⟨[], SlI.nil _ _⟩
  · simp [Value.cells] at hcs
    obtain ⟨rfl, rfl, rfl⟩ := hcs
    simp only [Prod.mk.injEq] at hx
    obtain ⟨rfl, rfl⟩ := hx
    simp only [if_true] at hz
    have hle : len ≤ 140737488351232 := by
      have h1 := hsz _ _ rfl
      simp only [lits, List.length_map, List.length_take, List.length_drop, reachBytes] at h1
      have h2 : (min len zs.length + (zs.length - len)) * 1 ≤ (min len zs.length + (zs.length - len)) * Try.prog.bytesOf e := Nat.mul_le_mul_left _ hby
      omega
    have hlen : (zs.take len).length = len := by simp; omega
    refine ⟨zs.take len, by omega, fun x hx => wrap_of_wf (hwz x (List.mem_of_mem_take hx)), some a, cap, by rw [hlen], by omega, fun i hi => ?_⟩
    have hi' : i < len := by omega
    have hc := hcell i (by omega)
    have h0 := hcell 0 (by omega)
    obtain ⟨b, off, sp⟩ := a
    have hsp : sp = none := by simpa [Addr.add] using World.cell?_spot h0
    subst hsp
    rw [add_plain] at hc
    refine ⟨b, off, rfl, by simpa using World.block_lt_of_cell? W _ hc, ?_⟩
    rw [hc]
    simp [List.getD_eq_getElem?_getD, hi']
end Go.Proofs.Ytckjdlphilpgfaa
/- The shared memory, plainly: what an access makes of it. And how a memory reads. -/
namespace Go.Proofs.Ytckjdlphilpgfaa
open Go.ChangeShapes Go.WideShapes Go.ChangeAt Go.RowKit
set_option maxRecDepth 100000

theorem rowc3 {w : World} {g : Nat} {T : TypeId} {v0 v1 v2 : Value} (h : w.heap[g]? = some (.cells #[v0, v1, v2] T (0, 0))) :
    w.cell? ⟨g, 0, none⟩ = some v0 ∧ w.cell? ⟨g, 1, none⟩ = some v1 ∧ w.cell? ⟨g, 2, none⟩ = some v2 :=
  ⟨cell_of_row _ _ 0 _ _ _ h, cell_of_row _ _ 1 _ _ _ h, cell_of_row _ _ 2 _ _ _ h⟩
theorem rowc4 {w : World} {g : Nat} {T : TypeId} {v0 v1 v2 v3 : Value} (h : w.heap[g]? = some (.cells #[v0, v1, v2, v3] T (0, 0))) :
    w.cell? ⟨g, 0, none⟩ = some v0 ∧ w.cell? ⟨g, 1, none⟩ = some v1 ∧ w.cell? ⟨g, 2, none⟩ = some v2 ∧ w.cell? ⟨g, 3, none⟩ = some v3 :=
  ⟨cell_of_row _ _ 0 _ _ _ h, cell_of_row _ _ 1 _ _ _ h, cell_of_row _ _ 2 _ _ _ h, cell_of_row _ _ 3 _ _ _ h⟩
theorem rowc5 {w : World} {g : Nat} {T : TypeId} {v0 v1 v2 v3 v4 : Value} (h : w.heap[g]? = some (.cells #[v0, v1, v2, v3, v4] T (0, 0))) :
    w.cell? ⟨g, 0, none⟩ = some v0 ∧ w.cell? ⟨g, 1, none⟩ = some v1 ∧ w.cell? ⟨g, 2, none⟩ = some v2 ∧ w.cell? ⟨g, 3, none⟩ = some v3 ∧ w.cell? ⟨g, 4, none⟩ = some v4 :=
  ⟨cell_of_row _ _ 0 _ _ _ h, cell_of_row _ _ 1 _ _ _ h, cell_of_row _ _ 2 _ _ _ h, cell_of_row _ _ 3 _ _ _ h, cell_of_row _ _ 4 _ _ _ h⟩
theorem row_grown (w : World) (g : Nat) (cs : Array Value) : w.grownBy (w.setRow g cs) (some g) :=
  ⟨rfl, rfl, rfl, by simp [World.setRow], fun k _ hk => setRow_other w g k cs (fun e => hk (by rw [e]))⟩
theorem row_below {B g : Nat} {a w : World} (h : Below B a w) (hB : B ≤ g) (cs : Array Value) : Below B a (w.setRow g cs) :=
  ⟨h.os, h.tape, h.output, by simpa [World.setRow] using h.size, fun k hk => (setRow_other w g k cs (by omega)).trans (h.block k hk)⟩
theorem grown_below {a b : World} {row : Option Nat} (h : Below a.heap.size a b) : a.grownBy b row := ⟨h.os, h.tape, h.output, h.size, fun j hj _ => h.block j hj⟩
structure MemM where
  words : List Int
  lists : List (List Int)
  tick : Int
structure AccM where
  kind : Int
  addr : Int
  old : Int
  new : Int
  til : Int
structure AnsM where
  val : Int
  ok : Bool
  late : Bool
  list : List Int
def ansZ : AnsM := ⟨0, false, false, []⟩
def hasB (n : Nat) (a : Int) : Bool := decide (0 ≤ a) && decide (a < n)
def comeB (t til : Int) : Bool := decide (0 < til) && decide (til - 1 ≤ t)
def grantB (m : MemM) (a : AccM) : Bool :=
  if a.kind = 4 then !hasB m.words.length a.addr || m.words.getD a.addr.toNat 0 != a.old || comeB m.tick a.til
  else decide (1 ≤ a.kind) && decide (a.kind ≤ 9)
/-- the list that an Add or a Drop leaves -/
def nextL (k x : Int) (l : List Int) : List Int := if k = 8 then (if l.length < 1000 then l ++ [x] else l) else l.erase x
def listE (m : MemM) (a : AccM) : MemM × AnsM :=
  if hasB m.lists.length a.addr = false then (m, ansZ) else
  if a.kind = 7 then (m, ⟨0, false, false, m.lists.getD a.addr.toNat []⟩) else
  (⟨m.words, m.lists.set a.addr.toNat (nextL a.kind (IntKind.i64.wrap a.new) (m.lists.getD a.addr.toNat [])), m.tick⟩, ⟨(nextL a.kind (IntKind.i64.wrap a.new) (m.lists.getD a.addr.toNat [])).length, false, false, []⟩)
def wordE (m : MemM) (a : AccM) : MemM × AnsM :=
  if hasB m.words.length a.addr = false then (m, ansZ) else
  if a.kind = 2 ∨ a.kind = 6 then (⟨m.words.set a.addr.toNat a.new, m.lists, m.tick⟩, ansZ) else
  if a.kind = 3 then (if m.words.getD a.addr.toNat 0 = a.old then (⟨m.words.set a.addr.toNat a.new, m.lists, m.tick⟩, ⟨m.words.getD a.addr.toNat 0, true, false, []⟩) else (m, ⟨m.words.getD a.addr.toNat 0, false, false, []⟩)) else
  if a.kind = 4 then (m, ⟨m.words.getD a.addr.toNat 0, false, m.words.getD a.addr.toNat 0 == a.old, []⟩)
  else (m, ⟨m.words.getD a.addr.toNat 0, false, false, []⟩)
def applyE (m : MemM) (a : AccM) : MemM × AnsM × Bool :=
  if grantB m a = false then (m, ansZ, false) else
  if 7 ≤ a.kind then ((listE m a).1, (listE m a).2, true) else ((wordE m a).1, (wordE m a).2, true)
def tickE (m : MemM) (n : Int) : MemM := if n < 1 then m else ⟨m.words, m.lists, min (m.tick + n) 1099511627776⟩
/-- a memory of a modest size -/
structure MemM.fits (m : MemM) : Prop where
  words : m.words.length ≤ 100000
  lists : m.lists.length ≤ 100000
  each : ∀ t, (m.lists.getD t []).length ≤ 100000
  wf : ∀ x ∈ m.words, x = IntKind.u64.wrap x
  tick : m.tick = IntKind.i64.wrap m.tick
structure AccM.ok (a : AccM) : Prop where
  kind : a.kind = IntKind.i64.wrap a.kind
  addr : a.addr = IntKind.i64.wrap a.addr
  old : a.old = IntKind.u64.wrap a.old
  new : a.new = IntKind.u64.wrap a.new
  til : a.til = IntKind.i64.wrap a.til
theorem nextL_length (k x : Int) (l : List Int) (h : l.length ≤ 100000) : (nextL k x l).length ≤ 100000 := by
  unfold nextL
  split
  · split
    · simp; omega
    · exact h
  · exact Nat.le_trans (List.length_erase_le ..) h
theorem getD_setL {α : Type} (l : List α) (i t : Nat) (x d : α) : (l.set i x).getD t d = if i = t ∧ t < l.length then x else l.getD t d := by
  simp only [List.getD_eq_getElem?_getD, List.getElem?_set]
  by_cases h : i = t
  · subst h
    by_cases h2 : i < l.length
    · simp [h2]
    · simp [h2]
  · simp [h]
theorem fits_set {m : MemM} (h : m.fits) (i : Nat) (l : List Int) (hl : l.length ≤ 100000) : MemM.fits ⟨m.words, m.lists.set i l, m.tick⟩ := by
  refine ⟨h.words, by simpa using h.lists, fun t => ?_, h.wf, h.tick⟩
  show ((m.lists.set i l).getD t []).length ≤ _
  rw [getD_setL]
  split
  · exact hl
  · exact h.each t
theorem fits_put {m : MemM} (h : m.fits) (i : Nat) (x : Int) (hx : x = IntKind.u64.wrap x) : MemM.fits ⟨m.words.set i x, m.lists, m.tick⟩ := by
  refine ⟨by simpa using h.words, h.lists, h.each, fun y hy => ?_, h.tick⟩
  rcases List.mem_or_eq_of_mem_set hy with hy | rfl
  · exact h.wf y hy
  · exact hx
theorem fits_apply {m : MemM} {a : AccM} (h : m.fits) (ha : a.ok) : (applyE m a).1.fits := by
  unfold applyE
  split
  · exact h
  · split
    · unfold listE
      split
      · exact h
      · split
        · exact h
        · exact fits_set h _ _ (nextL_length _ _ _ (h.each _))
    · unfold wordE
      split
      · exact h
      · split
        · exact fits_put h _ _ ha.new
        · split
          · split
            · exact fits_put h _ _ ha.new
            · exact h
          · split <;> exact h
/-- The slice value v reads in w as the list us of slices, which read as the lists ll of numbers. -/
def SlL (w : World) (v : Value) (us : List Value) (ll : List (List Int)) : Prop :=
  ll.length ≤ 140737488351232 ∧ us.length = ll.length ∧ ∃ a cap, v = .slice a ll.length cap ∧ ll.length ≤ cap ∧
    ∀ t, t < ll.length → ∃ b off, a = some ⟨b, off, none⟩ ∧ b < w.heap.size ∧ w.cell? ⟨b, off + t, none⟩ = some (us.getD t (.slice none 0 0)) ∧ SlI w .i64 (us.getD t (.slice none 0 0)) (ll.getD t [])
theorem SlL.below {w w' : World} {v : Value} {us : List Value} {ll : List (List Int)} (h : SlL w v us ll) (hb : Below w.heap.size w w') : SlL w' v us ll := by
  obtain ⟨h1, h2, a, cap, h3, h4, h5⟩ := h
  refine ⟨h1, h2, a, cap, h3, h4, fun t ht => ?_⟩
  obtain ⟨b, off, e, hlt, hc, hu⟩ := h5 t ht
  exact ⟨b, off, e, Nat.lt_of_lt_of_le hlt hb.size, (hb.cell (p := ⟨b, off + t, none⟩) hlt).trans hc, hu.below hb⟩
theorem SlL.drew {w : World} {v : Value} {us : List Value} {ll : List (List Int)} (h : SlL w v us ll) (n : Nat) : SlL (w.drewN n) v us ll := h
theorem SlL.len {w : World} {v : Value} {us : List Value} {ll : List (List Int)} (h : SlL w v us ll) : ∃ a cap, v = .slice a ll.length cap ∧ ll.length ≤ cap := by
  obtain ⟨_, _, a, cap, rfl, h4, _⟩ := h
  exact ⟨a, cap, rfl, h4⟩
theorem SlL.nil (w : World) : SlL w (.slice none 0 0) [] [] := ⟨by simp, rfl, none, 0, rfl, Nat.le_refl _, fun t ht => by simp at ht⟩
/-- opened where it is not empty -/
theorem SlL.open {w : World} {v : Value} {us : List Value} {ll : List (List Int)} (h : SlL w v us ll) (hne : ll ≠ []) :
    ∃ b off cap, v = .slice (some ⟨b, off, none⟩) ll.length cap ∧ ll.length ≤ cap ∧ b < w.heap.size ∧ (∀ t, t < ll.length → w.cell? ⟨b, off + t, none⟩ = some (us.getD t (.slice none 0 0))) ∧ ∀ t, t < ll.length → SlI w .i64 (us.getD t (.slice none 0 0)) (ll.getD t []) := by
  obtain ⟨_, _, a, cap, rfl, h4, h5⟩ := h
  obtain ⟨b, off, rfl, hlt, _⟩ := h5 0 (List.length_pos_iff.2 hne)
  refine ⟨b, off, cap, rfl, h4, hlt, fun t ht => ?_, fun t ht => ?_⟩
  · obtain ⟨b', off', e, _, hc, hu⟩ := h5 t ht
    simp only [Option.some.injEq, Addr.mk.injEq] at e
    obtain ⟨rfl, rfl, _⟩ := e
    exact hc
  · obtain ⟨b', off', e, _, hc, hu⟩ := h5 t ht
    exact hu
/-- The struct value v reads in w as the memory m. -/
def MemV (w : World) (v : Value) (m : MemM) : Prop :=
  ∃ vw vl us, v = .agg #[vw, vl, .int .i64 m.tick] ∧ SlI w .u64 vw m.words ∧ SlL w vl us m.lists
theorem MemV.below {w w' : World} {v : Value} {m : MemM} (h : MemV w v m) (hb : Below w.heap.size w w') : MemV w' v m := by
  obtain ⟨vw, vl, us, e, h1, h2⟩ := h; exact ⟨vw, vl, us, e, h1.below hb, h2.below hb⟩
def accV (a : AccM) : Value := .agg #[.int .i64 a.kind, .int .i64 a.addr, .int .u64 a.old, .int .u64 a.new, .int .i64 a.til]
/-- w2 has what lay from w on in w' -/
structure NewPart (w w' w2 : World) : Prop where
  size : w'.heap.size ≤ w2.heap.size
  same : ∀ j, w.heap.size ≤ j → j < w'.heap.size → w2.heap[j]? = w'.heap[j]?
/-- a set of worlds that more memory does not leave -/
def Wide (G : World → Prop) : Prop := ∀ w1 w2, G w1 → Below w1.heap.size w1 w2 → G w2
/-- the worlds of G that have what a call made -/
def Nx (G : World → Prop) (w w' : World) : World → Prop := fun w2 => G w2 ∧ NewPart w w' w2
theorem Nx.wide {G : World → Prop} (h : Wide G) (w w' : World) : Wide (Nx G w w') := fun w1 w2 h1 hb =>
  ⟨h _ _ h1.1 hb, ⟨Nat.le_trans h1.2.size hb.size, fun j hj hj2 => (hb.block j (Nat.lt_of_lt_of_le hj2 h1.2.size)).trans (h1.2.same j hj hj2)⟩⟩
theorem Nx.at {G : World → Prop} {w w' : World} (hG : G w) (h : Wide G) (hb : Below w.heap.size w w') : Nx G w w' w' :=
  ⟨h _ _ hG hb, ⟨Nat.le_refl _, fun _ _ _ => rfl⟩⟩
theorem NewPart.sub {w W W' F w2 : World} (h : NewPart w F w2) (hw : w.heap.size ≤ W.heap.size) (hs : W'.heap.size ≤ F.heap.size) (he : ∀ j, W.heap.size ≤ j → j < W'.heap.size → F.heap[j]? = W'.heap[j]?) : NewPart W W' w2 :=
  ⟨Nat.le_trans hs h.size, fun j hj hj2 => (h.same j (Nat.le_trans hw hj) (Nat.lt_of_lt_of_le hj2 hs)).trans (he j hj hj2)⟩
theorem OwnI.newPart {w w' w2 : World} {base : Nat} {e : TypeId} {k : IntKind} {v : Value} {l : List Int} (h : OwnI w' base e k v l) (hw : w.heap.size ≤ base) (hn : NewPart w w' w2) : OwnI w2 base e k v l := by
  refine ⟨h.1, ?_⟩
  rcases h.2 with h1 | ⟨g, cap, cur, h1, h2, h3, h4⟩
  · exact .inl h1
  · exact .inr ⟨g, cap, cur, h1, h2, (hn.same g (Nat.le_trans hw h2) (Array.getElem?_eq_some_iff.1 h3).1).trans h3, h4⟩
theorem row_newPart {w w' w2 : World} {base n : Nat} {e : TypeId} {v : Value} {us : List Value} (h : w'.ownsRow base e 1 v n us) (hw : w.heap.size ≤ base) (hn : NewPart w w' w2) : w2.ownsRow base e 1 v n us := by
  refine ⟨h.1, ?_⟩
  rcases h.2 with h1 | ⟨g, cap, cur, h1, h2, h3, h4⟩
  · exact .inl h1
  · exact .inr ⟨g, cap, cur, h1, h2, (hn.same g (Nat.le_trans hw h2) (Array.getElem?_eq_some_iff.1 h3).1).trans h3, h4⟩
/-- In all worlds of G the struct value v reads as the memory m. -/
def StM (G : World → Prop) (v : Value) (m : MemM) : Prop :=
  ∃ vw vl us, v = .agg #[vw, vl, .int .i64 m.tick] ∧ ∀ w, G w → SlI w .u64 vw m.words ∧ SlL w vl us m.lists
theorem StM.at {G : World → Prop} {v : Value} {m : MemM} {w : World} (h : StM G v m) (hG : G w) : MemV w v m := by
  obtain ⟨vw, vl, us, e, h1⟩ := h; exact ⟨vw, vl, us, e, h1 w hG⟩
theorem StM.sub {G H : World → Prop} {v : Value} {m : MemM} (h : StM G v m) (hs : ∀ w, H w → G w) : StM H v m := by
  obtain ⟨vw, vl, us, e, h1⟩ := h; exact ⟨vw, vl, us, e, fun w hw => h1 w (hs w hw)⟩
/-- In all worlds of G the slice value v reads as l. -/
def StI (G : World → Prop) (k : IntKind) (v : Value) (l : List Int) : Prop := ∀ w, G w → SlI w k v l
/-- In all worlds of G the struct value v reads as the answer b. -/
def StA (G : World → Prop) (v : Value) (b : AnsM) : Prop :=
  ∃ vl, v = .agg #[.int .u64 b.val, .bool b.ok, .bool b.late, vl] ∧ ∀ w, G w → SlI w .i64 vl b.list
theorem StA.sub {G H : World → Prop} {v : Value} {b : AnsM} (h : StA G v b) (hs : ∀ w, H w → G w) : StA H v b := by
  obtain ⟨vl, e, h1⟩ := h; exact ⟨vl, e, fun w hw => h1 w (hs w hw)⟩
theorem StA.bare (G : World → Prop) (x : Int) (p q : Bool) : StA G (.agg #[.int .u64 x, .bool p, .bool q, .slice none 0 0]) ⟨x, p, q, []⟩ := ⟨_, rfl, fun w _ => SlI.nil _ _⟩
/-- the worlds that hold w's memory -/
def Over (w0 : World) : World → Prop := fun w => Below w0.heap.size w0 w
theorem Over.wide (w0 : World) : Wide (Over w0) := fun _ _ h hb => below_then h hb
theorem Over.self (w0 : World) : Over w0 w0 := Below.refl _ _
theorem MemV.over {w : World} {v : Value} {m : MemM} (h : MemV w v m) : StM (Over w) v m := by
  obtain ⟨vw, vl, us, e, h1, h2⟩ := h; exact ⟨vw, vl, us, e, fun w2 hb => ⟨h1.below hb, h2.below hb⟩⟩
end Go.Proofs.Ytckjdlphilpgfaa
