import Derived.WalkKit
import Derived.WalkLawsBesides
import Derived.WalkSpells
import Derived.ProofKit
import Derived.Lib.Hide
import Derived.LoopTactic
import Derived.Test.YtnbehigjeopniaaRows
import Derived.SizedLaws
import Derived.OpenShut
import Derived.RowKit
set_option linter.unusedVariables false
set_option linter.unusedSimpArgs false
/- Slices of whole numbers that a call only reads, and slices that it owns: words that the contracts of all layers use. -/
namespace Go.Proofs.Ytnbehigjeopniaa
open Go.ChangeShapes Go.WideShapes Go.ChangeAt Go.RowKit
set_option maxRecDepth 100000

theorem ret_u64 {a b : Int} (h : a = b) : Ending.returned (.int .u64 a) = .returned (.int .u64 b) := by rw [h]
theorem ret_i64 {a b : Int} (h : a = b) : Ending.returned (.int .i64 a) = .returned (.int .i64 b) := by rw [h]
theorem ret_bool {a b : Bool} (h : a = b) : Ending.returned (.bool a) = .returned (.bool b) := by rw [h]

/-- The slice value v reads in w as the list l of numbers of kind k. -/
def SlI (w : World) (k : IntKind) (v : Value) (l : List Int) : Prop :=
  l.length ≤ 140737488351232 ∧ (∀ x ∈ l, x = k.wrap x) ∧ ∃ a cap, v = .slice a l.length cap ∧ l.length ≤ cap ∧
    ∀ t, t < l.length → ∃ b off, a = some ⟨b, off, none⟩ ∧ b < w.heap.size ∧ w.cell? ⟨b, off + t, none⟩ = some (.int k (l.getD t 0))
theorem SlI.below {w w' : World} {k : IntKind} {v : Value} {l : List Int} (h : SlI w k v l) (hb : Below w.heap.size w w') : SlI w' k v l := by
  obtain ⟨h1, h2, a, cap, h3, h4, h5⟩ := h
  refine ⟨h1, h2, a, cap, h3, h4, fun t ht => ?_⟩
  obtain ⟨b, off, e, hlt, hc⟩ := h5 t ht
  exact ⟨b, off, e, Nat.lt_of_lt_of_le hlt hb.size, (hb.cell (p := ⟨b, off + t, none⟩) hlt).trans hc⟩
theorem SlI.drew {w : World} {k : IntKind} {v : Value} {l : List Int} (h : SlI w k v l) (n : Nat) : SlI (w.drewN n) k v l := h
/-- opened where it is not empty -/
theorem SlI.open {w : World} {k : IntKind} {v : Value} {l : List Int} (h : SlI w k v l) (hne : l ≠ []) :
    ∃ b off cap, v = .slice (some ⟨b, off, none⟩) l.length cap ∧ l.length ≤ cap ∧ b < w.heap.size ∧ ∀ t, t < l.length → w.cell? ⟨b, off + t, none⟩ = some (.int k (l.getD t 0)) := by
  obtain ⟨_, _, a, cap, rfl, h4, h5⟩ := h
  obtain ⟨b, off, rfl, hlt, _⟩ := h5 0 (List.length_pos_iff.2 hne)
  refine ⟨b, off, cap, rfl, h4, hlt, fun t ht => ?_⟩
  obtain ⟨b', off', e, _, hc⟩ := h5 t ht
  simp only [Option.some.injEq, Addr.mk.injEq] at e
  obtain ⟨rfl, rfl, _⟩ := e
  exact hc
theorem SlI.len {w : World} {k : IntKind} {v : Value} {l : List Int} (h : SlI w k v l) : ∃ a cap, v = .slice a l.length cap ∧ l.length ≤ cap := by
  obtain ⟨_, _, a, cap, rfl, h4, h5⟩ := h
  exact ⟨a, cap, rfl, h4⟩
theorem SlI.nil (w : World) (k : IntKind) : SlI w k (.slice none 0 0) [] :=
  ⟨by simp, by simp, none, 0, rfl, Nat.le_refl _, fun t ht => by simp at ht⟩
/-- The slice value v owns, among the blocks from base on, a row of numbers of kind k that reads as l (element type e). -/
def OwnI (w : World) (base : Nat) (e : TypeId) (k : IntKind) (v : Value) (l : List Int) : Prop :=
  w.ownsRow base e 1 v l.length (l.map (.int k))
theorem OwnI.shape {w : World} {base : Nat} {e : TypeId} {k : IntKind} {v : Value} {l : List Int} (h : OwnI w base e k v l) :
    (v = .slice none 0 0 ∧ l = []) ∨ ∃ g cap, v = .slice (some ⟨g, 0, none⟩) l.length cap ∧ base ≤ g ∧ g < w.heap.size ∧ l.length ≤ cap ∧ l.length ≤ maxLen := by
  rcases h.2 with ⟨rfl, h2⟩ | ⟨g, cap, cur, rfl, h3, h4, h5, h6, _, _⟩
  · exact .inl ⟨rfl, List.length_eq_zero_iff.1 h2⟩
  · refine .inr ⟨g, cap, rfl, h3, ?_, h5, by omega⟩
    exact (Array.getElem?_eq_some_iff.1 h4).1
theorem OwnI.cell {w : World} {base : Nat} {e : TypeId} {k : IntKind} {g n cap : Nat} {l : List Int} (h : OwnI w base e k (.slice (some ⟨g, 0, none⟩) n cap) l) (i : Nat) (hi : i < l.length) :
    w.cell? ⟨g, i, none⟩ = some (.int k (l.getD i 0)) ∧ w.frozen? ⟨g, i, none⟩ = false := by
  have hn : n = l.length := by
    rcases h.2 with ⟨h1, h2⟩ | ⟨g, cap, cur, h1, _⟩
    · simp at h1
    · simp only [Value.slice.injEq] at h1; exact h1.2.1
  subst hn
  refine ⟨?_, h.frozenAt i⟩
  rw [World.ownsRow.cellAt h i (by omega)]
  simp [List.getD_eq_getElem?_getD, hi]
theorem OwnI.store {w : World} {base : Nat} {e : TypeId} {k : IntKind} {g n cap : Nat} {l : List Int} (h : OwnI w base e k (.slice (some ⟨g, 0, none⟩) n cap) l) (i : Nat) (x : Int) (hn : n = l.length) :
    OwnI (w.setCell ⟨g, i, none⟩ (.int k x)) base e k (.slice (some ⟨g, 0, none⟩) n cap) (l.set i x) := by
  subst hn
  have := (World.ownsRow.stored h i (.int k x)).1
  unfold OwnI
  rw [List.length_set, List.map_set]
  exact this
theorem OwnI.drew {w : World} {base : Nat} {e : TypeId} {k : IntKind} {v : Value} {l : List Int} (h : OwnI w base e k v l) (n : Nat) : OwnI (w.drewN n) base e k v l := h
/-- what is owned reads -/
theorem OwnI.read {w : World} {base : Nat} {e : TypeId} {k : IntKind} {v : Value} {l : List Int} (h : OwnI w base e k v l) (hl : l.length ≤ 140737488351232) (hw : ∀ x ∈ l, x = k.wrap x) : SlI w k v l := by
  rcases h.shape with ⟨rfl, rfl⟩ | ⟨g, cap, rfl, h1, h2, h3, h4⟩
  · exact SlI.nil w k
  · refine ⟨hl, hw, some ⟨g, 0, none⟩, cap, rfl, h3, fun t ht => ⟨g, 0, rfl, h2, ?_⟩⟩
    rw [Nat.zero_add]; exact (h.cell t ht).1
theorem OwnI.kept {w w' : World} {base : Nat} {e : TypeId} {k : IntKind} {v : Value} {l : List Int} {row : Option Nat} (h : OwnI w base e k v l) (hg : w.grownBy w' row) (hne : v.ownBlock = none ∨ v.ownBlock ≠ row) : OwnI w' base e k v l := World.ownsRow.kept h hg hne
theorem OwnI.below {w w' : World} {base : Nat} {e : TypeId} {k : IntKind} {v : Value} {l : List Int} (h : OwnI w base e k v l) (hb : Below w.heap.size w w') : OwnI w' base e k v l := by
  refine h.kept (row := none) ⟨hb.os, hb.tape, hb.output, hb.size, fun j hj _ => hb.block j hj⟩ ?_
  cases hv : v.ownBlock with
  | none => exact .inl rfl
  | some x => exact .inr (by simp)
theorem OwnI.alloc {w : World} {base : Nat} {e : TypeId} {k : IntKind} {v : Value} {l : List Int} (h : OwnI w base e k v l) (o : Obj) : OwnI (w.alloc o) base e k v l := World.ownsRow.alloc h o
theorem OwnI.ne {w : World} {base : Nat} {e : TypeId} {k : IntKind} {v : Value} {l : List Int} (h : OwnI w base e k v l) {g : Nat} (hg : g < base) : v.ownBlock = none ∨ v.ownBlock ≠ some g := by
  rcases h.shape with ⟨rfl, _⟩ | ⟨g', cap, rfl, h1, _⟩
  · exact .inl rfl
  · refine .inr ?_
    simp only [Value.ownBlock, ne_eq, Option.some.injEq]
    omega
theorem OwnI.nil (w : World) (base : Nat) (e : TypeId) (k : IntKind) : OwnI w base e k (.slice none 0 0) [] := World.ownsRow_nil w base e 1
theorem grownBy_trans {a b c : World} {row : Option Nat} (h : a.grownBy b row) (h2 : b.grownBy c row) : a.grownBy c row :=
  ⟨h2.os.trans h.os, h2.tape.trans h.tape, h2.output.trans h.output, Nat.le_trans h.size h2.size, fun k hk hr => (h2.block k (Nat.lt_of_lt_of_le hk h.size) hr).trans (h.block k hk hr)⟩
theorem grownBy_refl (a : World) (row : Option Nat) : a.grownBy a row := ⟨rfl, rfl, rfl, Nat.le_refl _, fun _ _ _ => rfl⟩
theorem grownBy_of_below {a b c : World} {row : Option Nat} (h : a.grownBy b row) (h2 : Below a.heap.size b c) : a.grownBy c row :=
  ⟨h2.os.trans h.os, h2.tape.trans h.tape, h2.output.trans h.output, Nat.le_trans h.size h2.size, fun k hk hr => (h2.block k hk).trans (h.block k hk hr)⟩
theorem grownBy_of_new {a b c : World} {row r2 : Option Nat} (h : a.grownBy b row) (h2 : b.grownBy c r2) (hr2 : ∀ k, r2 = some k → a.heap.size ≤ k) : a.grownBy c row :=
  ⟨h2.os.trans h.os, h2.tape.trans h.tape, h2.output.trans h.output, Nat.le_trans h.size h2.size, fun k hk hr => (h2.block k (Nat.lt_of_lt_of_le hk h.size) (fun e => by have := hr2 k e.symm; omega)).trans (h.block k hk hr)⟩
theorem grownBy_setCell (w : World) (a : Addr) (u : Value) : w.grownBy (w.setCell a u) (some a.block) :=
  ⟨rfl, rfl, rfl, by simp, fun k _ hk => heap_setCell_other w a k u (fun e => hk (by rw [e]))⟩
theorem OwnI.setOther {w : World} {base : Nat} {e : TypeId} {k : IntKind} {g n cap : Nat} {l : List Int} (h : OwnI w base e k (.slice (some ⟨g, 0, none⟩) n cap) l) (a : Addr) (hne : g ≠ a.block) (u : Value) :
    OwnI (w.setCell a u) base e k (.slice (some ⟨g, 0, none⟩) n cap) l :=
  h.kept (grownBy_setCell w a u) (.inr (by simpa [Value.ownBlock] using hne))
theorem OwnI.own_ge {w : World} {base : Nat} {e : TypeId} {k : IntKind} {v : Value} {l : List Int} (h : OwnI w base e k v l) : ∀ j, v.ownBlock = some j → base ≤ j := fun j hj => (World.ownsRow.lt h j hj).1
/-- the head of what is owned reads -/
theorem OwnI.readTake {w : World} {base : Nat} {e : TypeId} {k : IntKind} {g n cap : Nat} {l : List Int} (h : OwnI w base e k (.slice (some ⟨g, 0, none⟩) n cap) l) (m : Nat) (hm : m ≤ l.length) (hl : l.length ≤ 140737488351232) (hw : ∀ x ∈ l, x = k.wrap x) :
    SlI w k (.slice (some ⟨g, 0, none⟩) m cap) (l.take m) := by
  have hlen : (l.take m).length = m := by simp; omega
  obtain ⟨h1, h2, a, cap', e1, h4, h5⟩ := h.read hl hw
  simp only [Value.slice.injEq] at e1
  obtain ⟨rfl, rfl, rfl⟩ := e1
  refine ⟨by omega, fun x hx => hw x (List.mem_of_mem_take hx), _, cap, by rw [hlen], by omega, fun t ht => ?_⟩
  obtain ⟨b, off, e2, e3, e4⟩ := h5 t (by omega)
  refine ⟨b, off, e2, e3, ?_⟩
  rw [e4]
  simp [List.getD_eq_getElem?_getD, show t < m by omega]
/-- The slice value v owns a row that reads as the bools l. -/
def OwnB (w : World) (base : Nat) (e : TypeId) (v : Value) (l : List Bool) : Prop := w.ownsRow base e 1 v l.length (l.map Value.bool)
theorem OwnB.cell {w : World} {base : Nat} {e : TypeId} {g n cap : Nat} {l : List Bool} (h : OwnB w base e (.slice (some ⟨g, 0, none⟩) n cap) l) (i : Nat) (hi : i < l.length) :
    w.cell? ⟨g, i, none⟩ = some (.bool (l.getD i false)) ∧ w.frozen? ⟨g, i, none⟩ = false := by
  have hn : n = l.length := by
    rcases h.2 with ⟨h1, h2⟩ | ⟨g, cap, cur, h1, _⟩
    · simp at h1
    · simp only [Value.slice.injEq] at h1; exact h1.2.1
  subst hn
  refine ⟨?_, h.frozenAt i⟩
  rw [World.ownsRow.cellAt h i (by omega)]
  simp [List.getD_eq_getElem?_getD, hi]
theorem OwnB.store {w : World} {base : Nat} {e : TypeId} {g n cap : Nat} {l : List Bool} (h : OwnB w base e (.slice (some ⟨g, 0, none⟩) n cap) l) (i : Nat) (x : Bool) (hn : n = l.length) :
    OwnB (w.setCell ⟨g, i, none⟩ (.bool x)) base e (.slice (some ⟨g, 0, none⟩) n cap) (l.set i x) := by
  subst hn
  have := (World.ownsRow.stored h i (.bool x)).1
  unfold OwnB
  rw [List.length_set, List.map_set]
  exact this
theorem below_then {w a b : World} (h : Below w.heap.size w a) (hb : Below a.heap.size a b) : Below w.heap.size w b := h.trans (hb.mono h.size)
theorem below_new {w a : World} (h : Below w.heap.size w a) (o : Obj) : Below w.heap.size w (a.alloc o) := h.alloc h.size o
theorem below_grown {w a b : World} {g : Nat} (h : Below w.heap.size w a) (hb : a.grownBy b (some g)) (hg : w.heap.size ≤ g) : Below w.heap.size w b := h.grown hb h.size fun k hk => by cases hk; exact hg
/-- a list that was just written out -/
theorem SlI.lit (w : World) (k : IntKind) (e : TypeId) (l : List Int) (hw : ∀ x ∈ l, x = k.wrap x) (hl : l.length ≤ 140737488351232) :
    SlI (w.alloc (.cells (l.map (Value.int k)).toArray e)) k (.slice (some ⟨w.heap.size, 0, none⟩) l.length l.length) l := by
  refine ⟨hl, hw, _, _, rfl, Nat.le_refl _, fun t ht => ⟨_, 0, rfl, by simp, ?_⟩⟩
  rw [World.cell?_alloc_at _ _ _ _ rfl, Nat.zero_add]
  simp [List.getD_eq_getElem?_getD, ht]
/-- the slice does not lie in block g -/
def offB (g : Nat) (v : Value) : Prop := ∀ a n c, v = .slice (some a) n c → n = 0 ∨ a.block ≠ g
theorem offB.nil (g : Nat) : offB g (.slice none 0 0) := fun a n c h => by simp at h
theorem OwnI.off {w : World} {base : Nat} {e : TypeId} {k : IntKind} {v : Value} {l : List Int} (h : OwnI w base e k v l) {g : Nat} (hg : g < base) : offB g v := by
  intro a n c e
  subst e
  have := h.own_ge a.block rfl
  exact .inr (by omega)
theorem SlI.offOf {w : World} {k : IntKind} {v : Value} {l : List Int} (h : SlI w k v l) {g : Nat} (hg : w.heap.size ≤ g) : offB g v := by
  intro a n c e
  obtain ⟨_, _, a', cap, rfl, _, h5⟩ := h
  rcases Nat.eq_zero_or_pos l.length with h0 | h0
  · simp only [Value.slice.injEq] at e; exact .inl (by omega)
  · obtain ⟨b, off, rfl, hlt, _⟩ := h5 0 h0
    simp only [Value.slice.injEq, Option.some.injEq] at e
    obtain ⟨rfl, _⟩ := e
    exact .inr (by simp; omega)
theorem SlI.grown {w w' : World} {k : IntKind} {v : Value} {l : List Int} {g : Nat} (h : SlI w k v l) (hg : w.grownBy w' (some g)) (ho : offB g v) : SlI w' k v l := by
  obtain ⟨h1, h2, a, cap, rfl, h4, h5⟩ := h
  refine ⟨h1, h2, a, cap, rfl, h4, fun t ht => ?_⟩
  obtain ⟨b, off, rfl, hlt, hc⟩ := h5 t ht
  have hb : b ≠ g := (ho _ _ _ rfl).resolve_left (by omega)
  exact ⟨b, off, rfl, Nat.lt_of_lt_of_le hlt hg.size, (World.cell?_of_block (a := ⟨b, off + t, none⟩) (hg.block b hlt (by simpa using hb))).trans hc⟩
theorem OwnI.mono_base {w : World} {base b' : Nat} {e : TypeId} {k : IntKind} {v : Value} {l : List Int} (h : OwnI w base e k v l) (hb : b' ≤ base) : OwnI w b' e k v l := by
  refine ⟨h.1, ?_⟩
  rcases h.2 with h1 | ⟨g, cap, cur, h1, h2, h3⟩
  · exact .inl h1
  · exact .inr ⟨g, cap, cur, h1, Nat.le_trans hb h2, h3⟩
theorem undrewB {B : Nat} {a b : World} (h : Below B a.drew b) : Below B a b := ⟨h.os, h.tape, h.output, h.size, h.block⟩
theorem undrewG {a b : World} {row : Option Nat} (h : a.drew.grownBy b row) : a.grownBy b row := ⟨h.os, h.tape, h.output, h.size, h.block⟩
/-- what was laid in the newest block reads later as it did -/
theorem below_last {a b : World} {o : Obj} (h : Below (a.alloc o).heap.size (a.alloc o) b) (j : Nat) : b.cell? ⟨a.heap.size, j, none⟩ = (a.alloc o).cell? ⟨a.heap.size, j, none⟩ := h.cell (p := ⟨a.heap.size, j, none⟩) (by simp)
theorem SlI.litAt (w : World) (k : IntKind) (e : TypeId) (l : List Int) (g : Nat) (hg : g = w.heap.size) (hw : ∀ x ∈ l, x = k.wrap x) (hl : l.length ≤ 140737488351232) :
    SlI (w.alloc (.cells (l.map (Value.int k)).toArray e)) k (.slice (some ⟨g, 0, none⟩) l.length l.length) l := by
  subst hg; exact SlI.lit w k e l hw hl
theorem i64_ok (x : Int) (h0 : -9223372036854775808 ≤ x) (h1 : x ≤ 9223372036854775807) : x = IntKind.i64.wrap x := by
  rw [IntKind.wrap_i64]; omega
end Go.Proofs.Ytnbehigjeopniaa
/- From the reading of a law's arguments to the words of the walks, and from a walk to the row. -/
namespace Go.Proofs.Ytnbehigjeopniaa
open Go.ChangeShapes Go.WideShapes Go.ChangeAt Go.RowKit
set_option maxRecDepth 100000

theorem own : ownKnob Try.prog.godebug = none := by kernel_rfl
theorem Try.laidOut : laidOutB Try.prog = true := by kernel_rfl
theorem wrap_of_wf {k : IntKind} {n : Int} (h : (Lit.int k n).wf = true) : n = k.wrap n := by
  cases k <;> simp [Lit.wf, IntKind.min, IntKind.max, IntKind.signed, IntKind.bits] at h <;> simp [IntKind.wrap, IntKind.bits, IntKind.signed] <;> omega
set_option maxRecDepth 100000 in
/-- AN ARGUMENT THAT IS A SLICE OF WHOLE NUMBERS, nil or not. -/
theorem view_sl {H : Type} {enc : TypeId × Value → H} {W : World} {t e : TypeId} {k : IntKind} {v : Value} {d : DataW H} {p : List MemPlace} (ht : Try.prog.underlying t = some (.slice e)) (he : Try.prog.underlying e = some (.int k)) (hc : Try.prog.cellsOf e = 1)
    (hsz : ∀ elems sp, d = .slice elems sp → (elems.length + sp.length) * Try.prog.bytesOf e ≤ reachBytes) (hby : 1 ≤ Try.prog.bytesOf e)
    (hval : Value.okWide Try.prog W .any 0 t v) (hd : DataW.Trod enc Try.prog W 0 (fun _ => true) true t v d p) : ∃ l, SlI W k v l := by
  obtain ⟨a0, len, cap, rfl⟩ := okWide_slice ht hval
  obtain ⟨fuel, hf⟩ := hd
  rcases open_ints ht he hc hf with ⟨hcs, hx⟩ | ⟨a, len', cap', zs, hcs, _, hl, hm, hz, hx, hcell, hwz⟩
  · simp [Value.cells] at hcs
    obtain ⟨rfl, rfl, rfl⟩ := hcs
    exact ⟨[], SlI.nil _ _⟩
  · simp [Value.cells] at hcs
    obtain ⟨rfl, rfl, rfl⟩ := hcs
    simp only [Prod.mk.injEq] at hx
    obtain ⟨rfl, rfl⟩ := hx
    simp only [if_true] at hz
    have hle : len ≤ 140737488351232 := by
      have h1 := hsz _ _ rfl
      simp only [lits, List.length_map, List.length_take, List.length_drop, reachBytes] at h1
      have h2 : (min len zs.length + (zs.length - len)) * 1 ≤ (min len zs.length + (zs.length - len)) * Try.prog.bytesOf e := Nat.mul_le_mul_left _ hby
      omega
    have hlen : (zs.take len).length = len := by simp; omega
    refine ⟨zs.take len, by omega, fun x hx => wrap_of_wf (hwz x (List.mem_of_mem_take hx)), some a, cap, by rw [hlen], by omega, fun i hi => ?_⟩
    have hi' : i < len := by omega
    have hc := hcell i (by omega)
    have h0 := hcell 0 (by omega)
    obtain ⟨b, off, sp⟩ := a
    have hsp : sp = none := by simpa [Addr.add] using World.cell?_spot h0
    subst hsp
    rw [add_plain] at hc
    refine ⟨b, off, rfl, by simpa using World.block_lt_of_cell? W _ hc, ?_⟩
    rw [hc]
    simp [List.getD_eq_getElem?_getD, hi']
end Go.Proofs.Ytnbehigjeopniaa
/- Operations and the cases of a select: how a struct value and a list of structs read in memory. -/
namespace Go.Proofs.Ytnbehigjeopniaa
open Go.ChangeShapes Go.WideShapes Go.ChangeAt Go.RowKit
set_option maxRecDepth 100000

structure CaseM where
  send : Bool
  chan : Int
  val : Int
structure OpM where
  kind : Int
  mode : Int
  chan : Int
  val : Int
  dl : Int
  cases : List CaseM
  draws : List Int
def CaseM.ok (c : CaseM) : Prop := c.chan = IntKind.i64.wrap c.chan ∧ c.val = IntKind.u64.wrap c.val
def noCase : CaseM := ⟨false, 0, 0⟩
/-- the case c lies at offset o of block b -/
def CaseAt (w : World) (b o : Nat) (c : CaseM) : Prop :=
  w.cell? ⟨b, o, none⟩ = some (.bool c.send) ∧ w.cell? ⟨b, o + 1, none⟩ = some (.int .i64 c.chan) ∧ w.cell? ⟨b, o + 2, none⟩ = some (.int .u64 c.val)
/-- The slice value v reads in w as the cases l. -/
def SlC (w : World) (v : Value) (l : List CaseM) : Prop :=
  l.length ≤ 140737488351232 ∧ (∀ x ∈ l, x.ok) ∧ ∃ a cap, v = .slice a l.length cap ∧ l.length ≤ cap ∧
    ∀ t, t < l.length → ∃ b off, a = some ⟨b, off, none⟩ ∧ b < w.heap.size ∧ CaseAt w b (off + t * 3) (l.getD t noCase)
theorem CaseAt.below {w w' : World} {b o B : Nat} {c : CaseM} (h : CaseAt w b o c) (hb : b < B) (hw : Below B w w') : CaseAt w' b o c :=
  ⟨(hw.cell (p := ⟨b, o, none⟩) hb).trans h.1, (hw.cell (p := ⟨b, o + 1, none⟩) hb).trans h.2.1, (hw.cell (p := ⟨b, o + 2, none⟩) hb).trans h.2.2⟩
theorem SlC.below {w w' : World} {v : Value} {l : List CaseM} (h : SlC w v l) (hb : Below w.heap.size w w') : SlC w' v l := by
  obtain ⟨h1, h2, a, cap, h3, h4, h5⟩ := h
  refine ⟨h1, h2, a, cap, h3, h4, fun t ht => ?_⟩
  obtain ⟨b, off, e, hlt, hc⟩ := h5 t ht
  exact ⟨b, off, e, Nat.lt_of_lt_of_le hlt hb.size, hc.below hlt hb⟩
theorem SlC.drew {w : World} {v : Value} {l : List CaseM} (h : SlC w v l) (n : Nat) : SlC (w.drewN n) v l := h
theorem SlC.drew1 {w : World} {v : Value} {l : List CaseM} (h : SlC w v l) : SlC w.drew v l := h
theorem SlC.len {w : World} {v : Value} {l : List CaseM} (h : SlC w v l) : ∃ a cap, v = .slice a l.length cap := by
  obtain ⟨_, _, a, cap, rfl, _⟩ := h
  exact ⟨a, cap, rfl⟩
theorem SlC.nil (w : World) : SlC w (.slice none 0 0) [] :=
  ⟨by simp, by simp, none, 0, rfl, Nat.le_refl _, fun t ht => by simp at ht⟩
/-- The struct value v reads in w as the operation op. -/
def OpV (w : World) (v : Value) (op : OpM) : Prop :=
  ∃ vc vd, v = .agg #[.int .i64 op.kind, .int .i64 op.mode, .int .i64 op.chan, .int .u64 op.val, .int .i64 op.dl, vc, vd] ∧ SlC w vc op.cases ∧ SlI w .i64 vd op.draws
theorem OpV.below {w w' : World} {v : Value} {op : OpM} (h : OpV w v op) (hb : Below w.heap.size w w') : OpV w' v op := by
  obtain ⟨vc, vd, e, h1, h2⟩ := h
  exact ⟨vc, vd, e, h1.below hb, h2.below hb⟩
theorem OpV.drew {w : World} {v : Value} {op : OpM} (h : OpV w v op) (n : Nat) : OpV (w.drewN n) v op := h
/-- a box of seven cells, read in a later world -/
theorem box7 {w w1 : World} {T : TypeId} {v0 v1 v2 v3 v4 v5 v6 : Value} (hb : Below (w.alloc (.cells #[v0, v1, v2, v3, v4, v5, v6] T)).heap.size (w.alloc (.cells #[v0, v1, v2, v3, v4, v5, v6] T)) w1) :
    w1.cell? ⟨w.heap.size, 0, none⟩ = some v0 ∧ w1.cell? ⟨w.heap.size, 1, none⟩ = some v1 ∧ w1.cell? ⟨w.heap.size, 2, none⟩ = some v2 ∧ w1.cell? ⟨w.heap.size, 3, none⟩ = some v3 ∧
    w1.cell? ⟨w.heap.size, 4, none⟩ = some v4 ∧ w1.cell? ⟨w.heap.size, 5, none⟩ = some v5 ∧ w1.cell? ⟨w.heap.size, 6, none⟩ = some v6 := by
  have h : ∀ j, w1.cell? ⟨w.heap.size, j, none⟩ = (#[v0, v1, v2, v3, v4, v5, v6] : Array Value)[j]? := fun j =>
    (hb.cell (p := ⟨w.heap.size, j, none⟩) (by simp)).trans (World.cell?_alloc_at _ _ _ _ rfl)
  exact ⟨h 0, h 1, h 2, h 3, h 4, h 5, h 6⟩
structure ConfM where
  caps : List Int
  starts : List Int
  threads : Int
/-- The struct value v reads in w as the configuration c. -/
def ConfV (w : World) (v : Value) (c : ConfM) : Prop :=
  ∃ vc vs, v = .agg #[vc, vs, .int .i64 c.threads] ∧ SlI w .i64 vc c.caps ∧ SlI w .u64 vs c.starts
theorem ConfV.below {w w' : World} {v : Value} {c : ConfM} (h : ConfV w v c) (hb : Below w.heap.size w w') : ConfV w' v c := by
  obtain ⟨vc, vd, e, h1, h2⟩ := h
  exact ⟨vc, vd, e, h1.below hb, h2.below hb⟩
theorem ConfV.drew {w : World} {v : Value} {c : ConfM} (h : ConfV w v c) (n : Nat) : ConfV (w.drewN n) v c := h
theorem box3 {w w1 : World} {T : TypeId} {v0 v1 v2 : Value} (hb : Below (w.alloc (.cells #[v0, v1, v2] T)).heap.size (w.alloc (.cells #[v0, v1, v2] T)) w1) :
    w1.cell? ⟨w.heap.size, 0, none⟩ = some v0 ∧ w1.cell? ⟨w.heap.size, 1, none⟩ = some v1 ∧ w1.cell? ⟨w.heap.size, 2, none⟩ = some v2 := by
  have h : ∀ j, w1.cell? ⟨w.heap.size, j, none⟩ = (#[v0, v1, v2] : Array Value)[j]? := fun j =>
    (hb.cell (p := ⟨w.heap.size, j, none⟩) (by simp)).trans (World.cell?_alloc_at _ _ _ _ rfl)
  exact ⟨h 0, h 1, h 2⟩
end Go.Proofs.Ytnbehigjeopniaa
/- Plain lists and numbers for layer 2 (shuffles, draws, factorials); no Go in sight. -/
namespace Go.Proofs.Ytnbehigjeopniaa
open Go.RowKit
set_option maxRecDepth 100000

theorem tmod_bd (x : Int) (i : Nat) : - ((i : Int) + 1) < x.tmod (i + 1) ∧ x.tmod (i + 1) < i + 1 := by
  constructor
  · rcases Int.le_total 0 x with h | h
    · have := Int.tmod_nonneg (i + 1 : Int) h; omega
    · have := Int.tmod_nonneg (i + 1 : Int) (show 0 ≤ -x by omega)
      have h2 := Int.tmod_lt_of_pos (-x) (show (0 : Int) < i + 1 by omega)
      rw [Int.neg_tmod] at h2; omega
  · exact Int.tmod_lt_of_pos x (by omega)
theorem tmod_mod (x : Int) (i : Nat) : x % (i + 1) = if x.tmod (i + 1) < 0 then x.tmod (i + 1) + (i + 1) else x.tmod (i + 1) := by
  have hb := tmod_bd x i
  have h := Int.tmod_add_mul_tdiv x (i + 1)
  have h3 : x % (i + 1) = (x.tmod (i + 1)) % (i + 1) := by
    conv => lhs; rw [← h]
    rw [Int.add_mul_emod_self_left]
  rw [h3]
  split
  · rw [← Int.add_emod_right, Int.emod_eq_of_lt (by omega) (by omega)]
  · exact Int.emod_eq_of_lt (by omega) (by omega)
/-- the draw at i, brought into range -/
def drawI (l : List Int) (i : Nat) : Nat := ((l.getD i 0) % (i + 1)).toNat
theorem drawI_le (l : List Int) (i : Nat) : drawI l i ≤ i := by
  unfold drawI
  have h1 := Int.emod_nonneg (l.getD i 0) (show ((i : Int) + 1) ≠ 0 by omega)
  have h2 := Int.emod_lt_of_pos (l.getD i 0) (show (0 : Int) < (i : Int) + 1 by omega)
  omega
theorem drawI_out (l : List Int) (i : Nat) (h : l.length ≤ i) : drawI l i = 0 := by
  unfold drawI; rw [List.getD_eq_getElem?_getD, List.getElem?_eq_none h]; simp
theorem drawI_neg (l : List Int) (i : Nat) (h : (l.getD i 0).tmod (i + 1) < 0) : ((l.getD i 0).tmod (i + 1) + (i + 1)) = (drawI l i : Int) := by
  have e := tmod_mod (l.getD i 0) i
  rw [if_pos h] at e
  have h1 := Int.emod_nonneg (l.getD i 0) (show ((i : Int) + 1) ≠ 0 by omega)
  unfold drawI; omega
theorem drawI_pos (l : List Int) (i : Nat) (h : 0 ≤ (l.getD i 0).tmod (i + 1)) : (l.getD i 0).tmod (i + 1) = (drawI l i : Int) := by
  have e := tmod_mod (l.getD i 0) i
  rw [if_neg (by omega)] at e
  unfold drawI; omega
/-- the first place of x, or the length -/
def fd (x : Int) : List Int → Nat
  | [] => 0
  | y :: t => if y = x then 0 else fd x t + 1
theorem fd_hit (x : Int) (l : List Int) (k : Nat) (hk : k < l.length) (h : ∀ j, j < k → l.getD j 0 ≠ x) (hx : l.getD k 0 = x) : fd x l = k := by
  induction l generalizing k with
  | nil => simp at hk
  | cons y t ih =>
    unfold fd
    cases k with
    | zero => simp at hx; rw [if_pos hx]
    | succ k =>
      have h0 := h 0 (by omega)
      simp at h0
      rw [if_neg h0, ih k (by simpa using hk) (fun j hj => by simpa using h (j + 1) (by omega)) (by simpa using hx)]
theorem fd_miss (x : Int) (l : List Int) (h : ∀ j, j < l.length → l.getD j 0 ≠ x) : fd x l = l.length := by
  induction l with
  | nil => rfl
  | cons y t ih =>
    have h0 := h 0 (by simp)
    simp at h0
    unfold fd
    rw [if_neg h0, ih (fun j hj => by simpa using h (j + 1) (by simpa using hj))]
    simp
theorem ext_same (l m : List Int) (hl : l.length = m.length) (h : ∀ j, j < l.length → l.getD j 0 = m.getD j 0) : l = m := by
  apply List.ext_getElem hl
  intro i h1 h2
  simpa [List.getD_eq_getElem?_getD, h1, h2] using h i h1
def asc (n : Nat) : List Int := (List.range n).map fun (i : Nat) => (i : Int)
theorem asc_length (n : Nat) : (asc n).length = n := by simp [asc]
theorem asc_mem (n : Nat) (x : Int) (h : x ∈ asc n) : 0 ≤ x ∧ x < n := by
  simp [asc] at h; obtain ⟨i, hi, rfl⟩ := h; omega
/-- the numbers 0 to k - 1, then zeros: what has been written after k rounds -/
def fill (n k : Nat) : List Int := asc k ++ List.replicate (n - k) 0
theorem fill_zero (n : Nat) : fill n 0 = List.replicate n 0 := by simp [fill, asc]
theorem fill_full (n : Nat) : fill n n = asc n := by simp [fill]
theorem fill_length (n k : Nat) (h : k ≤ n) : (fill n k).length = n := by simp [fill, asc_length]; omega
theorem fill_step (n k : Nat) (h : k < n) : (fill n k).set k (k : Int) = fill n (k + 1) := by
  unfold fill
  rw [List.set_append_right _ _ (by simp [asc_length])]
  obtain ⟨m, hm⟩ : ∃ m, n - k = m + 1 := ⟨n - k - 1, by omega⟩
  rw [hm, show n - (k + 1) = m by omega]
  simp [List.replicate_succ, asc, List.range_succ]
def swp (l : List Int) (i k : Nat) : List Int := (l.set i (l.getD k 0)).set k (l.getD i 0)
theorem swp_length (l : List Int) (i k : Nat) : (swp l i k).length = l.length := by simp [swp]
theorem swp_mem (l : List Int) (i k : Nat) (hi : i < l.length) (hk : k < l.length) (x : Int) (h : x ∈ swp l i k) : x ∈ l := by
  unfold swp at h
  rcases List.mem_or_eq_of_mem_set h with h | rfl
  · rcases List.mem_or_eq_of_mem_set h with h | rfl
    · exact h
    · simp [List.getD_eq_getElem?_getD, hk]
  · simp [List.getD_eq_getElem?_getD, hi]
/-- the shuffle: the rounds i, i - 1, .., 1 -/
def shuf (d : List Int) : Nat → List Int → List Int
  | 0, l => l
  | i + 1, l => shuf d i (swp l (i + 1) (drawI d (i + 1)))
theorem shuf_length (d : List Int) (i : Nat) (l : List Int) : (shuf d i l).length = l.length := by
  induction i generalizing l with
  | zero => rfl
  | succ i ih => unfold shuf; rw [ih, swp_length]
theorem shuf_mem (d : List Int) (i : Nat) (l : List Int) (hi : i < l.length) (x : Int) (h : x ∈ shuf d i l) : x ∈ l := by
  induction i generalizing l with
  | zero => exact h
  | succ i ih =>
    unfold shuf at h
    have := drawI_le d (i + 1)
    exact swp_mem l (i + 1) _ hi (by omega) x (ih _ (by rw [swp_length]; omega) h)
theorem shuf_round (d l : List Int) (k j : Nat) (hk : 0 < k) (hj : drawI d k = j) : shuf d k l = shuf d (k - 1) (swp l k j) := by
  obtain ⟨i, rfl⟩ : ∃ i, k = i + 1 := ⟨k - 1, by omega⟩
  subst hj
  rfl
def fact : Nat → Nat
  | 0 => 1
  | n + 1 => (n + 1) * fact n
theorem fact_pos (n : Nat) : 1 ≤ fact n := by
  induction n with
  | zero => simp [fact]
  | succ n ih => unfold fact; exact Nat.le_trans ih (Nat.le_mul_of_pos_left _ (by omega))
theorem fact_le (m n : Nat) (h : m ≤ n) : fact m ≤ fact n := by
  induction n with
  | zero => obtain rfl : m = 0 := by omega
            exact Nat.le_refl _
  | succ n ih =>
    by_cases e : m = n + 1
    · subst e; exact Nat.le_refl _
    · refine Nat.le_trans (ih (by omega)) ?_
      rw [fact]; exact Nat.le_mul_of_pos_left _ (by omega)
theorem fact_20 (n : Nat) (h : n ≤ 20) : fact n ≤ 2432902008176640000 := Nat.le_trans (fact_le n 20 h) (by decide)
theorem wrap_small (x : Nat) (h : x ≤ 2432902008176640000) : wrap64 (x : Int) = x := by unfold wrap64; omega
/-- down: what is left to be multiplied is i! -/
theorem fact_down (n c i : Nat) (hn : n ≤ 20) (h : c * fact i = fact n) (hi : 1 < i) : wrap64 ((c : Int) * i) = ((c * i : Nat) : Int) ∧ (c * i) * fact (i - 1) = fact n := by
  obtain ⟨j, rfl⟩ : ∃ j, i = j + 1 := ⟨i - 1, by omega⟩
  have e : (c * (j + 1)) * fact (j + 1 - 1) = fact n := by rw [← h, fact, Nat.mul_assoc]; simp
  refine ⟨?_, e⟩
  rw [← Int.natCast_mul]
  refine wrap_small _ (Nat.le_trans ?_ (fact_20 n hn))
  rw [← e]
  exact Nat.le_mul_of_pos_right _ (fact_pos _)
/-- up: what has been multiplied is (i - 1)! -/
theorem fact_up (n c i : Nat) (hn : n ≤ 20) (h : c = fact (i - 1)) (hi : 1 ≤ i) (hin : i ≤ n) : wrap64 ((c : Int) * i) = ((c * i : Nat) : Int) ∧ c * i = fact i := by
  obtain ⟨j, rfl⟩ : ∃ j, i = j + 1 := ⟨i - 1, by omega⟩
  have e : c * (j + 1) = fact (j + 1) := by rw [h, fact, Nat.mul_comm]; simp
  refine ⟨?_, e⟩
  rw [← Int.natCast_mul, e]
  exact wrap_small _ (fact_20 _ (by omega))
def cntI (n : Int) : Int := if 0 ≤ n ∧ n ≤ 20 then (fact n.toNat : Int) else 0
theorem cntI_in (m : Nat) (h : m ≤ 20) : cntI m = fact m := by unfold cntI; rw [if_pos (by omega)]; simp
theorem cntI_out (n : Int) (h : ¬ (0 ≤ n ∧ n ≤ 20)) : cntI n = 0 := by unfold cntI; rw [if_neg h]
/-- the list of draws with a number, from the last element on -/
def nthR : Nat → Nat → List Int
  | 0, _ => []
  | i + 1, k => nthR i (k / (i + 1)) ++ [((k % (i + 1) : Nat) : Int)]
theorem nthR_length (n k : Nat) : (nthR n k).length = n := by
  induction n generalizing k with
  | zero => rfl
  | succ n ih => simp [nthR, ih]
theorem nthR_mem (n k : Nat) (x : Int) (h : x ∈ nthR n k) : 0 ≤ x ∧ x < n := by
  induction n generalizing k with
  | zero => simp [nthR] at h
  | succ n ih =>
    rw [nthR, List.mem_append, List.mem_singleton] at h
    rcases h with h | h
    · have := ih _ h; omega
    · have := Nat.mod_lt k (show 0 < n + 1 by omega); omega
theorem set_drop (l : List Int) (i : Nat) (x : Int) (h : i < l.length) : (l.set i x).drop i = x :: l.drop (i + 1) := by
  rw [List.drop_eq_getElem_cons (by simpa using h)]
  simp [List.drop_set]
theorem nthR_step (n k0 i k : Nat) (l : List Int) (hl : i < l.length) (h : nthR (i + 1) k ++ l.drop (i + 1) = nthR n k0) :
    nthR i (k / (i + 1)) ++ (l.set i ((k % (i + 1) : Nat) : Int)).drop i = nthR n k0 := by
  rw [set_drop _ _ _ hl, ← h, nthR, List.append_assoc]; rfl
def nthB (n k : Int) : Bool := decide (0 ≤ k ∧ k < cntI n)
def nthL (n k : Int) : List Int := if 0 ≤ k ∧ k < cntI n then nthR n.toNat k.toNat else []
theorem nth_yes (n k : Int) (h : 0 ≤ k ∧ k < cntI n) : 0 ≤ n ∧ n ≤ 20 ∧ nthB n k = true ∧ nthL n k = nthR n.toNat k.toNat := by
  refine ⟨?_, ?_, by unfold nthB; simpa using h, by unfold nthL; rw [if_pos h]⟩
  · refine Classical.byContradiction fun hc => ?_
    have := cntI_out n (by omega); omega
  · refine Classical.byContradiction fun hc => ?_
    have := cntI_out n (by omega); omega
theorem nth_no (n k : Int) (h : ¬ (0 ≤ k ∧ k < cntI n)) : nthB n k = false ∧ nthL n k = [] :=
  ⟨by unfold nthB; exact decide_eq_false h, by unfold nthL; rw [if_neg h]⟩
/-- the number of a list of draws, from the first element on -/
def idxR : Nat → Nat → List Int → Nat
  | _, a, [] => a
  | i, a, x :: t => idxR (i + 1) (a * (i + 1) + x.toNat) t
def okD : Nat → List Int → Bool
  | _, [] => true
  | i, x :: t => decide (0 ≤ x ∧ x ≤ i) && okD (i + 1) t
def idxB (l : List Int) : Bool := decide (l.length ≤ 20) && okD 0 l
def idxI (l : List Int) : Int := if idxB l = true then (idxR 0 0 l : Int) else 0
theorem idx_step (l : List Int) (k a : Nat) (hk : k < l.length) (hk2 : k ≤ 19) (ha : a < fact k) (x : Int) (hx : l.getD k 0 = x) (x0 : 0 ≤ x) (x1 : x ≤ k) :
    idxR k a (l.drop k) = idxR (k + 1) (a * (k + 1) + x.toNat) (l.drop (k + 1)) ∧ okD k (l.drop k) = okD (k + 1) (l.drop (k + 1)) ∧ a * (k + 1) + x.toNat < fact (k + 1) ∧
    wrap64 ((a : Int) * ((k : Int) + 1)) = ((a * (k + 1) : Nat) : Int) ∧ wrap64 (((a * (k + 1) : Nat) : Int) + x) = ((a * (k + 1) + x.toNat : Nat) : Int) := by
  have e : l.drop k = x :: l.drop (k + 1) := by
    rw [List.drop_eq_getElem_cons hk]; congr 1
    simpa [List.getD_eq_getElem?_getD, hk] using hx
  have h2 : a * (k + 1) + (k + 1) ≤ fact (k + 1) := by
    rw [fact, ← Nat.succ_mul, Nat.mul_comm (k + 1)]
    exact Nat.mul_le_mul_right _ ha
  have h3 := fact_20 (k + 1) (by omega)
  have h1 : a * (k + 1) ≤ 2432902008176640000 := by omega
  refine ⟨by rw [e]; rfl, by rw [e, okD, decide_eq_true ⟨x0, x1⟩]; rfl, by omega, ?_, ?_⟩
  · rw [show (a : Int) * ((k : Int) + 1) = ((a * (k + 1) : Nat) : Int) by push_cast; rfl]
    exact wrap_small _ h1
  · rw [show (((a * (k + 1) : Nat) : Int) + x) = ((a * (k + 1) + x.toNat : Nat) : Int) by omega]
    exact wrap_small _ (by omega)
theorem idx_bad (l : List Int) (k : Nat) (hk : k < l.length) (x : Int) (hx : l.getD k 0 = x) (h : ¬ (0 ≤ x ∧ x ≤ k)) (he : okD k (l.drop k) = okD 0 l) : idxB l = false ∧ idxI l = 0 := by
  have e : l.drop k = x :: l.drop (k + 1) := by
    rw [List.drop_eq_getElem_cons hk]; congr 1
    simpa [List.getD_eq_getElem?_getD, hk] using hx
  have h1 : okD 0 l = false := by rw [← he, e, okD, decide_eq_false h]; rfl
  have h2 : idxB l = false := by unfold idxB; rw [h1]; simp
  exact ⟨h2, by unfold idxI; rw [if_neg (by rw [h2]; simp)]⟩
theorem idx_long (l : List Int) (h : 20 < l.length) : idxB l = false ∧ idxI l = 0 := by
  have h2 : idxB l = false := by unfold idxB; rw [decide_eq_false (by omega)]; rfl
  exact ⟨h2, by unfold idxI; rw [if_neg (by rw [h2]; simp)]⟩
theorem idx_end (l : List Int) (a : Nat) (hl : l.length ≤ 20) (he : okD l.length (l.drop l.length) = okD 0 l) (hi : idxR l.length a (l.drop l.length) = idxR 0 0 l) : idxB l = true ∧ idxI l = a := by
  rw [List.drop_length] at he hi
  have h2 : idxB l = true := by unfold idxB; rw [decide_eq_true hl, ← he]; rfl
  exact ⟨h2, by unfold idxI; rw [if_pos h2, ← hi]; rfl⟩
end Go.Proofs.Ytnbehigjeopniaa
/- Operations, plainly: the words of the document's check. -/
namespace Go.Proofs.Ytnbehigjeopniaa
open Go.RowKit
set_option maxRecDepth 100000

def namedB (n : Int) : Bool := decide (-1 ≤ n) && decide (n < 8)
def rangesB (op : OpM) : Bool := namedB op.chan && decide (0 ≤ op.dl) && decide (op.dl ≤ 1099511627776) && op.cases.all fun c => namedB c.chan
def shapeB (op : OpM) : Bool :=
  if ((op.kind == 3 || op.kind == 5 || op.kind == 6) && op.mode != 0) || (op.dl != 0 && op.mode != 2) then false
  else if op.kind != 4 then decide (op.cases.length = 0) && decide (op.draws.length = 0) && (op.kind == 1 || op.val == 0)
  else if op.chan != 0 || op.val != 0 || decide (op.draws.length ≠ op.cases.length) then false
  else op.cases.all fun c => c.send || c.val == 0
def kindB (op : OpM) : Bool := decide (1 ≤ op.kind) && decide (op.kind ≤ 6) && decide (0 ≤ op.mode) && decide (op.mode ≤ 2)
def checkE (op : OpM) : Int :=
  if kindB op = false then 2 else if rangesB op = false then 2 else if 6 < op.cases.length ∨ 6 < op.draws.length then 3
  else if okD 0 op.draws = false then 2 else if shapeB op = false then 5 else 0
structure OpM.ok (op : OpM) : Prop where
  kind : op.kind = IntKind.i64.wrap op.kind
  mode : op.mode = IntKind.i64.wrap op.mode
  chan : op.chan = IntKind.i64.wrap op.chan
  val : op.val = IntKind.u64.wrap op.val
  dl : op.dl = IntKind.i64.wrap op.dl
/-- a valid operation of small numbers -/
structure OpM.good (op : OpM) : Prop where
  check : checkE op = 0
  ok : op.ok
  cases : op.cases.length ≤ 6
  draws : op.draws.length ≤ 6
  cok : ∀ c ∈ op.cases, c.ok
theorem i64_small (x : Int) (h0 : -2000000000000 ≤ x) (h1 : x ≤ 2000000000000) : x = IntKind.i64.wrap x := i64_ok x (by omega) (by omega)
theorem good_one (kd md ch vl dl : Int) (hk : 1 ≤ kd ∧ kd ≤ 6) (h4 : kd ≠ 4) (hm : (md = 0 ∧ dl = 0) ∨ ((kd = 1 ∨ kd = 2) ∧ ((md = 1 ∧ dl = 0) ∨ (md = 2 ∧ 0 ≤ dl ∧ dl < 5)))) (hc : -1 ≤ ch ∧ ch < 8) (hv : vl = IntKind.u64.wrap vl) (hv2 : kd = 1 ∨ vl = 0) :
    OpM.good ⟨kd, md, ch, vl, dl, [], []⟩ := by
  have hm2 : 0 ≤ md ∧ md ≤ 2 := by omega
  have hd2 : 0 ≤ dl ∧ dl < 5 := by omega
  refine ⟨?_, ⟨i64_small _ (by simp only; omega) (by simp only; omega), i64_small _ (by simp only; omega) (by simp only; omega), i64_small _ (by simp only; omega) (by simp only; omega), hv, i64_small _ (by simp only; omega) (by simp only; omega)⟩, by simp, by simp, by simp⟩
  have k1 : kindB ⟨kd, md, ch, vl, dl, [], []⟩ = true := by simp [kindB]; omega
  have k2 : rangesB ⟨kd, md, ch, vl, dl, [], []⟩ = true := by simp [rangesB, namedB]; omega
  have k3 : shapeB ⟨kd, md, ch, vl, dl, [], []⟩ = true := by
    unfold shapeB
    have a1 : (kd == 4) = false := by simpa using h4
    have a2 : (kd != 4) = true := by simpa using h4
    have a3 : (((kd == 3 || kd == 5 || kd == 6) && md != 0) || (dl != 0 && md != 2)) = false := by
      rcases hm with ⟨rfl, rfl⟩ | ⟨h, ⟨rfl, rfl⟩ | ⟨rfl, _⟩⟩
      · simp
      · rcases h with rfl | rfl <;> decide
      · rcases h with rfl | rfl <;> simp
    simp only [a3, a2, if_true, Bool.false_eq_true, if_false]
    rcases hv2 with rfl | rfl <;> simp
  simp [checkE, k1, k2, k3, okD]
end Go.Proofs.Ytnbehigjeopniaa
