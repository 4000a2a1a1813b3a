/- Lists of records (eight cells each): as they read, and as the call owns them; append. -/
import Derived.Test.YtipjfcjdefdoeaaTr
import Derived.Test.YtipjfcjdefdoeaaMem
import Derived.Test.YtipjfcjdefdoeaaDraw
import Derived.Laws.AppendOwnNone
namespace Go.Proofs.Ytipjfcjdefdoeaa
open Go.ChangeShapes Go.WideShapes Go.ChangeAt Go.RowKit
set_option maxRecDepth 100000

/-- at offset off of block g lies the record x -/
def ItemAt (w : World) (g off : Nat) (x : ItemM) : Prop :=
  w.cell? ⟨g, off + 0, none⟩ = some (.int .i64 x.thr) ∧ w.cell? ⟨g, off + 1, none⟩ = some (.int .i64 x.acc.kind) ∧ w.cell? ⟨g, off + 2, none⟩ = some (.int .i64 x.acc.addr) ∧ w.cell? ⟨g, off + 3, none⟩ = some (.int .u64 x.acc.old) ∧ w.cell? ⟨g, off + 4, none⟩ = some (.int .u64 x.acc.new) ∧ w.cell? ⟨g, off + 5, none⟩ = some (.int .i64 x.acc.til) ∧ w.cell? ⟨g, off + 6, none⟩ = some (.int .u64 x.val) ∧ w.cell? ⟨g, off + 7, none⟩ = some (.bool x.ok)
/-- The slice value v reads in w as the list l of records. -/
def SlT (w : World) (v : Value) (l : List ItemM) : Prop :=
  l.length ≤ 140737488351232 ∧ (∀ x ∈ l, x.good) ∧ ∃ a cap, v = .slice a l.length cap ∧ l.length ≤ cap ∧ ∀ t, t < l.length → ∃ b off, a = some ⟨b, off, none⟩ ∧ b < w.heap.size ∧ ItemAt w b (off + t * 8) (l.getD t noItem)
theorem SlT.below {w w' : World} {v : Value} {l : List ItemM} (h : SlT w v l) (hb : Below w.heap.size w w') : SlT w' v l := by
  obtain ⟨h1, h2, a, cap, h3, h4, h5⟩ := h
  refine ⟨h1, h2, a, cap, h3, h4, fun t ht => ?_⟩
  obtain ⟨b, off, e, hlt, c0, c1, c2, c3, c4, c5, c6, c7⟩ := h5 t ht
  have hc : ∀ j, w'.cell? ⟨b, j, none⟩ = w.cell? ⟨b, j, none⟩ := fun j => hb.cell (p := ⟨b, j, none⟩) hlt
  exact ⟨b, off, e, Nat.lt_of_lt_of_le hlt hb.size, (hc _).trans c0, (hc _).trans c1, (hc _).trans c2, (hc _).trans c3, (hc _).trans c4, (hc _).trans c5, (hc _).trans c6, (hc _).trans c7⟩
theorem SlT.len {w : World} {v : Value} {l : List ItemM} (h : SlT w v l) : ∃ a cap, v = .slice a l.length cap ∧ l.length ≤ cap := by
  obtain ⟨_, _, a, cap, rfl, h4, _⟩ := h
  exact ⟨a, cap, rfl, h4⟩
theorem SlT.nil (w : World) : SlT w (.slice none 0 0) [] := ⟨by simp, by simp, none, 0, rfl, Nat.le_refl _, fun t ht => by simp at ht⟩
theorem SlT.open {w : World} {v : Value} {l : List ItemM} (h : SlT w v l) (hne : l ≠ []) :
    ∃ b off cap, v = .slice (some ⟨b, off, none⟩) l.length cap ∧ l.length ≤ cap ∧ b < w.heap.size ∧ ∀ t, t < l.length → ItemAt w b (off + t * 8) (l.getD t noItem) := by
  obtain ⟨_, _, a, cap, rfl, h4, h5⟩ := h
  obtain ⟨b, off, rfl, hlt, _⟩ := h5 0 (List.length_pos_iff.2 hne)
  refine ⟨b, off, cap, rfl, h4, hlt, fun t ht => ?_⟩
  obtain ⟨b', off', e, _, hc⟩ := h5 t ht
  simp only [Option.some.injEq, Addr.mk.injEq] at e
  obtain ⟨rfl, rfl, _⟩ := e
  exact hc
/-- The slice value v owns, among the blocks from base on, a row of cases that reads as l. -/
def OwnT (w : World) (base : Nat) (v : Value) (l : List ItemM) : Prop :=
  w.ownsRow base 42 8 v l.length (l.flatMap itemCells)
theorem flatT_length (l : List ItemM) : (l.flatMap itemCells).length = l.length * 8 := by
  induction l with
  | nil => rfl
  | cons x l ih => rw [List.flatMap_cons, List.length_append, ih, List.length_cons]; simp [itemCells]; omega
theorem flatT_get (l : List ItemM) (t j : Nat) (ht : t < l.length) (hj : j < 8) : (l.flatMap itemCells)[t * 8 + j]? = (itemCells (l.getD t noItem))[j]? := by
  induction l generalizing t with
  | nil => simp at ht
  | cons x l ih =>
    rw [List.flatMap_cons]
    have hx : (itemCells x).length = 8 := rfl
    cases t with
    | zero => rw [List.getElem?_append_left (by rw [hx]; omega)]; simp
    | succ t =>
      rw [List.getElem?_append_right (by rw [hx]; omega), hx, show (t + 1) * 8 + j - 8 = t * 8 + j by omega, ih t (by simpa using ht)]
      simp
theorem OwnT.nil (w : World) (base : Nat) : OwnT w base (.slice none 0 0) [] := World.ownsRow_nil w base _ 8
theorem OwnT.shape {w : World} {base : Nat} {v : Value} {l : List ItemM} (h : OwnT w base v l) :
    (v = .slice none 0 0 ∧ l = []) ∨ ∃ g cap, v = .slice (some ⟨g, 0, none⟩) l.length cap ∧ base ≤ g ∧ g < w.heap.size ∧ l.length ≤ cap := by
  rcases h.2 with ⟨rfl, h2⟩ | ⟨g, cap, cur, rfl, h3, h4, h5, h6, _, _⟩
  · exact .inl ⟨rfl, List.length_eq_zero_iff.1 h2⟩
  · exact .inr ⟨g, cap, rfl, h3, (Array.getElem?_eq_some_iff.1 h4).1, h5⟩
theorem OwnT.len {w : World} {base : Nat} {v : Value} {l : List ItemM} (h : OwnT w base v l) : ∃ a cap, v = .slice a l.length cap := by
  rcases h.shape with ⟨rfl, rfl⟩ | ⟨g, cap, rfl, _⟩
  · exact ⟨_, _, rfl⟩
  · exact ⟨_, _, rfl⟩
theorem OwnT.read {w : World} {base : Nat} {v : Value} {l : List ItemM} (h : OwnT w base v l) (hl : l.length ≤ 140737488351232) (hw : ∀ x ∈ l, x.good) : SlT w v l := by
  have h0 := h
  rcases h.shape with ⟨rfl, rfl⟩ | ⟨g, cap, rfl, h1, h2, h3⟩
  · exact SlT.nil w
  · refine ⟨hl, hw, some ⟨g, 0, none⟩, cap, rfl, h3, fun t ht => ⟨g, 0, rfl, h2, ?_⟩⟩
    have hc : ∀ j, j < 8 → w.cell? ⟨g, t * 8 + j, none⟩ = (itemCells (l.getD t noItem))[j]? := fun j hj => by
      rw [World.ownsRow.cellAt h0 (t * 8 + j) (by omega), flatT_get l t j ht hj]
    have c0 := hc 0 (by omega)
    have c1 := hc 1 (by omega)
    have c2 := hc 2 (by omega)
    have c3 := hc 3 (by omega)
    have c4 := hc 4 (by omega)
    have c5 := hc 5 (by omega)
    have c6 := hc 6 (by omega)
    have c7 := hc 7 (by omega)
    rw [Nat.zero_add]
    exact ⟨by simpa [itemCells] using c0, by simpa [itemCells] using c1, by simpa [itemCells] using c2, by simpa [itemCells] using c3, by simpa [itemCells] using c4, by simpa [itemCells] using c5, by simpa [itemCells] using c6, by simpa [itemCells] using c7⟩
theorem OwnT.kept {w w' : World} {base : Nat} {v : Value} {l : List ItemM} {row : Option Nat} (h : OwnT w base v l) (hg : w.grownBy w' row) (hne : v.ownBlock = none ∨ v.ownBlock ≠ row) : OwnT w' base v l := World.ownsRow.kept h hg hne
theorem OwnT.alloc {w : World} {base : Nat} {v : Value} {l : List ItemM} (h : OwnT w base v l) (o : Obj) : OwnT (w.alloc o) base v l := World.ownsRow.alloc h o
theorem OwnT.own_ge {w : World} {base : Nat} {v : Value} {l : List ItemM} (h : OwnT w base v l) : ∀ j, v.ownBlock = some j → base ≤ j := fun j hj => (World.ownsRow.lt h j hj).1
theorem OwnT.ne {w : World} {base : Nat} {v : Value} {l : List ItemM} (h : OwnT w base v l) {g : Nat} (hg : g < base) : v.ownBlock = none ∨ v.ownBlock ≠ some g := by
  cases hv : v.ownBlock with
  | none => exact .inl rfl
  | some b => exact .inr fun e => by have := h.own_ge b hv; cases e; omega
theorem OwnT.below {w w' : World} {base : Nat} {v : Value} {l : List ItemM} (h : OwnT w base v l) (hb : Below w.heap.size w w') : OwnT w' base v l := by
  refine h.kept (row := none) ⟨hb.os, hb.tape, hb.output, hb.size, fun j hj _ => hb.block j hj⟩ ?_
  cases hv : v.ownBlock with
  | none => exact .inl rfl
  | some x => exact .inr (by simp)
theorem OwnT.mono_base {w : World} {base b' : Nat} {v : Value} {l : List ItemM} (h : OwnT w base v l) (hb : b' ≤ base) : OwnT w b' v l := by
  refine ⟨h.1, ?_⟩
  rcases h.2 with h1 | ⟨g, cap, cur, h1, h2, h3⟩
  · exact .inl h1
  · exact .inr ⟨g, cap, cur, h1, Nat.le_trans hb h2, h3⟩
theorem Try.info_item : (Try.prog.info? 42).map (fun i => (i.zero, i.size, i.bytes)) = some (some (.agg #[.int .i64 0, .int .i64 0, .int .i64 0, .int .u64 0, .int .u64 0, .int .i64 0, .int .u64 0, .bool false]), 8, 64) := by kernel_rfl
section
variable (w : World) {ops : Array Oper} {rest : List Oper} {o : Oper} {a : Act} {Q : Exit → Act → World → Prop}
theorem wp_append_item (hg : o.guard = none) (s x : Operand) (hop : o.op = Op.call { callee := Callee.builtin Builtin.append, args := #[s, x], argTypes := #[31, 31] })
    (base : Nat) (v : Value) (l : List ItemM) (hs : a.eval s = v) (hown : OwnT w base v l) (y : ItemM) (g : Nat)
    (hx : a.eval x = .slice (some ⟨g, 0, none⟩) 1 1) (hcell : ItemAt w g 0 y) (hl : l.length ≤ 1000000) (hb : base ≤ w.heap.size)
    (hK : ∀ v' w', OwnT w' base v' (l ++ [y]) → w.grownBy w' v.ownBlock → wpList Try.prog ops Q rest (a.put o.dst v') w') :
    wpList Try.prog ops Q (o :: rest) a w := by
  obtain ⟨i0, hi, hz0, hz1, hz2⟩ := info_parts Try.info_item
  refine wpList_append_own w hg s x _ hop base _ i0 _ 8 _ (by kernel_rfl) hi hz0 hz1 rfl rfl (by decide) v l.length _ hs hown ⟨g, 0, none⟩ 1 1 (itemCells y) hx rfl ?_ ?_ (by unfold maxLen; omega) (by rw [hz2]; omega) hb fun v' w' h1 h2 h3 => hK v' w' ?_ h2
  · obtain ⟨c0, c1, c2, c3, c4, c5, c6, c7⟩ := hcell
    intro j u hj
    match j, hj with
    | 0, hj => simp [itemCells] at hj; subst hj; simpa [Addr.add] using c0
    | 1, hj => simp [itemCells] at hj; subst hj; simpa [Addr.add] using c1
    | 2, hj => simp [itemCells] at hj; subst hj; simpa [Addr.add] using c2
    | 3, hj => simp [itemCells] at hj; subst hj; simpa [Addr.add] using c3
    | 4, hj => simp [itemCells] at hj; subst hj; simpa [Addr.add] using c4
    | 5, hj => simp [itemCells] at hj; subst hj; simpa [Addr.add] using c5
    | 6, hj => simp [itemCells] at hj; subst hj; simpa [Addr.add] using c6
    | 7, hj => simp [itemCells] at hj; subst hj; simpa [Addr.add] using c7
  · intro u hu
    simp only [itemCells, List.mem_cons, List.not_mem_nil, or_false] at hu
    rcases hu with rfl | rfl | rfl | rfl | rfl | rfl | rfl | rfl <;> rfl
  · unfold OwnT
    rw [List.length_append, List.flatMap_append, List.flatMap_cons, List.flatMap_nil, List.append_nil]
    exact h1
end
theorem step_append_item {w : World} {ops : Array Oper} {o : Oper} {a : Act} {K : Act → World → Prop} {Q : Exit → Act → World → Prop} {E : Prop}
    (hgd : o.guard = none) (s x : Operand) (hop : o.op = Op.call { callee := Callee.builtin Builtin.append, args := #[s, x], argTypes := #[31, 31] })
    (base : Nat) (v : Value) (l : List ItemM) (hs : a.eval s = v) (hown : OwnT w base v l) (y : ItemM) (g : Nat)
    (hx : a.eval x = .slice (some ⟨g, 0, none⟩) 1 1) (hcell : ItemAt w g 0 y) (hl : l.length ≤ 1000000) (hb : base ≤ w.heap.size)
    (hK : ∀ v' w', OwnT w' base v' (l ++ [y]) → w.grownBy w' v.ownBlock → K (a.put o.dst v') w') :
    if Region.wanted o (yielded ops a.tmps) = true then Oper.wp Try.prog o a w K Q else E := by
  have hw : Region.wanted o (yielded ops a.tmps) = true := by simp [Region.wanted, hgd]
  rw [if_pos hw]
  obtain ⟨i0, hi, hz0, hz1, hz2⟩ := info_parts Try.info_item
  refine wp_append_own w s x _ hop base _ i0 _ 8 _ (by kernel_rfl) hi hz0 hz1 rfl rfl (by decide) v l.length _ hs hown ⟨g, 0, none⟩ 1 1 (itemCells y) hx rfl ?_ ?_ (by unfold maxLen; omega) (by rw [hz2]; omega) hb fun v' w' h1 h2 _ => hK v' w' ?_ h2
  · obtain ⟨c0, c1, c2, c3, c4, c5, c6, c7⟩ := hcell
    intro j u hj
    match j, hj with
    | 0, hj => simp [itemCells] at hj; subst hj; simpa [Addr.add] using c0
    | 1, hj => simp [itemCells] at hj; subst hj; simpa [Addr.add] using c1
    | 2, hj => simp [itemCells] at hj; subst hj; simpa [Addr.add] using c2
    | 3, hj => simp [itemCells] at hj; subst hj; simpa [Addr.add] using c3
    | 4, hj => simp [itemCells] at hj; subst hj; simpa [Addr.add] using c4
    | 5, hj => simp [itemCells] at hj; subst hj; simpa [Addr.add] using c5
    | 6, hj => simp [itemCells] at hj; subst hj; simpa [Addr.add] using c6
    | 7, hj => simp [itemCells] at hj; subst hj; simpa [Addr.add] using c7
  · intro u hu
    simp only [itemCells, List.mem_cons, List.not_mem_nil, or_false] at hu
    rcases hu with rfl | rfl | rfl | rfl | rfl | rfl | rfl | rfl <;> rfl
  · unfold OwnT
    rw [List.length_append, List.flatMap_append, List.flatMap_cons, List.flatMap_nil, List.append_nil]
    exact h1
def zeroItem : Array Value := #[.int .i64 0, .int .i64 0, .int .i64 0, .int .u64 0, .int .u64 0, .int .i64 0, .int .u64 0, .bool false]
end Go.Proofs.Ytipjfcjdefdoeaa
