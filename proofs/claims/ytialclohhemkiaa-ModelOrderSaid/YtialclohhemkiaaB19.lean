import Derived.Laws.AppendOwnNone
import Derived.Deep.RegionLaw
import Derived.Test.YtialclohhemkiaaB01
import Derived.Test.YtialclohhemkiaaB02
import Derived.Test.YtialclohhemkiaaB17
import Derived.Test.YtialclohhemkiaaB18
import Derived.Test.YtialclohhemkiaaB08
set_option linter.unusedVariables false
set_option linter.unusedSimpArgs false
/- Lists of cases (three cells each) and of numbers that the call owns: append, copies; nothing of the reader's block lies in them. -/
namespace Go.Proofs.Ytialclohhemkiaa
open Go.ChangeShapes Go.WideShapes Go.ChangeAt Go.RowKit
set_option maxRecDepth 100000

def caseCells (c : CaseM) : List Value := [.bool c.send, .int .i64 c.chan, .int .u64 c.val]
/-- The slice value v owns, among the blocks from base on, a row of cases that reads as l. -/
def OwnC (w : World) (base : Nat) (v : Value) (l : List CaseM) : Prop :=
  w.ownsRow base 74 3 v l.length (l.flatMap caseCells)
theorem flat_length (l : List CaseM) : (l.flatMap caseCells).length = l.length * 3 := by
  induction l with
  | nil => rfl
  | cons x l ih => rw [List.flatMap_cons, List.length_append, ih, List.length_cons]; simp [caseCells]; omega
theorem flat_get (l : List CaseM) (t j : Nat) (ht : t < l.length) (hj : j < 3) : (l.flatMap caseCells)[t * 3 + j]? = (caseCells (l.getD t noCase))[j]? := by
  induction l generalizing t with
  | nil => simp at ht
  | cons x l ih =>
    rw [List.flatMap_cons]
    have hx : (caseCells x).length = 3 := rfl
    cases t with
    | zero => rw [List.getElem?_append_left (by rw [hx]; omega)]; simp
    | succ t =>
      rw [List.getElem?_append_right (by rw [hx]; omega), hx, show (t + 1) * 3 + j - 3 = t * 3 + j by omega, ih t (by simpa using ht)]
      simp
theorem OwnC.nil (w : World) (base : Nat) : OwnC w base (.slice none 0 0) [] := World.ownsRow_nil w base _ 3
theorem OwnC.shape {w : World} {base : Nat} {v : Value} {l : List CaseM} (h : OwnC w base v l) :
    (v = .slice none 0 0 ∧ l = []) ∨ ∃ g cap, v = .slice (some ⟨g, 0, none⟩) l.length cap ∧ base ≤ g ∧ g < w.heap.size ∧ l.length ≤ cap := by
  rcases h.2 with ⟨rfl, h2⟩ | ⟨g, cap, cur, rfl, h3, h4, h5, h6, _, _⟩
  · exact .inl ⟨rfl, List.length_eq_zero_iff.1 h2⟩
  · exact .inr ⟨g, cap, rfl, h3, (Array.getElem?_eq_some_iff.1 h4).1, h5⟩
theorem OwnC.len {w : World} {base : Nat} {v : Value} {l : List CaseM} (h : OwnC w base v l) : ∃ a cap, v = .slice a l.length cap := by
  rcases h.shape with ⟨rfl, rfl⟩ | ⟨g, cap, rfl, _⟩
  · exact ⟨_, _, rfl⟩
  · exact ⟨_, _, rfl⟩
theorem OwnC.read {w : World} {base : Nat} {v : Value} {l : List CaseM} (h : OwnC w base v l) (hl : l.length ≤ 140737488351232) (hw : ∀ x ∈ l, x.ok) : SlC w v l := by
  have h0 := h
  rcases h.shape with ⟨rfl, rfl⟩ | ⟨g, cap, rfl, h1, h2, h3⟩
  · exact SlC.nil w
  · refine ⟨hl, hw, some ⟨g, 0, none⟩, cap, rfl, h3, fun t ht => ⟨g, 0, rfl, h2, ?_⟩⟩
    have hc : ∀ j, j < 3 → w.cell? ⟨g, t * 3 + j, none⟩ = (caseCells (l.getD t noCase))[j]? := fun j hj => by
      rw [World.ownsRow.cellAt h0 (t * 3 + j) (by omega), flat_get l t j ht hj]
    have c0 := hc 0 (by omega)
    have c1 := hc 1 (by omega)
    have c2 := hc 2 (by omega)
    rw [Nat.zero_add]
    exact ⟨by simpa [caseCells] using c0, by simpa [caseCells] using c1, by simpa [caseCells] using c2⟩
theorem OwnC.kept {w w' : World} {base : Nat} {v : Value} {l : List CaseM} {row : Option Nat} (h : OwnC w base v l) (hg : w.grownBy w' row) (hne : v.ownBlock = none ∨ v.ownBlock ≠ row) : OwnC w' base v l := World.ownsRow.kept h hg hne
theorem OwnC.alloc {w : World} {base : Nat} {v : Value} {l : List CaseM} (h : OwnC w base v l) (o : Obj) : OwnC (w.alloc o) base v l := World.ownsRow.alloc h o
theorem OwnC.own_ge {w : World} {base : Nat} {v : Value} {l : List CaseM} (h : OwnC w base v l) : ∀ j, v.ownBlock = some j → base ≤ j := fun j hj => (World.ownsRow.lt h j hj).1
theorem OwnC.ne {w : World} {base : Nat} {v : Value} {l : List CaseM} (h : OwnC w base v l) {g : Nat} (hg : g < base) : v.ownBlock = none ∨ v.ownBlock ≠ some g := by
  cases hv : v.ownBlock with
  | none => exact .inl rfl
  | some b => exact .inr fun e => by have := h.own_ge b hv; cases e; omega
theorem OwnC.below {w w' : World} {base : Nat} {v : Value} {l : List CaseM} (h : OwnC w base v l) (hb : Below w.heap.size w w') : OwnC w' base v l := by
  refine h.kept (row := none) ⟨hb.os, hb.tape, hb.output, hb.size, fun j hj _ => hb.block j hj⟩ ?_
  cases hv : v.ownBlock with
  | none => exact .inl rfl
  | some x => exact .inr (by simp)
theorem OwnC.mono_base {w : World} {base b' : Nat} {v : Value} {l : List CaseM} (h : OwnC w base v l) (hb : b' ≤ base) : OwnC w b' v l := by
  refine ⟨h.1, ?_⟩
  rcases h.2 with h1 | ⟨g, cap, cur, h1, h2, h3⟩
  · exact .inl h1
  · exact .inr ⟨g, cap, cur, h1, Nat.le_trans hb h2, h3⟩
theorem rows_apart {w : World} {b1 b2 n1 n2 s1 s2 : Nat} {e1 e2 : TypeId} {v1 v2 : Value} {l1 l2 : List Value} (h1 : w.ownsRow b1 e1 s1 v1 n1 l1) (h2 : w.ownsRow b2 e2 s2 v2 n2 l2) (he : e1 ≠ e2) : v1.ownBlock = none ∨ v1.ownBlock ≠ v2.ownBlock := by
  rcases h1.2 with ⟨rfl, _⟩ | ⟨g, cap, cur, rfl, _, hg, _⟩
  · exact .inl rfl
  · rcases h2.2 with ⟨rfl, _⟩ | ⟨g', cap', cur', rfl, _, hg', _⟩
    · exact .inr (by simp [Value.ownBlock])
    · refine .inr ?_
      simp only [Value.ownBlock, ne_eq, Option.some.injEq]
      intro e
      rw [e, hg'] at hg
      simp at hg
      exact he hg.2.symm
theorem Try.info_case : (Try.prog.info? 74).map (fun i => (i.zero, i.size, i.bytes)) = some (some (.agg #[.bool false, .int .i64 0, .int .u64 0]), 3, 24) := by kernel_rfl
section
variable (w : World) {ops : Array Oper} {rest : List Oper} {o : Oper} {a : Act} {Q : Exit → Act → World → Prop}
theorem wp_append_case (hg : o.guard = none) (s x : Operand) (hop : o.op = Op.call { callee := Callee.builtin Builtin.append, args := #[s, x], argTypes := #[36, 36] })
    (base : Nat) (v : Value) (l : List CaseM) (hs : a.eval s = v) (hown : OwnC w base v l) (y : CaseM) (g : Nat)
    (hx : a.eval x = .slice (some ⟨g, 0, none⟩) 1 1) (hcell : CaseAt w g 0 y) (hl : l.length ≤ 1000000) (hb : base ≤ w.heap.size)
    (hK : ∀ v' w', OwnC w' base v' (l ++ [y]) → w.grownBy w' v.ownBlock → wpList Try.prog ops Q rest (a.put o.dst v') w') :
    wpList Try.prog ops Q (o :: rest) a w := by
  obtain ⟨i0, hi, hz0, hz1, hz2⟩ := info_parts Try.info_case
  refine wpList_append_own w hg s x _ hop base _ i0 _ 3 _ (by kernel_rfl) hi hz0 hz1 rfl rfl (by decide) v l.length _ hs hown ⟨g, 0, none⟩ 1 1 (caseCells y) hx rfl ?_ ?_ (by unfold maxLen; omega) (by rw [hz2]; omega) hb fun v' w' h1 h2 h3 => hK v' w' ?_ h2
  · obtain ⟨c0, c1, c2⟩ := hcell
    intro j u hj
    match j, hj with
    | 0, hj => simp [caseCells] at hj; subst hj; simpa [Addr.add] using c0
    | 1, hj => simp [caseCells] at hj; subst hj; simpa [Addr.add] using c1
    | 2, hj => simp [caseCells] at hj; subst hj; simpa [Addr.add] using c2
  · intro u hu
    simp only [caseCells, List.mem_cons, List.not_mem_nil, or_false] at hu
    rcases hu with rfl | rfl | rfl <;> rfl
  · unfold OwnC
    rw [List.length_append, List.flatMap_append, List.flatMap_cons, List.flatMap_nil, List.append_nil]
    exact h1
end
theorem step_append_case {w : World} {ops : Array Oper} {o : Oper} {a : Act} {K : Act → World → Prop} {Q : Exit → Act → World → Prop} {E : Prop}
    (hgd : o.guard = none) (s x : Operand) (hop : o.op = Op.call { callee := Callee.builtin Builtin.append, args := #[s, x], argTypes := #[36, 36] })
    (base : Nat) (v : Value) (l : List CaseM) (hs : a.eval s = v) (hown : OwnC w base v l) (y : CaseM) (g : Nat)
    (hx : a.eval x = .slice (some ⟨g, 0, none⟩) 1 1) (hcell : CaseAt w g 0 y) (hl : l.length ≤ 1000000) (hb : base ≤ w.heap.size)
    (hK : ∀ v' w', OwnC w' base v' (l ++ [y]) → w.grownBy w' v.ownBlock → K (a.put o.dst v') w') :
    if Region.wanted o (yielded ops a.tmps) = true then Oper.wp Try.prog o a w K Q else E := by
  have hw : Region.wanted o (yielded ops a.tmps) = true := by simp [Region.wanted, hgd]
  rw [if_pos hw]
  obtain ⟨i0, hi, hz0, hz1, hz2⟩ := info_parts Try.info_case
  refine wp_append_own w s x _ hop base _ i0 _ 3 _ (by kernel_rfl) hi hz0 hz1 rfl rfl (by decide) v l.length _ hs hown ⟨g, 0, none⟩ 1 1 (caseCells y) hx rfl ?_ ?_ (by unfold maxLen; omega) (by rw [hz2]; omega) hb fun v' w' h1 h2 _ => hK v' w' ?_ h2
  · obtain ⟨c0, c1, c2⟩ := hcell
    intro j u hj
    match j, hj with
    | 0, hj => simp [caseCells] at hj; subst hj; simpa [Addr.add] using c0
    | 1, hj => simp [caseCells] at hj; subst hj; simpa [Addr.add] using c1
    | 2, hj => simp [caseCells] at hj; subst hj; simpa [Addr.add] using c2
  · intro u hu
    simp only [caseCells, List.mem_cons, List.not_mem_nil, or_false] at hu
    rcases hu with rfl | rfl | rfl <;> rfl
  · unfold OwnC
    rw [List.length_append, List.flatMap_append, List.flatMap_cons, List.flatMap_nil, List.append_nil]
    exact h1
/-- append(nil, l...) of nothing stays nil -/
theorem wp_copy_none (w : World) {ops : Array Oper} {rest : List Oper} {o : Oper} {a : Act} {Q : Exit → Act → World → Prop} (hg : o.guard = none) (s x : Operand) (T e : TypeId) (i : TypeInfo)
    (hop : o.op = Op.call { callee := Callee.builtin Builtin.append, args := #[s, x], argTypes := #[T, T] }) (ht : Try.prog.underlying T = some (.slice e)) (hi : Try.prog.info? e = some i)
    (hs : a.eval s = .slice none 0 0) (A : Option Addr) (c : Nat) (hx : a.eval x = .slice A 0 c) (h : wpList Try.prog ops Q rest (a.put o.dst (.slice none 0 0)) w) :
    wpList Try.prog ops Q (o :: rest) a w := by
  refine wpList_plain hg fun K hK => ?_
  have hrun : (Builtin.append_ #[T, T] o.type #[.slice none 0 0, .slice A 0 c]).run Try.prog w = .ok (.slice none 0 0) w := by
    cases A <;> simp [Builtin.append_, run_underlying ht, sizeOf, typeInfo, hi, Builtin.lenOf, Builtin.firstCells, storeCells, loadCells, loadCellsFrom, Result.andThen]
  unfold Oper.wp
  simp [execOp, hop, resolve, invoke, builtin, hs, hx, hrun, Result.andThen]
  exact hK _ _ h
theorem wp_copy_i64_any (w : World) {ops : Array Oper} {rest : List Oper} {o : Oper} {a : Act} {Q : Exit → Act → World → Prop}
    (hg : o.guard = none) (s x : Operand) (hop : o.op = Op.call { callee := Callee.builtin Builtin.append, args := #[s, x], argTypes := #[31, 31] })
    (xv : Value) (l : List Int) (hs : a.eval s = .slice none 0 0) (hx : a.eval x = xv) (hS : SlI w .i64 xv l) (hl : l.length ≤ 1000000) (B : Nat) (hB : B ≤ w.heap.size)
    (hK : ∀ v' w', OwnI w' B 3 .i64 v' l → Below w.heap.size w w' → wpList Try.prog ops Q rest (a.put o.dst v') w') :
    wpList Try.prog ops Q (o :: rest) a w := by
  by_cases hne : l = []
  · subst hne
    obtain ⟨i0, hi, -⟩ := info_parts Try.info_i64
    obtain ⟨A, cap, rfl, -⟩ := hS.len
    exact wp_copy_none w hg s x _ _ i0 hop (by kernel_rfl) hi hs A cap hx (hK _ _ (OwnI.nil _ _ _ _) (Below.refl _ _))
  · exact wp_copy_i64 w hg s x hop xv l hs hx hS hne hl fun g cap w' h1 h2 _ => hK _ _ (h1.mono_base hB) h2
theorem wp_copy_case_any (w : World) {ops : Array Oper} {rest : List Oper} {o : Oper} {a : Act} {Q : Exit → Act → World → Prop}
    (hg : o.guard = none) (s x : Operand) (hop : o.op = Op.call { callee := Callee.builtin Builtin.append, args := #[s, x], argTypes := #[36, 36] })
    (xv : Value) (l : List CaseM) (hs : a.eval s = .slice none 0 0) (hx : a.eval x = xv) (hS : SlC w xv l) (hl : l.length ≤ 1000000) (B : Nat) (hB : B ≤ w.heap.size)
    (hK : ∀ v' w', OwnC w' B v' l → Below w.heap.size w w' → wpList Try.prog ops Q rest (a.put o.dst v') w') :
    wpList Try.prog ops Q (o :: rest) a w := by
  obtain ⟨i0, hi, hz0, hz1, hz2⟩ := info_parts Try.info_case
  obtain ⟨m1, m2, A, cap, rfl, hcap, h5⟩ := hS
  by_cases hne : l = []
  · subst hne
    exact wp_copy_none w hg s x _ _ i0 hop (by kernel_rfl) hi hs A cap hx (hK _ _ (OwnC.nil _ _) (Below.refl _ _))
  · obtain ⟨b, off, rfl, hb, -⟩ := h5 0 (List.length_pos_iff.2 hne)
    refine wpList_append_own w hg s x _ hop w.heap.size _ i0 _ 3 _ (by kernel_rfl) hi hz0 hz1 rfl rfl (by decide) (.slice none 0 0) 0 [] hs (World.ownsRow_nil _ _ _ _) ⟨b, off, none⟩ l.length cap (l.flatMap caseCells) hx (flat_length l) ?_ ?_ (by unfold maxLen; omega) (by rw [hz2]; omega) (Nat.le_refl _) fun v' w' h1 h2 _ => ?_
    · intro j u hj
      have hjl : j < l.length * 3 := by rw [← flat_length]; exact (List.getElem?_eq_some_iff.1 hj).1
      obtain ⟨q, m, hm, rfl⟩ : ∃ q m, m < 3 ∧ j = q * 3 + m := ⟨j / 3, j % 3, by omega, by omega⟩
      obtain ⟨b', off', e, -, c0, c1, c2⟩ := h5 q (by omega)
      simp only [Option.some.injEq, Addr.mk.injEq, and_true] at e
      obtain ⟨rfl, rfl⟩ := e
      rw [flat_get l q m (by omega) hm] at hj
      rw [add_plain]
      obtain rfl | rfl | rfl : m = 0 ∨ m = 1 ∨ m = 2 := by omega
      · simp [caseCells] at hj; subst hj; simpa using c0
      · simp [caseCells] at hj; subst hj; simpa [Nat.add_assoc] using c1
      · simp [caseCells] at hj; subst hj; simpa [Nat.add_assoc] using c2
    · intro u hu
      simp only [List.mem_flatMap, caseCells, List.mem_cons, List.not_mem_nil, or_false] at hu
      obtain ⟨c, -, hu⟩ := hu
      rcases hu with rfl | rfl | rfl <;> rfl
    · have ho : OwnC w' w.heap.size v' l := by unfold OwnC; simpa using h1
      exact hK _ _ (ho.mono_base hB) ((Below.refl _ _).grown h2 (Nat.le_refl _) (fun j hj => by cases hj))
theorem SlC.litAt (w : World) (l : List CaseM) (g : Nat) (hg : g = w.heap.size) (hw : ∀ x ∈ l, x.ok) (hl : l.length ≤ 140737488351232) :
    SlC (w.alloc (.cells (l.flatMap caseCells).toArray 74)) (.slice (some ⟨g, 0, none⟩) l.length l.length) l := by
  subst hg
  refine ⟨hl, hw, _, _, rfl, Nat.le_refl _, fun t ht => ⟨_, 0, rfl, by simp, ?_⟩⟩
  have hc : ∀ j, j < 3 → (w.alloc (.cells (l.flatMap caseCells).toArray 74)).cell? ⟨w.heap.size, 0 + t * 3 + j, none⟩ = (caseCells (l.getD t noCase))[j]? := fun j hj => by
    rw [World.cell?_alloc_at _ _ _ _ rfl, Nat.zero_add, ← flat_get l t j ht hj]; simp
  have c0 := hc 0 (by omega)
  have c1 := hc 1 (by omega)
  have c2 := hc 2 (by omega)
  exact ⟨by simpa [caseCells] using c0, by simpa [caseCells] using c1, by simpa [caseCells] using c2⟩
end Go.Proofs.Ytialclohhemkiaa
/- The reader of choices: what its methods return, whatever the choices are. -/
namespace Go.Proofs.Ytialclohhemkiaa
open Go.ChangeShapes Go.WideShapes Go.ChangeAt Go.RowKit
set_option maxRecDepth 100000

theorem SlC.offOf {w : World} {v : Value} {l : List CaseM} (h : SlC w v l) {g : Nat} (hg : w.heap.size ≤ g) : offB g v := by
  intro a n c e
  obtain ⟨_, _, a', cap, rfl, _, h5⟩ := h
  rcases Nat.eq_zero_or_pos l.length with h0 | h0
  · simp only [Value.slice.injEq] at e; exact .inl (by omega)
  · obtain ⟨b, off, rfl, hlt, _⟩ := h5 0 h0
    simp only [Value.slice.injEq, Option.some.injEq] at e
    obtain ⟨rfl, _⟩ := e
    exact .inr (by simp; omega)
theorem SlC.grown {w w' : World} {v : Value} {l : List CaseM} {g : Nat} (h : SlC w v l) (hg : w.grownBy w' (some g)) (ho : offB g v) : SlC w' v l := by
  obtain ⟨h1, h2, a, cap, rfl, h4, h5⟩ := h
  refine ⟨h1, h2, a, cap, rfl, h4, fun t ht => ?_⟩
  obtain ⟨b, off, rfl, hlt, c0, c1, c2⟩ := h5 t ht
  have hb : b ≠ g := (ho _ _ _ rfl).resolve_left (by omega)
  have k : ∀ j, w'.cell? ⟨b, j, none⟩ = w.cell? ⟨b, j, none⟩ := fun j => World.cell?_of_block (a := ⟨b, j, none⟩) (hg.block b hlt (by simpa using hb))
  exact ⟨b, off, rfl, Nat.lt_of_lt_of_le hlt hg.size, (k _).trans c0, (k _).trans c1, (k _).trans c2⟩
theorem OwnC.off {w : World} {base : Nat} {v : Value} {l : List CaseM} (h : OwnC w base v l) {g : Nat} (hg : g < base) : offB g v := by
  intro a n c e
  subst e
  have := h.own_ge a.block rfl
  exact .inr (by omega)
/-- a configuration, an operation, that lie beside the reader's block -/
def ConfX (w : World) (g : Nat) (v : Value) (c : ConfM) : Prop :=
  ∃ vc vs, v = .agg #[vc, vs, .int .i64 c.threads] ∧ SlI w .i64 vc c.caps ∧ SlI w .u64 vs c.starts ∧ offB g vc ∧ offB g vs
theorem ConfX.conf {w : World} {g : Nat} {v : Value} {c : ConfM} (h : ConfX w g v c) : ConfV w v c := by
  obtain ⟨vc, vs, e, h1, h2, _⟩ := h; exact ⟨vc, vs, e, h1, h2⟩
theorem ConfX.below {w w' : World} {g : Nat} {v : Value} {c : ConfM} (h : ConfX w g v c) (hb : Below w.heap.size w w') : ConfX w' g v c := by
  obtain ⟨vc, vs, e, h1, h2, h3⟩ := h; exact ⟨vc, vs, e, h1.below hb, h2.below hb, h3⟩
theorem ConfX.grown {w w' : World} {g : Nat} {v : Value} {c : ConfM} (h : ConfX w g v c) (hg : w.grownBy w' (some g)) : ConfX w' g v c := by
  obtain ⟨vc, vs, e, h1, h2, h3, h4⟩ := h; exact ⟨vc, vs, e, h1.grown hg h3, h2.grown hg h4, h3, h4⟩
def OpX (w : World) (g : Nat) (v : Value) (op : OpM) : Prop :=
  ∃ vc vd, v = .agg #[.int .i64 op.kind, .int .i64 op.mode, .int .i64 op.chan, .int .u64 op.val, .int .i64 op.dl, vc, vd] ∧ SlC w vc op.cases ∧ SlI w .i64 vd op.draws ∧ offB g vc ∧ offB g vd
theorem OpX.opv {w : World} {g : Nat} {v : Value} {op : OpM} (h : OpX w g v op) : OpV w v op := by
  obtain ⟨vc, vs, e, h1, h2, _⟩ := h; exact ⟨vc, vs, e, h1, h2⟩
theorem OpX.below {w w' : World} {g : Nat} {v : Value} {op : OpM} (h : OpX w g v op) (hb : Below w.heap.size w w') : OpX w' g v op := by
  obtain ⟨vc, vs, e, h1, h2, h3⟩ := h; exact ⟨vc, vs, e, h1.below hb, h2.below hb, h3⟩
theorem OpX.grown {w w' : World} {g : Nat} {v : Value} {op : OpM} (h : OpX w g v op) (hg : w.grownBy w' (some g)) : OpX w' g v op := by
  obtain ⟨vc, vs, e, h1, h2, h3, h4⟩ := h; exact ⟨vc, vs, e, h1.grown hg h3, h2.grown hg h4, h3, h4⟩
theorem OpV.opx {w : World} {g : Nat} {v : Value} {op : OpM} (h : OpV w v op) (hg : w.heap.size ≤ g) : OpX w g v op := by
  obtain ⟨vc, vs, e, h1, h2⟩ := h; exact ⟨vc, vs, e, h1, h2, h1.offOf hg, h2.offOf hg⟩
theorem configE (g : Nat) (w : World) (h : CodesE w g) :
    Calls Try.prog 20 #[.pointer (some ⟨g, 0, none⟩)] w fun e w' => ∃ v c, e = .returned v ∧ ConfX w' g v c ∧ c.caps.length = c.starts.length ∧ 1 ≤ c.caps.length ∧ c.caps.length ≤ 3 ∧ 2 ≤ c.threads ∧ c.threads ≤ 4 ∧ CodesE w' g ∧ w.grownBy w' (some g) := by
  obtain ⟨r, val, h⟩ := h
  refine (config_any g r val w h).mono ?_
  rintro e w' ⟨vc, vs, t, caps, starts, r', rfl, h1, h2, h3, h4, h5, h6, h7, h8, h9, h10, h11, -⟩
  exact ⟨_, ⟨caps, starts, t⟩, rfl, ⟨vc, vs, rfl, h1, h2, h10, h11⟩, h3, h4, h5, h6, h7, ⟨_, _, h8⟩, h9⟩
set_option maxRecDepth 100000 in
theorem channelE (g : Nat) (v : Value) (c : ConfM) (w : World) (h : CodesE w g) (hv : ConfX w g v c) (hc : c.caps.length ≤ 8) :
    Calls Try.prog 50 #[.pointer (some ⟨g, 0, none⟩), v] w fun e w' => ∃ x : Int, e = .returned (.int .i64 x) ∧ -1 ≤ x ∧ x < 8 ∧ CodesE w' g ∧ w.grownBy w' (some g) := by
  have hlt := h.lt
  have HC := Lib.hid h
  obtain ⟨vc, vs, rfl, h1, h2, _⟩ := hv
  obtain ⟨a, cap, rfl, -⟩ := h1.len
  obtain ⟨a2, cap2, rfl, -⟩ := h2.len
  clear h h1 h2
  obtain ⟨W, hW⟩ : ∃ W, w.alloc (.cells #[.slice a c.caps.length cap, .slice a2 c.starts.length cap2, .int .i64 c.threads] 34) = W := ⟨_, rfl⟩
  have HB : Hid (Below w.heap.size w W) := hW ▸ below_new (Below.refl w.heap.size w) _
  have hz : w.heap.size + 1 ≤ W.heap.size := by rw [← hW]; simp
  have R0 : Hid (W.heap[w.heap.size]? = some (.cells #[.slice a c.caps.length cap, .slice a2 c.starts.length cap2, .int .i64 c.threads] 34 (0, 0))) := by
    show _ = _
    rw [← hW]; exact heap_alloc_new _ _
  have HCW := Lib.hid (HC.out.kept hlt HB.out)
  have HW := Lib.hid hW
  clear hW
  generalize c.caps.length = n at *
  go_enter Try.func50, Try.ntmps50
  go_wp2_with fail
  rw [HW.out]
  refine (nextE g 16 _ HCW.out (by omega) (by omega)).mono ?_; rintro e w1 ⟨x, rfl, hx0, hx1, hc1, hg1⟩
  have HC1 := Lib.hid hc1
  have HG1 := Lib.hid (grownBy_trans (⟨HB.out.os, HB.out.tape, HB.out.output, HB.out.size, fun j hj _ => HB.out.block j hj⟩ : w.grownBy W (some g)) hg1)
  have bx := (hg1.block w.heap.size (by omega) (by simp; omega)).trans R0.out
  have c0 := cell_of_row _ _ 0 _ _ _ bx
  simp at c0
  clear hc1 hg1 bx
  by_cases h9 : x = 9
  · subst h9
    go_wp2_with fail
    refine (nextE g 9 _ HC1.out (by omega) (by omega)).mono ?_; rintro e w2 ⟨y, rfl, hy0, hy1, hc2, hg2⟩
    have HC2 := Lib.hid hc2
    have HG2 := Lib.hid (grownBy_trans HG1.out hg2)
    clear hc2 hg2
    go_wp2
    go_ret
    exact ⟨y - 1, rfl, by omega, by omega, HC2.out, HG2.out⟩
  · have h9b : (x == 9) = false := by simpa using h9
    clear h9
    by_cases h0 : n = 0
    · subst h0
      go_wp2
      go_ret
      exact ⟨-1, rfl, by omega, by omega, HC1.out, HG1.out⟩
    · have h0b : ((n : Int) == 0) = false := by simpa using h0
      go_wp2_with fail
      refine (nextE g n _ HC1.out (by omega) (by omega)).mono ?_; rintro e w2 ⟨y, rfl, hy0, hy1, hc2, hg2⟩
      have HC2 := Lib.hid hc2
      have HG2 := Lib.hid (grownBy_trans HG1.out hg2)
      clear hc2 hg2
      go_wp2
      go_ret
      exact ⟨y, rfl, by omega, by omega, HC2.out, HG2.out⟩
end Go.Proofs.Ytialclohhemkiaa
/- The reader of choices: values, modes, numbers at limits. -/
namespace Go.Proofs.Ytialclohhemkiaa
open Go.ChangeShapes Go.WideShapes Go.ChangeAt Go.RowKit
set_option maxRecDepth 100000

theorem grown_of_below {a b : World} {row : Option Nat} (h : Below a.heap.size a b) : a.grownBy b row := ⟨h.os, h.tape, h.output, h.size, fun j hj _ => h.block j hj⟩
theorem u64_ok (x : Int) (h0 : 0 ≤ x) (h1 : x ≤ 18446744073709551615) : x = IntKind.u64.wrap x := by
  rw [IntKind.wrap_u64]; omega
theorem value_step {w : World} {g k : Nat} {v : Value} {val x : Int} {l r : List Int} (hg : w.heap[g]? = some (.cells #[v, .int .i64 k, .int .u64 val] 89 (0, 0))) (h : CodesAt w g r val) :
    CodesAt (w.setCell ⟨g, 2, none⟩ (.int .u64 x)) g r x ∧ w.grownBy (w.setCell ⟨g, 2, none⟩ (.int .u64 x)) (some g) ∧ (w.setCell ⟨g, 2, none⟩ (.int .u64 x)).cell? ⟨g, 2, none⟩ = some (.int .u64 x) := by
  have hs := heap_setCell_same w g 2 _ _ (.int .u64 x) hg
  have hgr := grownBy_setCell w ⟨g, 2, none⟩ (.int .u64 x)
  refine ⟨?_, hgr, by simpa using cell_of_row _ g 2 _ _ _ hs⟩
  obtain ⟨v', l', k', hg', hl, hk, hr, ho⟩ := h
  rw [hg] at hg'
  simp only [Option.some.injEq, Obj.cells.injEq, Array.mk.injEq, List.cons.injEq, and_true] at hg'
  obtain ⟨rfl, hkk⟩ := hg'
  simp only [Value.int.injEq, true_and, and_true] at hkk
  obtain rfl : k = k' := by omega
  refine ⟨v, l', k, by simpa using hs, ?_, hk, hr, ho⟩
  refine hl.grown hgr fun a n c e => ?_
  subst e
  by_cases hne : l' = []
  · obtain ⟨a', cap', e, -⟩ := hl.len
    rw [hne] at e
    simp only [Value.slice.injEq] at e
    exact .inl e.2.1
  · exact .inr (by have := ho hne (some a) n c rfl a rfl; simp; omega)
theorem valueE (g : Nat) (w : World) (h : CodesE w g) :
    Calls Try.prog 23 #[.pointer (some ⟨g, 0, none⟩)] w fun e w' => ∃ x : Int, e = .returned (.int .u64 x) ∧ x = IntKind.u64.wrap x ∧ CodesE w' g ∧ w.grownBy w' (some g) := by
  obtain ⟨r, val, h⟩ := h
  obtain ⟨v, l, k, hg, -⟩ := id h
  have c2 := cell_of_row w g 2 _ _ _ hg
  have f2 := frozen_of_row w g 2 _ _ hg
  simp at c2
  have ST := Lib.hid fun x => value_step (x := x) (l := l) hg h
  obtain ⟨x, hx⟩ : ∃ x, IntKind.u64.wrap (val + 1) = x := ⟨_, rfl⟩
  obtain ⟨s1, s2, s3⟩ := ST.out x
  have HS := Lib.hid (And.intro s1 s2)
  have HX : Hid (x = IntKind.u64.wrap x) := by
    show _ = _
    rw [← hx, IntKind.wrap_u64, IntKind.wrap_u64]; omega
  clear hg h ST s1 s2
  go_enter Try.func23, Try.ntmps23
  go_wp2
  go_ret
  exact ⟨x, rfl, HX.out, ⟨r, x, HS.out.1⟩, HS.out.2⟩
theorem row7 {w : World} {g : Nat} {T : TypeId} {v0 v1 v2 v3 v4 v5 v6 : Value} (h : w.heap[g]? = some (.cells #[v0, v1, v2, v3, v4, v5, v6] T (0, 0))) :
    w.cell? ⟨g, 0, none⟩ = some v0 ∧ w.cell? ⟨g, 1, none⟩ = some v1 ∧ w.cell? ⟨g, 2, none⟩ = some v2 ∧ w.cell? ⟨g, 3, none⟩ = some v3 ∧ w.cell? ⟨g, 4, none⟩ = some v4 ∧ w.cell? ⟨g, 5, none⟩ = some v5 ∧ w.cell? ⟨g, 6, none⟩ = some v6 :=
  ⟨cell_of_row _ _ 0 _ _ _ h, cell_of_row _ _ 1 _ _ _ h, cell_of_row _ _ 2 _ _ _ h, cell_of_row _ _ 3 _ _ _ h, cell_of_row _ _ 4 _ _ _ h, cell_of_row _ _ 5 _ _ _ h, cell_of_row _ _ 6 _ _ _ h⟩
theorem row3 {w : World} {g : Nat} {T : TypeId} {v0 v1 v2 : Value} (h : w.heap[g]? = some (.cells #[v0, v1, v2] T (0, 0))) :
    w.cell? ⟨g, 0, none⟩ = some v0 ∧ w.cell? ⟨g, 1, none⟩ = some v1 ∧ w.cell? ⟨g, 2, none⟩ = some v2 :=
  ⟨cell_of_row _ _ 0 _ _ _ h, cell_of_row _ _ 1 _ _ _ h, cell_of_row _ _ 2 _ _ _ h⟩
theorem grownBy_setRow (w : World) (g : Nat) (cs : Array Value) : w.grownBy (w.setRow g cs) (some g) :=
  ⟨rfl, rfl, rfl, by simp [World.setRow], fun k _ hk => setRow_other w g k cs (fun e => hk (by rw [e]))⟩
/-- what a call leaves that has written the reader's block, and new blocks of its own -/
theorem grownBy_own {a b c : World} {g : Nat} {row : Option Nat} (h : a.grownBy b (some g)) (h2 : b.grownBy c row) (hr : ∀ k, row = some k → a.heap.size ≤ k) : a.grownBy c (some g) := grownBy_of_new h h2 hr
/-- the words of an operation as cells -/
def opCells (op : OpM) (vc vd : Value) : Array Value := #[.int .i64 op.kind, .int .i64 op.mode, .int .i64 op.chan, .int .u64 op.val, .int .i64 op.dl, vc, vd]
def zeroOp : Array Value := #[.int .i64 0, .int .i64 0, .int .i64 0, .int .u64 0, .int .i64 0, .slice none 0 0, .slice none 0 0]
/-- behind a call that wrote the reader's block, blocks of the call's own are written -/
theorem mode_end {w w1 W : World} {g : Nat} (hlt : g < w.heap.size) (hg : w.grownBy w1 (some g)) (hc : CodesE w1 g) (hb : Below w.heap.size w1 W) : CodesE W g ∧ w.grownBy W (some g) :=
  ⟨hc.kept hlt hb, ⟨hb.os.trans hg.os, hb.tape.trans hg.tape, hb.output.trans hg.output, Nat.le_trans hg.size hb.size, fun k hk hr => (hb.block k hk).trans (hg.block k hk hr)⟩⟩
set_option maxRecDepth 100000 in
set_option maxHeartbeats 1000000 in
theorem modeE (g : Nat) (kd md ch vl dl : Int) (vc vd : Value) (cs : List CaseM) (ds : List Int) (w : World) (h : CodesE w g) (hc : SlC w vc cs) (hd : SlI w .i64 vd ds) :
    Calls Try.prog 49 #[.pointer (some ⟨g, 0, none⟩), .agg #[.int .i64 kd, .int .i64 md, .int .i64 ch, .int .u64 vl, .int .i64 dl, vc, vd]] w fun e w' =>
      ∃ m d, e = .returned (.agg #[.int .i64 kd, .int .i64 m, .int .i64 ch, .int .u64 vl, .int .i64 d, vc, vd]) ∧ ((m = md ∧ d = dl) ∨ (m = 1 ∧ d = dl) ∨ (m = 2 ∧ 0 ≤ d ∧ d < 5)) ∧ CodesE w' g ∧ w.grownBy w' (some g) := by
  have hlt := h.lt
  have HC := Lib.hid h
  obtain ⟨a3, cap3, rfl⟩ := hc.len
  obtain ⟨a4, cap4, rfl, -⟩ := hd.len
  clear h hc hd
  generalize cs.length = nc at *
  generalize ds.length = nd at *
  obtain ⟨W, hW⟩ : ∃ W, (w.alloc (.cells #[.int .i64 kd, .int .i64 md, .int .i64 ch, .int .u64 vl, .int .i64 dl, .slice a3 nc cap3, .slice a4 nd cap4] 38)).alloc (.cells zeroOp 38) = W := ⟨_, rfl⟩
  have HB : Hid (Below w.heap.size w W) := hW ▸ below_new (below_new (Below.refl w.heap.size w) _) _
  have hz : w.heap.size + 2 ≤ W.heap.size := by rw [← hW]; simp
  have R0 : Hid (W.heap[w.heap.size]? = some (.cells #[.int .i64 kd, .int .i64 md, .int .i64 ch, .int .u64 vl, .int .i64 dl, .slice a3 nc cap3, .slice a4 nd cap4] 38 (0, 0))) := by
    show _ = _
    rw [← hW]; exact heap_alloc2_old _ _ _
  have R1 : Hid (W.heap[w.heap.size + 1]? = some (.cells zeroOp 38 (0, 0))) := by
    show _ = _
    rw [← hW]; exact heap_alloc2_new _ _ _
  have HCW := Lib.hid (HC.out.kept hlt HB.out)
  have HGW : Hid (w.grownBy W (some g)) := grown_of_below HB.out
  have HW := Lib.hid hW
  clear hW
  go_enter Try.func49, Try.ntmps49
  go_wp2_with fail
  rw [show (#[.int .i64 0, .int .i64 0, .int .i64 0, .int .u64 0, .int .i64 0, .slice none 0 0, .slice none 0 0] : Array Value) = zeroOp from rfl, HW.out]
  refine (nextE g 8 _ HCW.out (by omega) (by omega)).mono ?_; rintro e w1 ⟨x, rfl, hx0, hx1, hc1, hg1⟩
  have HC1 := Lib.hid hc1
  have HG1 := Lib.hid (grownBy_trans HGW.out hg1)
  have S0 := Lib.hid ((hg1.block w.heap.size (by omega) (by simp; omega)).trans R0.out)
  have S1 := Lib.hid ((hg1.block (w.heap.size + 1) (by omega) (by simp; omega)).trans R1.out)
  have hg1s : w.heap.size + 2 ≤ w1.heap.size := Nat.le_trans hz hg1.size
  clear hc1 hg1
  obtain ⟨c0, c1, c2, c3, c4, c5, c6⟩ := row7 S0.out
  have f1 := frozen_of_row _ _ 1 _ _ S0.out
  have f4 := frozen_of_row _ _ 4 _ _ S0.out
  rcases (show (x = 5 ∨ x = 6) ∨ x = 7 ∨ ((x == 5) = false ∧ (x == 6) = false ∧ (x == 7) = false) by simp; omega) with hx | rfl | ⟨x5, x6, x7⟩
  · have T0 := Lib.hid (heap_setCell_same w1 w.heap.size 1 _ _ (.int .i64 1) S0.out)
    have TROW := Lib.hid ((heap_setCell_other w1 ⟨w.heap.size, 1, none⟩ (w.heap.size + 1) (.int .i64 1) (by simp)).trans S1.out)
    have HG := HG1
    have HCC := HC1
    simp at T0
    obtain ⟨d0, d1, d2, d3, d4, d5, d6⟩ := row7 T0.out
    rcases hx with rfl | rfl
    all_goals
      go_wp2_with (refine wpList_store_row rfl 38 _ _ rfl (w.heap.size + 1) _ rfl rfl 38 zeroOp TROW.out (by kernel_rfl) rfl (by simp [Value.oneCell']) ?_)
      refine bodyPost_ret (v := .agg #[.int .i64 kd, .int .i64 1, .int .i64 ch, .int .u64 vl, .int .i64 dl, .slice a3 nc cap3, .slice a4 nd cap4]) (results_cell_row Try.results49 _ _ (w.heap.size + 1) 38 _ (0, 0) _ rfl (setRow_heap _ _ _ _ 38 (0, 0) TROW.out) Try.underlying38 rfl (by kernel_rfl)) rfl ?_
      obtain ⟨f2, f3⟩ := mode_end hlt HG.out HCC.out (W := _) (below_setRow ((Below.refl _ _).setCell (p := ⟨w.heap.size, 1, none⟩) (Nat.le_refl _) _) (Nat.le_succ _) _)
      exact ⟨1, dl, rfl, .inr (.inl ⟨rfl, rfl⟩), f2, f3⟩

  · go_wp2_with fail
    refine (nextE g 5 _ HC1.out (by omega) (by omega)).mono ?_; rintro e w2 ⟨y, rfl, hy0, hy1, hc2, hg2⟩
    have HCC := Lib.hid hc2
    have HG := Lib.hid (grownBy_trans HG1.out hg2)
    have S20 := Lib.hid ((hg2.block w.heap.size (by omega) (by simp; omega)).trans S0.out)
    have S21 := Lib.hid ((hg2.block (w.heap.size + 1) (by omega) (by simp; omega)).trans S1.out)
    clear hc2 hg2 c0 c1 c2 c3 c4 c5 c6 f1 f4
    obtain ⟨c0, c1, c2, c3, c4, c5, c6⟩ := row7 S20.out
    have f1 := frozen_of_row _ _ 1 _ _ S20.out
    have f4 := frozen_of_row _ _ 4 _ _ S20.out
    have T0 := Lib.hid (heap_setCell_same w2 w.heap.size 1 _ _ (.int .i64 2) S20.out)
    simp at T0
    have g4 := frozen_of_row _ _ 4 _ _ T0.out
    have U0 := Lib.hid (heap_setCell_same _ w.heap.size 4 _ _ (.int .i64 y) T0.out)
    simp at U0
    obtain ⟨e0, e1, e2, e3, e4, e5, e6⟩ := row7 T0.out
    obtain ⟨d0, d1, d2, d3, d4, d5, d6⟩ := row7 U0.out
    have TROW := Lib.hid ((heap_setCell_other _ ⟨w.heap.size, 4, none⟩ (w.heap.size + 1) (.int .i64 y) (by simp)).trans ((heap_setCell_other w2 ⟨w.heap.size, 1, none⟩ (w.heap.size + 1) (.int .i64 2) (by simp)).trans S21.out))
    go_wp2_with (refine wpList_store_row rfl 38 _ _ rfl (w.heap.size + 1) _ rfl rfl 38 zeroOp TROW.out (by kernel_rfl) rfl (by simp [Value.oneCell']) ?_)
    refine bodyPost_ret (v := .agg #[.int .i64 kd, .int .i64 2, .int .i64 ch, .int .u64 vl, .int .i64 y, .slice a3 nc cap3, .slice a4 nd cap4]) (results_cell_row Try.results49 _ _ (w.heap.size + 1) 38 _ (0, 0) _ rfl (setRow_heap _ _ _ _ 38 (0, 0) TROW.out) Try.underlying38 rfl (by kernel_rfl)) rfl ?_
    obtain ⟨f2, f3⟩ := mode_end hlt HG.out HCC.out (W := _) (below_setRow (((Below.refl _ _).setCell (p := ⟨w.heap.size, 1, none⟩) (Nat.le_refl _) _).setCell (p := ⟨w.heap.size, 4, none⟩) (Nat.le_refl _) _) (Nat.le_succ _) _)
    exact ⟨2, y, rfl, .inr (.inr ⟨rfl, hy0, hy1⟩), f2, f3⟩

  · have TROW := S1
    have HG := HG1
    have HCC := HC1
    go_wp2_with (refine wpList_store_row rfl 38 _ _ rfl (w.heap.size + 1) _ rfl rfl 38 zeroOp TROW.out (by kernel_rfl) rfl (by simp [Value.oneCell']) ?_)
    refine bodyPost_ret (v := .agg #[.int .i64 kd, .int .i64 md, .int .i64 ch, .int .u64 vl, .int .i64 dl, .slice a3 nc cap3, .slice a4 nd cap4]) (results_cell_row Try.results49 _ _ (w.heap.size + 1) 38 _ (0, 0) _ rfl (setRow_heap _ _ _ _ 38 (0, 0) TROW.out) Try.underlying38 rfl (by kernel_rfl)) rfl ?_
    obtain ⟨f2, f3⟩ := mode_end hlt HG.out HCC.out (W := _) (below_setRow (Below.refl _ _) (Nat.le_succ _) _)
    exact ⟨md, dl, rfl, .inl ⟨rfl, rfl⟩, f2, f3⟩

end Go.Proofs.Ytialclohhemkiaa
