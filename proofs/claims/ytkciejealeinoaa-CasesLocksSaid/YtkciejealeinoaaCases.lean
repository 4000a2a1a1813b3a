/- Lists of cases (three cells each) and of numbers that the call owns: append, copies; nothing of the reader's block lies in them. -/
import Derived.Test.YtkciejealeinoaaOp
import Derived.Test.YtkciejealeinoaaMem
import Derived.Test.YtkciejealeinoaaDraw
import Derived.Laws.AppendOwnNone
namespace Go.Proofs.Ytkciejealeinoaa
open Go.ChangeShapes Go.WideShapes Go.ChangeAt Go.RowKit
set_option maxRecDepth 100000

def caseCells (c : CaseM) : List Value := [.bool c.send, .int .i64 c.chan, .int .u64 c.val]
/-- The slice value v owns, among the blocks from base on, a row of cases that reads as l. -/
def OwnC (w : World) (base : Nat) (v : Value) (l : List CaseM) : Prop :=
  w.ownsRow base 69 3 v l.length (l.flatMap caseCells)
theorem flat_length (l : List CaseM) : (l.flatMap caseCells).length = l.length * 3 := by
  induction l with
  | nil => rfl
  | cons x l ih => rw [List.flatMap_cons, List.length_append, ih, List.length_cons]; simp [caseCells]; omega
theorem flat_get (l : List CaseM) (t j : Nat) (ht : t < l.length) (hj : j < 3) : (l.flatMap caseCells)[t * 3 + j]? = (caseCells (l.getD t noCase))[j]? := by
  induction l generalizing t with
  | nil => simp at ht
  | cons x l ih =>
    rw [List.flatMap_cons]
    have hx : (caseCells x).length = 3 := rfl
    cases t with
    | zero => rw [List.getElem?_append_left (by rw [hx]; omega)]; simp
    | succ t =>
      rw [List.getElem?_append_right (by rw [hx]; omega), hx, show (t + 1) * 3 + j - 3 = t * 3 + j by omega, ih t (by simpa using ht)]
      simp
theorem OwnC.nil (w : World) (base : Nat) : OwnC w base (.slice none 0 0) [] := World.ownsRow_nil w base _ 3
theorem OwnC.shape {w : World} {base : Nat} {v : Value} {l : List CaseM} (h : OwnC w base v l) :
    (v = .slice none 0 0 ∧ l = []) ∨ ∃ g cap, v = .slice (some ⟨g, 0, none⟩) l.length cap ∧ base ≤ g ∧ g < w.heap.size ∧ l.length ≤ cap := by
  rcases h.2 with ⟨rfl, h2⟩ | ⟨g, cap, cur, rfl, h3, h4, h5, h6, _, _⟩
  · exact .inl ⟨rfl, List.length_eq_zero_iff.1 h2⟩
  · exact .inr ⟨g, cap, rfl, h3, (Array.getElem?_eq_some_iff.1 h4).1, h5⟩
theorem OwnC.len {w : World} {base : Nat} {v : Value} {l : List CaseM} (h : OwnC w base v l) : ∃ a cap, v = .slice a l.length cap := by
  rcases h.shape with ⟨rfl, rfl⟩ | ⟨g, cap, rfl, _⟩
  · exact ⟨_, _, rfl⟩
  · exact ⟨_, _, rfl⟩
theorem OwnC.read {w : World} {base : Nat} {v : Value} {l : List CaseM} (h : OwnC w base v l) (hl : l.length ≤ 140737488351232) (hw : ∀ x ∈ l, x.ok) : SlC w v l := by
  have h0 := h
  rcases h.shape with ⟨rfl, rfl⟩ | ⟨g, cap, rfl, h1, h2, h3⟩
  · exact SlC.nil w
  · refine ⟨hl, hw, some ⟨g, 0, none⟩, cap, rfl, h3, fun t ht => ⟨g, 0, rfl, h2, ?_⟩⟩
    have hc : ∀ j, j < 3 → w.cell? ⟨g, t * 3 + j, none⟩ = (caseCells (l.getD t noCase))[j]? := fun j hj => by
      rw [World.ownsRow.cellAt h0 (t * 3 + j) (by omega), flat_get l t j ht hj]
    have c0 := hc 0 (by omega)
    have c1 := hc 1 (by omega)
    have c2 := hc 2 (by omega)
    rw [Nat.zero_add]
    exact ⟨by simpa [caseCells] using c0, by simpa [caseCells] using c1, by simpa [caseCells] using c2⟩
theorem OwnC.kept {w w' : World} {base : Nat} {v : Value} {l : List CaseM} {row : Option Nat} (h : OwnC w base v l) (hg : w.grownBy w' row) (hne : v.ownBlock = none ∨ v.ownBlock ≠ row) : OwnC w' base v l := World.ownsRow.kept h hg hne
theorem OwnC.alloc {w : World} {base : Nat} {v : Value} {l : List CaseM} (h : OwnC w base v l) (o : Obj) : OwnC (w.alloc o) base v l := World.ownsRow.alloc h o
theorem OwnC.own_ge {w : World} {base : Nat} {v : Value} {l : List CaseM} (h : OwnC w base v l) : ∀ j, v.ownBlock = some j → base ≤ j := fun j hj => (World.ownsRow.lt h j hj).1
theorem OwnC.ne {w : World} {base : Nat} {v : Value} {l : List CaseM} (h : OwnC w base v l) {g : Nat} (hg : g < base) : v.ownBlock = none ∨ v.ownBlock ≠ some g := by
  cases hv : v.ownBlock with
  | none => exact .inl rfl
  | some b => exact .inr fun e => by have := h.own_ge b hv; cases e; omega
theorem OwnC.below {w w' : World} {base : Nat} {v : Value} {l : List CaseM} (h : OwnC w base v l) (hb : Below w.heap.size w w') : OwnC w' base v l := by
  refine h.kept (row := none) ⟨hb.os, hb.tape, hb.output, hb.size, fun j hj _ => hb.block j hj⟩ ?_
  cases hv : v.ownBlock with
  | none => exact .inl rfl
  | some x => exact .inr (by simp)
theorem OwnC.mono_base {w : World} {base b' : Nat} {v : Value} {l : List CaseM} (h : OwnC w base v l) (hb : b' ≤ base) : OwnC w b' v l := by
  refine ⟨h.1, ?_⟩
  rcases h.2 with h1 | ⟨g, cap, cur, h1, h2, h3⟩
  · exact .inl h1
  · exact .inr ⟨g, cap, cur, h1, Nat.le_trans hb h2, h3⟩
theorem rows_apart {w : World} {b1 b2 n1 n2 s1 s2 : Nat} {e1 e2 : TypeId} {v1 v2 : Value} {l1 l2 : List Value} (h1 : w.ownsRow b1 e1 s1 v1 n1 l1) (h2 : w.ownsRow b2 e2 s2 v2 n2 l2) (he : e1 ≠ e2) : v1.ownBlock = none ∨ v1.ownBlock ≠ v2.ownBlock := by
  rcases h1.2 with ⟨rfl, _⟩ | ⟨g, cap, cur, rfl, _, hg, _⟩
  · exact .inl rfl
  · rcases h2.2 with ⟨rfl, _⟩ | ⟨g', cap', cur', rfl, _, hg', _⟩
    · exact .inr (by simp [Value.ownBlock])
    · refine .inr ?_
      simp only [Value.ownBlock, ne_eq, Option.some.injEq]
      intro e
      rw [e, hg'] at hg
      simp at hg
      exact he hg.2.symm
theorem Try.info_case : (Try.prog.info? 69).map (fun i => (i.zero, i.size, i.bytes)) = some (some (.agg #[.bool false, .int .i64 0, .int .u64 0]), 3, 24) := by kernel_rfl
section
variable (w : World) {ops : Array Oper} {rest : List Oper} {o : Oper} {a : Act} {Q : Exit → Act → World → Prop}
theorem wp_append_case (hg : o.guard = none) (s x : Operand) (hop : o.op = Op.call { callee := Callee.builtin Builtin.append, args := #[s, x], argTypes := #[23, 23] })
    (base : Nat) (v : Value) (l : List CaseM) (hs : a.eval s = v) (hown : OwnC w base v l) (y : CaseM) (g : Nat)
    (hx : a.eval x = .slice (some ⟨g, 0, none⟩) 1 1) (hcell : CaseAt w g 0 y) (hl : l.length ≤ 1000000) (hb : base ≤ w.heap.size)
    (hK : ∀ v' w', OwnC w' base v' (l ++ [y]) → w.grownBy w' v.ownBlock → wpList Try.prog ops Q rest (a.put o.dst v') w') :
    wpList Try.prog ops Q (o :: rest) a w := by
  obtain ⟨i0, hi, hz0, hz1, hz2⟩ := info_parts Try.info_case
  refine wpList_append_own w hg s x _ hop base _ i0 _ 3 _ (by kernel_rfl) hi hz0 hz1 rfl rfl (by decide) v l.length _ hs hown ⟨g, 0, none⟩ 1 1 (caseCells y) hx rfl ?_ ?_ (by unfold maxLen; omega) (by rw [hz2]; omega) hb fun v' w' h1 h2 h3 => hK v' w' ?_ h2
  · obtain ⟨c0, c1, c2⟩ := hcell
    intro j u hj
    match j, hj with
    | 0, hj => simp [caseCells] at hj; subst hj; simpa [Addr.add] using c0
    | 1, hj => simp [caseCells] at hj; subst hj; simpa [Addr.add] using c1
    | 2, hj => simp [caseCells] at hj; subst hj; simpa [Addr.add] using c2
  · intro u hu
    simp only [caseCells, List.mem_cons, List.not_mem_nil, or_false] at hu
    rcases hu with rfl | rfl | rfl <;> rfl
  · unfold OwnC
    rw [List.length_append, List.flatMap_append, List.flatMap_cons, List.flatMap_nil, List.append_nil]
    exact h1
end
theorem step_append_case {w : World} {ops : Array Oper} {o : Oper} {a : Act} {K : Act → World → Prop} {Q : Exit → Act → World → Prop} {E : Prop}
    (hgd : o.guard = none) (s x : Operand) (hop : o.op = Op.call { callee := Callee.builtin Builtin.append, args := #[s, x], argTypes := #[23, 23] })
    (base : Nat) (v : Value) (l : List CaseM) (hs : a.eval s = v) (hown : OwnC w base v l) (y : CaseM) (g : Nat)
    (hx : a.eval x = .slice (some ⟨g, 0, none⟩) 1 1) (hcell : CaseAt w g 0 y) (hl : l.length ≤ 1000000) (hb : base ≤ w.heap.size)
    (hK : ∀ v' w', OwnC w' base v' (l ++ [y]) → w.grownBy w' v.ownBlock → K (a.put o.dst v') w') :
    if Region.wanted o (yielded ops a.tmps) = true then Oper.wp Try.prog o a w K Q else E := by
  have hw : Region.wanted o (yielded ops a.tmps) = true := by simp [Region.wanted, hgd]
  rw [if_pos hw]
  obtain ⟨i0, hi, hz0, hz1, hz2⟩ := info_parts Try.info_case
  refine wp_append_own w s x _ hop base _ i0 _ 3 _ (by kernel_rfl) hi hz0 hz1 rfl rfl (by decide) v l.length _ hs hown ⟨g, 0, none⟩ 1 1 (caseCells y) hx rfl ?_ ?_ (by unfold maxLen; omega) (by rw [hz2]; omega) hb fun v' w' h1 h2 _ => hK v' w' ?_ h2
  · obtain ⟨c0, c1, c2⟩ := hcell
    intro j u hj
    match j, hj with
    | 0, hj => simp [caseCells] at hj; subst hj; simpa [Addr.add] using c0
    | 1, hj => simp [caseCells] at hj; subst hj; simpa [Addr.add] using c1
    | 2, hj => simp [caseCells] at hj; subst hj; simpa [Addr.add] using c2
  · intro u hu
    simp only [caseCells, List.mem_cons, List.not_mem_nil, or_false] at hu
    rcases hu with rfl | rfl | rfl <;> rfl
  · unfold OwnC
    rw [List.length_append, List.flatMap_append, List.flatMap_cons, List.flatMap_nil, List.append_nil]
    exact h1
/-- append(nil, l...) of nothing stays nil -/
theorem wp_copy_none (w : World) {ops : Array Oper} {rest : List Oper} {o : Oper} {a : Act} {Q : Exit → Act → World → Prop} (hg : o.guard = none) (s x : Operand) (T e : TypeId) (i : TypeInfo)
    (hop : o.op = Op.call { callee := Callee.builtin Builtin.append, args := #[s, x], argTypes := #[T, T] }) (ht : Try.prog.underlying T = some (.slice e)) (hi : Try.prog.info? e = some i)
    (hs : a.eval s = .slice none 0 0) (A : Option Addr) (c : Nat) (hx : a.eval x = .slice A 0 c) (h : wpList Try.prog ops Q rest (a.put o.dst (.slice none 0 0)) w) :
    wpList Try.prog ops Q (o :: rest) a w := by
  refine wpList_plain hg fun K hK => ?_
  have hrun : (Builtin.append_ #[T, T] o.type #[.slice none 0 0, .slice A 0 c]).run Try.prog w = .ok (.slice none 0 0) w := by
    cases A <;> simp [Builtin.append_, run_underlying ht, sizeOf, typeInfo, hi, Builtin.lenOf, Builtin.firstCells, storeCells, loadCells, loadCellsFrom, Result.andThen]
  unfold Oper.wp
  simp [execOp, hop, resolve, invoke, builtin, hs, hx, hrun, Result.andThen]
  exact hK _ _ h
theorem wp_copy_i64_any (w : World) {ops : Array Oper} {rest : List Oper} {o : Oper} {a : Act} {Q : Exit → Act → World → Prop}
    (hg : o.guard = none) (s x : Operand) (hop : o.op = Op.call { callee := Callee.builtin Builtin.append, args := #[s, x], argTypes := #[24, 24] })
    (xv : Value) (l : List Int) (hs : a.eval s = .slice none 0 0) (hx : a.eval x = xv) (hS : SlI w .i64 xv l) (hl : l.length ≤ 1000000) (B : Nat) (hB : B ≤ w.heap.size)
    (hK : ∀ v' w', OwnI w' B 3 .i64 v' l → Below w.heap.size w w' → wpList Try.prog ops Q rest (a.put o.dst v') w') :
    wpList Try.prog ops Q (o :: rest) a w := by
  by_cases hne : l = []
  · subst hne
    obtain ⟨i0, hi, -⟩ := info_parts Try.info_i64
    obtain ⟨A, cap, rfl, -⟩ := hS.len
    exact wp_copy_none w hg s x _ _ i0 hop (by kernel_rfl) hi hs A cap hx (hK _ _ (OwnI.nil _ _ _ _) (Below.refl _ _))
  · exact wp_copy_i64 w hg s x hop xv l hs hx hS hne hl fun g cap w' h1 h2 _ => hK _ _ (h1.mono_base hB) h2
theorem wp_copy_case_any (w : World) {ops : Array Oper} {rest : List Oper} {o : Oper} {a : Act} {Q : Exit → Act → World → Prop}
    (hg : o.guard = none) (s x : Operand) (hop : o.op = Op.call { callee := Callee.builtin Builtin.append, args := #[s, x], argTypes := #[23, 23] })
    (xv : Value) (l : List CaseM) (hs : a.eval s = .slice none 0 0) (hx : a.eval x = xv) (hS : SlC w xv l) (hl : l.length ≤ 1000000) (B : Nat) (hB : B ≤ w.heap.size)
    (hK : ∀ v' w', OwnC w' B v' l → Below w.heap.size w w' → wpList Try.prog ops Q rest (a.put o.dst v') w') :
    wpList Try.prog ops Q (o :: rest) a w := by
  obtain ⟨i0, hi, hz0, hz1, hz2⟩ := info_parts Try.info_case
  obtain ⟨m1, m2, A, cap, rfl, hcap, h5⟩ := hS
  by_cases hne : l = []
  · subst hne
    exact wp_copy_none w hg s x _ _ i0 hop (by kernel_rfl) hi hs A cap hx (hK _ _ (OwnC.nil _ _) (Below.refl _ _))
  · obtain ⟨b, off, rfl, hb, -⟩ := h5 0 (List.length_pos_iff.2 hne)
    refine wpList_append_own w hg s x _ hop w.heap.size _ i0 _ 3 _ (by kernel_rfl) hi hz0 hz1 rfl rfl (by decide) (.slice none 0 0) 0 [] hs (World.ownsRow_nil _ _ _ _) ⟨b, off, none⟩ l.length cap (l.flatMap caseCells) hx (flat_length l) ?_ ?_ (by unfold maxLen; omega) (by rw [hz2]; omega) (Nat.le_refl _) fun v' w' h1 h2 _ => ?_
    · intro j u hj
      have hjl : j < l.length * 3 := by rw [← flat_length]; exact (List.getElem?_eq_some_iff.1 hj).1
      obtain ⟨q, m, hm, rfl⟩ : ∃ q m, m < 3 ∧ j = q * 3 + m := ⟨j / 3, j % 3, by omega, by omega⟩
      obtain ⟨b', off', e, -, c0, c1, c2⟩ := h5 q (by omega)
      simp only [Option.some.injEq, Addr.mk.injEq, and_true] at e
      obtain ⟨rfl, rfl⟩ := e
      rw [flat_get l q m (by omega) hm] at hj
      rw [add_plain]
      obtain rfl | rfl | rfl : m = 0 ∨ m = 1 ∨ m = 2 := by omega
      · simp [caseCells] at hj; subst hj; simpa using c0
      · simp [caseCells] at hj; subst hj; simpa [Nat.add_assoc] using c1
      · simp [caseCells] at hj; subst hj; simpa [Nat.add_assoc] using c2
    · intro u hu
      simp only [List.mem_flatMap, caseCells, List.mem_cons, List.not_mem_nil, or_false] at hu
      obtain ⟨c, -, hu⟩ := hu
      rcases hu with rfl | rfl | rfl <;> rfl
    · have ho : OwnC w' w.heap.size v' l := by unfold OwnC; simpa using h1
      exact hK _ _ (ho.mono_base hB) ((Below.refl _ _).grown h2 (Nat.le_refl _) (fun j hj => by cases hj))
theorem SlC.litAt (w : World) (l : List CaseM) (g : Nat) (hg : g = w.heap.size) (hw : ∀ x ∈ l, x.ok) (hl : l.length ≤ 140737488351232) :
    SlC (w.alloc (.cells (l.flatMap caseCells).toArray 69)) (.slice (some ⟨g, 0, none⟩) l.length l.length) l := by
  subst hg
  refine ⟨hl, hw, _, _, rfl, Nat.le_refl _, fun t ht => ⟨_, 0, rfl, by simp, ?_⟩⟩
  have hc : ∀ j, j < 3 → (w.alloc (.cells (l.flatMap caseCells).toArray 69)).cell? ⟨w.heap.size, 0 + t * 3 + j, none⟩ = (caseCells (l.getD t noCase))[j]? := fun j hj => by
    rw [World.cell?_alloc_at _ _ _ _ rfl, Nat.zero_add, ← flat_get l t j ht hj]; simp
  have c0 := hc 0 (by omega)
  have c1 := hc 1 (by omega)
  have c2 := hc 2 (by omega)
  exact ⟨by simpa [caseCells] using c0, by simpa [caseCells] using c1, by simpa [caseCells] using c2⟩
end Go.Proofs.Ytkciejealeinoaa
