/- Parts of a list of records as they read; a copy of a list of records. -/
import Derived.Test.YtipjfcjdefdoeaaRt
import Derived.Test.YtipjfcjdefdoeaaIt
namespace Go.Proofs.Ytipjfcjdefdoeaa
open Go.ChangeShapes Go.WideShapes Go.ChangeAt Go.RowKit
set_option maxRecDepth 100000

theorem SlT.take {w : World} {a : Option Addr} {n cap : Nat} {l : List ItemM} (h : SlT w (.slice a n cap) l) (i : Nat) (hi : i ≤ l.length) : SlT w (.slice a i cap) (l.take i) := by
  obtain ⟨h1, h2, a', cap', e, h4, h5⟩ := h
  simp only [Value.slice.injEq] at e
  obtain ⟨rfl, rfl, rfl⟩ := e
  have hl : (l.take i).length = i := by simp; omega
  refine ⟨by omega, fun x hx => h2 x (List.mem_of_mem_take hx), _, cap, by rw [hl], by omega, fun t ht => ?_⟩
  rw [hl] at ht
  obtain ⟨b, off, e, h6, h7⟩ := h5 t (by omega)
  refine ⟨b, off, e, h6, ?_⟩
  rw [show (l.take i).getD t noItem = l.getD t noItem by simp [List.getD_eq_getElem?_getD, ht]]
  exact h7
theorem SlT.drop {w : World} {b off n cap : Nat} {l : List ItemM} (h : SlT w (.slice (some ⟨b, off, none⟩) n cap) l) (i : Nat) (hi : i ≤ l.length) : SlT w (.slice (some ⟨b, off + i * 8, none⟩) (l.length - i) (cap - i)) (l.drop i) := by
  obtain ⟨h1, h2, a, cap', e, h4, h5⟩ := h
  simp only [Value.slice.injEq] at e
  obtain ⟨rfl, rfl, rfl⟩ := e
  refine ⟨by simp; omega, fun x hx => h2 x (List.mem_of_mem_drop hx), _, cap - i, by rw [List.length_drop], by rw [List.length_drop]; omega, fun t ht => ?_⟩
  rw [List.length_drop] at ht
  obtain ⟨b', off', e, h6, h7⟩ := h5 (i + t) (by omega)
  simp only [Option.some.injEq, Addr.mk.injEq, and_true] at e
  obtain ⟨rfl, rfl⟩ := e
  refine ⟨b, off + i * 8, rfl, h6, ?_⟩
  rw [show (l.drop i).getD t noItem = l.getD (i + t) noItem by simp [List.getD_eq_getElem?_getD], show off + i * 8 + t * 8 = off + (i + t) * 8 by omega]
  exact h7
theorem SlT.takeAny {w : World} {a : Option Addr} {n cap : Nat} {l : List ItemM} (h : SlT w (.slice a n cap) l) (i : Nat) (hi : i ≤ l.length) : SlT w (.slice (if cap = 0 then a else a.map (·.add (0 * 8))) i cap) (l.take i) := by
  have e : (if cap = 0 then a else a.map (·.add (0 * 8))) = a := by
    split
    · rfl
    · cases a with
      | none => rfl
      | some p => simp [Addr.add]
  rw [e]
  exact h.take i hi
theorem SlT.dropAny {w : World} {a : Option Addr} {n cap : Nat} {l : List ItemM} (h : SlT w (.slice a n cap) l) (i : Nat) (hi : i ≤ l.length) : SlT w (.slice (if cap = i then a else a.map (·.add (i * 8))) (n - i) (cap - i)) (l.drop i) := by
  have h0 := h
  obtain ⟨h1, h2, a', cap', e, h4, h5⟩ := h
  simp only [Value.slice.injEq] at e
  obtain ⟨rfl, rfl, rfl⟩ := e
  by_cases hlt : i < l.length
  · obtain ⟨b, off, rfl, -, -⟩ := h5 0 (by omega)
    rw [if_neg (by omega), show (Option.map (fun x : Addr => x.add (i * 8)) (some ⟨b, off, none⟩)) = some ⟨b, off + i * 8, none⟩ by simp [Addr.add]]
    exact h0.drop i hi
  · have e1 : l.drop i = [] := List.drop_eq_nil_of_le (by omega)
    have e2 : l.length - i = 0 := by omega
    rw [e1, e2]
    exact ⟨by simp, by simp, _, _, rfl, Nat.zero_le _, fun t ht => by simp at ht⟩
theorem run_take_item (w : World) (a : Option Addr) (n cap k : Nat) (h : k ≤ cap) : (Instr.slice 31 (.slice a n cap) none (some (.int .i64 (k : Int))) none).run Try.prog w = .ok (.slice (if cap = 0 then a else a.map (·.add (0 * 8))) k cap) w := by
  obtain ⟨i0, hi, hz0, hz1, hz2⟩ := info_parts Try.info_item
  rw [run_slice_h (P := Try.prog) _ _ a n cap (by kernel_rfl) .i64 k (by omega) (by omega)]
  rw [show Try.prog.elem 31 = 42 by kernel_rfl]
  simp [sizeOf, typeInfo, hi, hz1, Result.andThen, sliced]
theorem run_drop_item (w : World) (a : Option Addr) (n cap k : Nat) (h : k ≤ n) : (Instr.slice 31 (.slice a n cap) (some (.int .i64 (k : Int))) none none).run Try.prog w = .ok (.slice (if cap = k then a else a.map (·.add (k * 8))) (n - k) (cap - k)) w := by
  obtain ⟨i0, hi, hz0, hz1, hz2⟩ := info_parts Try.info_item
  rw [run_slice_l (P := Try.prog) _ _ a n cap (by kernel_rfl) .i64 k (by omega) (by omega)]
  rw [show Try.prog.elem 31 = 42 by kernel_rfl]
  simp [sizeOf, typeInfo, hi, hz1, Result.andThen, sliced]
/-- a copy of a list of records: append to none -/
theorem wp_copy_item_any (w : World) {ops : Array Oper} {rest : List Oper} {o : Oper} {a : Act} {Q : Exit → Act → World → Prop}
    (hg : o.guard = none) (s x : Operand) (hop : o.op = Op.call { callee := Callee.builtin Builtin.append, args := #[s, x], argTypes := #[31, 31] })
    (xv : Value) (l : List ItemM) (hs : a.eval s = .slice none 0 0) (hx : a.eval x = xv) (hS : SlT w xv l) (hl : l.length ≤ 1000000) (B : Nat) (hB : B ≤ w.heap.size)
    (hK : ∀ v' w', OwnT w' B v' l → Below w.heap.size w w' → wpList Try.prog ops Q rest (a.put o.dst v') w') :
    wpList Try.prog ops Q (o :: rest) a w := by
  obtain ⟨i0, hi, hz0, hz1, hz2⟩ := info_parts Try.info_item
  obtain ⟨m1, m2, A, cap, rfl, hcap, h5⟩ := hS
  by_cases hne : l = []
  · subst hne
    refine wpList_plain hg fun K hK2 => ?_
    have hrun : (Builtin.append_ #[31, 31] o.type #[.slice none 0 0, .slice A 0 cap]).run Try.prog w = .ok (.slice none 0 0) w := by
      cases A <;> simp [Builtin.append_, run_underlying (show Try.prog.underlying 31 = some (.slice 42) by kernel_rfl), sizeOf, typeInfo, hi, Builtin.lenOf, Builtin.firstCells, storeCells, loadCells, loadCellsFrom, Result.andThen]
    unfold Oper.wp
    simp at hx
    simp [execOp, hop, resolve, invoke, builtin, hs, hx, hrun, Result.andThen]
    exact hK2 _ _ (hK _ _ (OwnT.nil _ _) (Below.refl _ _))
  · obtain ⟨b, off, rfl, hb, -⟩ := h5 0 (List.length_pos_iff.2 hne)
    refine wpList_append_own w hg s x _ hop w.heap.size _ i0 _ 8 _ (by kernel_rfl) hi hz0 hz1 rfl rfl (by decide) (.slice none 0 0) 0 [] hs (World.ownsRow_nil _ _ _ _) ⟨b, off, none⟩ l.length cap (l.flatMap itemCells) hx (flatT_length l) ?_ ?_ (by unfold maxLen; omega) (by rw [hz2]; omega) (Nat.le_refl _) fun v' w' h1 h2 _ => ?_
    · intro j u hj
      have hjl : j < l.length * 8 := by rw [← flatT_length]; exact (List.getElem?_eq_some_iff.1 hj).1
      obtain ⟨q, m, hm, rfl⟩ : ∃ q m, m < 8 ∧ j = q * 8 + m := ⟨j / 8, j % 8, by omega, by omega⟩
      obtain ⟨b', off', e, -, c0, c1, c2, c3, c4, c5, c6, c7⟩ := h5 q (by omega)
      simp only [Option.some.injEq, Addr.mk.injEq, and_true] at e
      obtain ⟨rfl, rfl⟩ := e
      rw [flatT_get l q m (by omega) hm] at hj
      rw [show (⟨b, off, none⟩ : Addr).add (q * 8 + m) = ⟨b, off + q * 8 + m, none⟩ by simp [Addr.add, Nat.add_assoc]]
      obtain rfl | rfl | rfl | rfl | rfl | rfl | rfl | rfl : m = 0 ∨ m = 1 ∨ m = 2 ∨ m = 3 ∨ m = 4 ∨ m = 5 ∨ m = 6 ∨ m = 7 := by omega
      · simp [itemCells] at hj; subst hj; exact c0
      · simp [itemCells] at hj; subst hj; exact c1
      · simp [itemCells] at hj; subst hj; exact c2
      · simp [itemCells] at hj; subst hj; exact c3
      · simp [itemCells] at hj; subst hj; exact c4
      · simp [itemCells] at hj; subst hj; exact c5
      · simp [itemCells] at hj; subst hj; exact c6
      · simp [itemCells] at hj; subst hj; exact c7
    · intro u hu
      simp only [List.mem_flatMap, itemCells, List.mem_cons, List.not_mem_nil, or_false] at hu
      obtain ⟨c, -, hu⟩ := hu
      rcases hu with rfl | rfl | rfl | rfl | rfl | rfl | rfl | rfl <;> rfl
    · have ho : OwnT w' w.heap.size v' l := by unfold OwnT; simpa using h1
      exact hK _ _ (ho.mono_base hB) ((Below.refl _ _).grown h2 (Nat.le_refl _) (fun j hj => by cases hj))
end Go.Proofs.Ytipjfcjdefdoeaa
