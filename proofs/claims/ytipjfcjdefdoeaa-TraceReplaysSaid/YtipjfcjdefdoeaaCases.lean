/- Lists of cases (three cells each) and of numbers that the call owns: append, copies; nothing of the reader's block lies in them. -/
import Derived.Test.YtipjfcjdefdoeaaOp
import Derived.Test.YtipjfcjdefdoeaaMem
import Derived.Test.YtipjfcjdefdoeaaDraw
import Derived.Laws.AppendOwnNone
namespace Go.Proofs.Ytipjfcjdefdoeaa
open Go.ChangeShapes Go.WideShapes Go.ChangeAt Go.RowKit
set_option maxRecDepth 100000

def caseCells (c : CaseM) : List Value := [.bool c.send, .int .i64 c.chan, .int .u64 c.val]
theorem flat_length (l : List CaseM) : (l.flatMap caseCells).length = l.length * 3 := by
  induction l with
  | nil => rfl
  | cons x l ih => rw [List.flatMap_cons, List.length_append, ih, List.length_cons]; simp [caseCells]; omega
theorem flat_get (l : List CaseM) (t j : Nat) (ht : t < l.length) (hj : j < 3) : (l.flatMap caseCells)[t * 3 + j]? = (caseCells (l.getD t noCase))[j]? := by
  induction l generalizing t with
  | nil => simp at ht
  | cons x l ih =>
    rw [List.flatMap_cons]
    have hx : (caseCells x).length = 3 := rfl
    cases t with
    | zero => rw [List.getElem?_append_left (by rw [hx]; omega)]; simp
    | succ t =>
      rw [List.getElem?_append_right (by rw [hx]; omega), hx, show (t + 1) * 3 + j - 3 = t * 3 + j by omega, ih t (by simpa using ht)]
      simp
theorem rows_apart {w : World} {b1 b2 n1 n2 s1 s2 : Nat} {e1 e2 : TypeId} {v1 v2 : Value} {l1 l2 : List Value} (h1 : w.ownsRow b1 e1 s1 v1 n1 l1) (h2 : w.ownsRow b2 e2 s2 v2 n2 l2) (he : e1 ≠ e2) : v1.ownBlock = none ∨ v1.ownBlock ≠ v2.ownBlock := by
  rcases h1.2 with ⟨rfl, _⟩ | ⟨g, cap, cur, rfl, _, hg, _⟩
  · exact .inl rfl
  · rcases h2.2 with ⟨rfl, _⟩ | ⟨g', cap', cur', rfl, _, hg', _⟩
    · exact .inr (by simp [Value.ownBlock])
    · refine .inr ?_
      simp only [Value.ownBlock, ne_eq, Option.some.injEq]
      intro e
      rw [e, hg'] at hg
      simp at hg
      exact he hg.2.symm
section
variable (w : World) {ops : Array Oper} {rest : List Oper} {o : Oper} {a : Act} {Q : Exit → Act → World → Prop}
end
/-- append(nil, l...) of nothing stays nil -/
theorem wp_copy_none (w : World) {ops : Array Oper} {rest : List Oper} {o : Oper} {a : Act} {Q : Exit → Act → World → Prop} (hg : o.guard = none) (s x : Operand) (T e : TypeId) (i : TypeInfo)
    (hop : o.op = Op.call { callee := Callee.builtin Builtin.append, args := #[s, x], argTypes := #[T, T] }) (ht : Try.prog.underlying T = some (.slice e)) (hi : Try.prog.info? e = some i)
    (hs : a.eval s = .slice none 0 0) (A : Option Addr) (c : Nat) (hx : a.eval x = .slice A 0 c) (h : wpList Try.prog ops Q rest (a.put o.dst (.slice none 0 0)) w) :
    wpList Try.prog ops Q (o :: rest) a w := by
  refine wpList_plain hg fun K hK => ?_
  have hrun : (Builtin.append_ #[T, T] o.type #[.slice none 0 0, .slice A 0 c]).run Try.prog w = .ok (.slice none 0 0) w := by
    cases A <;> simp [Builtin.append_, run_underlying ht, sizeOf, typeInfo, hi, Builtin.lenOf, Builtin.firstCells, storeCells, loadCells, loadCellsFrom, Result.andThen]
  unfold Oper.wp
  simp [execOp, hop, resolve, invoke, builtin, hs, hx, hrun, Result.andThen]
  exact hK _ _ h
theorem wp_copy_i64_any (w : World) {ops : Array Oper} {rest : List Oper} {o : Oper} {a : Act} {Q : Exit → Act → World → Prop}
    (hg : o.guard = none) (s x : Operand) (hop : o.op = Op.call { callee := Callee.builtin Builtin.append, args := #[s, x], argTypes := #[36, 36] })
    (xv : Value) (l : List Int) (hs : a.eval s = .slice none 0 0) (hx : a.eval x = xv) (hS : SlI w .i64 xv l) (hl : l.length ≤ 1000000) (B : Nat) (hB : B ≤ w.heap.size)
    (hK : ∀ v' w', OwnI w' B 3 .i64 v' l → Below w.heap.size w w' → wpList Try.prog ops Q rest (a.put o.dst v') w') :
    wpList Try.prog ops Q (o :: rest) a w := by
  by_cases hne : l = []
  · subst hne
    obtain ⟨i0, hi, -⟩ := info_parts Try.info_i64
    obtain ⟨A, cap, rfl, -⟩ := hS.len
    exact wp_copy_none w hg s x _ _ i0 hop (by kernel_rfl) hi hs A cap hx (hK _ _ (OwnI.nil _ _ _ _) (Below.refl _ _))
  · exact wp_copy_i64 w hg s x hop xv l hs hx hS hne hl fun g cap w' h1 h2 _ => hK _ _ (h1.mono_base hB) h2
end Go.Proofs.Ytipjfcjdefdoeaa
