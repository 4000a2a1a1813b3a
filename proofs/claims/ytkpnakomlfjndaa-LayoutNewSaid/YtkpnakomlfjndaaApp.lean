/- append of a list of words that reads, to one that the call owns. -/
import Derived.Test.YtkpnakomlfjndaaMmO
namespace Go.Proofs.Ytkpnakomlfjndaa
open Go.ChangeShapes Go.WideShapes Go.ChangeAt Go.RowKit
set_option maxRecDepth 100000

theorem run_app_u64 (w : World) (ty : TypeId) (base : Nat) (v : Value) (l : List Int) (hown : OwnI w base 26 .u64 v l) (xv : Value) (l2 : List Int) (hS : SlI w .u64 xv l2)
    (hl : l.length ≤ 1000000) (hl2 : l2.length ≤ 1000000) (hb : base ≤ w.heap.size) :
    ∃ v' w', (Builtin.append_ #[22, 22] ty #[v, xv]).run Try.prog w = .ok v' w' ∧ OwnI w' base 26 .u64 v' (l ++ l2) ∧ w.grownBy w' v.ownBlock := by
  obtain ⟨i0, hi, hz0, hz1, hz2⟩ := info_parts Try.info_u64
  by_cases hne : l2 = []
  · subst hne
    obtain ⟨B, c', rfl, -⟩ := hS.len
    have e : ∃ A c, v = .slice A l.length c ∧ l.length ≤ c := by
      rcases hown.shape with ⟨rfl, rfl⟩ | ⟨g, cap, rfl, _, _, h, _⟩
      · exact ⟨_, _, rfl, Nat.le_refl _⟩
      · exact ⟨_, _, rfl, h⟩
    obtain ⟨A, c, rfl, hc⟩ := e
    refine ⟨_, w, run_append_zero (by kernel_rfl) hi A B l.length c c' hc, by simpa using hown, grownBy_refl _ _⟩
  · obtain ⟨b, off, cap, rfl, hcap, hbk, hc⟩ := hS.open hne
    obtain ⟨v', w', hr, h2, h3, -⟩ := run_append_own (P := Try.prog) w base 22 ty 26 i0 (.int .u64 0) 1 _ (by kernel_rfl) hi hz0 hz1 rfl rfl (by decide) v l.length _ hown ⟨b, off, none⟩ l2.length cap (l2.map (Value.int .u64)) (by simp) (by
      intro j u hj
      rw [add_plain]
      simp only [List.getElem?_map, Option.map_eq_some_iff] at hj
      obtain ⟨y, hy, rfl⟩ := hj
      have hjl : j < l2.length := (List.getElem?_eq_some_iff.1 hy).1
      rw [hc j hjl, List.getD_eq_getElem?_getD, hy]; rfl) (by intro u hu; simp only [List.mem_map] at hu; obtain ⟨y, _, rfl⟩ := hu; rfl) (by unfold maxLen; omega) (by rw [hz2]; omega) hb
    refine ⟨v', w', hr, ?_, h3⟩
    unfold OwnI
    rw [List.length_append, List.map_append]
    exact h2
/-- append of a list that reads, to a list that the call owns -/
theorem wp_app_u64 (w : World) {ops : Array Oper} {rest : List Oper} {o : Oper} {a : Act} {Q : Exit → Act → World → Prop}
    (hg : o.guard = none) (s x : Operand) (hop : o.op = Op.call { callee := Callee.builtin Builtin.append, args := #[s, x], argTypes := #[22, 22] })
    (base : Nat) (v : Value) (l : List Int) (hs : a.eval s = v) (hown : OwnI w base 26 .u64 v l) (xv : Value) (l2 : List Int) (hx : a.eval x = xv) (hS : SlI w .u64 xv l2)
    (hl : l.length ≤ 1000000) (hl2 : l2.length ≤ 1000000) (hb : base ≤ w.heap.size)
    (hK : ∀ v' w', OwnI w' base 26 .u64 v' (l ++ l2) → w.grownBy w' v.ownBlock → wpList Try.prog ops Q rest (a.put o.dst v') w') :
    wpList Try.prog ops Q (o :: rest) a w := by
  obtain ⟨v', w', hr, h1, h2⟩ := run_app_u64 w o.type base v l hown xv l2 hS hl hl2 hb
  exact Lib.wpList_append_run w hg s x _ _ hop _ _ hs hx v' w' hr (hK v' w' h1 h2)
/-- the same inside a region that draws its order -/
theorem step_app_u64 {w : World} {ops : Array Oper} {o : Oper} {a : Act} {K : Act → World → Prop} {Q : Exit → Act → World → Prop} {E : Prop}
    (hgd : o.guard = none) (s x : Operand) (hop : o.op = Op.call { callee := Callee.builtin Builtin.append, args := #[s, x], argTypes := #[22, 22] })
    (base : Nat) (v : Value) (l : List Int) (hs : a.eval s = v) (hown : OwnI w base 26 .u64 v l) (xv : Value) (l2 : List Int) (hx : a.eval x = xv) (hS : SlI w .u64 xv l2)
    (hl : l.length ≤ 1000000) (hl2 : l2.length ≤ 1000000) (hb : base ≤ w.heap.size)
    (hK : ∀ v' w', OwnI w' base 26 .u64 v' (l ++ l2) → w.grownBy w' v.ownBlock → K (a.put o.dst v') w') :
    if Region.wanted o (yielded ops a.tmps) = true then Oper.wp Try.prog o a w K Q else E := by
  have hw : Region.wanted o (yielded ops a.tmps) = true := by simp [Region.wanted, hgd]
  rw [if_pos hw]
  obtain ⟨v', w', hr, h1, h2⟩ := run_app_u64 w o.type base v l hown xv l2 hS hl hl2 hb
  exact Lib.wp_append_run w s x _ _ hop _ _ hs hx v' w' hr (hK v' w' h1 h2)
end Go.Proofs.Ytkpnakomlfjndaa
