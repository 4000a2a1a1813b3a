/- Layer 13: lists of pairs; what the program's Pairs answers. -/
import Derived.Test.YtimgcehogalhcaaRt
import Derived.Test.YtimgcehogalhcaaReads
import Derived.Test.YtimgcehogalhcaaRp
import Derived.Test.YtimgcehogalhcaaPb
import Derived.Test.YtimgcehogalhcaaRec
namespace Go.Proofs.Ytimgcehogalhcaa
open Go.ChangeShapes Go.WideShapes Go.ChangeAt Go.RowKit
set_option maxRecDepth 100000

theorem pairsE_i64 {rs ss : List Int} {p : Int × Int} (h1 : ∀ x ∈ rs, I64 x) (h2 : ∀ x ∈ ss, I64 x) (h : p ∈ pairsE rs ss) : I64 p.1 ∧ I64 p.2 := ⟨h1 _ (pairsE_mem h).1, h2 _ (pairsE_mem h).2⟩
/-- two pairs are compared -/
theorem eq_pair (a b c d : Int) (w : World) : (Op.equalIn 10000 23 (.agg #[.int .i64 a, .int .i64 b]) (.agg #[.int .i64 c, .int .i64 d])).run Try.prog w = .ok (a == c && b == d) w := by
  obtain ⟨i0, hi, -⟩ := info_parts Try.info_i64
  have hc : Try.prog.cellsOf 3 = 1 := by kernel_rfl
  have hp : Try.prog.plainKey 3 = true := by kernel_rfl
  rw [show (10000 : Nat) = 9999 + 1 from rfl, run_equalIn_array w 9999 _ _ Try.underlying23 hi, hc]
  have e0 : ∀ w : World, ((part 3 #[Value.int .i64 a, .int .i64 b] 0).run Try.prog w = .ok (.int .i64 a) w) := fun w => run_part_plain w hp rfl
  have e1 : ∀ w : World, ((part 3 #[Value.int .i64 a, .int .i64 b] 1).run Try.prog w = .ok (.int .i64 b) w) := fun w => run_part_plain w hp rfl
  have e2 : ∀ w : World, ((part 3 #[Value.int .i64 c, .int .i64 d] 0).run Try.prog w = .ok (.int .i64 c) w) := fun w => run_part_plain w hp rfl
  have e3 : ∀ w : World, ((part 3 #[Value.int .i64 c, .int .i64 d] 1).run Try.prog w = .ok (.int .i64 d) w) := fun w => run_part_plain w hp rfl
  have f0 : (Op.equalIn 9999 3 (.int .i64 a) (.int .i64 c)).run Try.prog w = .ok (a == c) w := run_equalIn_int w 9998 _ .i64 .i64 a c Try.underlying3
  have f1 : (Op.equalIn 9999 3 (.int .i64 b) (.int .i64 d)).run Try.prog w = .ok (b == d) w := run_equalIn_int w 9998 _ .i64 .i64 b d Try.underlying3
  show (Op.eqItems 9999 3 1 _ _ [0, 1]).run Try.prog w = _
  simp only [Op.eqItems, Sem.run_bind, Nat.zero_mul, Nat.one_mul, e0, e1, e2, e3, Result.andThen_ok, f0]
  cases h : a == c
  · simp
  · by_cases hbd : b = d
    · subst hbd
      simp [e1, e3, f1]
    · simp [e1, e3, f1, hbd]
/-- a list of pairs reads so -/
def SlP (w : World) (v : Value) (l : List (Int × Int)) : Prop :=
  ∃ a cap, v = .slice a l.length cap ∧ ∀ i, i < l.length → ∃ b off, a = some ⟨b, off, none⟩ ∧ b < w.heap.size ∧ w.cell? ⟨b, off + i * 2, none⟩ = some (.int .i64 (l.getD i (0, 0)).1) ∧ w.cell? ⟨b, off + i * 2 + 1, none⟩ = some (.int .i64 (l.getD i (0, 0)).2)
theorem SlP.below {w w' : World} {v : Value} {l : List (Int × Int)} (h : SlP w v l) (hb : Below w.heap.size w w') : SlP w' v l := by
  obtain ⟨a, cap, rfl, hc⟩ := h
  refine ⟨a, cap, rfl, fun i hi => ?_⟩
  obtain ⟨b, off, rfl, hlt, h1, h2⟩ := hc i hi
  exact ⟨b, off, rfl, Nat.lt_of_lt_of_le hlt hb.size, (hb.cell (p := ⟨b, off + i * 2, none⟩) hlt).trans h1, (hb.cell (p := ⟨b, off + i * 2 + 1, none⟩) hlt).trans h2⟩
theorem OwnS.slP {w : World} {base : Nat} {v : Value} {l : List (Int × Int)} (h : OwnS w base 23 2 v (prow l)) : SlP w v l := by
  rcases h.shape with ⟨rfl, h2⟩ | ⟨g, cap, rfl, h3, h4, h5⟩
  · have h6 : l = [] := by unfold prow at h2; simpa using h2
    subst h6
    exact ⟨none, 0, rfl, fun i hi => by simp at hi⟩
  · refine ⟨some ⟨g, 0, none⟩, cap, by rw [prow_length], fun i hi => ⟨g, 0, rfl, h4, ?_⟩⟩
    have hr := (h.row i (by rw [prow_length]; exact hi)).1
    have e : (prow l)[i]'(by rw [prow_length]; exact hi) = [.int .i64 (l.getD i (0, 0)).1, .int .i64 (l.getD i (0, 0)).2] := by
      unfold prow
      rw [List.getElem_map, List.getD_eq_getElem?_getD, List.getElem?_eq_getElem hi]
      rfl
    rw [e] at hr
    have c0 := hr 0 _ rfl
    have c1 := hr 1 _ rfl
    exact ⟨by simpa using c0, by simpa using c1⟩
/-- append of a list to itself; where the new one lies -/
theorem wp_dbl (w : World) {ops : Array Oper} {rest : List Oper} {o : Oper} {a : Act} {Q : Exit → Act → World → Prop}
    (hg : o.guard = none) (s x : Operand) (hop : o.op = Op.call { callee := Callee.builtin Builtin.append, args := #[s, x], argTypes := #[27, 27] })
    (base : Nat) (v : Value) (l : List Int) (hs : a.eval s = v) (hown : OwnI w base 3 .i64 v l) (hx : a.eval x = v) (hS : SlI w .i64 v l) (hne : l ≠ [])
    (hl : l.length ≤ 1000000) (hb : base ≤ w.heap.size)
    (hK : ∀ v' w', OwnI w' base 3 .i64 v' (l ++ l) → w.grownBy w' v.ownBlock → (v'.ownBlock = v.ownBlock ∨ v'.ownBlock = some w.heap.size) → wpList Try.prog ops Q rest (a.put o.dst v') w') :
    wpList Try.prog ops Q (o :: rest) a w := by
  obtain ⟨i0, hi, hz0, hz1, hz2⟩ := info_parts Try.info_i64
  obtain ⟨b, off, cap, hv, hcap, hbk, hc⟩ := hS.open hne
  obtain ⟨v', w', hr, h2, h3, -, h4⟩ := run_append_own_at (P := Try.prog) w base 27 o.type 3 i0 (.int .i64 0) 1 _ (by kernel_rfl) hi hz0 hz1 rfl rfl (by decide) v l.length _ hown ⟨b, off, none⟩ l.length cap (l.map (Value.int .i64)) (by simp) (by
    intro j u hj
    rw [add_plain]
    simp only [List.getElem?_map, Option.map_eq_some_iff] at hj
    obtain ⟨y, hy, rfl⟩ := hj
    have hjl : j < l.length := (List.getElem?_eq_some_iff.1 hy).1
    rw [hc j hjl, List.getD_eq_getElem?_getD, hy]; rfl) (by intro u hu; simp only [List.mem_map] at hu; obtain ⟨y, _, rfl⟩ := hu; rfl) (by unfold maxLen; omega) (by rw [hz2]; omega) hb
  rw [← hv] at hr
  have h5 : OwnI w' base 3 .i64 v' (l ++ l) := by unfold OwnI; rw [List.length_append, List.map_append]; exact h2
  exact Lib.wpList_append_run w hg s x _ _ hop _ _ hs hx v' w' hr (hK v' w' h5 h3 h4)
theorem ppairs_any (v v2 : Value) (rs ss : List Int) (w : World) (hv : SlI w .i64 v rs) (hv2 : SlI w .i64 v2 ss) (hl : ss.length ≤ 100000) : Calls Try.prog 22 #[v, v2] w fun e w' => ∃ u, e = .returned u ∧ SlP w' u (pairsE rs ss) ∧ Below w.heap.size w w' :=
  (qpairs_any v v2 rs ss w hv hv2 hl).mono fun _ _ ⟨u, h1, ⟨_, h2⟩, h3⟩ => ⟨u, h1, h2.slP, h3⟩
end Go.Proofs.Ytimgcehogalhcaa
