/- Appending whole lists, and lists of lists that the call owns. -/
import Derived.Test.YtimgcehogalhcaaMm
import Derived.Test.YtimgcehogalhcaaMem
import Derived.Laws.AppendOwnNone
import Derived.Lib.AppendZeros
namespace Go.Proofs.Ytimgcehogalhcaa
open Go.ChangeShapes Go.WideShapes Go.ChangeAt Go.RowKit
set_option maxRecDepth 100000

/-- an append of nothing leaves the value and the world -/
theorem run_append_zero {w : World} {T ty e : TypeId} {i : TypeInfo} (ht : Try.prog.underlying T = some (.slice e)) (hi : Try.prog.info? e = some i) (A B : Option Addr) (n c c' : Nat) (hn : n ≤ c) :
    (Builtin.append_ #[T, T] ty #[.slice A n c, .slice B 0 c']).run Try.prog w = .ok (.slice A n c) w := by
  cases A <;> cases B <;> simp [Builtin.append_, run_underlying ht, sizeOf, typeInfo, hi, Builtin.lenOf, Builtin.firstCells, storeCells, loadCells, loadCellsFrom, Result.andThen, hn]
theorem run_app_i64 (w : World) (ty : TypeId) (base : Nat) (v : Value) (l : List Int) (hown : OwnI w base 3 .i64 v l) (xv : Value) (l2 : List Int) (hS : SlI w .i64 xv l2)
    (hl : l.length ≤ 1000000) (hl2 : l2.length ≤ 1000000) (hb : base ≤ w.heap.size) :
    ∃ v' w', (Builtin.append_ #[27, 27] ty #[v, xv]).run Try.prog w = .ok v' w' ∧ OwnI w' base 3 .i64 v' (l ++ l2) ∧ w.grownBy w' v.ownBlock := by
  obtain ⟨i0, hi, hz0, hz1, hz2⟩ := info_parts Try.info_i64
  by_cases hne : l2 = []
  · subst hne
    obtain ⟨B, c', rfl, -⟩ := hS.len
    have e : ∃ A c, v = .slice A l.length c ∧ l.length ≤ c := by
      rcases hown.shape with ⟨rfl, rfl⟩ | ⟨g, cap, rfl, _, _, h, _⟩
      · exact ⟨_, _, rfl, Nat.le_refl _⟩
      · exact ⟨_, _, rfl, h⟩
    obtain ⟨A, c, rfl, hc⟩ := e
    refine ⟨_, w, run_append_zero (by kernel_rfl) hi A B l.length c c' hc, by simpa using hown, grownBy_refl _ _⟩
  · obtain ⟨b, off, cap, rfl, hcap, hbk, hc⟩ := hS.open hne
    obtain ⟨v', w', hr, h2, h3, -⟩ := run_append_own (P := Try.prog) w base 27 ty 3 i0 (.int .i64 0) 1 _ (by kernel_rfl) hi hz0 hz1 rfl rfl (by decide) v l.length _ hown ⟨b, off, none⟩ l2.length cap (l2.map (Value.int .i64)) (by simp) (by
      intro j u hj
      rw [add_plain]
      simp only [List.getElem?_map, Option.map_eq_some_iff] at hj
      obtain ⟨y, hy, rfl⟩ := hj
      have hjl : j < l2.length := (List.getElem?_eq_some_iff.1 hy).1
      rw [hc j hjl, List.getD_eq_getElem?_getD, hy]; rfl) (by intro u hu; simp only [List.mem_map] at hu; obtain ⟨y, _, rfl⟩ := hu; rfl) (by unfold maxLen; omega) (by rw [hz2]; omega) hb
    refine ⟨v', w', hr, ?_, h3⟩
    unfold OwnI
    rw [List.length_append, List.map_append]
    exact h2
/-- append of a list that reads, to a list that the call owns -/
theorem wp_app_i64 (w : World) {ops : Array Oper} {rest : List Oper} {o : Oper} {a : Act} {Q : Exit → Act → World → Prop}
    (hg : o.guard = none) (s x : Operand) (hop : o.op = Op.call { callee := Callee.builtin Builtin.append, args := #[s, x], argTypes := #[27, 27] })
    (base : Nat) (v : Value) (l : List Int) (hs : a.eval s = v) (hown : OwnI w base 3 .i64 v l) (xv : Value) (l2 : List Int) (hx : a.eval x = xv) (hS : SlI w .i64 xv l2)
    (hl : l.length ≤ 1000000) (hl2 : l2.length ≤ 1000000) (hb : base ≤ w.heap.size)
    (hK : ∀ v' w', OwnI w' base 3 .i64 v' (l ++ l2) → w.grownBy w' v.ownBlock → wpList Try.prog ops Q rest (a.put o.dst v') w') :
    wpList Try.prog ops Q (o :: rest) a w := by
  obtain ⟨v', w', hr, h1, h2⟩ := run_app_i64 w o.type base v l hown xv l2 hS hl hl2 hb
  exact Lib.wpList_append_run w hg s x _ _ hop _ _ hs hx v' w' hr (hK v' w' h1 h2)
/-- the same inside a region that draws its order -/
theorem step_app_i64 {w : World} {ops : Array Oper} {o : Oper} {a : Act} {K : Act → World → Prop} {Q : Exit → Act → World → Prop} {E : Prop}
    (hgd : o.guard = none) (s x : Operand) (hop : o.op = Op.call { callee := Callee.builtin Builtin.append, args := #[s, x], argTypes := #[27, 27] })
    (base : Nat) (v : Value) (l : List Int) (hs : a.eval s = v) (hown : OwnI w base 3 .i64 v l) (xv : Value) (l2 : List Int) (hx : a.eval x = xv) (hS : SlI w .i64 xv l2)
    (hl : l.length ≤ 1000000) (hl2 : l2.length ≤ 1000000) (hb : base ≤ w.heap.size)
    (hK : ∀ v' w', OwnI w' base 3 .i64 v' (l ++ l2) → w.grownBy w' v.ownBlock → K (a.put o.dst v') w') :
    if Region.wanted o (yielded ops a.tmps) = true then Oper.wp Try.prog o a w K Q else E := by
  have hw : Region.wanted o (yielded ops a.tmps) = true := by simp [Region.wanted, hgd]
  rw [if_pos hw]
  obtain ⟨v', w', hr, h1, h2⟩ := run_app_i64 w o.type base v l hown xv l2 hS hl hl2 hb
  exact Lib.wp_append_run w s x _ _ hop _ _ hs hx v' w' hr (hK v' w' h1 h2)
theorem Try.info_li : (Try.prog.info? 27).map (fun i => (i.zero, i.size, i.bytes)) = some (some (.slice none 0 0), 1, 24) := by kernel_rfl
theorem SlI.one {w : World} {k : IntKind} {v : Value} {l : List Int} (h : SlI w k v l) : v.oneCell' = true := by
  obtain ⟨_, _, a, cap, rfl, _⟩ := h; rfl
/-- an owned row of lists reads -/
theorem row_read {w : World} {base : Nat} {v : Value} {us : List Value} {ll : List (List Int)} (h : w.ownsRow base 27 1 v ll.length us) (he : ∀ t, t < ll.length → SlI w .i64 (us.getD t (.slice none 0 0)) (ll.getD t [])) (hl : ll.length ≤ 140737488351232) : SlL w v us ll := by
  have hus : us.length = ll.length := by have := h.1; omega
  refine ⟨hl, hus, ?_⟩
  have h0 := h
  rcases h.2 with ⟨rfl, h2⟩ | ⟨g, cap, cur, rfl, h3, h4, h5, h6, h7, h8⟩
  · exact ⟨none, 0, by rw [h2], by omega, fun t ht => by omega⟩
  · refine ⟨some ⟨g, 0, none⟩, cap, rfl, h5, fun t ht => ⟨g, 0, rfl, (Array.getElem?_eq_some_iff.1 h4).1, ?_, he t ht⟩⟩
    rw [Nat.zero_add, World.ownsRow.cellAt h0 t (by omega)]
    simp [List.getD_eq_getElem?_getD, show t < us.length by omega]
theorem each_set {w : World} {us : List Value} {ll : List (List Int)} (hus : us.length = ll.length) (i : Nat) {u : Value} {l : List Int} (hu : SlI w .i64 u l) (hk : ∀ t, t < ll.length → SlI w .i64 (us.getD t (.slice none 0 0)) (ll.getD t [])) :
    ∀ t, t < (ll.set i l).length → SlI w .i64 ((us.set i u).getD t (.slice none 0 0)) ((ll.set i l).getD t []) := by
  intro t ht
  have ht' : t < ll.length := by simpa using ht
  rw [getD_setL, getD_setL]
  by_cases e : i = t
  · simpa [e, hus, ht'] using hu
  · simpa [e] using hk t ht'
theorem SlL.each {w : World} {v : Value} {us : List Value} {ll : List (List Int)} (h : SlL w v us ll) : ∀ t, t < ll.length → SlI w .i64 (us.getD t (.slice none 0 0)) (ll.getD t []) := by
  obtain ⟨_, _, _, _, _, _, h5⟩ := h
  intro t ht
  obtain ⟨_, _, _, _, _, h⟩ := h5 t ht
  exact h
/-- a copy of a list of lists: the row is new, the lists are the same -/
theorem run_copy_li (w : World) (ty : TypeId) (B : Nat) (hB : B ≤ w.heap.size) (s : Value) (hs : w.ownsRow B 27 1 s 0 []) (xv : Value) (us : List Value) (ll : List (List Int)) (hS : SlL w xv us ll) (hl : ll.length ≤ 1000000) :
    ∃ v' w', (Builtin.append_ #[31, 31] ty #[s, xv]).run Try.prog w = .ok v' w' ∧ w'.ownsRow B 27 1 v' ll.length us ∧ w.grownBy w' s.ownBlock := by
  obtain ⟨i0, hi, hz0, hz1, hz2⟩ := info_parts Try.info_li
  have hus := hS.2.1
  by_cases hne : ll = []
  · subst hne
    obtain rfl : us = [] := List.length_eq_zero_iff.1 hus
    obtain ⟨C, c', rfl, -⟩ := hS.len
    have e : ∃ A c, s = .slice A 0 c ∧ 0 ≤ c := by
      rcases hs.2 with ⟨rfl, _⟩ | ⟨g, cap, cur, rfl, _⟩
      · exact ⟨_, _, rfl, Nat.le_refl _⟩
      · exact ⟨_, _, rfl, Nat.zero_le _⟩
    obtain ⟨A, c, rfl, hc⟩ := e
    exact ⟨_, w, run_append_zero (by kernel_rfl) hi A C 0 c c' hc, hs, grownBy_refl _ _⟩
  · obtain ⟨b, off, cap, rfl, hcap, hbk, hc, hu⟩ := hS.open hne
    obtain ⟨v', w', hr, h2, h3, -⟩ := run_append_own (P := Try.prog) w B 31 ty 27 i0 (.slice none 0 0) 1 _ (by kernel_rfl) hi hz0 hz1 rfl rfl (by decide) s 0 _ hs ⟨b, off, none⟩ ll.length cap us (by omega) (by
      intro j u hj
      rw [add_plain]
      have hjl : j < us.length := (List.getElem?_eq_some_iff.1 hj).1
      rw [hc j (by omega), List.getD_eq_getElem?_getD, hj]; rfl) (by
      intro u hu'
      obtain ⟨j, hj, rfl⟩ := List.mem_iff_getElem.1 hu'
      have := (hu j (by omega)).one
      simpa [List.getD_eq_getElem?_getD, hj] using this) (by unfold maxLen; omega) (by rw [hz2]; omega) hB
    refine ⟨v', w', hr, by simpa using h2, h3⟩
end Go.Proofs.Ytimgcehogalhcaa
