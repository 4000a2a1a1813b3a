import Derived.Laws.AppendOwnNone
import Derived.Lib.AppendZeros
import Derived.Shelf.RegionOpenPlain
import Derived.Lib.SliceRun
import Derived.Deep.LoopGhost
import Derived.Deep.QuietTactic
import Derived.BigQuiet
import Derived.RegionTactic
import Derived.Deep.DeepCutAuto
import Derived.BigRegion
import Derived.Test.YtmkngpjjimalhaaB02
import Derived.Test.YtmkngpjjimalhaaB01
set_option linter.unusedVariables false
set_option linter.unusedSimpArgs false
/- Appending whole lists, and lists of lists that the call owns. -/
namespace Go.Proofs.Ytmkngpjjimalhaa
open Go.ChangeShapes Go.WideShapes Go.ChangeAt Go.RowKit
set_option maxRecDepth 100000

/-- an append of nothing leaves the value and the world -/
theorem run_append_zero {w : World} {T ty e : TypeId} {i : TypeInfo} (ht : Try.prog.underlying T = some (.slice e)) (hi : Try.prog.info? e = some i) (A B : Option Addr) (n c c' : Nat) (hn : n ≤ c) :
    (Builtin.append_ #[T, T] ty #[.slice A n c, .slice B 0 c']).run Try.prog w = .ok (.slice A n c) w := by
  cases A <;> cases B <;> simp [Builtin.append_, run_underlying ht, sizeOf, typeInfo, hi, Builtin.lenOf, Builtin.firstCells, storeCells, loadCells, loadCellsFrom, Result.andThen, hn]
theorem run_app_i64 (w : World) (ty : TypeId) (base : Nat) (v : Value) (l : List Int) (hown : OwnI w base 3 .i64 v l) (xv : Value) (l2 : List Int) (hS : SlI w .i64 xv l2)
    (hl : l.length ≤ 1000000) (hl2 : l2.length ≤ 1000000) (hb : base ≤ w.heap.size) :
    ∃ v' w', (Builtin.append_ #[33, 33] ty #[v, xv]).run Try.prog w = .ok v' w' ∧ OwnI w' base 3 .i64 v' (l ++ l2) ∧ w.grownBy w' v.ownBlock := by
  obtain ⟨i0, hi, hz0, hz1, hz2⟩ := info_parts Try.info_i64
  by_cases hne : l2 = []
  · subst hne
    obtain ⟨B, c', rfl, -⟩ := hS.len
    have e : ∃ A c, v = .slice A l.length c ∧ l.length ≤ c := by
      rcases hown.shape with ⟨rfl, rfl⟩ | ⟨g, cap, rfl, _, _, h, _⟩
      · exact ⟨_, _, rfl, Nat.le_refl _⟩
      · exact ⟨_, _, rfl, h⟩
    obtain ⟨A, c, rfl, hc⟩ := e
    refine ⟨_, w, run_append_zero (by kernel_rfl) hi A B l.length c c' hc, by simpa using hown, grownBy_refl _ _⟩
  · obtain ⟨b, off, cap, rfl, hcap, hbk, hc⟩ := hS.open hne
    obtain ⟨v', w', hr, h2, h3, -⟩ := run_append_own (P := Try.prog) w base 33 ty 3 i0 (.int .i64 0) 1 _ (by kernel_rfl) hi hz0 hz1 rfl rfl (by decide) v l.length _ hown ⟨b, off, none⟩ l2.length cap (l2.map (Value.int .i64)) (by simp) (by
      intro j u hj
      rw [add_plain]
      simp only [List.getElem?_map, Option.map_eq_some_iff] at hj
      obtain ⟨y, hy, rfl⟩ := hj
      have hjl : j < l2.length := (List.getElem?_eq_some_iff.1 hy).1
      rw [hc j hjl, List.getD_eq_getElem?_getD, hy]; rfl) (by intro u hu; simp only [List.mem_map] at hu; obtain ⟨y, _, rfl⟩ := hu; rfl) (by unfold maxLen; omega) (by rw [hz2]; omega) hb
    refine ⟨v', w', hr, ?_, h3⟩
    unfold OwnI
    rw [List.length_append, List.map_append]
    exact h2
/-- append of a list that reads, to a list that the call owns -/
theorem wp_app_i64 (w : World) {ops : Array Oper} {rest : List Oper} {o : Oper} {a : Act} {Q : Exit → Act → World → Prop}
    (hg : o.guard = none) (s x : Operand) (hop : o.op = Op.call { callee := Callee.builtin Builtin.append, args := #[s, x], argTypes := #[33, 33] })
    (base : Nat) (v : Value) (l : List Int) (hs : a.eval s = v) (hown : OwnI w base 3 .i64 v l) (xv : Value) (l2 : List Int) (hx : a.eval x = xv) (hS : SlI w .i64 xv l2)
    (hl : l.length ≤ 1000000) (hl2 : l2.length ≤ 1000000) (hb : base ≤ w.heap.size)
    (hK : ∀ v' w', OwnI w' base 3 .i64 v' (l ++ l2) → w.grownBy w' v.ownBlock → wpList Try.prog ops Q rest (a.put o.dst v') w') :
    wpList Try.prog ops Q (o :: rest) a w := by
  obtain ⟨v', w', hr, h1, h2⟩ := run_app_i64 w o.type base v l hown xv l2 hS hl hl2 hb
  exact Lib.wpList_append_run w hg s x _ _ hop _ _ hs hx v' w' hr (hK v' w' h1 h2)
/-- the same inside a region that draws its order -/
theorem step_app_i64 {w : World} {ops : Array Oper} {o : Oper} {a : Act} {K : Act → World → Prop} {Q : Exit → Act → World → Prop} {E : Prop}
    (hgd : o.guard = none) (s x : Operand) (hop : o.op = Op.call { callee := Callee.builtin Builtin.append, args := #[s, x], argTypes := #[33, 33] })
    (base : Nat) (v : Value) (l : List Int) (hs : a.eval s = v) (hown : OwnI w base 3 .i64 v l) (xv : Value) (l2 : List Int) (hx : a.eval x = xv) (hS : SlI w .i64 xv l2)
    (hl : l.length ≤ 1000000) (hl2 : l2.length ≤ 1000000) (hb : base ≤ w.heap.size)
    (hK : ∀ v' w', OwnI w' base 3 .i64 v' (l ++ l2) → w.grownBy w' v.ownBlock → K (a.put o.dst v') w') :
    if Region.wanted o (yielded ops a.tmps) = true then Oper.wp Try.prog o a w K Q else E := by
  have hw : Region.wanted o (yielded ops a.tmps) = true := by simp [Region.wanted, hgd]
  rw [if_pos hw]
  obtain ⟨v', w', hr, h1, h2⟩ := run_app_i64 w o.type base v l hown xv l2 hS hl hl2 hb
  exact Lib.wp_append_run w s x _ _ hop _ _ hs hx v' w' hr (hK v' w' h1 h2)
/-- a copy of a list of words -/
theorem run_copy_u64 (w : World) (ty : TypeId) (B : Nat) (hB : B ≤ w.heap.size) (s : Value) (hs : w.ownsRow B 27 1 s 0 []) (xv : Value) (l : List Int) (hS : SlI w .u64 xv l) (hl : l.length ≤ 1000000) :
    ∃ v' w', (Builtin.append_ #[34, 34] ty #[s, xv]).run Try.prog w = .ok v' w' ∧ OwnI w' B 27 .u64 v' l ∧ w.grownBy w' s.ownBlock := by
  obtain ⟨i0, hi, hz0, hz1, hz2⟩ := info_parts Try.info_u64
  by_cases hne : l = []
  · subst hne
    obtain ⟨B, c', rfl, -⟩ := hS.len
    have e : ∃ A c, s = .slice A 0 c ∧ 0 ≤ c := by
      rcases hs.2 with ⟨rfl, _⟩ | ⟨g, cap, cur, rfl, _⟩
      · exact ⟨_, _, rfl, Nat.le_refl _⟩
      · exact ⟨_, _, rfl, Nat.zero_le _⟩
    obtain ⟨A, c, rfl, hc⟩ := e
    exact ⟨_, w, run_append_zero (by kernel_rfl) hi A B 0 c c' hc, hs, grownBy_refl _ _⟩
  · obtain ⟨b, off, cap, rfl, hcap, hbk, hc⟩ := hS.open hne
    obtain ⟨v', w', hr, h2, h3, -⟩ := run_append_own (P := Try.prog) w B 34 ty 27 i0 (.int .u64 0) 1 _ (by kernel_rfl) hi hz0 hz1 rfl rfl (by decide) s 0 _ hs ⟨b, off, none⟩ l.length cap (l.map (Value.int .u64)) (by simp) (by
      intro j u hj
      rw [add_plain]
      simp only [List.getElem?_map, Option.map_eq_some_iff] at hj
      obtain ⟨y, hy, rfl⟩ := hj
      have hjl : j < l.length := (List.getElem?_eq_some_iff.1 hy).1
      rw [hc j hjl, List.getD_eq_getElem?_getD, hy]; rfl) (by intro u hu; simp only [List.mem_map] at hu; obtain ⟨y, _, rfl⟩ := hu; rfl) (by unfold maxLen; omega) (by rw [hz2]; omega) hB
    refine ⟨v', w', hr, ?_, h3⟩
    unfold OwnI
    simpa using h2
theorem Try.info_li : (Try.prog.info? 33).map (fun i => (i.zero, i.size, i.bytes)) = some (some (.slice none 0 0), 1, 24) := by kernel_rfl
theorem SlI.one {w : World} {k : IntKind} {v : Value} {l : List Int} (h : SlI w k v l) : v.oneCell' = true := by
  obtain ⟨_, _, a, cap, rfl, _⟩ := h; rfl
/-- an owned row of lists reads -/
theorem row_read {w : World} {base : Nat} {v : Value} {us : List Value} {ll : List (List Int)} (h : w.ownsRow base 33 1 v ll.length us) (he : ∀ t, t < ll.length → SlI w .i64 (us.getD t (.slice none 0 0)) (ll.getD t [])) (hl : ll.length ≤ 140737488351232) : SlL w v us ll := by
  have hus : us.length = ll.length := by have := h.1; omega
  refine ⟨hl, hus, ?_⟩
  have h0 := h
  rcases h.2 with ⟨rfl, h2⟩ | ⟨g, cap, cur, rfl, h3, h4, h5, h6, h7, h8⟩
  · exact ⟨none, 0, by rw [h2], by omega, fun t ht => by omega⟩
  · refine ⟨some ⟨g, 0, none⟩, cap, rfl, h5, fun t ht => ⟨g, 0, rfl, (Array.getElem?_eq_some_iff.1 h4).1, ?_, he t ht⟩⟩
    rw [Nat.zero_add, World.ownsRow.cellAt h0 t (by omega)]
    simp [List.getD_eq_getElem?_getD, show t < us.length by omega]
theorem each_set {w : World} {us : List Value} {ll : List (List Int)} (hus : us.length = ll.length) (i : Nat) {u : Value} {l : List Int} (hu : SlI w .i64 u l) (hk : ∀ t, t < ll.length → SlI w .i64 (us.getD t (.slice none 0 0)) (ll.getD t [])) :
    ∀ t, t < (ll.set i l).length → SlI w .i64 ((us.set i u).getD t (.slice none 0 0)) ((ll.set i l).getD t []) := by
  intro t ht
  have ht' : t < ll.length := by simpa using ht
  rw [getD_setL, getD_setL]
  by_cases e : i = t
  · simpa [e, hus, ht'] using hu
  · simpa [e] using hk t ht'
theorem SlL.each {w : World} {v : Value} {us : List Value} {ll : List (List Int)} (h : SlL w v us ll) : ∀ t, t < ll.length → SlI w .i64 (us.getD t (.slice none 0 0)) (ll.getD t []) := by
  obtain ⟨_, _, _, _, _, _, h5⟩ := h
  intro t ht
  obtain ⟨_, _, _, _, _, h⟩ := h5 t ht
  exact h
/-- a copy of a list of lists: the row is new, the lists are the same -/
theorem run_copy_li (w : World) (ty : TypeId) (B : Nat) (hB : B ≤ w.heap.size) (s : Value) (hs : w.ownsRow B 33 1 s 0 []) (xv : Value) (us : List Value) (ll : List (List Int)) (hS : SlL w xv us ll) (hl : ll.length ≤ 1000000) :
    ∃ v' w', (Builtin.append_ #[39, 39] ty #[s, xv]).run Try.prog w = .ok v' w' ∧ w'.ownsRow B 33 1 v' ll.length us ∧ w.grownBy w' s.ownBlock := by
  obtain ⟨i0, hi, hz0, hz1, hz2⟩ := info_parts Try.info_li
  have hus := hS.2.1
  by_cases hne : ll = []
  · subst hne
    obtain rfl : us = [] := List.length_eq_zero_iff.1 hus
    obtain ⟨C, c', rfl, -⟩ := hS.len
    have e : ∃ A c, s = .slice A 0 c ∧ 0 ≤ c := by
      rcases hs.2 with ⟨rfl, _⟩ | ⟨g, cap, cur, rfl, _⟩
      · exact ⟨_, _, rfl, Nat.le_refl _⟩
      · exact ⟨_, _, rfl, Nat.zero_le _⟩
    obtain ⟨A, c, rfl, hc⟩ := e
    exact ⟨_, w, run_append_zero (by kernel_rfl) hi A C 0 c c' hc, hs, grownBy_refl _ _⟩
  · obtain ⟨b, off, cap, rfl, hcap, hbk, hc, hu⟩ := hS.open hne
    obtain ⟨v', w', hr, h2, h3, -⟩ := run_append_own (P := Try.prog) w B 39 ty 33 i0 (.slice none 0 0) 1 _ (by kernel_rfl) hi hz0 hz1 rfl rfl (by decide) s 0 _ hs ⟨b, off, none⟩ ll.length cap us (by omega) (by
      intro j u hj
      rw [add_plain]
      have hjl : j < us.length := (List.getElem?_eq_some_iff.1 hj).1
      rw [hc j (by omega), List.getD_eq_getElem?_getD, hj]; rfl) (by
      intro u hu'
      obtain ⟨j, hj, rfl⟩ := List.mem_iff_getElem.1 hu'
      have := (hu j (by omega)).one
      simpa [List.getD_eq_getElem?_getD, hj] using this) (by unfold maxLen; omega) (by rw [hz2]; omega) hB
    refine ⟨v', w', hr, by simpa using h2, h3⟩
end Go.Proofs.Ytmkngpjjimalhaa
/- The library's small functions on slices: Clone, Grow of nil, Concat, Index. -/
namespace Go.Proofs.Ytmkngpjjimalhaa
open Go.ChangeShapes Go.WideShapes Go.ChangeAt Go.RowKit
set_option maxRecDepth 100000

theorem SlI.nil_of {w : World} {k : IntKind} {n c : Nat} {l : List Int} (h : SlI w k (.slice none n c) l) : l = [] := by
  obtain ⟨_, _, a', cap', e, _, h5⟩ := h
  simp only [Value.slice.injEq] at e
  rcases Nat.eq_zero_or_pos l.length with h0 | h0
  · exact List.length_eq_zero_iff.1 h0
  · obtain ⟨b, off, e2, _⟩ := h5 0 h0
    rw [← e.1] at e2; cases e2
theorem SlL.nil_of {w : World} {n c : Nat} {us : List Value} {l : List (List Int)} (h : SlL w (.slice none n c) us l) : l = [] := by
  obtain ⟨_, _, a', cap', e, _, h5⟩ := h
  simp only [Value.slice.injEq] at e
  rcases Nat.eq_zero_or_pos l.length with h0 | h0
  · exact List.length_eq_zero_iff.1 h0
  · obtain ⟨b, off, e2, _⟩ := h5 0 h0
    rw [← e.1] at e2; cases e2
/-- x first lies at i -/
structure FstL (l : List Int) (x : Int) (i : Nat) : Prop where
  lt : i < l.length
  hit : l.getD i 0 = x
  miss : ∀ j, j < i → l.getD j 0 ≠ x
theorem erase_none (l : List Int) (x : Int) (h : ∀ j, j < l.length → l.getD j 0 ≠ x) : l.erase x = l := by
  refine List.erase_of_not_mem fun hm => ?_
  obtain ⟨j, hj, e⟩ := List.mem_iff_getElem.1 hm
  exact h j hj (by simpa [List.getD_eq_getElem?_getD, hj] using e)
theorem FstL.erase {l : List Int} {x : Int} {i : Nat} (h : FstL l x i) : l.erase x = l.take i ++ l.drop (i + 1) := by
  induction l generalizing i with
  | nil => exact absurd h.lt (by simp)
  | cons y l ih =>
    cases i with
    | zero =>
      have e : y = x := by simpa using h.hit
      subst e
      simp
    | succ i =>
      have e : y ≠ x := by simpa using h.miss 0 (Nat.succ_pos _)
      have hi : FstL l x i := ⟨by simpa using h.lt, by simpa using h.hit, fun j hj => by simpa using h.miss (j + 1) (by omega)⟩
      rw [List.erase_cons_tail (by simpa using e), ih hi]
      simp
end Go.Proofs.Ytmkngpjjimalhaa
/- What the program makes of a memory: words, lists, time. -/
namespace Go.Proofs.Ytmkngpjjimalhaa
open Go.ChangeShapes Go.WideShapes Go.ChangeAt Go.RowKit
set_option maxRecDepth 100000

theorem rword_any (v : Value) (m : MemM) (x : Int) (w : World) (h : MemV w v m) :
    Calls Try.prog 77 #[v, .int .i64 x] w fun e w' => e = .returned (.bool (hasB m.words.length x)) ∧ Below w.heap.size w w' := by
  obtain ⟨vw, vl, us, rfl, h1, h2⟩ := h
  have hl := h1.1
  have hl2 := h2.1
  obtain ⟨a, cap, rfl, -⟩ := h1.len
  obtain ⟨a2, cap2, rfl, -⟩ := h2.len
  clear h1 h2
  generalize m.words.length = n at *
  generalize m.lists.length = n2 at *
  by_cases h0 : 0 ≤ x
  · have hd : decide (0 ≤ x) = true := by simpa using h0
    go_enter Try.func77, Try.ntmps77
    go_wp2
    go_ret
    exact ⟨ret_bool (by simp [hasB, h0]), below_new (Below.refl _ _) _⟩
  · have hd : decide (0 ≤ x) = false := by simpa using h0
    go_enter Try.func77, Try.ntmps77
    go_wp2
    go_ret
    exact ⟨ret_bool (by simp only [hasB, hd, Bool.false_and]), below_new (Below.refl _ _) _⟩
theorem rlist_any (v : Value) (m : MemM) (x : Int) (w : World) (h : MemV w v m) :
    Calls Try.prog 74 #[v, .int .i64 x] w fun e w' => e = .returned (.bool (hasB m.lists.length x)) ∧ Below w.heap.size w w' := by
  obtain ⟨vw, vl, us, rfl, h1, h2⟩ := h
  have hl := h1.1
  have hl2 := h2.1
  obtain ⟨a, cap, rfl, -⟩ := h1.len
  obtain ⟨a2, cap2, rfl, -⟩ := h2.len
  clear h1 h2
  generalize m.words.length = n at *
  generalize m.lists.length = n2 at *
  by_cases h0 : 0 ≤ x
  · have hd : decide (0 ≤ x) = true := by simpa using h0
    go_enter Try.func74, Try.ntmps74
    go_wp2
    go_ret
    exact ⟨ret_bool (by simp [hasB, h0]), below_new (Below.refl _ _) _⟩
  · have hd : decide (0 ≤ x) = false := by simpa using h0
    go_enter Try.func74, Try.ntmps74
    go_wp2
    go_ret
    exact ⟨ret_bool (by simp only [hasB, hd, Bool.false_and]), below_new (Below.refl _ _) _⟩
def zeroMem : Array Value := #[.slice none 0 0, .slice none 0 0, .int .i64 0]
set_option maxHeartbeats 1000000 in
theorem rset_any (G : World → Prop) (v : Value) (m : MemM) (i : Nat) (u : Int) (w : World) (hG : G w) (hcl : Wide G) (h : StM G v m) (hi : i < m.words.length) (hm : m.fits) (hu : u = IntKind.u64.wrap u) :
    Calls Try.prog 78 #[v, .int .i64 i, .int .u64 u] w fun e w' => ∃ v', e = .returned v' ∧ StM (Nx G w w') v' ⟨m.words.set i u, m.lists, m.tick⟩ ∧ Below w.heap.size w w' := by
  obtain ⟨vw, vl, us, rfl, hall⟩ := h
  obtain ⟨h1, h2⟩ := hall w hG
  have HW0 := Lib.hid h1
  have hw1 := hm.words
  obtain ⟨a, cap, rfl, -⟩ := h1.len
  obtain ⟨a2, cap2, rfl, -⟩ := h2.len
  have HM := Lib.hid hm
  have HU := Lib.hid hu
  have HALL := Lib.hid hall
  clear h1 h2 hm hu hall hG hcl
  obtain ⟨W, hW⟩ : ∃ W, (w.alloc (.cells #[.slice a m.words.length cap, .slice a2 m.lists.length cap2, .int .i64 m.tick] 41)).alloc (.cells zeroMem 41) = W := ⟨_, rfl⟩
  have HB : Hid (Below w.heap.size w W) := hW ▸ below_new (below_new (Below.refl w.heap.size w) _) _
  have hz : w.heap.size + 2 ≤ W.heap.size := by rw [← hW]; simp
  have R0 : Hid (W.heap[w.heap.size]? = some (.cells #[.slice a m.words.length cap, .slice a2 m.lists.length cap2, .int .i64 m.tick] 41 (0, 0))) := hW ▸ heap_alloc2_old _ _ _
  have R1 : Hid (W.heap[w.heap.size + 1]? = some (.cells zeroMem 41 (0, 0))) := hW ▸ heap_alloc2_new _ _ _
  have HW := Lib.hid hW
  clear hW
  have c0 := cell_of_row _ _ 0 _ _ _ R0.out
  simp at c0
  go_enter Try.func78, Try.ntmps78
  go_upto_region 1 with fail
  rw [show (#[.slice none 0 0, .slice none 0 0, .int .i64 0] : Array Value) = zeroMem from rfl, HW.out]
  obtain ⟨v1, w1, hr, ho, hg1⟩ := run_copy_u64 W 34 W.heap.size (Nat.le_refl _) (.slice none 0 0) (World.ownsRow_nil _ _ _ _) _ m.words (HW0.out.below HB.out) (by omega)
  have hb1 : Below W.heap.size W w1 := (Below.refl _ _).grown hg1 (Nat.le_refl _) (fun j hj => by cases hj)
  clear hg1
  obtain ⟨g, cg, e1⟩ : ∃ g c, v1 = .slice (some ⟨g, 0, none⟩) m.words.length c := by
    rcases ho.shape with ⟨_, h⟩ | ⟨g, c, h, _⟩
    · rw [h] at hi; simp at hi
    · exact ⟨g, c, h⟩
  subst e1
  have hgW : W.heap.size ≤ g := ho.own_ge g rfl
  have HO := Lib.hid ho
  have S0 := Lib.hid ((hb1.block w.heap.size (by omega)).trans R0.out)
  have S1 := Lib.hid ((hb1.block (w.heap.size + 1) (by omega)).trans R1.out)
  have HB1 := Lib.hid (HB.out.trans (hb1.mono (by omega)))
  have hz1 : w.heap.size + 2 ≤ w1.heap.size := Nat.le_trans hz hb1.size
  clear ho hb1
  generalize hn : m.words.length = n at *
  have HN := Lib.hid hn
  clear hn
  obtain ⟨d0, d1, d2⟩ := rowc3 S0.out
  have f0 := frozen_of_row _ _ 0 _ _ S0.out
  have T0 := Lib.hid (heap_setCell_same w1 w.heap.size 0 _ _ (.slice (some ⟨g, 0, none⟩) n cg) S0.out)
  simp at T0
  obtain ⟨t0, t1, t2⟩ := rowc3 T0.out
  have HO2 := Lib.hid (HO.out.setOther ⟨w.heap.size, 0, none⟩ (by show g ≠ w.heap.size; omega) (.slice (some ⟨g, 0, none⟩) n cg))
  obtain ⟨k0, k1⟩ := HO2.out.cell i (by rw [HN.out]; exact hi)
  have HO3 := Lib.hid (HO2.out.store i u HN.out.symm)
  have TROW := Lib.hid ((heap_setCell_other (w1.setCell ⟨w.heap.size, 0, none⟩ (.slice (some ⟨g, 0, none⟩) n cg)) ⟨g, i, none⟩ (w.heap.size + 1) (.int .u64 u) (by show w.heap.size + 1 ≠ g; omega)).trans ((heap_setCell_other w1 ⟨w.heap.size, 0, none⟩ (w.heap.size + 1) (.slice (some ⟨g, 0, none⟩) n cg) (by simp)).trans S1.out))
  go_wp2_with (first | (at_builtin; refine Lib.wpList_append_run _ rfl _ _ _ _ rfl _ _ rfl rfl _ _ hr ?_) | (refine wpList_store_row rfl 41 _ _ rfl (w.heap.size + 1) _ rfl rfl 41 zeroMem TROW.out (by kernel_rfl) rfl (by simp [Value.oneCell']) ?_))
  refine bodyPost_ret (v := .agg #[.slice (some ⟨g, 0, none⟩) n cg, .slice a2 m.lists.length cap2, .int .i64 m.tick]) (results_cell_row Try.results78 _ _ (w.heap.size + 1) 41 _ (0, 0) _ rfl (setRow_heap _ _ _ _ 41 (0, 0) TROW.out) Try.underlying41 rfl (by kernel_rfl)) rfl ?_
  have hbe := row_below (((HB1.out.setCell (p := ⟨w.heap.size, 0, none⟩) (Nat.le_refl _) (.slice (some ⟨g, 0, none⟩) n cg)).setCell (p := ⟨g, i, none⟩) (by show w.heap.size ≤ g; omega) (.int .u64 u))) (Nat.le_succ _) #[.slice (some ⟨g, 0, none⟩) n cg, .slice a2 m.lists.length cap2, .int .i64 m.tick]
  have hfi := fits_put HM.out i u HU.out
  refine ⟨_, rfl, ⟨_, _, us, rfl, fun w2 hw2 => ⟨((HO3.out.kept (row_grown _ _ _) (HO3.out.ne (by omega))).newPart (by omega) hw2.2).read ?_ hfi.wf, (HALL.out w2 hw2.1).2⟩⟩, hbe⟩
  have := hfi.words
  simp only at this ⊢
  omega
set_option maxHeartbeats 1000000 in
theorem rput_any (G : World → Prop) (v : Value) (m : MemM) (i : Nat) (u : Value) (l : List Int) (w : World) (hG : G w) (hcl : Wide G) (h : StM G v m) (hi : i < m.lists.length) (hm : m.fits) (hu : StI G .i64 u l) :
    Calls Try.prog 76 #[v, .int .i64 i, u] w fun e w' => ∃ v', e = .returned v' ∧ StM (Nx G w w') v' ⟨m.words, m.lists.set i l, m.tick⟩ ∧ Below w.heap.size w w' := by
  obtain ⟨vw, vl, us, rfl, hall⟩ := h
  obtain ⟨h1, h2⟩ := hall w hG
  have hu0 := hu w hG
  have hus := h2.2.1
  have HL := Lib.hid h2
  have hw1 := hm.lists
  obtain ⟨a, cap, rfl, -⟩ := h1.len
  obtain ⟨a2, cap2, rfl, -⟩ := h2.len
  obtain ⟨ua, uc, rfl, -⟩ := hu0.len
  have HALL := Lib.hid hall
  have HU := Lib.hid hu
  clear h1 h2 hm hu0 hall hG hcl hu
  obtain ⟨W, hW⟩ : ∃ W, (w.alloc (.cells #[.slice a m.words.length cap, .slice a2 m.lists.length cap2, .int .i64 m.tick] 41)).alloc (.cells zeroMem 41) = W := ⟨_, rfl⟩
  have HB : Hid (Below w.heap.size w W) := hW ▸ below_new (below_new (Below.refl w.heap.size w) _) _
  have hz : w.heap.size + 2 ≤ W.heap.size := by rw [← hW]; simp
  have R0 : Hid (W.heap[w.heap.size]? = some (.cells #[.slice a m.words.length cap, .slice a2 m.lists.length cap2, .int .i64 m.tick] 41 (0, 0))) := hW ▸ heap_alloc2_old _ _ _
  have R1 : Hid (W.heap[w.heap.size + 1]? = some (.cells zeroMem 41 (0, 0))) := hW ▸ heap_alloc2_new _ _ _
  have HW := Lib.hid hW
  clear hW
  have c1 := cell_of_row _ _ 1 _ _ _ R0.out
  simp at c1
  go_enter Try.func76, Try.ntmps76
  go_upto_region 1 with fail
  rw [show (#[.slice none 0 0, .slice none 0 0, .int .i64 0] : Array Value) = zeroMem from rfl, HW.out]
  obtain ⟨v1, w1, hr, ho, hg1⟩ := run_copy_li W 39 W.heap.size (Nat.le_refl _) (.slice none 0 0) (World.ownsRow_nil _ _ _ _) _ us m.lists (HL.out.below HB.out) (by omega)
  have hb1 : Below W.heap.size W w1 := (Below.refl _ _).grown hg1 (Nat.le_refl _) (fun j hj => by cases hj)
  clear hg1
  obtain ⟨g, cg, e1, hgW, hg1⟩ : ∃ g c, v1 = .slice (some ⟨g, 0, none⟩) m.lists.length c ∧ W.heap.size ≤ g ∧ g < w1.heap.size := by
    rcases ho.2 with ⟨_, h⟩ | ⟨g, c, cur, h, h2, h3, _⟩
    · omega
    · exact ⟨g, c, h, h2, (Array.getElem?_eq_some_iff.1 h3).1⟩
  subst e1
  have HO := Lib.hid ho
  have S0 := Lib.hid ((hb1.block w.heap.size (by omega)).trans R0.out)
  have S1 := Lib.hid ((hb1.block (w.heap.size + 1) (by omega)).trans R1.out)
  have HB1 := Lib.hid (HB.out.trans (hb1.mono (by omega)))
  have hz1 : w.heap.size + 2 ≤ w1.heap.size := Nat.le_trans hz hb1.size
  clear ho hb1
  generalize hn : m.lists.length = n at *
  have HN := Lib.hid hn
  clear hn
  obtain ⟨d0, d1, d2⟩ := rowc3 S0.out
  have f1 := frozen_of_row _ _ 1 _ _ S0.out
  have T0 := Lib.hid (heap_setCell_same w1 w.heap.size 1 _ _ (.slice (some ⟨g, 0, none⟩) n cg) S0.out)
  simp at T0
  obtain ⟨t0, t1, t2⟩ := rowc3 T0.out
  have hne : g ≠ w.heap.size := by omega
  have gr1 := grownBy_setCell w1 ⟨w.heap.size, 1, none⟩ (.slice (some ⟨g, 0, none⟩) n cg)
  have hrow2 := HO.out.kept gr1 (.inr (by simpa [Value.ownBlock] using hne))
  have k0 : (w1.setCell ⟨w.heap.size, 1, none⟩ (.slice (some ⟨g, 0, none⟩) n cg)).cell? ⟨g, i, none⟩ = some (us.getD i (.slice none 0 0)) := by
    rw [World.ownsRow.cellAt hrow2 i (by omega)]
    simp [List.getD_eq_getElem?_getD, show i < us.length by omega]
  have k1 := hrow2.frozenAt i
  have HR2 := Lib.hid hrow2
  obtain ⟨uo, huo⟩ : ∃ uo, us.getD i (.slice none 0 0) = uo := ⟨_, rfl⟩
  rw [huo] at k0
  clear hrow2 gr1 huo
  have TROW := Lib.hid ((heap_setCell_other (w1.setCell ⟨w.heap.size, 1, none⟩ (.slice (some ⟨g, 0, none⟩) n cg)) ⟨g, i, none⟩ (w.heap.size + 1) (.slice ua l.length uc) (by show w.heap.size + 1 ≠ g; omega)).trans ((heap_setCell_other w1 ⟨w.heap.size, 1, none⟩ (w.heap.size + 1) (.slice (some ⟨g, 0, none⟩) n cg) (by simp)).trans S1.out))
  go_wp2_with (first | (at_builtin; refine Lib.wpList_append_run _ rfl _ _ _ _ rfl _ _ rfl rfl _ _ hr ?_) | (refine wpList_store_row rfl 41 _ _ rfl (w.heap.size + 1) _ rfl rfl 41 zeroMem TROW.out (by kernel_rfl) rfl (by simp [Value.oneCell']) ?_))
  refine bodyPost_ret (v := .agg #[.slice a m.words.length cap, .slice (some ⟨g, 0, none⟩) n cg, .int .i64 m.tick]) (results_cell_row Try.results76 _ _ (w.heap.size + 1) 41 _ (0, 0) _ rfl (setRow_heap _ _ _ _ 41 (0, 0) TROW.out) Try.underlying41 rfl (by kernel_rfl)) rfl ?_
  have hb2 := ((HB1.out.setCell (p := ⟨w.heap.size, 1, none⟩) (Nat.le_refl _) (.slice (some ⟨g, 0, none⟩) n cg)).setCell (p := ⟨g, i, none⟩) (by show w.heap.size ≤ g; omega) (.slice ua l.length uc))
  have hbe := row_below hb2 (Nat.le_succ _) #[.slice a m.words.length cap, .slice (some ⟨g, 0, none⟩) n cg, .int .i64 m.tick]
  have r3 := (World.ownsRow.stored HR2.out i (.slice ua l.length uc)).1.kept (row_grown _ (w.heap.size + 1) #[.slice a m.words.length cap, .slice (some ⟨g, 0, none⟩) n cg, .int .i64 m.tick]) (.inr (by simp [Value.ownBlock]; omega))
  refine ⟨_, rfl, ⟨_, _, us.set i (.slice ua l.length uc), rfl, fun w2 hw2 => ⟨(HALL.out w2 hw2.1).1, ?_⟩⟩, hbe⟩
  refine row_read (base := W.heap.size) ?_ (each_set (by rw [hus, HN.out]) i (HU.out w2 hw2.1) (HALL.out w2 hw2.1).2.each) (by rw [List.length_set, HN.out]; omega)
  rw [List.length_set, HN.out]
  exact row_newPart r3 (by omega) hw2.2
end Go.Proofs.Ytmkngpjjimalhaa
/- A region that draws its order, whose operations only read and whose callees make memory of their own: one walk in the order of the text. -/
namespace Go.Proofs.Ytmkngpjjimalhaa
open Go.ChangeShapes Go.WideShapes Go.ChangeAt Go.RowKit
set_option maxRecDepth 100000

/-- a world that holds more than W, and W's memory as it was -/
structure Ext (W : World) where
  wd : World
  below : Below W.heap.size W wd
instance (W : World) : Nonempty (Ext W) := ⟨⟨W, Below.refl _ _⟩⟩
theorem wp_region_ext {P : Program} {id : Nat} {Q : Exit → Act → World → Prop} {a : Act} {w : World} {l : List Oper} (W : World) (hm : P.follows .mixedOrders = true) (hB : Region.lexB .any l.toArray = true) (hW : Below W.heap.size W w)
    (h : wpQuiet P l.toArray (fun w' => ∃ n : Ext W, w' = n.wd) (fun a' => ∀ w', (∃ n : Ext W, w' = n.wd) → Q .normal a' w') l a) : (Code.region id l.toArray true).wp P Q a w :=
  wp_region_quiet (C := fun w' => ∃ n : Ext W, w' = n.wd) hm hB ⟨⟨_, below_drewN hW 1⟩, rfl⟩ (by simpa using h)
theorem calls_ext {P : Program} {f : FuncId} {args : Array Value} {W : World} {n : Ext W} {v : Value}
    (h : Calls P f args n.wd fun e w' => e = .returned v ∧ Below n.wd.heap.size n.wd w') : Calls P f args n.wd fun e w'' => e = .returned v ∧ ∃ m : Ext W, w'' = m.wd :=
  h.mono fun _ w' ⟨he, hm⟩ => ⟨he, ⟨w', below_then n.below hm⟩, rfl⟩
theorem calls_ext_draw {P : Program} {f : FuncId} {args : Array Value} {W : World} {n : Ext W} {v : Value}
    (h : Calls P f args n.wd fun e w' => e = .returned v ∧ ∃ m, n.wd.drewN m = w') : Calls P f args n.wd fun e w'' => e = .returned v ∧ ∃ m : Ext W, w'' = m.wd :=
  h.mono fun _ w' ⟨he, m, hm⟩ => ⟨he, ⟨w', hm ▸ below_drewN n.below m⟩, rfl⟩
theorem ext_cell {W : World} (b o : Nat) (h : b < W.heap.size) (v : Value) (hc : W.cell? ⟨b, o, none⟩ = some v) (n : Ext W) : n.wd.cell? ⟨b, o, none⟩ = some v := (n.below.cell (p := ⟨b, o, none⟩) h).trans hc
end Go.Proofs.Ytmkngpjjimalhaa
/- What the program makes of a memory by an access to a word or to a list. -/
namespace Go.Proofs.Ytmkngpjjimalhaa
open Go.ChangeShapes Go.WideShapes Go.ChangeAt Go.RowKit
set_option maxRecDepth 100000

theorem ne_beq {x c : Int} (h : x ≠ c) : (x == c) = false := by simpa using h
theorem hasB_true {n : Nat} {x : Int} (h : hasB n x = true) : ∃ i : Nat, x = i ∧ i < n := by
  simp only [hasB, Bool.and_eq_true, decide_eq_true_eq] at h
  exact ⟨x.toNat, by omega, by omega⟩
theorem results_cells2 {fn : Func} {P : Program} {p q : Tmp} {t1 t2 : TypeId} (h : fn.results = #[.cell p t1, .cell q t2]) (tmps : Array Value) (w : World) (g1 g2 : Nat) (u1 u2 : TypeId) (c1 c2 : Array Value) (f1 f2 : Nat × Nat) (d1 d2 : TypeDesc)
    (hp : tmps.getD p undef = .pointer (some ⟨g1, 0, none⟩)) (hq : tmps.getD q undef = .pointer (some ⟨g2, 0, none⟩)) (hg1 : w.heap[g1]? = some (.cells c1 u1 f1)) (hg2 : w.heap[g2]? = some (.cells c2 u2 f2))
    (hu1 : P.underlying t1 = some d1) (hd1 : (match d1 with | .struct _ | .array _ _ => true | _ => false) = true) (hi1 : (P.info? t1).map (·.size) = some c1.size)
    (hu2 : P.underlying t2 = some d2) (hd2 : (match d2 with | .struct _ | .array _ _ => true | _ => false) = true) (hi2 : (P.info? t2).map (·.size) = some c2.size) :
    (results fn tmps).run P w = .ok (.tuple #[.agg c1, .agg c2]) w := by
  have hp' : tmps[p]?.getD undef = .pointer (some ⟨g1, 0, none⟩) := by simpa using hp
  have hq' : tmps[q]?.getD undef = .pointer (some ⟨g2, 0, none⟩) := by simpa using hq
  simp [results, h, hp', hq', asAddr, run_loadVar_row w g1 u1 t1 c1 f1 d1 hg1 hu1 hd1 hi1, run_loadVar_row w g2 u2 t2 c2 f2 d2 hg2 hu2 hd2 hi2]
theorem results_cells3 {fn : Func} {P : Program} {p q u : Tmp} {t1 t2 : TypeId} (h : fn.results = #[.cell p t1, .cell q t2, .tmp u]) (tmps : Array Value) (w : World) (g1 g2 : Nat) (u1 u2 : TypeId) (c1 c2 : Array Value) (f1 f2 : Nat × Nat) (d1 d2 : TypeDesc)
    (hp : tmps.getD p undef = .pointer (some ⟨g1, 0, none⟩)) (hq : tmps.getD q undef = .pointer (some ⟨g2, 0, none⟩)) (hg1 : w.heap[g1]? = some (.cells c1 u1 f1)) (hg2 : w.heap[g2]? = some (.cells c2 u2 f2))
    (hu1 : P.underlying t1 = some d1) (hd1 : (match d1 with | .struct _ | .array _ _ => true | _ => false) = true) (hi1 : (P.info? t1).map (·.size) = some c1.size)
    (hu2 : P.underlying t2 = some d2) (hd2 : (match d2 with | .struct _ | .array _ _ => true | _ => false) = true) (hi2 : (P.info? t2).map (·.size) = some c2.size) (x : Value) (hx : tmps.getD u undef = x) :
    (results fn tmps).run P w = .ok (.tuple #[.agg c1, .agg c2, x]) w := by
  have hp' : tmps[p]?.getD undef = .pointer (some ⟨g1, 0, none⟩) := by simpa using hp
  have hq' : tmps[q]?.getD undef = .pointer (some ⟨g2, 0, none⟩) := by simpa using hq
  have hx' : tmps[u]?.getD undef = x := by simpa using hx
  simp [results, h, hp', hq', hx', asAddr, run_loadVar_row w g1 u1 t1 c1 f1 d1 hg1 hu1 hd1 hi1, run_loadVar_row w g2 u2 t2 c2 f2 d2 hg2 hu2 hd2 hi2]
theorem heap_alloc4 (w : World) (A B C D : Obj) : let W := (((w.alloc A).alloc B).alloc C).alloc D
    W.heap[w.heap.size]? = some A ∧ W.heap[w.heap.size + 1]? = some B ∧ W.heap[w.heap.size + 2]? = some C ∧ W.heap[w.heap.size + 3]? = some D ∧ W.heap.size = w.heap.size + 4 ∧ Below w.heap.size w W := by
  intro W
  have hs : ((w.alloc A).alloc B).heap.size = w.heap.size + 2 := by simp
  have hb := below_new (below_new (Below.refl ((w.alloc A).alloc B).heap.size ((w.alloc A).alloc B)) C) D
  have e2 := heap_alloc2_old ((w.alloc A).alloc B) C D
  have e3 := heap_alloc2_new ((w.alloc A).alloc B) C D
  rw [hs] at e2 e3 hb
  exact ⟨(hb.block _ (by omega)).trans (heap_alloc2_old w A B), (hb.block _ (by omega)).trans (heap_alloc2_new w A B), e2, e3, by simp [W], below_new (below_new (below_new (below_new (Below.refl _ _) _) _) _) _⟩
theorem store3 {w : World} {g : Nat} {T : TypeId} {v0 v1 v2 : Value} (h : w.heap[g]? = some (.cells #[v0, v1, v2] T (0, 0))) (u0 u1 u2 : Value) :
    (((w.setCell ⟨g, 0, none⟩ u0).setCell ⟨g, 1, none⟩ u1).setCell ⟨g, 2, none⟩ u2).heap[g]? = some (.cells #[u0, u1, u2] T (0, 0)) := by
  have h1 := heap_setCell_same w g 0 _ _ u0 h
  have h2 := heap_setCell_same _ g 1 _ _ u1 h1
  have h3 := heap_setCell_same _ g 2 _ _ u2 h2
  simpa using h3
theorem store4 {w : World} {g : Nat} {T : TypeId} {v0 v1 v2 v3 : Value} (h : w.heap[g]? = some (.cells #[v0, v1, v2, v3] T (0, 0))) (u0 u1 u2 u3 : Value) :
    ((((w.setCell ⟨g, 0, none⟩ u0).setCell ⟨g, 1, none⟩ u1).setCell ⟨g, 2, none⟩ u2).setCell ⟨g, 3, none⟩ u3).heap[g]? = some (.cells #[u0, u1, u2, u3] T (0, 0)) := by
  have h1 := heap_setCell_same w g 0 _ _ u0 h
  have h2 := heap_setCell_same _ g 1 _ _ u1 h1
  have h3 := heap_setCell_same _ g 2 _ _ u2 h2
  have h4 := heap_setCell_same _ g 3 _ _ u3 h3
  simpa using h4
/-- seven stores into two rows -/
def put34 (w : World) (g : Nat) (u0 u1 u2 r0 r1 r2 r3 : Value) : World :=
  (((((((w.setCell ⟨g, 0, none⟩ u0).setCell ⟨g, 1, none⟩ u1).setCell ⟨g, 2, none⟩ u2).setCell ⟨g + 1, 0, none⟩ r0).setCell ⟨g + 1, 1, none⟩ r1).setCell ⟨g + 1, 2, none⟩ r2).setCell ⟨g + 1, 3, none⟩ r3).drew
theorem put34_rows {w : World} {g : Nat} {T T' : TypeId} {v0 v1 v2 q0 q1 q2 q3 : Value} (h : w.heap[g]? = some (.cells #[v0, v1, v2] T (0, 0))) (h' : w.heap[g + 1]? = some (.cells #[q0, q1, q2, q3] T' (0, 0))) (u0 u1 u2 r0 r1 r2 r3 : Value) :
    (put34 w g u0 u1 u2 r0 r1 r2 r3).heap[g]? = some (.cells #[u0, u1, u2] T (0, 0)) ∧ (put34 w g u0 u1 u2 r0 r1 r2 r3).heap[g + 1]? = some (.cells #[r0, r1, r2, r3] T' (0, 0)) := by
  have o : ∀ (x : World) (j : Nat) (u : Value), (x.setCell ⟨g, j, none⟩ u).heap[g + 1]? = x.heap[g + 1]? := fun x j u => heap_setCell_other x ⟨g, j, none⟩ (g + 1) u (by simp)
  have o' : ∀ (x : World) (j : Nat) (u : Value), (x.setCell ⟨g + 1, j, none⟩ u).heap[g]? = x.heap[g]? := fun x j u => heap_setCell_other x ⟨g + 1, j, none⟩ g u (by simp)
  unfold put34
  rw [heap_drew]
  refine ⟨?_, store4 (v0 := q0) (v1 := q1) (v2 := q2) (v3 := q3) ?_ r0 r1 r2 r3⟩
  · rw [o', o', o', o']; exact store3 h u0 u1 u2
  · rw [o, o, o]; exact h'
theorem put34_below {B : Nat} {a w : World} {g : Nat} (h : Below B a w) (hg : B ≤ g) (u0 u1 u2 r0 r1 r2 r3 : Value) : Below B a (put34 w g u0 u1 u2 r0 r1 r2 r3) := by
  unfold put34
  exact below_drewN ((((((((h.setCell (p := ⟨g, 0, none⟩) hg u0).setCell (p := ⟨g, 1, none⟩) hg u1).setCell (p := ⟨g, 2, none⟩) hg u2).setCell (p := ⟨g + 1, 0, none⟩) (Nat.le_succ_of_le hg) r0).setCell (p := ⟨g + 1, 1, none⟩) (Nat.le_succ_of_le hg) r1).setCell (p := ⟨g + 1, 2, none⟩) (Nat.le_succ_of_le hg) r2).setCell (p := ⟨g + 1, 3, none⟩) (Nat.le_succ_of_le hg) r3)) 1
def zeroAns : Array Value := #[.int .u64 0, .bool false, .bool false, .slice none 0 0]
/-- a memory and an answer are handed back -/
def PairR (G : World → Prop) (w : World) (r : MemM × AnsM) (e : Ending) (w' : World) : Prop :=
  ∃ v' b', e = .returned (.tuple #[v', b']) ∧ StM (Nx G w w') v' r.1 ∧ StA (Nx G w w') b' r.2 ∧ Below w.heap.size w w'
theorem word_none {m : MemM} {a : AccM} (h : hasB m.words.length a.addr = false) : wordE m a = (m, ansZ) := by simp [wordE, h]
theorem word_put {m : MemM} {k ad old nw til : Int} (h : hasB m.words.length ad = true) (hk : k = 2 ∨ k = 6) : wordE m ⟨k, ad, old, nw, til⟩ = (⟨m.words.set ad.toNat nw, m.lists, m.tick⟩, ansZ) := by simp [wordE, h, hk]
theorem word_cas {m : MemM} {ad old nw til : Int} (h : hasB m.words.length ad = true) (hk : m.words.getD ad.toNat 0 = old) : wordE m ⟨3, ad, old, nw, til⟩ = (⟨m.words.set ad.toNat nw, m.lists, m.tick⟩, ⟨m.words.getD ad.toNat 0, true, false, []⟩) := by unfold wordE; simp only [h]; simp only [List.getD_eq_getElem?_getD] at *; simp [hk]
theorem word_miss {m : MemM} {ad old nw til : Int} (h : hasB m.words.length ad = true) (hk : m.words.getD ad.toNat 0 ≠ old) : wordE m ⟨3, ad, old, nw, til⟩ = (m, ⟨m.words.getD ad.toNat 0, false, false, []⟩) := by unfold wordE; simp only [h]; simp only [List.getD_eq_getElem?_getD] at *; simp [hk]
theorem word_wait {m : MemM} {ad old nw til : Int} (h : hasB m.words.length ad = true) : wordE m ⟨4, ad, old, nw, til⟩ = (m, ⟨m.words.getD ad.toNat 0, false, m.words.getD ad.toNat 0 == old, []⟩) := by unfold wordE; simp [h]
theorem word_load {m : MemM} {k ad old nw til : Int} (h : hasB m.words.length ad = true) (h2 : k ≠ 2) (h3 : k ≠ 3) (h4 : k ≠ 4) (h6 : k ≠ 6) : wordE m ⟨k, ad, old, nw, til⟩ = (m, ⟨m.words.getD ad.toNat 0, false, false, []⟩) := by unfold wordE; simp [h, h2, h3, h4, h6]
/-- the memory's parts in a world -/
theorem StM.open {G : World → Prop} {v : Value} {m : MemM} (h : StM G v m) (w : World) (hG : G w) : ∃ a cap a2 cap2, v = .agg #[.slice a m.words.length cap, .slice a2 m.lists.length cap2, .int .i64 m.tick] := by
  obtain ⟨vw, vl, us, rfl, hall⟩ := h
  obtain ⟨h1, h2⟩ := hall w hG
  obtain ⟨a, cap, rfl, -⟩ := h1.len
  obtain ⟨a2, cap2, rfl, -⟩ := h2.len
  exact ⟨_, _, _, _, rfl⟩
theorem StM.words {G : World → Prop} {a a2 : Option Addr} {n cap n2 cap2 : Nat} {t : Int} {m : MemM} (h : StM G (.agg #[.slice a n cap, .slice a2 n2 cap2, .int .i64 t]) m) (w : World) (hG : G w) : SlI w .u64 (.slice a n cap) m.words := by
  obtain ⟨vw, vl, us, e, hall⟩ := h
  obtain ⟨h1, h2⟩ := hall w hG
  simp only [Value.agg.injEq, Array.mk.injEq, List.cons.injEq, and_true] at e
  rw [e.1]; exact h1
theorem StM.listsOf {G : World → Prop} {a a2 : Option Addr} {n cap n2 cap2 : Nat} {t : Int} {m : MemM} (h : StM G (.agg #[.slice a n cap, .slice a2 n2 cap2, .int .i64 t]) m) : ∃ us, ∀ w, G w → SlL w (.slice a2 n2 cap2) us m.lists := by
  obtain ⟨vw, vl, us, e, hall⟩ := h
  simp only [Value.agg.injEq, Array.mk.injEq, List.cons.injEq, and_true] at e
  exact ⟨us, fun w hG => by rw [e.2.1]; exact (hall w hG).2⟩
end Go.Proofs.Ytmkngpjjimalhaa
/- Layer 4: which kinds are atomic, which write. -/
namespace Go.Proofs.Ytmkngpjjimalhaa
open Go.ChangeShapes Go.WideShapes Go.ChangeAt Go.RowKit
set_option maxRecDepth 100000

def atomicB (k : Int) : Bool := decide (1 ≤ k) && decide (k ≤ 4)
def writesB (k : Int) : Bool := k == 2 || k == 3 || k == 6 || k == 8 || k == 9
end Go.Proofs.Ytmkngpjjimalhaa
/- Records of accesses, plainly; the functions of one and of two records. -/
namespace Go.Proofs.Ytmkngpjjimalhaa
open Go.ChangeShapes Go.WideShapes Go.ChangeAt Go.RowKit
set_option maxRecDepth 100000

structure ItemM where
  thr : Int
  acc : AccM
  val : Int
  ok : Bool
def noItem : ItemM := ⟨0, ⟨0, 0, 0, 0, 0⟩, 0, false⟩
structure ItemM.good (x : ItemM) : Prop where
  thr : x.thr = IntKind.i64.wrap x.thr
  acc : x.acc.ok
  val : x.val = IntKind.u64.wrap x.val
def itemCells (x : ItemM) : List Value := [.int .i64 x.thr, .int .i64 x.acc.kind, .int .i64 x.acc.addr, .int .u64 x.acc.old, .int .u64 x.acc.new, .int .i64 x.acc.til, .int .u64 x.val, .bool x.ok]
def itemV (x : ItemM) : Value := .agg #[.int .i64 x.thr, .int .i64 x.acc.kind, .int .i64 x.acc.addr, .int .u64 x.acc.old, .int .u64 x.acc.new, .int .i64 x.acc.til, .int .u64 x.val, .bool x.ok]
theorem rowc8 {w : World} {g : Nat} {T : TypeId} {v0 v1 v2 v3 v4 v5 v6 v7 : Value} (h : w.heap[g]? = some (.cells #[v0, v1, v2, v3, v4, v5, v6, v7] T (0, 0))) :
    w.cell? ⟨g, 0, none⟩ = some v0 ∧ w.cell? ⟨g, 1, none⟩ = some v1 ∧ w.cell? ⟨g, 2, none⟩ = some v2 ∧ w.cell? ⟨g, 3, none⟩ = some v3 ∧ w.cell? ⟨g, 4, none⟩ = some v4 ∧ w.cell? ⟨g, 5, none⟩ = some v5 ∧ w.cell? ⟨g, 6, none⟩ = some v6 ∧ w.cell? ⟨g, 7, none⟩ = some v7 :=
  ⟨cell_of_row _ _ 0 _ _ _ h, cell_of_row _ _ 1 _ _ _ h, cell_of_row _ _ 2 _ _ _ h, cell_of_row _ _ 3 _ _ _ h, cell_of_row _ _ 4 _ _ _ h, cell_of_row _ _ 5 _ _ _ h, cell_of_row _ _ 6 _ _ _ h, cell_of_row _ _ 7 _ _ _ h⟩
def zeroAccI : Array Value := #[.int .i64 0, .int .i64 0, .int .u64 0, .int .u64 0, .int .i64 0]
def placeE (x : ItemM) : Int :=
  if x.acc.addr < 0 then 1099511627776 else if 1 ≤ x.acc.kind ∧ x.acc.kind ≤ 6 then x.acc.addr else if 7 ≤ x.acc.kind ∧ x.acc.kind ≤ 9 then -1 - x.acc.addr else 1099511627776
def readsE (x : ItemM) : Bool := x.acc.kind == 1 || x.acc.kind == 3 || x.acc.kind == 4 || x.acc.kind == 5 || x.acc.kind == 7 || x.acc.kind == 8 || x.acc.kind == 9
def changesE (x : ItemM) : Bool := writesB x.acc.kind && (!(x.acc.kind == 3) || x.ok)
def plainB (k : Int) : Bool := decide (5 ≤ k) && decide (k ≤ 9)
def conflictE (x y : ItemM) : Bool := plainB x.acc.kind && plainB y.acc.kind && !(x.thr == y.thr) && (placeE x == placeE y) && (changesE x || changesE y)
theorem neg_wrap {x : Int} (h0 : ¬ x < 0) (h1 : x = IntKind.i64.wrap x) : IntKind.i64.wrap (-1 - x) = -1 - x := by rw [IntKind.wrap_i64] at *; omega
end Go.Proofs.Ytmkngpjjimalhaa
