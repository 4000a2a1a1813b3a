import Derived.Laws.AppendOwnNone
import Derived.Lib.AppendZeros
import Derived.Deep.QuietTactic
import Derived.BigQuiet
import Derived.Deep.DeepCutAuto
import Derived.Deep.CutBlock
import Derived.Shelf.RegionOpenPlain
import Derived.Lib.SliceRun
import Derived.Deep.LoopGhost
import Derived.Test.YtialclohhemkiaaB01
import Derived.Test.YtialclohhemkiaaB03
import Derived.Test.YtialclohhemkiaaB02
import Derived.Test.YtialclohhemkiaaB04
set_option linter.unusedVariables false
set_option linter.unusedSimpArgs false
/- The case that an operation is by itself. -/
namespace Go.Proofs.Ytialclohhemkiaa
open Go.ChangeShapes Go.WideShapes Go.ChangeAt Go.RowKit
set_option maxRecDepth 100000

def sgB (op : OpM) : Bool := op.kind == 1 || op.kind == 2
def sgC (op : OpM) : CaseM := if op.kind = 1 then ⟨true, op.chan, op.val⟩ else if op.kind = 2 then ⟨false, op.chan, op.val⟩ else noCase
def caseW (c : CaseM) : Value := .agg #[.bool c.send, .int .i64 c.chan, .int .u64 c.val]
theorem single_any (v : Value) (op : OpM) (w : World) (h : OpV w v op) :
    Calls Try.prog 83 #[v] w fun e w' => e = .returned (.tuple #[caseW (sgC op), .bool (sgB op)]) ∧ Below w.heap.size w w' := by
  have HC : Hid (sgC op = if op.kind = 1 then ⟨true, op.chan, op.val⟩ else if op.kind = 2 then ⟨false, op.chan, op.val⟩ else noCase) := rfl
  have HS : Hid (sgB op = (op.kind == 1 || op.kind == 2)) := rfl
  generalize sgC op = sc at *
  generalize sgB op = sb at *
  obtain ⟨kd, md, ch, vl, dl, cs, ds⟩ := op
  obtain ⟨vc, vd, rfl, hc, hd⟩ := h
  dsimp only at *
  obtain ⟨a3, cap3, rfl⟩ := hc.len
  obtain ⟨a4, cap4, rfl, -⟩ := hd.len
  clear hc hd
  by_cases h1 : kd = 1
  · subst h1
    rw [if_pos rfl] at HC
    go_enter Try.func83, Try.ntmps83
    go_wp2
    refine bodyPost_ret (v := .tuple #[.agg #[.bool true, .int .i64 ch, .int .u64 vl], .bool true]) (by simp [results, Try.results83, go_sem]) rfl ?_
    exact ⟨by rw [HC.out, HS.out]; rfl, (((Below.refl w.heap.size w).alloc (Nat.le_refl _) _).alloc (by simp) _)⟩
  · rw [if_neg h1] at HC
    by_cases h2 : kd = 2
    · subst h2
      rw [if_pos rfl] at HC
      clear h1
      go_enter Try.func83, Try.ntmps83
      go_wp2
      refine bodyPost_ret (v := .tuple #[.agg #[.bool false, .int .i64 ch, .int .u64 vl], .bool true]) (by simp [results, Try.results83, go_sem]) rfl ?_
      exact ⟨by rw [HC.out, HS.out]; rfl, (((Below.refl w.heap.size w).alloc (Nat.le_refl _) _).alloc (by simp) _)⟩
    · rw [if_neg h2] at HC
      have b1 : (kd == 1) = false := by simpa using h1
      have b2 : (kd == 2) = false := by simpa using h2
      have b3 : (kd != 1) = true := by simpa using h1
      have b4 : (kd != 2) = true := by simpa using h2
      have HS2 : Hid (sb = false) := by have := HS.out; rw [b1, b2] at this; exact this
      clear h1 h2
      go_enter Try.func83, Try.ntmps83
      go_wp2
      refine bodyPost_ret (v := .tuple #[.agg #[.bool false, .int .i64 0, .int .u64 0], .bool false]) (by simp [results, Try.results83, go_sem]) rfl ?_
      exact ⟨by rw [HC.out, HS2.out]; rfl, (((Below.refl w.heap.size w).alloc (Nat.le_refl _) _).alloc (by simp) _)⟩
theorem rsingle_any (v : Value) (op : OpM) (w : World) (h : OpV w v op) :
    Calls Try.prog 82 #[v] w fun e w' => e = .returned (.tuple #[caseW (sgC op), .bool (sgB op)]) ∧ Below w.heap.size w w' := by
  have HC : Hid (sgC op = if op.kind = 1 then ⟨true, op.chan, op.val⟩ else if op.kind = 2 then ⟨false, op.chan, op.val⟩ else noCase) := rfl
  have HS : Hid (sgB op = (op.kind == 1 || op.kind == 2)) := rfl
  generalize sgC op = sc at *
  generalize sgB op = sb at *
  obtain ⟨kd, md, ch, vl, dl, cs, ds⟩ := op
  obtain ⟨vc, vd, rfl, hc, hd⟩ := h
  dsimp only at *
  obtain ⟨a3, cap3, rfl⟩ := hc.len
  obtain ⟨a4, cap4, rfl, -⟩ := hd.len
  clear hc hd
  by_cases h1 : kd = 1
  · subst h1
    rw [if_pos rfl] at HC
    go_enter Try.func82, Try.ntmps82
    go_wp2
    refine bodyPost_ret (v := .tuple #[.agg #[.bool true, .int .i64 ch, .int .u64 vl], .bool true]) (by simp [results, Try.results82, go_sem]) rfl ?_
    exact ⟨by rw [HC.out, HS.out]; rfl, (((Below.refl w.heap.size w).alloc (Nat.le_refl _) _).alloc (by simp) _)⟩
  · rw [if_neg h1] at HC
    by_cases h2 : kd = 2
    · subst h2
      rw [if_pos rfl] at HC
      clear h1
      go_enter Try.func82, Try.ntmps82
      go_wp2
      refine bodyPost_ret (v := .tuple #[.agg #[.bool false, .int .i64 ch, .int .u64 vl], .bool true]) (by simp [results, Try.results82, go_sem]) rfl ?_
      exact ⟨by rw [HC.out, HS.out]; rfl, (((Below.refl w.heap.size w).alloc (Nat.le_refl _) _).alloc (by simp) _)⟩
    · rw [if_neg h2] at HC
      have b1 : (kd == 1) = false := by simpa using h1
      have b2 : (kd == 2) = false := by simpa using h2
      have b3 : (kd != 1) = true := by simpa using h1
      have b4 : (kd != 2) = true := by simpa using h2
      have HS2 : Hid (sb = false) := by have := HS.out; rw [b1, b2] at this; exact this
      clear h1 h2
      go_enter Try.func82, Try.ntmps82
      go_wp2
      refine bodyPost_ret (v := .tuple #[.agg #[.bool false, .int .i64 0, .int .u64 0], .bool false]) (by simp [results, Try.results82, go_sem]) rfl ?_
      exact ⟨by rw [HC.out, HS2.out]; rfl, (((Below.refl w.heap.size w).alloc (Nat.le_refl _) _).alloc (by simp) _)⟩
end Go.Proofs.Ytialclohhemkiaa
/- Appending whole lists, and lists of lists that the call owns. -/
namespace Go.Proofs.Ytialclohhemkiaa
open Go.ChangeShapes Go.WideShapes Go.ChangeAt Go.RowKit
set_option maxRecDepth 100000

/-- an append of nothing leaves the value and the world -/
theorem run_append_zero {w : World} {T ty e : TypeId} {i : TypeInfo} (ht : Try.prog.underlying T = some (.slice e)) (hi : Try.prog.info? e = some i) (A B : Option Addr) (n c c' : Nat) (hn : n ≤ c) :
    (Builtin.append_ #[T, T] ty #[.slice A n c, .slice B 0 c']).run Try.prog w = .ok (.slice A n c) w := by
  cases A <;> cases B <;> simp [Builtin.append_, run_underlying ht, sizeOf, typeInfo, hi, Builtin.lenOf, Builtin.firstCells, storeCells, loadCells, loadCellsFrom, Result.andThen, hn]
theorem run_app_i64 (w : World) (ty : TypeId) (base : Nat) (v : Value) (l : List Int) (hown : OwnI w base 3 .i64 v l) (xv : Value) (l2 : List Int) (hS : SlI w .i64 xv l2)
    (hl : l.length ≤ 1000000) (hl2 : l2.length ≤ 1000000) (hb : base ≤ w.heap.size) :
    ∃ v' w', (Builtin.append_ #[31, 31] ty #[v, xv]).run Try.prog w = .ok v' w' ∧ OwnI w' base 3 .i64 v' (l ++ l2) ∧ w.grownBy w' v.ownBlock := by
  obtain ⟨i0, hi, hz0, hz1, hz2⟩ := info_parts Try.info_i64
  by_cases hne : l2 = []
  · subst hne
    obtain ⟨B, c', rfl, -⟩ := hS.len
    have e : ∃ A c, v = .slice A l.length c ∧ l.length ≤ c := by
      rcases hown.shape with ⟨rfl, rfl⟩ | ⟨g, cap, rfl, _, _, h, _⟩
      · exact ⟨_, _, rfl, Nat.le_refl _⟩
      · exact ⟨_, _, rfl, h⟩
    obtain ⟨A, c, rfl, hc⟩ := e
    refine ⟨_, w, run_append_zero (by kernel_rfl) hi A B l.length c c' hc, by simpa using hown, grownBy_refl _ _⟩
  · obtain ⟨b, off, cap, rfl, hcap, hbk, hc⟩ := hS.open hne
    obtain ⟨v', w', hr, h2, h3, -⟩ := run_append_own (P := Try.prog) w base 31 ty 3 i0 (.int .i64 0) 1 _ (by kernel_rfl) hi hz0 hz1 rfl rfl (by decide) v l.length _ hown ⟨b, off, none⟩ l2.length cap (l2.map (Value.int .i64)) (by simp) (by
      intro j u hj
      rw [add_plain]
      simp only [List.getElem?_map, Option.map_eq_some_iff] at hj
      obtain ⟨y, hy, rfl⟩ := hj
      have hjl : j < l2.length := (List.getElem?_eq_some_iff.1 hy).1
      rw [hc j hjl, List.getD_eq_getElem?_getD, hy]; rfl) (by intro u hu; simp only [List.mem_map] at hu; obtain ⟨y, _, rfl⟩ := hu; rfl) (by unfold maxLen; omega) (by rw [hz2]; omega) hb
    refine ⟨v', w', hr, ?_, h3⟩
    unfold OwnI
    rw [List.length_append, List.map_append]
    exact h2
/-- append of a list that reads, to a list that the call owns -/
theorem wp_app_i64 (w : World) {ops : Array Oper} {rest : List Oper} {o : Oper} {a : Act} {Q : Exit → Act → World → Prop}
    (hg : o.guard = none) (s x : Operand) (hop : o.op = Op.call { callee := Callee.builtin Builtin.append, args := #[s, x], argTypes := #[31, 31] })
    (base : Nat) (v : Value) (l : List Int) (hs : a.eval s = v) (hown : OwnI w base 3 .i64 v l) (xv : Value) (l2 : List Int) (hx : a.eval x = xv) (hS : SlI w .i64 xv l2)
    (hl : l.length ≤ 1000000) (hl2 : l2.length ≤ 1000000) (hb : base ≤ w.heap.size)
    (hK : ∀ v' w', OwnI w' base 3 .i64 v' (l ++ l2) → w.grownBy w' v.ownBlock → wpList Try.prog ops Q rest (a.put o.dst v') w') :
    wpList Try.prog ops Q (o :: rest) a w := by
  obtain ⟨v', w', hr, h1, h2⟩ := run_app_i64 w o.type base v l hown xv l2 hS hl hl2 hb
  exact Lib.wpList_append_run w hg s x _ _ hop _ _ hs hx v' w' hr (hK v' w' h1 h2)
/-- the same inside a region that draws its order -/
theorem step_app_i64 {w : World} {ops : Array Oper} {o : Oper} {a : Act} {K : Act → World → Prop} {Q : Exit → Act → World → Prop} {E : Prop}
    (hgd : o.guard = none) (s x : Operand) (hop : o.op = Op.call { callee := Callee.builtin Builtin.append, args := #[s, x], argTypes := #[31, 31] })
    (base : Nat) (v : Value) (l : List Int) (hs : a.eval s = v) (hown : OwnI w base 3 .i64 v l) (xv : Value) (l2 : List Int) (hx : a.eval x = xv) (hS : SlI w .i64 xv l2)
    (hl : l.length ≤ 1000000) (hl2 : l2.length ≤ 1000000) (hb : base ≤ w.heap.size)
    (hK : ∀ v' w', OwnI w' base 3 .i64 v' (l ++ l2) → w.grownBy w' v.ownBlock → K (a.put o.dst v') w') :
    if Region.wanted o (yielded ops a.tmps) = true then Oper.wp Try.prog o a w K Q else E := by
  have hw : Region.wanted o (yielded ops a.tmps) = true := by simp [Region.wanted, hgd]
  rw [if_pos hw]
  obtain ⟨v', w', hr, h1, h2⟩ := run_app_i64 w o.type base v l hown xv l2 hS hl hl2 hb
  exact Lib.wp_append_run w s x _ _ hop _ _ hs hx v' w' hr (hK v' w' h1 h2)
/-- a copy of a list of words -/
theorem run_copy_u64 (w : World) (ty : TypeId) (B : Nat) (hB : B ≤ w.heap.size) (s : Value) (hs : w.ownsRow B 23 1 s 0 []) (xv : Value) (l : List Int) (hS : SlI w .u64 xv l) (hl : l.length ≤ 1000000) :
    ∃ v' w', (Builtin.append_ #[32, 32] ty #[s, xv]).run Try.prog w = .ok v' w' ∧ OwnI w' B 23 .u64 v' l ∧ w.grownBy w' s.ownBlock := by
  obtain ⟨i0, hi, hz0, hz1, hz2⟩ := info_parts Try.info_u64
  by_cases hne : l = []
  · subst hne
    obtain ⟨B, c', rfl, -⟩ := hS.len
    have e : ∃ A c, s = .slice A 0 c ∧ 0 ≤ c := by
      rcases hs.2 with ⟨rfl, _⟩ | ⟨g, cap, cur, rfl, _⟩
      · exact ⟨_, _, rfl, Nat.le_refl _⟩
      · exact ⟨_, _, rfl, Nat.zero_le _⟩
    obtain ⟨A, c, rfl, hc⟩ := e
    exact ⟨_, w, run_append_zero (by kernel_rfl) hi A B 0 c c' hc, hs, grownBy_refl _ _⟩
  · obtain ⟨b, off, cap, rfl, hcap, hbk, hc⟩ := hS.open hne
    obtain ⟨v', w', hr, h2, h3, -⟩ := run_append_own (P := Try.prog) w B 32 ty 23 i0 (.int .u64 0) 1 _ (by kernel_rfl) hi hz0 hz1 rfl rfl (by decide) s 0 _ hs ⟨b, off, none⟩ l.length cap (l.map (Value.int .u64)) (by simp) (by
      intro j u hj
      rw [add_plain]
      simp only [List.getElem?_map, Option.map_eq_some_iff] at hj
      obtain ⟨y, hy, rfl⟩ := hj
      have hjl : j < l.length := (List.getElem?_eq_some_iff.1 hy).1
      rw [hc j hjl, List.getD_eq_getElem?_getD, hy]; rfl) (by intro u hu; simp only [List.mem_map] at hu; obtain ⟨y, _, rfl⟩ := hu; rfl) (by unfold maxLen; omega) (by rw [hz2]; omega) hB
    refine ⟨v', w', hr, ?_, h3⟩
    unfold OwnI
    simpa using h2
theorem Try.info_li : (Try.prog.info? 31).map (fun i => (i.zero, i.size, i.bytes)) = some (some (.slice none 0 0), 1, 24) := by kernel_rfl
theorem SlI.one {w : World} {k : IntKind} {v : Value} {l : List Int} (h : SlI w k v l) : v.oneCell' = true := by
  obtain ⟨_, _, a, cap, rfl, _⟩ := h; rfl
/-- an owned row of lists reads -/
theorem row_read {w : World} {base : Nat} {v : Value} {us : List Value} {ll : List (List Int)} (h : w.ownsRow base 31 1 v ll.length us) (he : ∀ t, t < ll.length → SlI w .i64 (us.getD t (.slice none 0 0)) (ll.getD t [])) (hl : ll.length ≤ 140737488351232) : SlL w v us ll := by
  have hus : us.length = ll.length := by have := h.1; omega
  refine ⟨hl, hus, ?_⟩
  have h0 := h
  rcases h.2 with ⟨rfl, h2⟩ | ⟨g, cap, cur, rfl, h3, h4, h5, h6, h7, h8⟩
  · exact ⟨none, 0, by rw [h2], by omega, fun t ht => by omega⟩
  · refine ⟨some ⟨g, 0, none⟩, cap, rfl, h5, fun t ht => ⟨g, 0, rfl, (Array.getElem?_eq_some_iff.1 h4).1, ?_, he t ht⟩⟩
    rw [Nat.zero_add, World.ownsRow.cellAt h0 t (by omega)]
    simp [List.getD_eq_getElem?_getD, show t < us.length by omega]
theorem each_set {w : World} {us : List Value} {ll : List (List Int)} (hus : us.length = ll.length) (i : Nat) {u : Value} {l : List Int} (hu : SlI w .i64 u l) (hk : ∀ t, t < ll.length → SlI w .i64 (us.getD t (.slice none 0 0)) (ll.getD t [])) :
    ∀ t, t < (ll.set i l).length → SlI w .i64 ((us.set i u).getD t (.slice none 0 0)) ((ll.set i l).getD t []) := by
  intro t ht
  have ht' : t < ll.length := by simpa using ht
  rw [getD_setL, getD_setL]
  by_cases e : i = t
  · simpa [e, hus, ht'] using hu
  · simpa [e] using hk t ht'
theorem SlL.each {w : World} {v : Value} {us : List Value} {ll : List (List Int)} (h : SlL w v us ll) : ∀ t, t < ll.length → SlI w .i64 (us.getD t (.slice none 0 0)) (ll.getD t []) := by
  obtain ⟨_, _, _, _, _, _, h5⟩ := h
  intro t ht
  obtain ⟨_, _, _, _, _, h⟩ := h5 t ht
  exact h
/-- a copy of a list of lists: the row is new, the lists are the same -/
theorem run_copy_li (w : World) (ty : TypeId) (B : Nat) (hB : B ≤ w.heap.size) (s : Value) (hs : w.ownsRow B 31 1 s 0 []) (xv : Value) (us : List Value) (ll : List (List Int)) (hS : SlL w xv us ll) (hl : ll.length ≤ 1000000) :
    ∃ v' w', (Builtin.append_ #[85, 85] ty #[s, xv]).run Try.prog w = .ok v' w' ∧ w'.ownsRow B 31 1 v' ll.length us ∧ w.grownBy w' s.ownBlock := by
  obtain ⟨i0, hi, hz0, hz1, hz2⟩ := info_parts Try.info_li
  have hus := hS.2.1
  by_cases hne : ll = []
  · subst hne
    obtain rfl : us = [] := List.length_eq_zero_iff.1 hus
    obtain ⟨C, c', rfl, -⟩ := hS.len
    have e : ∃ A c, s = .slice A 0 c ∧ 0 ≤ c := by
      rcases hs.2 with ⟨rfl, _⟩ | ⟨g, cap, cur, rfl, _⟩
      · exact ⟨_, _, rfl, Nat.le_refl _⟩
      · exact ⟨_, _, rfl, Nat.zero_le _⟩
    obtain ⟨A, c, rfl, hc⟩ := e
    exact ⟨_, w, run_append_zero (by kernel_rfl) hi A C 0 c c' hc, hs, grownBy_refl _ _⟩
  · obtain ⟨b, off, cap, rfl, hcap, hbk, hc, hu⟩ := hS.open hne
    obtain ⟨v', w', hr, h2, h3, -⟩ := run_append_own (P := Try.prog) w B 85 ty 31 i0 (.slice none 0 0) 1 _ (by kernel_rfl) hi hz0 hz1 rfl rfl (by decide) s 0 _ hs ⟨b, off, none⟩ ll.length cap us (by omega) (by
      intro j u hj
      rw [add_plain]
      have hjl : j < us.length := (List.getElem?_eq_some_iff.1 hj).1
      rw [hc j (by omega), List.getD_eq_getElem?_getD, hj]; rfl) (by
      intro u hu'
      obtain ⟨j, hj, rfl⟩ := List.mem_iff_getElem.1 hu'
      have := (hu j (by omega)).one
      simpa [List.getD_eq_getElem?_getD, hj] using this) (by unfold maxLen; omega) (by rw [hz2]; omega) hB
    refine ⟨v', w', hr, by simpa using h2, h3⟩
end Go.Proofs.Ytialclohhemkiaa
/- A region that draws its order, whose operations only read and whose callees make memory of their own: one walk in the order of the text. -/
namespace Go.Proofs.Ytialclohhemkiaa
open Go.ChangeShapes Go.WideShapes Go.ChangeAt Go.RowKit
set_option maxRecDepth 100000

/-- a world that holds more than W, and W's memory as it was -/
structure Ext (W : World) where
  wd : World
  below : Below W.heap.size W wd
instance (W : World) : Nonempty (Ext W) := ⟨⟨W, Below.refl _ _⟩⟩
theorem wp_region_ext {P : Program} {id : Nat} {Q : Exit → Act → World → Prop} {a : Act} {w : World} {l : List Oper} (W : World) (hm : P.follows .mixedOrders = true) (hB : Region.lexB .any l.toArray = true) (hW : Below W.heap.size W w)
    (h : wpQuiet P l.toArray (fun w' => ∃ n : Ext W, w' = n.wd) (fun a' => ∀ w', (∃ n : Ext W, w' = n.wd) → Q .normal a' w') l a) : (Code.region id l.toArray true).wp P Q a w :=
  wp_region_quiet (C := fun w' => ∃ n : Ext W, w' = n.wd) hm hB ⟨⟨_, below_drewN hW 1⟩, rfl⟩ (by simpa using h)
theorem calls_ext {P : Program} {f : FuncId} {args : Array Value} {W : World} {n : Ext W} {v : Value}
    (h : Calls P f args n.wd fun e w' => e = .returned v ∧ Below n.wd.heap.size n.wd w') : Calls P f args n.wd fun e w'' => e = .returned v ∧ ∃ m : Ext W, w'' = m.wd :=
  h.mono fun _ w' ⟨he, hm⟩ => ⟨he, ⟨w', below_then n.below hm⟩, rfl⟩
theorem calls_ext_draw {P : Program} {f : FuncId} {args : Array Value} {W : World} {n : Ext W} {v : Value}
    (h : Calls P f args n.wd fun e w' => e = .returned v ∧ ∃ m, n.wd.drewN m = w') : Calls P f args n.wd fun e w'' => e = .returned v ∧ ∃ m : Ext W, w'' = m.wd :=
  h.mono fun _ w' ⟨he, m, hm⟩ => ⟨he, ⟨w', hm ▸ below_drewN n.below m⟩, rfl⟩
theorem ext_cell {W : World} (b o : Nat) (h : b < W.heap.size) (v : Value) (hc : W.cell? ⟨b, o, none⟩ = some v) (n : Ext W) : n.wd.cell? ⟨b, o, none⟩ = some v := (n.below.cell (p := ⟨b, o, none⟩) h).trans hc
end Go.Proofs.Ytialclohhemkiaa
/- Layer 14: the reference's small functions of the model. -/
namespace Go.Proofs.Ytialclohhemkiaa
open Go.ChangeShapes Go.WideShapes Go.ChangeAt Go.RowKit
set_option maxRecDepth 100000

theorem one_new (w : World) (a : Obj) : ∃ W, w.alloc a = W ∧ Hid (Below w.heap.size w W) ∧ Hid (W.heap[w.heap.size]? = some a) ∧ w.heap.size + 1 = W.heap.size :=
  ⟨_, rfl, below_new (Below.refl w.heap.size w) _, heap_alloc_new _ _, by simp⟩
theorem two_new (w : World) (a b : Obj) : ∃ W, (w.alloc a).alloc b = W ∧ Hid (Below w.heap.size w W) ∧ Hid (W.heap[w.heap.size]? = some a) ∧ Hid (W.heap[w.heap.size + 1]? = some b) ∧ w.heap.size + 2 = W.heap.size :=
  ⟨_, rfl, below_new (below_new (Below.refl w.heap.size w) _) _, heap_alloc2_old _ _ _, heap_alloc2_new _ _ _, by simp⟩
theorem three_new (w : World) (a b c : Obj) : ∃ W, ((w.alloc a).alloc b).alloc c = W ∧ Hid (Below w.heap.size w W) ∧ Hid (W.heap[w.heap.size]? = some a) ∧ Hid (W.heap[w.heap.size + 1]? = some b) ∧ Hid (W.heap[w.heap.size + 2]? = some c) ∧ w.heap.size + 3 = W.heap.size := by
  refine ⟨_, rfl, below_new (below_new (below_new (Below.refl w.heap.size w) _) _) _, Lib.hid ?_, Lib.hid ?_, Lib.hid ?_, by simp⟩
  · rw [heap_alloc_old _ _ (by simp <;> omega), heap_alloc_old _ _ (by simp <;> omega), heap_alloc_new]
  · rw [heap_alloc_old _ _ (by simp <;> omega)]
    simpa using heap_alloc_new (w.alloc a) b
  · simpa using heap_alloc_new ((w.alloc a).alloc b) c
theorem rowc7 {w : World} {g : Nat} {T : TypeId} {v0 v1 v2 v3 v4 v5 v6 : Value} (h : w.heap[g]? = some (.cells #[v0, v1, v2, v3, v4, v5, v6] T (0, 0))) : w.cell? ⟨g, 0, none⟩ = some v0 ∧ w.cell? ⟨g, 1, none⟩ = some v1 ∧ w.cell? ⟨g, 2, none⟩ = some v2 ∧ w.cell? ⟨g, 3, none⟩ = some v3 ∧ w.cell? ⟨g, 4, none⟩ = some v4 ∧ w.cell? ⟨g, 5, none⟩ = some v5 ∧ w.cell? ⟨g, 6, none⟩ = some v6 :=
  ⟨cell_of_row _ _ 0 _ _ _ h, cell_of_row _ _ 1 _ _ _ h, cell_of_row _ _ 2 _ _ _ h, cell_of_row _ _ 3 _ _ _ h, cell_of_row _ _ 4 _ _ _ h, cell_of_row _ _ 5 _ _ _ h, cell_of_row _ _ 6 _ _ _ h⟩
def resW (r : ResM) : Value := .agg #[.int .i64 r.kind, .int .i64 r.case, .int .u64 r.val, .bool r.ok, .int .i64 r.num]
set_option maxRecDepth 100000 in
set_option maxHeartbeats 16000000 in
theorem mexists_any (v : Value) (l : List ChanM) (n : Int) (w : World) (hv : SlH w v l) : Calls Try.prog 87 #[v, .int .i64 n] w fun e w' => e = .returned (.bool (exB l n)) ∧ w = w' := by
  have hb := hv.bound
  obtain ⟨a, cap, rfl, -⟩ := hv.len
  clear hv
  by_cases h0 : 0 ≤ n
  · by_cases h1 : n < (l.length : Int)
    · have hh : exB l n = true := by unfold exB; simp [h0, h1]
      rw [hh]
      clear hh
      go_enter Try.func87, Try.ntmps87
      go_wp2
      go_ret
      exact ⟨rfl, rfl⟩
    · have hq : decide (n < (l.length : Int)) = false := decide_eq_false h1
      have hh : exB l n = false := by unfold exB; rw [hq]; simp
      rw [hh]
      clear hh h1
      go_enter Try.func87, Try.ntmps87
      go_wp2
      go_ret
      exact ⟨rfl, rfl⟩
  · have hq : decide (0 ≤ n) = false := decide_eq_false h0
    have hq2 : decide (n ≥ 0) = false := decide_eq_false h0
    have hh : exB l n = false := by unfold exB; rw [hq]; rfl
    rw [hh]
    clear hh h0
    go_enter Try.func87, Try.ntmps87
    go_wp2
    go_ret
    exact ⟨rfl, rfl⟩
set_option maxRecDepth 100000 in
set_option maxHeartbeats 16000000 in
theorem monly_any (r : ResM) (value number : Bool) (w : World) : Calls Try.prog 85 #[resW r, .bool value, .bool number] w fun e w' => e = .returned (.bool (onlyB r value number)) ∧ Below w.heap.size w w' := by
  obtain ⟨kd, cs, rv, rok, nm⟩ := r
  obtain ⟨bb, hbb⟩ : ∃ b, onlyB ⟨kd, cs, rv, rok, nm⟩ value number = b := ⟨_, rfl⟩
  rw [hbb]
  unfold onlyB at hbb
  unfold resW
  dsimp only at hbb ⊢
  obtain ⟨b1, h1⟩ : ∃ b, (rv == 0) = b := ⟨_, rfl⟩
  obtain ⟨b2, h2⟩ : ∃ b, (nm == 0) = b := ⟨_, rfl⟩
  rw [h1, h2] at hbb
  have HBB := Lib.hid hbb
  clear hbb
  obtain ⟨W, hW, HB, R0, hz⟩ := one_new w (.cells #[.int .i64 kd, .int .i64 cs, .int .u64 rv, .bool rok, .int .i64 nm] 25)
  have HW := Lib.hid hW
  clear hW
  go_enter Try.func85, Try.ntmps85
  go_upto_region 1 with fail
  rw [HW.out]
  clear HW
  obtain ⟨x0, x1, x2, x3, x4⟩ := rowc5 R0.out
  cases value <;> cases number <;> cases rok <;> cases b1 <;> cases b2 <;> (
    go_wp2
    go_ret
    exact ⟨by rw [← HBB.out]; rfl, HB.out⟩)
set_option maxRecDepth 100000 in
set_option maxHeartbeats 16000000 in
theorem mready_any (v : Value) (l : List ChanM) (x : CaseM) (w : World) (hv : SlH w v l) : Calls Try.prog 74 #[v, caseW x] w fun e w' => e = .returned (.bool (readyB l x)) ∧ Below w.heap.size w w' := by
  have HV := Lib.hid hv
  have TE := Lib.hid fun w' (hb : Below w.heap.size w w') => mexists_any v l x.chan w' (hv.below hb)
  obtain ⟨rb, hrb⟩ : ∃ b, readyB l x = b := ⟨_, rfl⟩
  rw [hrb]
  unfold readyB at hrb
  obtain ⟨sd, ch, vl⟩ := x
  dsimp only at hrb TE
  unfold caseW
  try dsimp only
  have HRB := Lib.hid hrb
  obtain ⟨ex, hex⟩ : ∃ b, exB l ch = b := ⟨_, rfl⟩
  rw [hex] at TE HRB
  have HEX := Lib.hid hex
  obtain ⟨a, cap, hve, -⟩ := hv.len
  subst hve
  clear hv hrb hex
  obtain ⟨W, hW, HB, R0, hz⟩ := one_new w (.cells #[.bool sd, .int .i64 ch, .int .u64 vl] 74)
  have HW := Lib.hid hW
  clear hW
  go_enter Try.func74, Try.ntmps74
  go_upto_region 1 with fail
  rw [HW.out]
  clear HW
  obtain ⟨x0_0, x0_1, x0_2⟩ := rowc3 R0.out
  go_wp2_with fail
  refine (TE.out _ HB.out).mono ?_; rintro e w' ⟨rfl, rfl⟩
  cases ex with
  | false =>
    have hr : rb = false := by rw [← HRB.out]; rfl
    subst hr
    go_wp2
    go_ret
    exact ⟨rfl, HB.out⟩
  | true =>
    have hx := HEX.out
    unfold exB at hx
    simp only [Bool.and_eq_true, decide_eq_true_eq] at hx
    obtain ⟨i, hi⟩ : ∃ i : Nat, ch = (i : Int) := ⟨ch.toNat, by omega⟩
    have hil : i < l.length := by omega
    have hiI : (i : Int) < (l.length : Int) := by omega
    have hce : chE l ch = l.getD i noChan := by unfold chE; rw [hi]; rfl
    rw [hce] at HRB
    have HV2 := HV.out.below HB.out
    obtain ⟨b, off, cap', u, hve, hb, c0, c1, c2, hu⟩ := HV2.at i hil
    simp only [Value.slice.injEq] at hve
    obtain ⟨rfl, -, rfl⟩ := hve
    obtain ⟨⟨cc, bf, cl⟩, hcc⟩ : ∃ c, l.getD i noChan = c := ⟨_, rfl⟩
    rw [hcc] at c0 c2 hu HRB
    dsimp only at c0 c2 hu HRB
    have hbl := hu.1
    obtain ⟨ua, uc, rfl, -⟩ := hu.len
    rw [hi] at x0_1 ⊢
    clear hx hce hcc hi HEX HV HV2 TE
    obtain ⟨Wx, hWx⟩ : ∃ Wx, (W.alloc (.cells #[.int .i64 0, .slice none 0 0, .bool false] 79)).setRow W.heap.size #[.int .i64 cc, .slice ua bf.length uc, .bool cl] = Wx := ⟨_, rfl⟩
    have Nx : Hid ((W.alloc (.cells #[.int .i64 0, .slice none 0 0, .bool false] 79)).heap[W.heap.size]? = some (.cells #[.int .i64 0, .slice none 0 0, .bool false] 79 (0, 0))) := heap_alloc_new _ _
    have HBx : Hid (Below W.heap.size W Wx) := hWx ▸ row_below (below_new (Below.refl _ _) _) (Nat.le_refl _) _
    have Rx : Hid (Wx.heap[W.heap.size]? = some (.cells #[.int .i64 cc, .slice ua bf.length uc, .bool cl] 79 (0, 0))) := hWx ▸ setRow_heap _ _ _ _ _ (0, 0) Nx.out
    have HWx := Lib.hid hWx
    clear hWx
    go_upto_region 4 with (refine wpList_store_row rfl 79 _ _ rfl (W.heap.size) _ rfl rfl 79 #[.int .i64 0, .slice none 0 0, .bool false] Nx.out (by kernel_rfl) rfl (by simp [Value.oneCell']) ?_)
    rw [HWx.out]
    try simp only [Act.put]
    clear HWx Nx
    have HBX := Lib.hid (below_then HB.out HBx.out)
    obtain ⟨y0, y1, y2⟩ := rowc3 Rx.out
    obtain ⟨z0, z1, z2⟩ := rowc3 ((HBx.out.block w.heap.size (Array.getElem?_eq_some_iff.1 R0.out).1).trans R0.out)
    clear c0 c1 c2 x0_0 x0_1 x0_2
    rw [Bool.true_and] at HRB
    cases sd with
    | true =>
      cases cl with
      | true =>
        have hr : rb = true := by rw [← HRB.out]; rfl
        subst hr
        go_wp2
        go_ret
        exact ⟨rfl, HBX.out⟩
      | false =>
        obtain ⟨bq, hbq⟩ : ∃ b, decide ((bf.length : Int) < cc) = b := ⟨_, rfl⟩
        have hr : rb = bq := by rw [← HRB.out, ← hbq]; rfl
        subst hr
        go_wp2
        go_ret
        exact ⟨by first | rfl | simp [hbq], HBX.out⟩
    | false =>
      cases cl with
      | true =>
        have hr : rb = true := by rw [← HRB.out]; rfl
        subst hr
        go_wp2
        go_ret
        exact ⟨rfl, HBX.out⟩
      | false =>
        have hr : rb = decide (0 < bf.length) := by rw [← HRB.out]; rfl
        by_cases h0 : 0 < bf.length
        · have h0I : (0 : Int) < (bf.length : Int) := by omega
          rw [decide_eq_true h0] at hr
          subst hr
          go_wp2
          go_ret
          exact ⟨rfl, HBX.out⟩
        · have h0I : ¬ (0 : Int) < (bf.length : Int) := by omega
          rw [decide_eq_false h0] at hr
          subst hr
          go_wp2
          go_ret
          exact ⟨by first | rfl | (simp; omega), HBX.out⟩
end Go.Proofs.Ytialclohhemkiaa
/- An argument that is a result. -/
namespace Go.Proofs.Ytialclohhemkiaa
open Go.ChangeShapes Go.WideShapes Go.ChangeAt Go.RowKit Go.Deep
set_option maxRecDepth 100000

section
variable {H : Type} {enc : TypeId × Value → H} {W : World}
theorem open5r {t : TypeId} {f0 f1 f2 f3 f4 : Field} {q0 q1 q2 q3 q4 : Value} {fuel : Nat} {x : DataW H × List MemPlace} (hs : Try.prog.underlying t = some (.struct #[f0, f1, f2, f3, f4])) (hone : oneCellFields Try.prog #[f0, f1, f2, f3, f4] = true)
    (h : DataW.trod enc Try.prog W 0 (fun _ => true) true fuel t [q0, q1, q2, q3, q4] = some x) :
    ∃ (y0 y1 y2 y3 y4 : DataW H × List MemPlace) (n : Nat), x.1 = .agg [y0.1, y1.1, y2.1, y3.1, y4.1] ∧ DataW.trod enc Try.prog W 0 (fun _ => true) true n f0.type [q0] = some y0 ∧ DataW.trod enc Try.prog W 0 (fun _ => true) true n f1.type [q1] = some y1 ∧ DataW.trod enc Try.prog W 0 (fun _ => true) true n f2.type [q2] = some y2 ∧ DataW.trod enc Try.prog W 0 (fun _ => true) true n f3.type [q3] = some y3 ∧ DataW.trod enc Try.prog W 0 (fun _ => true) true n f4.type [q4] = some y4 := by
  obtain ⟨xs, n, _, hx, _, hlen, hg⟩ := DataW.trod_struct hs h
  obtain ⟨o0, k0⟩ := hone_of hone 0 f0 rfl
  obtain ⟨o1, k1⟩ := hone_of hone 1 f1 rfl
  obtain ⟨o2, k2⟩ := hone_of hone 2 f2 rfl
  obtain ⟨o3, k3⟩ := hone_of hone 3 f3 rfl
  obtain ⟨o4, k4⟩ := hone_of hone 4 f4 rfl
  match xs, hlen with
  | [y0, y1, y2, y3, y4], _ =>
    subst hx
    exact ⟨y0, y1, y2, y3, y4, n, rfl, by simpa [o0, k0] using hg 0 f0 rfl, by simpa [o1, k1] using hg 1 f1 rfl, by simpa [o2, k2] using hg 2 f2 rfl, by simpa [o3, k3] using hg 3 f3 rfl, by simpa [o4, k4] using hg 4 f4 rfl⟩

/-- AN ARGUMENT THAT IS A RESULT. -/
theorem view_res {v : Value} {d : DataW H} {p : List MemPlace}
    (hval : Value.okWide Try.prog W .any 0 25 v) (hd : DataW.Trod enc Try.prog W 0 (fun _ => true) true 25 v d p) : ∃ r, v = resW r := by
  obtain ⟨cs, rfl, hcz⟩ := okWide_struct Try.underlying25 hval
  rw [show Try.prog.cellsOf 25 = 5 by kernel_rfl] at hcz
  obtain ⟨l⟩ := cs
  match l, hcz with
  | [q0, q1, q2, q3, q4], _ =>
    obtain ⟨fuel, hf⟩ := hd
    obtain ⟨y0, y1, y2, y3, y4, n, -, g0, g1, g2, g3, g4⟩ := open5r Try.underlying25 (by kernel_rfl) hf
    obtain ⟨z0, e0, -, w0⟩ := DataW.trod_int Try.underlying3 g0
    obtain ⟨z1, e1, -, w1⟩ := DataW.trod_int Try.underlying3 g1
    obtain ⟨z2, e2, -, w2⟩ := DataW.trod_int Try.underlying23 g2
    obtain ⟨z3, e3, -⟩ := DataW.trod_bool Try.underlying4 g3
    obtain ⟨z4, e4, -, w4⟩ := DataW.trod_int Try.underlying3 g4
    simp at e0 e1 e2 e3 e4
    subst e0 e1 e2 e3 e4
    exact ⟨⟨z0, z1, z2, z3, z4⟩, rfl⟩
end
end Go.Proofs.Ytialclohhemkiaa
/- The library's small functions on slices: Clone, Grow of nil, Concat, Index. -/
namespace Go.Proofs.Ytialclohhemkiaa
open Go.ChangeShapes Go.WideShapes Go.ChangeAt Go.RowKit
set_option maxRecDepth 100000

theorem SlI.nil_of {w : World} {k : IntKind} {n c : Nat} {l : List Int} (h : SlI w k (.slice none n c) l) : l = [] := by
  obtain ⟨_, _, a', cap', e, _, h5⟩ := h
  simp only [Value.slice.injEq] at e
  rcases Nat.eq_zero_or_pos l.length with h0 | h0
  · exact List.length_eq_zero_iff.1 h0
  · obtain ⟨b, off, e2, _⟩ := h5 0 h0
    rw [← e.1] at e2; cases e2
theorem SlL.nil_of {w : World} {n c : Nat} {us : List Value} {l : List (List Int)} (h : SlL w (.slice none n c) us l) : l = [] := by
  obtain ⟨_, _, a', cap', e, _, h5⟩ := h
  simp only [Value.slice.injEq] at e
  rcases Nat.eq_zero_or_pos l.length with h0 | h0
  · exact List.length_eq_zero_iff.1 h0
  · obtain ⟨b, off, e2, _⟩ := h5 0 h0
    rw [← e.1] at e2; cases e2
set_option maxHeartbeats 1000000 in
theorem cloneU_any (v : Value) (l : List Int) (w : World) (h : SlI w .u64 v l) (hl : l.length ≤ 1000000) :
    Calls Try.prog 93 #[v] w fun e w' => ∃ v', e = .returned v' ∧ OwnI w' w.heap.size 23 .u64 v' l ∧ Below w.heap.size w w' := by
  obtain ⟨a, cap, e, hcap⟩ := h.len
  have H := Lib.hid h
  have HL := Lib.hid hl
  clear h hl
  have q0 : ∀ (w : World) (a : Option Addr) (n c n' c' : Nat), (binOp .eql 32 (.slice a n c) (.slice none n' c')).run Try.prog w = .ok (.bool a.isNone) w := fun w a n c n' c' => Lib.run_eql_slice_nil w _ _ a n c n' c' Try.underlying32
  cases a with
  | none =>
    subst e
    have hl0 := H.out.nil_of
    subst hl0
    go_enter Try.func93, Try.ntmps93
    go_wp2
    go_ret
    exact ⟨_, rfl, OwnI.nil _ _ _ _, Below.refl _ _⟩
  | some p =>
    subst e
    generalize hn : l.length = n at *
    have HN := Lib.hid hn
    clear hn
    have hnew : Hid (SlI (w.alloc (.cells #[] 23)) .u64 (.slice (some p) n cap) l) := H.out.below (below_new (Below.refl _ _) _)
    obtain ⟨v', w', hr, h1, h2⟩ := run_copy_u64 (w.alloc (.cells #[] 23)) 32 w.heap.size (by simp) (.slice (some ⟨w.heap.size, 0, none⟩) 0 0) (World.ownsRow_made w #[] 0 (Nat.le_refl _) (Nat.zero_le _) rfl) _ l hnew.out (by rw [HN.out]; exact HL.out)
    have H1 := Lib.hid h1
    have H2 := Lib.hid h2
    clear h1 h2
    go_enter Try.func93, Try.ntmps93
    go_wp2_with (at_builtin; refine Lib.wpList_append_run _ rfl _ _ _ _ rfl _ _ rfl rfl _ _ hr ?_)
    go_ret
    exact ⟨v', rfl, H1.out, below_grown (below_new (Below.refl _ _) _) H2.out (Nat.le_refl _)⟩
/-- x first lies at i -/
structure FstL (l : List Int) (x : Int) (i : Nat) : Prop where
  lt : i < l.length
  hit : l.getD i 0 = x
  miss : ∀ j, j < i → l.getD j 0 ≠ x
theorem erase_none (l : List Int) (x : Int) (h : ∀ j, j < l.length → l.getD j 0 ≠ x) : l.erase x = l := by
  refine List.erase_of_not_mem fun hm => ?_
  obtain ⟨j, hj, e⟩ := List.mem_iff_getElem.1 hm
  exact h j hj (by simpa [List.getD_eq_getElem?_getD, hj] using e)
theorem FstL.erase {l : List Int} {x : Int} {i : Nat} (h : FstL l x i) : l.erase x = l.take i ++ l.drop (i + 1) := by
  induction l generalizing i with
  | nil => exact absurd h.lt (by simp)
  | cons y l ih =>
    cases i with
    | zero =>
      have e : y = x := by simpa using h.hit
      subst e
      simp
    | succ i =>
      have e : y ≠ x := by simpa using h.miss 0 (Nat.succ_pos _)
      have hi : FstL l x i := ⟨by simpa using h.lt, by simpa using h.hit, fun j hj => by simpa using h.miss (j + 1) (by omega)⟩
      rw [List.erase_cons_tail (by simpa using e), ih hi]
      simp
end Go.Proofs.Ytialclohhemkiaa
