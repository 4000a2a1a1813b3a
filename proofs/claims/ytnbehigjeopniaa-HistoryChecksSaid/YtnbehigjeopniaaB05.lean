import Derived.Laws.AppendOwnNone
import Derived.Lib.AppendZeros
import Derived.Deep.QuietTactic
import Derived.BigQuiet
import Derived.Deep.DeepCutAuto
import Derived.Deep.CutBlock
import Derived.Test.YtnbehigjeopniaaB03
import Derived.Test.YtnbehigjeopniaaB02
import Derived.Test.YtnbehigjeopniaaB01
import Derived.Test.YtnbehigjeopniaaB04
set_option linter.unusedVariables false
set_option linter.unusedSimpArgs false
/- Appending whole lists, and lists of lists that the call owns. -/
namespace Go.Proofs.Ytnbehigjeopniaa
open Go.ChangeShapes Go.WideShapes Go.ChangeAt Go.RowKit
set_option maxRecDepth 100000

/-- an append of nothing leaves the value and the world -/
theorem run_append_zero {w : World} {T ty e : TypeId} {i : TypeInfo} (ht : Try.prog.underlying T = some (.slice e)) (hi : Try.prog.info? e = some i) (A B : Option Addr) (n c c' : Nat) (hn : n ≤ c) :
    (Builtin.append_ #[T, T] ty #[.slice A n c, .slice B 0 c']).run Try.prog w = .ok (.slice A n c) w := by
  cases A <;> cases B <;> simp [Builtin.append_, run_underlying ht, sizeOf, typeInfo, hi, Builtin.lenOf, Builtin.firstCells, storeCells, loadCells, loadCellsFrom, Result.andThen, hn]
theorem run_app_i64 (w : World) (ty : TypeId) (base : Nat) (v : Value) (l : List Int) (hown : OwnI w base 3 .i64 v l) (xv : Value) (l2 : List Int) (hS : SlI w .i64 xv l2)
    (hl : l.length ≤ 1000000) (hl2 : l2.length ≤ 1000000) (hb : base ≤ w.heap.size) :
    ∃ v' w', (Builtin.append_ #[37, 37] ty #[v, xv]).run Try.prog w = .ok v' w' ∧ OwnI w' base 3 .i64 v' (l ++ l2) ∧ w.grownBy w' v.ownBlock := by
  obtain ⟨i0, hi, hz0, hz1, hz2⟩ := info_parts Try.info_i64
  by_cases hne : l2 = []
  · subst hne
    obtain ⟨B, c', rfl, -⟩ := hS.len
    have e : ∃ A c, v = .slice A l.length c ∧ l.length ≤ c := by
      rcases hown.shape with ⟨rfl, rfl⟩ | ⟨g, cap, rfl, _, _, h, _⟩
      · exact ⟨_, _, rfl, Nat.le_refl _⟩
      · exact ⟨_, _, rfl, h⟩
    obtain ⟨A, c, rfl, hc⟩ := e
    refine ⟨_, w, run_append_zero (by kernel_rfl) hi A B l.length c c' hc, by simpa using hown, grownBy_refl _ _⟩
  · obtain ⟨b, off, cap, rfl, hcap, hbk, hc⟩ := hS.open hne
    obtain ⟨v', w', hr, h2, h3, -⟩ := run_append_own (P := Try.prog) w base 37 ty 3 i0 (.int .i64 0) 1 _ (by kernel_rfl) hi hz0 hz1 rfl rfl (by decide) v l.length _ hown ⟨b, off, none⟩ l2.length cap (l2.map (Value.int .i64)) (by simp) (by
      intro j u hj
      rw [add_plain]
      simp only [List.getElem?_map, Option.map_eq_some_iff] at hj
      obtain ⟨y, hy, rfl⟩ := hj
      have hjl : j < l2.length := (List.getElem?_eq_some_iff.1 hy).1
      rw [hc j hjl, List.getD_eq_getElem?_getD, hy]; rfl) (by intro u hu; simp only [List.mem_map] at hu; obtain ⟨y, _, rfl⟩ := hu; rfl) (by unfold maxLen; omega) (by rw [hz2]; omega) hb
    refine ⟨v', w', hr, ?_, h3⟩
    unfold OwnI
    rw [List.length_append, List.map_append]
    exact h2
/-- append of a list that reads, to a list that the call owns -/
theorem wp_app_i64 (w : World) {ops : Array Oper} {rest : List Oper} {o : Oper} {a : Act} {Q : Exit → Act → World → Prop}
    (hg : o.guard = none) (s x : Operand) (hop : o.op = Op.call { callee := Callee.builtin Builtin.append, args := #[s, x], argTypes := #[37, 37] })
    (base : Nat) (v : Value) (l : List Int) (hs : a.eval s = v) (hown : OwnI w base 3 .i64 v l) (xv : Value) (l2 : List Int) (hx : a.eval x = xv) (hS : SlI w .i64 xv l2)
    (hl : l.length ≤ 1000000) (hl2 : l2.length ≤ 1000000) (hb : base ≤ w.heap.size)
    (hK : ∀ v' w', OwnI w' base 3 .i64 v' (l ++ l2) → w.grownBy w' v.ownBlock → wpList Try.prog ops Q rest (a.put o.dst v') w') :
    wpList Try.prog ops Q (o :: rest) a w := by
  obtain ⟨v', w', hr, h1, h2⟩ := run_app_i64 w o.type base v l hown xv l2 hS hl hl2 hb
  exact Lib.wpList_append_run w hg s x _ _ hop _ _ hs hx v' w' hr (hK v' w' h1 h2)
/-- the same inside a region that draws its order -/
theorem step_app_i64 {w : World} {ops : Array Oper} {o : Oper} {a : Act} {K : Act → World → Prop} {Q : Exit → Act → World → Prop} {E : Prop}
    (hgd : o.guard = none) (s x : Operand) (hop : o.op = Op.call { callee := Callee.builtin Builtin.append, args := #[s, x], argTypes := #[37, 37] })
    (base : Nat) (v : Value) (l : List Int) (hs : a.eval s = v) (hown : OwnI w base 3 .i64 v l) (xv : Value) (l2 : List Int) (hx : a.eval x = xv) (hS : SlI w .i64 xv l2)
    (hl : l.length ≤ 1000000) (hl2 : l2.length ≤ 1000000) (hb : base ≤ w.heap.size)
    (hK : ∀ v' w', OwnI w' base 3 .i64 v' (l ++ l2) → w.grownBy w' v.ownBlock → K (a.put o.dst v') w') :
    if Region.wanted o (yielded ops a.tmps) = true then Oper.wp Try.prog o a w K Q else E := by
  have hw : Region.wanted o (yielded ops a.tmps) = true := by simp [Region.wanted, hgd]
  rw [if_pos hw]
  obtain ⟨v', w', hr, h1, h2⟩ := run_app_i64 w o.type base v l hown xv l2 hS hl hl2 hb
  exact Lib.wp_append_run w s x _ _ hop _ _ hs hx v' w' hr (hK v' w' h1 h2)
/-- a copy of a list of words -/
theorem run_copy_u64 (w : World) (ty : TypeId) (B : Nat) (hB : B ≤ w.heap.size) (s : Value) (hs : w.ownsRow B 30 1 s 0 []) (xv : Value) (l : List Int) (hS : SlI w .u64 xv l) (hl : l.length ≤ 1000000) :
    ∃ v' w', (Builtin.append_ #[58, 58] ty #[s, xv]).run Try.prog w = .ok v' w' ∧ OwnI w' B 30 .u64 v' l ∧ w.grownBy w' s.ownBlock := by
  obtain ⟨i0, hi, hz0, hz1, hz2⟩ := info_parts Try.info_u64
  by_cases hne : l = []
  · subst hne
    obtain ⟨B, c', rfl, -⟩ := hS.len
    have e : ∃ A c, s = .slice A 0 c ∧ 0 ≤ c := by
      rcases hs.2 with ⟨rfl, _⟩ | ⟨g, cap, cur, rfl, _⟩
      · exact ⟨_, _, rfl, Nat.le_refl _⟩
      · exact ⟨_, _, rfl, Nat.zero_le _⟩
    obtain ⟨A, c, rfl, hc⟩ := e
    exact ⟨_, w, run_append_zero (by kernel_rfl) hi A B 0 c c' hc, hs, grownBy_refl _ _⟩
  · obtain ⟨b, off, cap, rfl, hcap, hbk, hc⟩ := hS.open hne
    obtain ⟨v', w', hr, h2, h3, -⟩ := run_append_own (P := Try.prog) w B 58 ty 30 i0 (.int .u64 0) 1 _ (by kernel_rfl) hi hz0 hz1 rfl rfl (by decide) s 0 _ hs ⟨b, off, none⟩ l.length cap (l.map (Value.int .u64)) (by simp) (by
      intro j u hj
      rw [add_plain]
      simp only [List.getElem?_map, Option.map_eq_some_iff] at hj
      obtain ⟨y, hy, rfl⟩ := hj
      have hjl : j < l.length := (List.getElem?_eq_some_iff.1 hy).1
      rw [hc j hjl, List.getD_eq_getElem?_getD, hy]; rfl) (by intro u hu; simp only [List.mem_map] at hu; obtain ⟨y, _, rfl⟩ := hu; rfl) (by unfold maxLen; omega) (by rw [hz2]; omega) hB
    refine ⟨v', w', hr, ?_, h3⟩
    unfold OwnI
    simpa using h2
theorem Try.info_li : (Try.prog.info? 37).map (fun i => (i.zero, i.size, i.bytes)) = some (some (.slice none 0 0), 1, 24) := by kernel_rfl
theorem SlI.one {w : World} {k : IntKind} {v : Value} {l : List Int} (h : SlI w k v l) : v.oneCell' = true := by
  obtain ⟨_, _, a, cap, rfl, _⟩ := h; rfl
/-- an owned row of lists reads -/
theorem row_read {w : World} {base : Nat} {v : Value} {us : List Value} {ll : List (List Int)} (h : w.ownsRow base 37 1 v ll.length us) (he : ∀ t, t < ll.length → SlI w .i64 (us.getD t (.slice none 0 0)) (ll.getD t [])) (hl : ll.length ≤ 140737488351232) : SlL w v us ll := by
  have hus : us.length = ll.length := by have := h.1; omega
  refine ⟨hl, hus, ?_⟩
  have h0 := h
  rcases h.2 with ⟨rfl, h2⟩ | ⟨g, cap, cur, rfl, h3, h4, h5, h6, h7, h8⟩
  · exact ⟨none, 0, by rw [h2], by omega, fun t ht => by omega⟩
  · refine ⟨some ⟨g, 0, none⟩, cap, rfl, h5, fun t ht => ⟨g, 0, rfl, (Array.getElem?_eq_some_iff.1 h4).1, ?_, he t ht⟩⟩
    rw [Nat.zero_add, World.ownsRow.cellAt h0 t (by omega)]
    simp [List.getD_eq_getElem?_getD, show t < us.length by omega]
theorem each_set {w : World} {us : List Value} {ll : List (List Int)} (hus : us.length = ll.length) (i : Nat) {u : Value} {l : List Int} (hu : SlI w .i64 u l) (hk : ∀ t, t < ll.length → SlI w .i64 (us.getD t (.slice none 0 0)) (ll.getD t [])) :
    ∀ t, t < (ll.set i l).length → SlI w .i64 ((us.set i u).getD t (.slice none 0 0)) ((ll.set i l).getD t []) := by
  intro t ht
  have ht' : t < ll.length := by simpa using ht
  rw [getD_setL, getD_setL]
  by_cases e : i = t
  · simpa [e, hus, ht'] using hu
  · simpa [e] using hk t ht'
theorem SlL.each {w : World} {v : Value} {us : List Value} {ll : List (List Int)} (h : SlL w v us ll) : ∀ t, t < ll.length → SlI w .i64 (us.getD t (.slice none 0 0)) (ll.getD t []) := by
  obtain ⟨_, _, _, _, _, _, h5⟩ := h
  intro t ht
  obtain ⟨_, _, _, _, _, h⟩ := h5 t ht
  exact h
end Go.Proofs.Ytnbehigjeopniaa
/- A region that draws its order, whose operations only read and whose callees make memory of their own: one walk in the order of the text. -/
namespace Go.Proofs.Ytnbehigjeopniaa
open Go.ChangeShapes Go.WideShapes Go.ChangeAt Go.RowKit
set_option maxRecDepth 100000

/-- a world that holds more than W, and W's memory as it was -/
structure Ext (W : World) where
  wd : World
  below : Below W.heap.size W wd
instance (W : World) : Nonempty (Ext W) := ⟨⟨W, Below.refl _ _⟩⟩
theorem wp_region_ext {P : Program} {id : Nat} {Q : Exit → Act → World → Prop} {a : Act} {w : World} {l : List Oper} (W : World) (hm : P.follows .mixedOrders = true) (hB : Region.lexB .any l.toArray = true) (hW : Below W.heap.size W w)
    (h : wpQuiet P l.toArray (fun w' => ∃ n : Ext W, w' = n.wd) (fun a' => ∀ w', (∃ n : Ext W, w' = n.wd) → Q .normal a' w') l a) : (Code.region id l.toArray true).wp P Q a w :=
  wp_region_quiet (C := fun w' => ∃ n : Ext W, w' = n.wd) hm hB ⟨⟨_, below_drewN hW 1⟩, rfl⟩ (by simpa using h)
theorem calls_ext {P : Program} {f : FuncId} {args : Array Value} {W : World} {n : Ext W} {v : Value}
    (h : Calls P f args n.wd fun e w' => e = .returned v ∧ Below n.wd.heap.size n.wd w') : Calls P f args n.wd fun e w'' => e = .returned v ∧ ∃ m : Ext W, w'' = m.wd :=
  h.mono fun _ w' ⟨he, hm⟩ => ⟨he, ⟨w', below_then n.below hm⟩, rfl⟩
theorem calls_ext_draw {P : Program} {f : FuncId} {args : Array Value} {W : World} {n : Ext W} {v : Value}
    (h : Calls P f args n.wd fun e w' => e = .returned v ∧ ∃ m, n.wd.drewN m = w') : Calls P f args n.wd fun e w'' => e = .returned v ∧ ∃ m : Ext W, w'' = m.wd :=
  h.mono fun _ w' ⟨he, m, hm⟩ => ⟨he, ⟨w', hm ▸ below_drewN n.below m⟩, rfl⟩
theorem ext_cell {W : World} (b o : Nat) (h : b < W.heap.size) (v : Value) (hc : W.cell? ⟨b, o, none⟩ = some v) (n : Ext W) : n.wd.cell? ⟨b, o, none⟩ = some v := (n.below.cell (p := ⟨b, o, none⟩) h).trans hc
end Go.Proofs.Ytnbehigjeopniaa
/- Layer 14: the reference's small functions of the model. -/
namespace Go.Proofs.Ytnbehigjeopniaa
open Go.ChangeShapes Go.WideShapes Go.ChangeAt Go.RowKit
set_option maxRecDepth 100000

theorem one_new (w : World) (a : Obj) : ∃ W, w.alloc a = W ∧ Hid (Below w.heap.size w W) ∧ Hid (W.heap[w.heap.size]? = some a) ∧ w.heap.size + 1 = W.heap.size :=
  ⟨_, rfl, below_new (Below.refl w.heap.size w) _, heap_alloc_new _ _, by simp⟩
theorem two_new (w : World) (a b : Obj) : ∃ W, (w.alloc a).alloc b = W ∧ Hid (Below w.heap.size w W) ∧ Hid (W.heap[w.heap.size]? = some a) ∧ Hid (W.heap[w.heap.size + 1]? = some b) ∧ w.heap.size + 2 = W.heap.size :=
  ⟨_, rfl, below_new (below_new (Below.refl w.heap.size w) _) _, heap_alloc2_old _ _ _, heap_alloc2_new _ _ _, by simp⟩
theorem three_new (w : World) (a b c : Obj) : ∃ W, ((w.alloc a).alloc b).alloc c = W ∧ Hid (Below w.heap.size w W) ∧ Hid (W.heap[w.heap.size]? = some a) ∧ Hid (W.heap[w.heap.size + 1]? = some b) ∧ Hid (W.heap[w.heap.size + 2]? = some c) ∧ w.heap.size + 3 = W.heap.size := by
  refine ⟨_, rfl, below_new (below_new (below_new (Below.refl w.heap.size w) _) _) _, Lib.hid ?_, Lib.hid ?_, Lib.hid ?_, by simp⟩
  · rw [heap_alloc_old _ _ (by simp <;> omega), heap_alloc_old _ _ (by simp <;> omega), heap_alloc_new]
  · rw [heap_alloc_old _ _ (by simp <;> omega)]
    simpa using heap_alloc_new (w.alloc a) b
  · simpa using heap_alloc_new ((w.alloc a).alloc b) c
theorem rowc7 {w : World} {g : Nat} {T : TypeId} {v0 v1 v2 v3 v4 v5 v6 : Value} (h : w.heap[g]? = some (.cells #[v0, v1, v2, v3, v4, v5, v6] T (0, 0))) : w.cell? ⟨g, 0, none⟩ = some v0 ∧ w.cell? ⟨g, 1, none⟩ = some v1 ∧ w.cell? ⟨g, 2, none⟩ = some v2 ∧ w.cell? ⟨g, 3, none⟩ = some v3 ∧ w.cell? ⟨g, 4, none⟩ = some v4 ∧ w.cell? ⟨g, 5, none⟩ = some v5 ∧ w.cell? ⟨g, 6, none⟩ = some v6 :=
  ⟨cell_of_row _ _ 0 _ _ _ h, cell_of_row _ _ 1 _ _ _ h, cell_of_row _ _ 2 _ _ _ h, cell_of_row _ _ 3 _ _ _ h, cell_of_row _ _ 4 _ _ _ h, cell_of_row _ _ 5 _ _ _ h, cell_of_row _ _ 6 _ _ _ h⟩
def resW (r : ResM) : Value := .agg #[.int .i64 r.kind, .int .i64 r.case, .int .u64 r.val, .bool r.ok, .int .i64 r.num]
end Go.Proofs.Ytnbehigjeopniaa
/- An argument that is a result. -/
namespace Go.Proofs.Ytnbehigjeopniaa
open Go.ChangeShapes Go.WideShapes Go.ChangeAt Go.RowKit Go.Deep
set_option maxRecDepth 100000

section
variable {H : Type} {enc : TypeId × Value → H} {W : World}
theorem open5r {t : TypeId} {f0 f1 f2 f3 f4 : Field} {q0 q1 q2 q3 q4 : Value} {fuel : Nat} {x : DataW H × List MemPlace} (hs : Try.prog.underlying t = some (.struct #[f0, f1, f2, f3, f4])) (hone : oneCellFields Try.prog #[f0, f1, f2, f3, f4] = true)
    (h : DataW.trod enc Try.prog W 0 (fun _ => true) true fuel t [q0, q1, q2, q3, q4] = some x) :
    ∃ (y0 y1 y2 y3 y4 : DataW H × List MemPlace) (n : Nat), x.1 = .agg [y0.1, y1.1, y2.1, y3.1, y4.1] ∧ DataW.trod enc Try.prog W 0 (fun _ => true) true n f0.type [q0] = some y0 ∧ DataW.trod enc Try.prog W 0 (fun _ => true) true n f1.type [q1] = some y1 ∧ DataW.trod enc Try.prog W 0 (fun _ => true) true n f2.type [q2] = some y2 ∧ DataW.trod enc Try.prog W 0 (fun _ => true) true n f3.type [q3] = some y3 ∧ DataW.trod enc Try.prog W 0 (fun _ => true) true n f4.type [q4] = some y4 := by
  obtain ⟨xs, n, _, hx, _, hlen, hg⟩ := DataW.trod_struct hs h
  obtain ⟨o0, k0⟩ := hone_of hone 0 f0 rfl
  obtain ⟨o1, k1⟩ := hone_of hone 1 f1 rfl
  obtain ⟨o2, k2⟩ := hone_of hone 2 f2 rfl
  obtain ⟨o3, k3⟩ := hone_of hone 3 f3 rfl
  obtain ⟨o4, k4⟩ := hone_of hone 4 f4 rfl
  match xs, hlen with
  | [y0, y1, y2, y3, y4], _ =>
    subst hx
    exact ⟨y0, y1, y2, y3, y4, n, rfl, by simpa [o0, k0] using hg 0 f0 rfl, by simpa [o1, k1] using hg 1 f1 rfl, by simpa [o2, k2] using hg 2 f2 rfl, by simpa [o3, k3] using hg 3 f3 rfl, by simpa [o4, k4] using hg 4 f4 rfl⟩

/-- AN ARGUMENT THAT IS A RESULT. -/
theorem view_res {v : Value} {d : DataW H} {p : List MemPlace}
    (hval : Value.okWide Try.prog W .any 0 32 v) (hd : DataW.Trod enc Try.prog W 0 (fun _ => true) true 32 v d p) : ∃ r, v = resW r := by
  obtain ⟨cs, rfl, hcz⟩ := okWide_struct Try.underlying32 hval
  rw [show Try.prog.cellsOf 32 = 5 by kernel_rfl] at hcz
  obtain ⟨l⟩ := cs
  match l, hcz with
  | [q0, q1, q2, q3, q4], _ =>
    obtain ⟨fuel, hf⟩ := hd
    obtain ⟨y0, y1, y2, y3, y4, n, -, g0, g1, g2, g3, g4⟩ := open5r Try.underlying32 (by kernel_rfl) hf
    obtain ⟨z0, e0, -, w0⟩ := DataW.trod_int Try.underlying3 g0
    obtain ⟨z1, e1, -, w1⟩ := DataW.trod_int Try.underlying3 g1
    obtain ⟨z2, e2, -, w2⟩ := DataW.trod_int Try.underlying30 g2
    obtain ⟨z3, e3, -⟩ := DataW.trod_bool Try.underlying4 g3
    obtain ⟨z4, e4, -, w4⟩ := DataW.trod_int Try.underlying3 g4
    simp at e0 e1 e2 e3 e4
    subst e0 e1 e2 e3 e4
    exact ⟨⟨z0, z1, z2, z3, z4⟩, rfl⟩
end
end Go.Proofs.Ytnbehigjeopniaa
/- Rows are appended to an owned list of structs in a sequential region; lists of results. -/
namespace Go.Proofs.Ytnbehigjeopniaa
open Go.ChangeShapes Go.WideShapes Go.ChangeAt Go.RowKit
set_option maxRecDepth 100000

section
variable {e : TypeId} {s base : Nat} {w : World} {v : Value} {rows : List (List Value)}
/-- rows of a literal are appended to an owned list of structs -/
theorem wp_append_ss (st : TypeId) {bytes : Nat} {z : Value} (hu : Try.prog.underlying st = some (.slice e)) (hinfo : (Try.prog.info? e).map (fun i => (i.zero, i.size, i.bytes)) = some (some z, s, bytes)) (hzs : z.cells.size = s) (hsz : 0 < s) (hby : bytes ≤ 200)
    {ops : Array Oper} {rest : List Oper} {o : Oper} {a : Act} {Q : Exit → Act → World → Prop}
    (hgd : o.guard = none) (sl x : Operand) (hop : o.op = Op.call { callee := Callee.builtin Builtin.append, args := #[sl, x], argTypes := #[st, st] })
    (hs : a.eval sl = v) (hown : OwnS w base e s v rows) (rs : List (List Value)) (hr : Rows' s rs) (g n : Nat) (hn : rs.length = n)
    (hx : a.eval x = .slice (some ⟨g, 0, none⟩) n n) (hcell : w.heap[g]? = some (.cells rs.flatten.toArray e (0, 0))) (hl : rows.length + rs.length ≤ 1000001) (hb : base ≤ w.heap.size)
    (hK : ∀ v' w', OwnS w' base e s v' (rows ++ rs) → w.grownBy w' v.ownBlock → wpList Try.prog ops Q rest (a.put o.dst v') w') :
    wpList Try.prog ops Q (o :: rest) a w := by
  subst hn
  obtain ⟨i0, hi, hz0, hz1, hz2⟩ := info_parts hinfo
  obtain ⟨v', w', hrun, h2, h3, -, h4⟩ := run_append_own_at (P := Try.prog) w base st o.type e i0 z s bytes hu hi hz0 hz1 hz2 hzs hsz v rows.length _ hown.2 ⟨g, 0, none⟩ rs.length rs.length rs.flatten (flatS_length rs hr) (fun j u hj => by
    have : w.cell? ⟨g, j, none⟩ = rs.flatten.toArray[j]? := cell_of_row _ _ j _ _ _ hcell
    have e2 : ((⟨g, 0, none⟩ : Addr).add j) = ⟨g, j, none⟩ := by rw [Addr.add_mid, Nat.zero_add]
    rw [e2, this]
    simpa using hj) (fun u hu => by
      obtain ⟨r, hr2, hur⟩ := List.mem_flatten.1 hu
      exact (hr r hr2).2 u hur) (by unfold maxLen; omega) (by have : (rows.length + rs.length) * bytes ≤ 1000001 * 200 := Nat.mul_le_mul (by omega) hby; omega) hb
  refine Lib.wpList_append_run w hgd sl x _ _ hop _ _ hs hx v' w' hrun (hK v' w' ⟨fun r hr2 => ?_, ?_⟩ h3)
  · rcases List.mem_append.1 hr2 with h | h
    · exact hown.1 r h
    · exact hr r h
  · rw [List.length_append, List.flatten_append]
    exact h2
/-- a list of one row -/
theorem SlS.lit1 (w : World) (e : TypeId) (row : List Value) (s : Nat) (hs : row.length = s) (h1 : ∀ u ∈ row, u.oneCell' = true) : SlS (w.alloc (.cells row.toArray e)) s (.slice (some ⟨w.heap.size, 0, none⟩) 1 1) [row] := by
  refine ⟨by simp, fun r hr => ?_, _, 1, rfl, Nat.le_refl _, fun i hi => ⟨w.heap.size, 0, rfl, by simp, ?_⟩⟩
  · rw [List.mem_singleton.1 hr]; exact ⟨hs, h1⟩
  · have hi0 : i = 0 := by simp at hi; exact hi
    subst hi0
    intro j u hj
    have h2 : (w.alloc (.cells row.toArray e)).cell? ⟨w.heap.size, j, none⟩ = row.toArray[j]? := cell_of_row _ _ j _ _ (0, 0) (heap_alloc_new w (.cells row.toArray e))
    simp only [Nat.zero_mul, Nat.zero_add]
    rw [h2]
    simpa using hj
end
/-- the five cells of a result -/
def resL (r : ResM) : List Value := [.int .i64 r.kind, .int .i64 r.case, .int .u64 r.val, .bool r.ok, .int .i64 r.num]
def resRows (l : List ResM) : List (List Value) := l.map resL
theorem resRows_length (l : List ResM) : (resRows l).length = l.length := List.length_map _
theorem resRows_append (a b : List ResM) : resRows (a ++ b) = resRows a ++ resRows b := List.map_append
theorem resRows_rows (l : List ResM) : Rows' 5 (resRows l) := fun r hr => by
  obtain ⟨x, -, rfl⟩ := List.mem_map.1 hr
  refine ⟨rfl, fun u hu => ?_⟩
  simp only [resL, List.mem_cons, List.not_mem_nil, or_false] at hu
  rcases hu with rfl | rfl | rfl | rfl | rfl <;> rfl
theorem resRows_get (l : List ResM) (i : Nat) (hi : i < l.length) : (resRows l).getD i [] = resL (l.getD i ⟨0, 0, 0, false, 0⟩) := by
  simp [resRows, List.getD_eq_getElem?_getD, hi]
/-- one result of a list -/
theorem SlS.res {w : World} {v : Value} {l : List ResM} (h : SlS w 5 v (resRows l)) (i : Nat) (hi : i < l.length) {r : ResM} (hr : l.getD i ⟨0, 0, 0, false, 0⟩ = r) : ∃ b off cap, v = .slice (some ⟨b, off, none⟩) l.length cap ∧ b < w.heap.size ∧ w.cell? ⟨b, off + i * 5, none⟩ = some (.int .i64 r.kind) ∧ w.cell? ⟨b, off + i * 5 + 1, none⟩ = some (.int .i64 r.case) ∧ w.cell? ⟨b, off + i * 5 + 2, none⟩ = some (.int .u64 r.val) ∧ w.cell? ⟨b, off + i * 5 + 3, none⟩ = some (.bool r.ok) ∧ w.cell? ⟨b, off + i * 5 + 4, none⟩ = some (.int .i64 r.num) := by
  have hl := resRows_length l
  obtain ⟨b, off, cap, rfl, hb, hc⟩ := h.open (by omega)
  have h5 := hc i (by omega)
  rw [resRows_get l i hi, hr] at h5
  exact ⟨b, off, cap, by rw [hl], hb, h5 0 _ rfl, h5 1 _ rfl, h5 2 _ rfl, h5 3 _ rfl, h5 4 _ rfl⟩
theorem SlS.lenR {w : World} {v : Value} {l : List ResM} (h : SlS w 5 v (resRows l)) : ∃ a cap, v = .slice a l.length cap ∧ l.length ≤ cap := by
  obtain ⟨a, cap, rfl, h2⟩ := h.len
  rw [resRows_length] at h2 ⊢
  exact ⟨a, cap, rfl, h2⟩
theorem OwnS.lenR {w : World} {base : Nat} {e : TypeId} {v : Value} {l : List ResM} (h : OwnS w base e 5 v (resRows l)) : ∃ a cap, v = .slice a l.length cap := by
  obtain ⟨a, cap, rfl⟩ := h.len
  rw [resRows_length]
  exact ⟨a, cap, rfl⟩
end Go.Proofs.Ytnbehigjeopniaa
/- Events and calls, plainly (chapter 16); lists of events. -/
namespace Go.Proofs.Ytnbehigjeopniaa
open Go.ChangeShapes Go.WideShapes Go.ChangeAt Go.RowKit
set_option maxRecDepth 100000

structure EvM where
  thr : Int
  op : Int
  ret : Bool
  res : ResM
def evZ : EvM := ⟨0, 0, false, ⟨0, 0, 0, false, 0⟩⟩
def evL (e : EvM) : List Value := [.int .i64 e.thr, .int .i64 e.op, .bool e.ret, .int .i64 e.res.kind, .int .i64 e.res.case, .int .u64 e.res.val, .bool e.res.ok, .int .i64 e.res.num]
def evV (e : EvM) : Value := .agg #[.int .i64 e.thr, .int .i64 e.op, .bool e.ret, .int .i64 e.res.kind, .int .i64 e.res.case, .int .u64 e.res.val, .bool e.res.ok, .int .i64 e.res.num]
def evRows (l : List EvM) : List (List Value) := l.map evL
theorem evRows_length (l : List EvM) : (evRows l).length = l.length := List.length_map _
theorem evRows_append (a b : List EvM) : evRows (a ++ b) = evRows a ++ evRows b := List.map_append
theorem evRows_snoc (a : List EvM) (e : EvM) : evRows (a ++ [e]) = evRows a ++ [evL e] := List.map_append
theorem evRows_take (a : List EvM) (k : Nat) : evRows (a.take k) = (evRows a).take k := List.map_take
theorem evRows_drop (a : List EvM) (k : Nat) : evRows (a.drop k) = (evRows a).drop k := List.map_drop
theorem evRows_set (a : List EvM) (k : Nat) (e : EvM) : evRows (a.set k e) = (evRows a).set k (evL e) := List.map_set
theorem evL_one (e : EvM) : ∀ u ∈ evL e, u.oneCell' = true := fun u hu => by
  simp only [evL, List.mem_cons, List.not_mem_nil, or_false] at hu
  rcases hu with rfl | rfl | rfl | rfl | rfl | rfl | rfl | rfl <;> rfl
theorem evRows_rows (l : List EvM) : Rows' 8 (evRows l) := fun r hr => by
  obtain ⟨x, -, rfl⟩ := List.mem_map.1 hr
  exact ⟨rfl, evL_one x⟩
theorem evRows_get (l : List EvM) (i : Nat) (hi : i < l.length) : (evRows l).getD i [] = evL (l.getD i evZ) := by
  simp [evRows, List.getD_eq_getElem?_getD, hi]
/-- one event of a list -/
theorem SlS.ev {w : World} {v : Value} {l : List EvM} (h : SlS w 8 v (evRows l)) (i : Nat) (hi : i < l.length) {e : EvM} (he : l.getD i evZ = e) : ∃ b off cap, v = .slice (some ⟨b, off, none⟩) l.length cap ∧ b < w.heap.size ∧ w.cell? ⟨b, off + i * 8, none⟩ = some (.int .i64 e.thr) ∧ w.cell? ⟨b, off + i * 8 + 1, none⟩ = some (.int .i64 e.op) ∧ w.cell? ⟨b, off + i * 8 + 2, none⟩ = some (.bool e.ret) ∧
    (w.cell? ⟨b, off + i * 8 + 3, none⟩ = some (.int .i64 e.res.kind) ∧ w.cell? ⟨b, off + i * 8 + 4, none⟩ = some (.int .i64 e.res.case) ∧ w.cell? ⟨b, off + i * 8 + 5, none⟩ = some (.int .u64 e.res.val) ∧ w.cell? ⟨b, off + i * 8 + 6, none⟩ = some (.bool e.res.ok) ∧ w.cell? ⟨b, off + i * 8 + 7, none⟩ = some (.int .i64 e.res.num)) := by
  have hl := evRows_length l
  obtain ⟨b, off, cap, rfl, hb, hc⟩ := h.open (by omega)
  have h5 := hc i (by omega)
  rw [evRows_get l i hi, he] at h5
  exact ⟨b, off, cap, by rw [hl], hb, h5 0 _ rfl, h5 1 _ rfl, h5 2 _ rfl, h5 3 _ rfl, h5 4 _ rfl, h5 5 _ rfl, h5 6 _ rfl, h5 7 _ rfl⟩
theorem SlS.lenE {w : World} {v : Value} {l : List EvM} (h : SlS w 8 v (evRows l)) : ∃ a cap, v = .slice a l.length cap ∧ l.length ≤ cap := by
  obtain ⟨a, cap, rfl, h2⟩ := h.len
  rw [evRows_length] at h2 ⊢
  exact ⟨a, cap, rfl, h2⟩
theorem SlS.boundE {w : World} {v : Value} {l : List EvM} (h : SlS w 8 v (evRows l)) : l.length ≤ 140737488351232 := by
  have := h.1
  rwa [evRows_length] at this
theorem OwnS.lenE {w : World} {base : Nat} {e : TypeId} {v : Value} {l : List EvM} (h : OwnS w base e 8 v (evRows l)) : ∃ a cap, v = .slice a l.length cap := by
  obtain ⟨a, cap, rfl⟩ := h.len
  rw [evRows_length]
  exact ⟨a, cap, rfl⟩
/-- a call: thread and operation -/
def caRow (c : Int × Int) : List Value := [.int .i64 c.1, .int .i64 c.2]
def caV (c : Int × Int) : Value := .agg #[.int .i64 c.1, .int .i64 c.2]
def caRows (l : List (Int × Int)) : List (List Value) := l.map caRow
theorem caRows_length (l : List (Int × Int)) : (caRows l).length = l.length := List.length_map _
theorem caRows_append (a b : List (Int × Int)) : caRows (a ++ b) = caRows a ++ caRows b := List.map_append
theorem caRows_snoc (a : List (Int × Int)) (c : Int × Int) : caRows (a ++ [c]) = caRows a ++ [caRow c] := List.map_append
theorem caRow_one (c : Int × Int) : ∀ u ∈ caRow c, u.oneCell' = true := fun u hu => by
  simp only [caRow, List.mem_cons, List.not_mem_nil, or_false] at hu
  rcases hu with rfl | rfl <;> rfl
theorem caRows_rows (l : List (Int × Int)) : Rows' 2 (caRows l) := fun r hr => by
  obtain ⟨x, -, rfl⟩ := List.mem_map.1 hr
  exact ⟨rfl, caRow_one x⟩
theorem caRows_get (l : List (Int × Int)) (i : Nat) (hi : i < l.length) : (caRows l).getD i [] = caRow (l.getD i (0, 0)) := by
  simp [caRows, List.getD_eq_getElem?_getD, hi]
theorem SlS.ca {w : World} {v : Value} {l : List (Int × Int)} (h : SlS w 2 v (caRows l)) (i : Nat) (hi : i < l.length) {c : Int × Int} (he : l.getD i (0, 0) = c) : ∃ b off cap, v = .slice (some ⟨b, off, none⟩) l.length cap ∧ b < w.heap.size ∧ w.cell? ⟨b, off + i * 2, none⟩ = some (.int .i64 c.1) ∧ w.cell? ⟨b, off + i * 2 + 1, none⟩ = some (.int .i64 c.2) := by
  have hl := caRows_length l
  obtain ⟨b, off, cap, rfl, hb, hc⟩ := h.open (by omega)
  have h5 := hc i (by omega)
  rw [caRows_get l i hi, he] at h5
  exact ⟨b, off, cap, by rw [hl], hb, h5 0 _ rfl, h5 1 _ rfl⟩
theorem SlS.lenC {w : World} {v : Value} {l : List (Int × Int)} (h : SlS w 2 v (caRows l)) : ∃ a cap, v = .slice a l.length cap ∧ l.length ≤ cap := by
  obtain ⟨a, cap, rfl, h2⟩ := h.len
  rw [caRows_length] at h2 ⊢
  exact ⟨a, cap, rfl, h2⟩
theorem OwnS.lenC {w : World} {base : Nat} {e : TypeId} {v : Value} {l : List (Int × Int)} (h : OwnS w base e 2 v (caRows l)) : ∃ a cap, v = .slice a l.length cap := by
  obtain ⟨a, cap, rfl⟩ := h.len
  rw [caRows_length]
  exact ⟨a, cap, rfl⟩

/-- the event is this call (or its return) -/
def isE (t o : Int) (b : Bool) (e : EvM) : Bool := (e.thr == t && e.op == o) && e.ret == b
/-- the index of the first event that is, or -1 -/
def findI (l : List EvM) (t o : Int) (b : Bool) : Int := match l.findIdx? (isE t o b) with | some i => i | none => -1
theorem findI_hit {l : List EvM} {t o : Int} {b : Bool} {i : Nat} (hi : i < l.length) (hm : ∀ j, j < i → isE t o b (l.getD j evZ) = false) (h : isE t o b (l.getD i evZ) = true) : findI l t o b = i := by
  unfold findI
  have : l.findIdx? (isE t o b) = some i := by
    rw [List.findIdx?_eq_some_iff_getElem]
    refine ⟨hi, ?_, fun j hj => ?_⟩
    · rw [List.getD_eq_getElem?_getD, List.getElem?_eq_getElem hi] at h; exact h
    · have := hm j hj
      rw [List.getD_eq_getElem?_getD, List.getElem?_eq_getElem (by omega)] at this
      simpa using this
  rw [this]
theorem findI_miss {l : List EvM} {t o : Int} {b : Bool} (hm : ∀ j, j < l.length → isE t o b (l.getD j evZ) = false) : findI l t o b = -1 := by
  unfold findI
  have : l.findIdx? (isE t o b) = none := by
    rw [List.findIdx?_eq_none_iff]
    intro x hx
    obtain ⟨j, hj, rfl⟩ := List.mem_iff_getElem.1 hx
    have := hm j hj
    rw [List.getD_eq_getElem?_getD, List.getElem?_eq_getElem hj] at this
    exact this
  rw [this]
theorem findI_cases (l : List EvM) (t o : Int) (b : Bool) : findI l t o b = -1 ∨ ∃ i : Nat, findI l t o b = i ∧ i < l.length ∧ isE t o b (l.getD i evZ) = true ∧ ∀ j, j < i → isE t o b (l.getD j evZ) = false := by
  unfold findI
  cases h : l.findIdx? (isE t o b) with
  | none => exact .inl rfl
  | some i =>
    rw [List.findIdx?_eq_some_iff_getElem] at h
    obtain ⟨hi, h1, h2⟩ := h
    refine .inr ⟨i, rfl, hi, ?_, fun j hj => ?_⟩
    · rw [List.getD_eq_getElem?_getD, List.getElem?_eq_getElem hi]; exact h1
    · rw [List.getD_eq_getElem?_getD, List.getElem?_eq_getElem (by omega)]
      have := h2 j hj
      simpa using this
theorem findI_ge (l : List EvM) (t o : Int) (b : Bool) : -1 ≤ findI l t o b ∧ findI l t o b < l.length := by
  rcases findI_cases l t o b with h | ⟨i, h, hi, -⟩ <;> rw [h] <;> omega
def precE (l : List EvM) (a b : Int × Int) : Bool := (decide (0 ≤ findI l a.1 a.2 true) && decide (0 ≤ findI l b.1 b.2 false)) && decide (findI l a.1 a.2 true < findI l b.1 b.2 false)
def callOf (e : EvM) : Int × Int := (e.thr, e.op)
def callsE (l : List EvM) : List (Int × Int) := (l.filter fun e => !e.ret).map callOf
theorem callsE_snoc (l : List EvM) (e : EvM) : callsE (l ++ [e]) = callsE l ++ if e.ret = true then [] else [callOf e] := by
  unfold callsE
  rw [List.filter_append, List.map_append]
  congr 1
  cases h : e.ret <;> simp [h]
theorem take_getD {α : Type} {l : List α} {i : Nat} (hi : i < l.length) (d : α) : l.take (i + 1) = l.take i ++ [l.getD i d] := by
  rw [List.take_add_one, List.getElem?_eq_getElem hi, List.getD_eq_getElem?_getD, List.getElem?_eq_getElem hi]; rfl
theorem callsE_take {l : List EvM} {i : Nat} (hi : i < l.length) : callsE (l.take (i + 1)) = callsE (l.take i) ++ if (l.getD i evZ).ret = true then [] else [callOf (l.getD i evZ)] := by
  rw [take_getD hi evZ, callsE_snoc]
theorem callsE_le (l : List EvM) : (callsE l).length ≤ l.length := by
  unfold callsE
  rw [List.length_map]
  exact List.length_filter_le _ _
def openP (l : List EvM) (c : Int × Int) : Bool := decide (findI l c.1 c.2 true < 0)
def openE (l : List EvM) : List (Int × Int) := (callsE l).filter (openP l)
theorem filter_take {α : Type} {p : α → Bool} {l : List α} {i : Nat} (hi : i < l.length) (d : α) : (l.take (i + 1)).filter p = (l.take i).filter p ++ if p (l.getD i d) = true then [l.getD i d] else [] := by
  rw [take_getD hi d, List.filter_append]
  congr 1
  by_cases h : p (l.getD i d) = true
  · rw [if_pos h, List.filter_cons_of_pos h, List.filter_nil]
  · rw [if_neg h, List.filter_cons_of_neg h, List.filter_nil]
def notT (t : Int) (e : EvM) : Bool := e.thr != t
def withoutT (l : List EvM) (t : Int) : List EvM := l.filter (notT t)
theorem withoutT_take {l : List EvM} {i : Nat} (t : Int) (hi : i < l.length) : withoutT (l.take (i + 1)) t = withoutT (l.take i) t ++ if notT t (l.getD i evZ) = true then [l.getD i evZ] else [] := filter_take hi evZ
end Go.Proofs.Ytnbehigjeopniaa
