import Derived.Deep.Fields
import Derived.Deep.Slices
import Derived.Test.YtnbehigjeopniaaRows
import Derived.Test.YtnbehigjeopniaaB01
set_option linter.unusedVariables false
set_option linter.unusedSimpArgs false
/- From the reading of an argument that is an operation to the words of the walks. -/
namespace Go.Proofs.Ytnbehigjeopniaa
open Go.ChangeShapes Go.WideShapes Go.ChangeAt Go.RowKit Go.Deep
set_option maxRecDepth 100000

section
variable {H : Type} {enc : TypeId × Value → H} {W : World}
theorem sized_agg {ts : List TypeId} {ds parts : List (DataW H)} {j : Nat} {t : TypeId} {fs : Array Field} (h : (DataW.weightsEach Try.prog ts ds).all (· ≤ reachBytes) = true) (ht : ts[j]? = some t) (hd : ds[j]? = some (.agg parts)) (hu : Try.prog.underlying t = some (.struct fs)) :
    (DataW.weightsEach Try.prog (fs.toList.map (·.type)) parts).all (· ≤ reachBytes) = true := by
  rw [List.all_eq_true]
  intro n hn
  have := DataW.weights_mem_each (P := Try.prog) ht hd n (by simp only [DataW.weights, hu]; exact hn)
  exact List.all_eq_true.1 h n this
theorem open3 {t : TypeId} {f0 f1 f2 : Field} {q0 q1 q2 : Value} {fuel : Nat} {x : DataW H × List MemPlace} (hs : Try.prog.underlying t = some (.struct #[f0, f1, f2])) (hone : oneCellFields Try.prog #[f0, f1, f2] = true)
    (h : DataW.trod enc Try.prog W 0 (fun _ => true) true fuel t [q0, q1, q2] = some x) :
    ∃ (y0 y1 y2 : DataW H × List MemPlace) (n : Nat), x.1 = .agg [y0.1, y1.1, y2.1] ∧ DataW.trod enc Try.prog W 0 (fun _ => true) true n f0.type [q0] = some y0 ∧ DataW.trod enc Try.prog W 0 (fun _ => true) true n f1.type [q1] = some y1 ∧ DataW.trod enc Try.prog W 0 (fun _ => true) true n f2.type [q2] = some y2 := by
  obtain ⟨xs, n, _, hx, _, hlen, hg⟩ := DataW.trod_struct hs h
  obtain ⟨o0, k0⟩ := hone_of hone 0 f0 rfl
  obtain ⟨o1, k1⟩ := hone_of hone 1 f1 rfl
  obtain ⟨o2, k2⟩ := hone_of hone 2 f2 rfl
  match xs, hlen with
  | [y0, y1, y2], _ =>
    subst hx
    exact ⟨y0, y1, y2, n, rfl, by simpa [o0, k0] using hg 0 f0 rfl, by simpa [o1, k1] using hg 1 f1 rfl, by simpa [o2, k2] using hg 2 f2 rfl⟩
theorem open7 {t : TypeId} {f0 f1 f2 f3 f4 f5 f6 : Field} {q0 q1 q2 q3 q4 q5 q6 : Value} {fuel : Nat} {x : DataW H × List MemPlace} (hs : Try.prog.underlying t = some (.struct #[f0, f1, f2, f3, f4, f5, f6])) (hone : oneCellFields Try.prog #[f0, f1, f2, f3, f4, f5, f6] = true)
    (h : DataW.trod enc Try.prog W 0 (fun _ => true) true fuel t [q0, q1, q2, q3, q4, q5, q6] = some x) :
    ∃ (y0 y1 y2 y3 y4 y5 y6 : DataW H × List MemPlace) (n : Nat), x.1 = .agg [y0.1, y1.1, y2.1, y3.1, y4.1, y5.1, y6.1] ∧ DataW.trod enc Try.prog W 0 (fun _ => true) true n f0.type [q0] = some y0 ∧ DataW.trod enc Try.prog W 0 (fun _ => true) true n f1.type [q1] = some y1 ∧ DataW.trod enc Try.prog W 0 (fun _ => true) true n f2.type [q2] = some y2 ∧ DataW.trod enc Try.prog W 0 (fun _ => true) true n f3.type [q3] = some y3 ∧ DataW.trod enc Try.prog W 0 (fun _ => true) true n f4.type [q4] = some y4 ∧ DataW.trod enc Try.prog W 0 (fun _ => true) true n f5.type [q5] = some y5 ∧ DataW.trod enc Try.prog W 0 (fun _ => true) true n f6.type [q6] = some y6 := by
  obtain ⟨xs, n, _, hx, _, hlen, hg⟩ := DataW.trod_struct hs h
  obtain ⟨o0, k0⟩ := hone_of hone 0 f0 rfl
  obtain ⟨o1, k1⟩ := hone_of hone 1 f1 rfl
  obtain ⟨o2, k2⟩ := hone_of hone 2 f2 rfl
  obtain ⟨o3, k3⟩ := hone_of hone 3 f3 rfl
  obtain ⟨o4, k4⟩ := hone_of hone 4 f4 rfl
  obtain ⟨o5, k5⟩ := hone_of hone 5 f5 rfl
  obtain ⟨o6, k6⟩ := hone_of hone 6 f6 rfl
  match xs, hlen with
  | [y0, y1, y2, y3, y4, y5, y6], _ =>
    subst hx
    exact ⟨y0, y1, y2, y3, y4, y5, y6, n, rfl, by simpa [o0, k0] using hg 0 f0 rfl, by simpa [o1, k1] using hg 1 f1 rfl, by simpa [o2, k2] using hg 2 f2 rfl, by simpa [o3, k3] using hg 3 f3 rfl, by simpa [o4, k4] using hg 4 f4 rfl, by simpa [o5, k5] using hg 5 f5 rfl, by simpa [o6, k6] using hg 6 f6 rfl⟩
/-- a slice of whole numbers, from its cell -/
theorem view_cell {t e : TypeId} {k : IntKind} {v : Value} {n : Nat} {x : DataW H × List MemPlace} (ht : Try.prog.underlying t = some (.slice e)) (he : Try.prog.underlying e = some (.int k)) (hc : Try.prog.cellsOf e = 1)
    (hsz : ∀ elems sp, x.1 = .slice elems sp → (elems.length + sp.length) * Try.prog.bytesOf e ≤ reachBytes) (hby : 1 ≤ Try.prog.bytesOf e)
    (hf : DataW.trod enc Try.prog W 0 (fun _ => true) true n t [v] = some x) : ∃ l, SlI W k v l := by
  rcases open_ints ht he hc hf with ⟨hcs, hx⟩ | ⟨a, len', cap', zs, hcs, _, hl, hm, hz, hx, hcell, hwz⟩
  · simp at hcs
    subst hcs
    exact ⟨[], SlI.nil _ _⟩
  · simp at hcs
    subst hcs
    subst hx
    simp only [if_true] at hz
    have hle : len' ≤ 140737488351232 := by
      have h1 := hsz _ _ rfl
      simp only [lits, List.length_map, List.length_take, List.length_drop, reachBytes] at h1
      have h2 : (min len' zs.length + (zs.length - len')) * 1 ≤ (min len' zs.length + (zs.length - len')) * Try.prog.bytesOf e := Nat.mul_le_mul_left _ hby
      omega
    have hlen : (zs.take len').length = len' := by simp; omega
    refine ⟨zs.take len', by omega, fun x hx => wrap_of_wf (hwz x (List.mem_of_mem_take hx)), some a, cap', by rw [hlen], by omega, fun i hi => ?_⟩
    have hi' : i < len' := by omega
    have hc := hcell i (by omega)
    have h0 := hcell 0 (by omega)
    obtain ⟨b, off, sp⟩ := a
    have hsp : sp = none := by simpa [Addr.add] using World.cell?_spot h0
    subst hsp
    rw [add_plain] at hc
    refine ⟨b, off, rfl, by simpa using World.block_lt_of_cell? W _ hc, ?_⟩
    rw [hc]
    simp [List.getD_eq_getElem?_getD, hi']
/-- a list of cases, from its cell -/
theorem view_cases {v : Value} {n : Nat} {x : DataW H × List MemPlace} (hsz : ∀ elems sp, x.1 = .slice elems sp → (elems.length + sp.length) * Try.prog.bytesOf 79 ≤ reachBytes)
    (hf : DataW.trod enc Try.prog W 0 (fun _ => true) true n 52 [v] = some x) : ∃ l, SlC W v l := by
  have hC : Try.prog.cellsOf 79 = 3 := by kernel_rfl
  rcases open_slice Try.underlying52 hf with ⟨hcs, hx⟩ | ⟨a, len, cap, m, n', D, Pl, hcs, _, hl, hm, hmm, hx, hi⟩
  · simp at hcs
    subst hcs
    exact ⟨[], SlC.nil _⟩
  · simp at hcs
    subst hcs
    subst hx
    simp only [if_true] at hmm
    subst hmm
    have hle : len ≤ 140737488351232 := by
      have h1 := hsz _ _ rfl
      have hb : Try.prog.bytesOf 79 = 24 := by kernel_rfl
      rw [hb] at h1
      simp only [List.length_map, List.length_range, reachBytes] at h1
      omega
    have each : ∀ i, i < m → ∃ c : CaseM, c.ok ∧ W.cell? (a.add (i * 3)) = some (.bool c.send) ∧ W.cell? (a.add (i * 3 + 1)) = some (.int .i64 c.chan) ∧ W.cell? (a.add (i * 3 + 2)) = some (.int .u64 c.val) := by
      intro i him
      obtain ⟨cs', hc', ht'⟩ := hi i him
      rw [hC] at hc'
      obtain ⟨_, hcl, hat⟩ := World.cells?_some hc'
      match cs', hcl with
      | [q0, q1, q2], _ =>
        obtain ⟨y0, y1, y2, n2, -, g0, g1, g2⟩ := open3 Try.underlying79 (by kernel_rfl) ht'
        obtain ⟨b, hb, -⟩ := DataW.trod_bool Try.underlying4 g0
        obtain ⟨z1, hz1, -, wz1⟩ := DataW.trod_int Try.underlying3 g1
        obtain ⟨z2, hz2, -, wz2⟩ := DataW.trod_int Try.underlying30 g2
        simp at hb hz1 hz2
        subst hb hz1 hz2
        have a0 := hat 0 (by omega)
        have a1 := hat 1 (by omega)
        have a2 := hat 2 (by omega)
        have aa : ∀ j, (a.add (i * 3)).add j = a.add (i * 3 + j) := fun j => by
          unfold Addr.add
          by_cases hi0 : i * 3 = 0 <;> by_cases hj : j = 0 <;> simp [hi0, hj, Nat.add_assoc]
        rw [aa] at a0 a1 a2
        exact ⟨⟨b, z1, z2⟩, ⟨wrap_of_wf wz1, wrap_of_wf wz2⟩, by simpa using a0, by simpa using a1, by simpa using a2⟩
    have each' : ∀ i, ∃ c : CaseM, i < m → c.ok ∧ W.cell? (a.add (i * 3)) = some (.bool c.send) ∧ W.cell? (a.add (i * 3 + 1)) = some (.int .i64 c.chan) ∧ W.cell? (a.add (i * 3 + 2)) = some (.int .u64 c.val) := fun i => by
      by_cases him : i < m
      · obtain ⟨c, hc⟩ := each i him; exact ⟨c, fun _ => hc⟩
      · exact ⟨noCase, fun h => absurd h him⟩
    refine ⟨(List.range len).map fun i => (each' i).choose, by simpa using hle, ?_, some a, m, by simp, by simpa using hl, fun i hi' => ?_⟩
    · intro c hc
      obtain ⟨i, hir, rfl⟩ := List.mem_map.1 hc
      exact ((each' i).choose_spec (by have := List.mem_range.1 hir; omega)).1
    · simp at hi'
      have hg : ((List.range len).map fun i => (each' i).choose).getD i noCase = (each' i).choose := by
        simp [List.getD_eq_getElem?_getD, hi']
      rw [hg]
      generalize hch : (each' i).choose = ch
      have hsp := (each' i).choose_spec (by omega)
      rw [hch] at hsp
      obtain ⟨-, c0, c1, c2⟩ := hsp
      clear hg hch
      have d0 := ((each' 0).choose_spec (by omega)).2.1
      obtain ⟨b, off, sp⟩ := a
      have hsp : sp = none := by simpa [Addr.add] using World.cell?_spot d0
      subst hsp
      rw [add_plain] at c0 c1 c2
      exact ⟨b, off, rfl, by simpa using World.block_lt_of_cell? W _ c0, c0, by simpa [Nat.add_assoc] using c1, by simpa [Nat.add_assoc] using c2⟩
/-- AN ARGUMENT THAT IS AN OPERATION. -/
theorem view_op {v : Value} {d : DataW H} {p : List MemPlace}
    (hsz : ∀ parts, d = .agg parts → (DataW.weightsEach Try.prog [3, 3, 3, 30, 3, 52, 37] parts).all (· ≤ reachBytes) = true)
    (hval : Value.okWide Try.prog W .any 0 54 v) (hd : DataW.Trod enc Try.prog W 0 (fun _ => true) true 54 v d p) : ∃ op, OpV W v op ∧ op.ok := by
  obtain ⟨cs, rfl, hcz⟩ := okWide_struct Try.underlying54 hval
  rw [show Try.prog.cellsOf 54 = 7 by kernel_rfl] at hcz
  obtain ⟨l⟩ := cs
  match l, hcz with
  | [q0, q1, q2, q3, q4, q5, q6], _ =>
    obtain ⟨fuel, hf⟩ := hd
    obtain ⟨y0, y1, y2, y3, y4, y5, y6, n, hx, g0, g1, g2, g3, g4, g5, g6⟩ := open7 Try.underlying54 (by kernel_rfl) hf
    have hsz' := hsz _ hx
    obtain ⟨z0, e0, -, w0⟩ := DataW.trod_int Try.underlying3 g0
    obtain ⟨z1, e1, -, w1⟩ := DataW.trod_int Try.underlying3 g1
    obtain ⟨z2, e2, -, w2⟩ := DataW.trod_int Try.underlying3 g2
    obtain ⟨z3, e3, -, w3⟩ := DataW.trod_int Try.underlying30 g3
    obtain ⟨z4, e4, -, w4⟩ := DataW.trod_int Try.underlying3 g4
    obtain ⟨lc, hlc⟩ := view_cases (v := q5) (fun elems sp hd => sized_slice hsz' (j := 5) (t := 52) (e := 79) rfl (by simp; exact hd) Try.underlying52) g5
    obtain ⟨ld, hld⟩ := view_cell (v := q6) (k := .i64) Try.underlying37 Try.underlying3 (by kernel_rfl) (fun elems sp hd => sized_slice hsz' (j := 6) (t := 37) (e := 3) rfl (by simp; exact hd) Try.underlying37) (of_decide_eq_true (by kernel_rfl)) g6
    simp at e0 e1 e2 e3 e4
    subst e0 e1 e2 e3 e4
    exact ⟨⟨z0, z1, z2, z3, z4, lc, ld⟩, ⟨q5, q6, rfl, hlc, hld⟩, wrap_of_wf w0, wrap_of_wf w1, wrap_of_wf w2, wrap_of_wf w3, wrap_of_wf w4⟩
end
end Go.Proofs.Ytnbehigjeopniaa
/- make and append on lists of numbers that the call owns, at this dump's types. -/
namespace Go.Proofs.Ytnbehigjeopniaa
open Go.ChangeShapes Go.WideShapes Go.ChangeAt Go.RowKit
set_option maxRecDepth 100000
theorem toList_madeCells_one' (z : Value) (n : Nat) : (madeCells #[z] n).toList = List.replicate n z := toList_madeCells_one z n
theorem Try.info_i64 : (Try.prog.info? 3).map (fun i => (i.zero, i.size, i.bytes)) = some (some (.int .i64 0), 1, 8) := by kernel_rfl
theorem wp_make_i64 (w : World) {ops : Array Oper} {rest : List Oper} {o : Oper} {a : Act} {Q : Exit → Act → World → Prop}
    (hg : o.guard = none) (l c : Operand) (hop : o.op = Op.makeSlice 37 l c) (n : Nat) (L C : Int) (hl : a.eval l = .int .i64 L) (hc : a.eval c = .int .i64 C) (hL : L = n) (hC : C = n) (hn : n ≤ 1000000)
    (hK : ∀ w', OwnI w' w.heap.size 3 .i64 (.slice (some ⟨w.heap.size, 0, none⟩) n n) (List.replicate n 0) → Below w.heap.size w w' → wpList Try.prog ops Q rest (a.put o.dst (.slice (some ⟨w.heap.size, 0, none⟩) n n)) w') :
    wpList Try.prog ops Q (o :: rest) a w := by
  obtain ⟨i0, hi, hz0, hz1, hz2⟩ := info_parts Try.info_i64
  refine wpList_make_full w hg l c _ hop w.heap.size 3 i0 (.int .i64 0) 1 Try.underlying37 hi hz0 hz1 _ _ _ _ n hl hc hL hC (by rw [hz2]; omega) (by unfold maxLen; omega) (Nat.le_refl _) fun w' h1 h2 => ?_
  refine hK w' ?_ ((Below.refl _ _).grown h2 (Nat.le_refl _) (fun k hk => by cases hk))
  unfold OwnI
  rw [show (Value.int .i64 0).cells = #[.int .i64 0] from rfl, toList_madeCells_one'] at h1
  simpa using h1
/-- append of one element to a list that the call owns -/
theorem wp_append_i64 (w : World) {ops : Array Oper} {rest : List Oper} {o : Oper} {a : Act} {Q : Exit → Act → World → Prop}
    (hg : o.guard = none) (s x : Operand) (hop : o.op = Op.call { callee := Callee.builtin Builtin.append, args := #[s, x], argTypes := #[37, 37] })
    (base : Nat) (v : Value) (l : List Int) (hs : a.eval s = v) (hown : OwnI w base 3 .i64 v l) (y : Int) (g : Nat)
    (hx : a.eval x = .slice (some ⟨g, 0, none⟩) 1 1) (hcell : w.cell? ⟨g, 0, none⟩ = some (.int .i64 y)) (hl : l.length ≤ 1000000) (hb : base ≤ w.heap.size)
    (hK : ∀ v' w', OwnI w' base 3 .i64 v' (l ++ [y]) → w.grownBy w' v.ownBlock → wpList Try.prog ops Q rest (a.put o.dst v') w') :
    wpList Try.prog ops Q (o :: rest) a w := by
  obtain ⟨i0, hi, hz0, hz1, hz2⟩ := info_parts Try.info_i64
  refine wpList_append_own w hg s x _ hop base _ i0 (.int .i64 0) 1 _ (by kernel_rfl) hi hz0 hz1 rfl rfl (by decide) v l.length _ hs hown ⟨g, 0, none⟩ 1 1 [.int .i64 y] hx rfl ?_ ?_ (by unfold maxLen; omega) (by rw [hz2]; omega) hb fun v' w' h1 h2 h3 => hK v' w' ?_ h2
  · intro j u hj
    match j, hj with
    | 0, hj => simp at hj; subst hj; simpa [Addr.add] using hcell
  · intro u hu; simp at hu; subst hu; rfl
  · unfold OwnI
    rw [List.length_append, List.map_append]
    exact h1
/-- append of a whole list, that is not empty, to nil: a copy -/
theorem wp_copy_i64 (w : World) {ops : Array Oper} {rest : List Oper} {o : Oper} {a : Act} {Q : Exit → Act → World → Prop}
    (hg : o.guard = none) (s x : Operand) (hop : o.op = Op.call { callee := Callee.builtin Builtin.append, args := #[s, x], argTypes := #[37, 37] })
    (xv : Value) (l : List Int) (hs : a.eval s = .slice none 0 0) (hx : a.eval x = xv) (hS : SlI w .i64 xv l) (hne : l ≠ []) (hl : l.length ≤ 1000000)
    (hK : ∀ g cap w', OwnI w' w.heap.size 3 .i64 (.slice (some ⟨g, 0, none⟩) l.length cap) l → Below w.heap.size w w' → w.heap.size ≤ g → wpList Try.prog ops Q rest (a.put o.dst (.slice (some ⟨g, 0, none⟩) l.length cap)) w') :
    wpList Try.prog ops Q (o :: rest) a w := by
  obtain ⟨i0, hi, hz0, hz1, hz2⟩ := info_parts Try.info_i64
  obtain ⟨b, off, cap, rfl, hcap, hb, hc⟩ := hS.open hne
  refine wpList_append_own w hg s x _ hop w.heap.size _ i0 (.int .i64 0) 1 _ (by kernel_rfl) hi hz0 hz1 rfl rfl (by decide) (.slice none 0 0) 0 [] hs (World.ownsRow_nil _ _ _ _) ⟨b, off, none⟩ l.length cap (l.map (Value.int .i64)) hx (by simp) ?_ ?_ (by unfold maxLen; omega) (by rw [hz2]; omega) (Nat.le_refl _) fun v' w' h1 h2 _ => ?_
  · intro j u hj
    rw [add_plain]
    simp only [List.getElem?_map, Option.map_eq_some_iff] at hj
    obtain ⟨y, hy, rfl⟩ := hj
    have hjl : j < l.length := (List.getElem?_eq_some_iff.1 hy).1
    rw [hc j hjl, List.getD_eq_getElem?_getD, hy]; rfl
  · intro u hu; simp only [List.mem_map] at hu; obtain ⟨y, _, rfl⟩ := hu; rfl
  · have ho : OwnI w' w.heap.size 3 .i64 v' l := by unfold OwnI; simpa using h1
    rcases ho.shape with ⟨_, h⟩ | ⟨g, cap', rfl, hg1, _⟩
    · exact absurd h hne
    · exact hK g cap' w' ho ((Below.refl _ _).grown h2 (Nat.le_refl _) (fun j hj => by cases hj)) hg1
/-- the same inside a region that draws its order -/
theorem step_append_i64 {w : World} {ops : Array Oper} {o : Oper} {a : Act} {K : Act → World → Prop} {Q : Exit → Act → World → Prop} {E : Prop}
    (hgd : o.guard = none) (s x : Operand) (hop : o.op = Op.call { callee := Callee.builtin Builtin.append, args := #[s, x], argTypes := #[37, 37] })
    (base : Nat) (v : Value) (l : List Int) (hs : a.eval s = v) (hown : OwnI w base 3 .i64 v l) (y : Int) (g : Nat)
    (hx : a.eval x = .slice (some ⟨g, 0, none⟩) 1 1) (hcell : w.cell? ⟨g, 0, none⟩ = some (.int .i64 y)) (hl : l.length ≤ 1000000) (hb : base ≤ w.heap.size)
    (hK : ∀ v' w', OwnI w' base 3 .i64 v' (l ++ [y]) → w.grownBy w' v.ownBlock → K (a.put o.dst v') w') :
    if Region.wanted o (yielded ops a.tmps) = true then Oper.wp Try.prog o a w K Q else E := by
  have hw : Region.wanted o (yielded ops a.tmps) = true := by simp [Region.wanted, hgd]
  rw [if_pos hw]
  obtain ⟨i0, hi, hz0, hz1, hz2⟩ := info_parts Try.info_i64
  refine wp_append_own w s x _ hop base _ i0 (.int .i64 0) 1 _ (by kernel_rfl) hi hz0 hz1 rfl rfl (by decide) v l.length _ hs hown ⟨g, 0, none⟩ 1 1 [.int .i64 y] hx rfl ?_ ?_ (by unfold maxLen; omega) (by rw [hz2]; omega) hb fun v' w' h1 h2 _ => hK v' w' ?_ h2
  · intro j u hj
    match j, hj with
    | 0, hj => simp at hj; subst hj; simpa [Addr.add] using hcell
  · intro u hu; simp at hu; subst hu; rfl
  · unfold OwnI
    rw [List.length_append, List.map_append]
    exact h1
theorem Try.info_u64 : (Try.prog.info? 30).map (fun i => (i.zero, i.size, i.bytes)) = some (some (.int .u64 0), 1, 8) := by kernel_rfl
theorem wp_make_u64 (w : World) {ops : Array Oper} {rest : List Oper} {o : Oper} {a : Act} {Q : Exit → Act → World → Prop}
    (hg : o.guard = none) (l c : Operand) (hop : o.op = Op.makeSlice 58 l c) (n : Nat) (L C : Int) (hl : a.eval l = .int .i64 L) (hc : a.eval c = .int .i64 C) (hL : L = n) (hC : C = n) (hn : n ≤ 1000000)
    (hK : ∀ w', OwnI w' w.heap.size 30 .u64 (.slice (some ⟨w.heap.size, 0, none⟩) n n) (List.replicate n 0) → Below w.heap.size w w' → wpList Try.prog ops Q rest (a.put o.dst (.slice (some ⟨w.heap.size, 0, none⟩) n n)) w') :
    wpList Try.prog ops Q (o :: rest) a w := by
  obtain ⟨i0, hi, hz0, hz1, hz2⟩ := info_parts Try.info_u64
  refine wpList_make_full w hg l c _ hop w.heap.size 30 i0 (.int .u64 0) 1 Try.underlying58 hi hz0 hz1 _ _ _ _ n hl hc hL hC (by rw [hz2]; omega) (by unfold maxLen; omega) (Nat.le_refl _) fun w' h1 h2 => ?_
  refine hK w' ?_ ((Below.refl _ _).grown h2 (Nat.le_refl _) (fun k hk => by cases hk))
  unfold OwnI
  rw [show (Value.int .u64 0).cells = #[.int .u64 0] from rfl, toList_madeCells_one'] at h1
  simpa using h1
/-- append of one element to a list that the call owns -/
theorem wp_append_u64 (w : World) {ops : Array Oper} {rest : List Oper} {o : Oper} {a : Act} {Q : Exit → Act → World → Prop}
    (hg : o.guard = none) (s x : Operand) (hop : o.op = Op.call { callee := Callee.builtin Builtin.append, args := #[s, x], argTypes := #[58, 58] })
    (base : Nat) (v : Value) (l : List Int) (hs : a.eval s = v) (hown : OwnI w base 30 .u64 v l) (y : Int) (g : Nat)
    (hx : a.eval x = .slice (some ⟨g, 0, none⟩) 1 1) (hcell : w.cell? ⟨g, 0, none⟩ = some (.int .u64 y)) (hl : l.length ≤ 1000000) (hb : base ≤ w.heap.size)
    (hK : ∀ v' w', OwnI w' base 30 .u64 v' (l ++ [y]) → w.grownBy w' v.ownBlock → wpList Try.prog ops Q rest (a.put o.dst v') w') :
    wpList Try.prog ops Q (o :: rest) a w := by
  obtain ⟨i0, hi, hz0, hz1, hz2⟩ := info_parts Try.info_u64
  refine wpList_append_own w hg s x _ hop base _ i0 (.int .u64 0) 1 _ (by kernel_rfl) hi hz0 hz1 rfl rfl (by decide) v l.length _ hs hown ⟨g, 0, none⟩ 1 1 [.int .u64 y] hx rfl ?_ ?_ (by unfold maxLen; omega) (by rw [hz2]; omega) hb fun v' w' h1 h2 h3 => hK v' w' ?_ h2
  · intro j u hj
    match j, hj with
    | 0, hj => simp at hj; subst hj; simpa [Addr.add] using hcell
  · intro u hu; simp at hu; subst hu; rfl
  · unfold OwnI
    rw [List.length_append, List.map_append]
    exact h1
/-- append of a whole list, that is not empty, to nil: a copy -/
theorem wp_copy_u64 (w : World) {ops : Array Oper} {rest : List Oper} {o : Oper} {a : Act} {Q : Exit → Act → World → Prop}
    (hg : o.guard = none) (s x : Operand) (hop : o.op = Op.call { callee := Callee.builtin Builtin.append, args := #[s, x], argTypes := #[58, 58] })
    (xv : Value) (l : List Int) (hs : a.eval s = .slice none 0 0) (hx : a.eval x = xv) (hS : SlI w .u64 xv l) (hne : l ≠ []) (hl : l.length ≤ 1000000)
    (hK : ∀ g cap w', OwnI w' w.heap.size 30 .u64 (.slice (some ⟨g, 0, none⟩) l.length cap) l → Below w.heap.size w w' → w.heap.size ≤ g → wpList Try.prog ops Q rest (a.put o.dst (.slice (some ⟨g, 0, none⟩) l.length cap)) w') :
    wpList Try.prog ops Q (o :: rest) a w := by
  obtain ⟨i0, hi, hz0, hz1, hz2⟩ := info_parts Try.info_u64
  obtain ⟨b, off, cap, rfl, hcap, hb, hc⟩ := hS.open hne
  refine wpList_append_own w hg s x _ hop w.heap.size _ i0 (.int .u64 0) 1 _ (by kernel_rfl) hi hz0 hz1 rfl rfl (by decide) (.slice none 0 0) 0 [] hs (World.ownsRow_nil _ _ _ _) ⟨b, off, none⟩ l.length cap (l.map (Value.int .u64)) hx (by simp) ?_ ?_ (by unfold maxLen; omega) (by rw [hz2]; omega) (Nat.le_refl _) fun v' w' h1 h2 _ => ?_
  · intro j u hj
    rw [add_plain]
    simp only [List.getElem?_map, Option.map_eq_some_iff] at hj
    obtain ⟨y, hy, rfl⟩ := hj
    have hjl : j < l.length := (List.getElem?_eq_some_iff.1 hy).1
    rw [hc j hjl, List.getD_eq_getElem?_getD, hy]; rfl
  · intro u hu; simp only [List.mem_map] at hu; obtain ⟨y, _, rfl⟩ := hu; rfl
  · have ho : OwnI w' w.heap.size 30 .u64 v' l := by unfold OwnI; simpa using h1
    rcases ho.shape with ⟨_, h⟩ | ⟨g, cap', rfl, hg1, _⟩
    · exact absurd h hne
    · exact hK g cap' w' ho ((Below.refl _ _).grown h2 (Nat.le_refl _) (fun j hj => by cases hj)) hg1
/-- the same inside a region that draws its order -/
theorem step_append_u64 {w : World} {ops : Array Oper} {o : Oper} {a : Act} {K : Act → World → Prop} {Q : Exit → Act → World → Prop} {E : Prop}
    (hgd : o.guard = none) (s x : Operand) (hop : o.op = Op.call { callee := Callee.builtin Builtin.append, args := #[s, x], argTypes := #[58, 58] })
    (base : Nat) (v : Value) (l : List Int) (hs : a.eval s = v) (hown : OwnI w base 30 .u64 v l) (y : Int) (g : Nat)
    (hx : a.eval x = .slice (some ⟨g, 0, none⟩) 1 1) (hcell : w.cell? ⟨g, 0, none⟩ = some (.int .u64 y)) (hl : l.length ≤ 1000000) (hb : base ≤ w.heap.size)
    (hK : ∀ v' w', OwnI w' base 30 .u64 v' (l ++ [y]) → w.grownBy w' v.ownBlock → K (a.put o.dst v') w') :
    if Region.wanted o (yielded ops a.tmps) = true then Oper.wp Try.prog o a w K Q else E := by
  have hw : Region.wanted o (yielded ops a.tmps) = true := by simp [Region.wanted, hgd]
  rw [if_pos hw]
  obtain ⟨i0, hi, hz0, hz1, hz2⟩ := info_parts Try.info_u64
  refine wp_append_own w s x _ hop base _ i0 (.int .u64 0) 1 _ (by kernel_rfl) hi hz0 hz1 rfl rfl (by decide) v l.length _ hs hown ⟨g, 0, none⟩ 1 1 [.int .u64 y] hx rfl ?_ ?_ (by unfold maxLen; omega) (by rw [hz2]; omega) hb fun v' w' h1 h2 _ => hK v' w' ?_ h2
  · intro j u hj
    match j, hj with
    | 0, hj => simp at hj; subst hj; simpa [Addr.add] using hcell
  · intro u hu; simp at hu; subst hu; rfl
  · unfold OwnI
    rw [List.length_append, List.map_append]
    exact h1
theorem Try.info_u8 : (Try.prog.info? 5).map (fun i => (i.zero, i.size, i.bytes)) = some (some (.int .u8 0), 1, 1) := by kernel_rfl
theorem wp_make_u8 (w : World) {ops : Array Oper} {rest : List Oper} {o : Oper} {a : Act} {Q : Exit → Act → World → Prop}
    (hg : o.guard = none) (l c : Operand) (hop : o.op = Op.makeSlice 22 l c) (n : Nat) (L C : Int) (hl : a.eval l = .int .i64 L) (hc : a.eval c = .int .i64 C) (hL : L = n) (hC : C = n) (hn : n ≤ 1000000)
    (hK : ∀ w', OwnI w' w.heap.size 5 .u8 (.slice (some ⟨w.heap.size, 0, none⟩) n n) (List.replicate n 0) → Below w.heap.size w w' → wpList Try.prog ops Q rest (a.put o.dst (.slice (some ⟨w.heap.size, 0, none⟩) n n)) w') :
    wpList Try.prog ops Q (o :: rest) a w := by
  obtain ⟨i0, hi, hz0, hz1, hz2⟩ := info_parts Try.info_u8
  refine wpList_make_full w hg l c _ hop w.heap.size 5 i0 (.int .u8 0) 1 Try.underlying22 hi hz0 hz1 _ _ _ _ n hl hc hL hC (by rw [hz2]; omega) (by unfold maxLen; omega) (Nat.le_refl _) fun w' h1 h2 => ?_
  refine hK w' ?_ ((Below.refl _ _).grown h2 (Nat.le_refl _) (fun k hk => by cases hk))
  unfold OwnI
  rw [show (Value.int .u8 0).cells = #[.int .u8 0] from rfl, toList_madeCells_one'] at h1
  simpa using h1
/-- append of one element to a list that the call owns -/
theorem wp_append_u8 (w : World) {ops : Array Oper} {rest : List Oper} {o : Oper} {a : Act} {Q : Exit → Act → World → Prop}
    (hg : o.guard = none) (s x : Operand) (hop : o.op = Op.call { callee := Callee.builtin Builtin.append, args := #[s, x], argTypes := #[22, 22] })
    (base : Nat) (v : Value) (l : List Int) (hs : a.eval s = v) (hown : OwnI w base 5 .u8 v l) (y : Int) (g : Nat)
    (hx : a.eval x = .slice (some ⟨g, 0, none⟩) 1 1) (hcell : w.cell? ⟨g, 0, none⟩ = some (.int .u8 y)) (hl : l.length ≤ 1000000) (hb : base ≤ w.heap.size)
    (hK : ∀ v' w', OwnI w' base 5 .u8 v' (l ++ [y]) → w.grownBy w' v.ownBlock → wpList Try.prog ops Q rest (a.put o.dst v') w') :
    wpList Try.prog ops Q (o :: rest) a w := by
  obtain ⟨i0, hi, hz0, hz1, hz2⟩ := info_parts Try.info_u8
  refine wpList_append_own w hg s x _ hop base _ i0 (.int .u8 0) 1 _ (by kernel_rfl) hi hz0 hz1 rfl rfl (by decide) v l.length _ hs hown ⟨g, 0, none⟩ 1 1 [.int .u8 y] hx rfl ?_ ?_ (by unfold maxLen; omega) (by rw [hz2]; omega) hb fun v' w' h1 h2 h3 => hK v' w' ?_ h2
  · intro j u hj
    match j, hj with
    | 0, hj => simp at hj; subst hj; simpa [Addr.add] using hcell
  · intro u hu; simp at hu; subst hu; rfl
  · unfold OwnI
    rw [List.length_append, List.map_append]
    exact h1
/-- append of a whole list, that is not empty, to nil: a copy -/
theorem wp_copy_u8 (w : World) {ops : Array Oper} {rest : List Oper} {o : Oper} {a : Act} {Q : Exit → Act → World → Prop}
    (hg : o.guard = none) (s x : Operand) (hop : o.op = Op.call { callee := Callee.builtin Builtin.append, args := #[s, x], argTypes := #[22, 22] })
    (xv : Value) (l : List Int) (hs : a.eval s = .slice none 0 0) (hx : a.eval x = xv) (hS : SlI w .u8 xv l) (hne : l ≠ []) (hl : l.length ≤ 1000000)
    (hK : ∀ g cap w', OwnI w' w.heap.size 5 .u8 (.slice (some ⟨g, 0, none⟩) l.length cap) l → Below w.heap.size w w' → w.heap.size ≤ g → wpList Try.prog ops Q rest (a.put o.dst (.slice (some ⟨g, 0, none⟩) l.length cap)) w') :
    wpList Try.prog ops Q (o :: rest) a w := by
  obtain ⟨i0, hi, hz0, hz1, hz2⟩ := info_parts Try.info_u8
  obtain ⟨b, off, cap, rfl, hcap, hb, hc⟩ := hS.open hne
  refine wpList_append_own w hg s x _ hop w.heap.size _ i0 (.int .u8 0) 1 _ (by kernel_rfl) hi hz0 hz1 rfl rfl (by decide) (.slice none 0 0) 0 [] hs (World.ownsRow_nil _ _ _ _) ⟨b, off, none⟩ l.length cap (l.map (Value.int .u8)) hx (by simp) ?_ ?_ (by unfold maxLen; omega) (by rw [hz2]; omega) (Nat.le_refl _) fun v' w' h1 h2 _ => ?_
  · intro j u hj
    rw [add_plain]
    simp only [List.getElem?_map, Option.map_eq_some_iff] at hj
    obtain ⟨y, hy, rfl⟩ := hj
    have hjl : j < l.length := (List.getElem?_eq_some_iff.1 hy).1
    rw [hc j hjl, List.getD_eq_getElem?_getD, hy]; rfl
  · intro u hu; simp only [List.mem_map] at hu; obtain ⟨y, _, rfl⟩ := hu; rfl
  · have ho : OwnI w' w.heap.size 5 .u8 v' l := by unfold OwnI; simpa using h1
    rcases ho.shape with ⟨_, h⟩ | ⟨g, cap', rfl, hg1, _⟩
    · exact absurd h hne
    · exact hK g cap' w' ho ((Below.refl _ _).grown h2 (Nat.le_refl _) (fun j hj => by cases hj)) hg1
/-- the same inside a region that draws its order -/
theorem step_append_u8 {w : World} {ops : Array Oper} {o : Oper} {a : Act} {K : Act → World → Prop} {Q : Exit → Act → World → Prop} {E : Prop}
    (hgd : o.guard = none) (s x : Operand) (hop : o.op = Op.call { callee := Callee.builtin Builtin.append, args := #[s, x], argTypes := #[22, 22] })
    (base : Nat) (v : Value) (l : List Int) (hs : a.eval s = v) (hown : OwnI w base 5 .u8 v l) (y : Int) (g : Nat)
    (hx : a.eval x = .slice (some ⟨g, 0, none⟩) 1 1) (hcell : w.cell? ⟨g, 0, none⟩ = some (.int .u8 y)) (hl : l.length ≤ 1000000) (hb : base ≤ w.heap.size)
    (hK : ∀ v' w', OwnI w' base 5 .u8 v' (l ++ [y]) → w.grownBy w' v.ownBlock → K (a.put o.dst v') w') :
    if Region.wanted o (yielded ops a.tmps) = true then Oper.wp Try.prog o a w K Q else E := by
  have hw : Region.wanted o (yielded ops a.tmps) = true := by simp [Region.wanted, hgd]
  rw [if_pos hw]
  obtain ⟨i0, hi, hz0, hz1, hz2⟩ := info_parts Try.info_u8
  refine wp_append_own w s x _ hop base _ i0 (.int .u8 0) 1 _ (by kernel_rfl) hi hz0 hz1 rfl rfl (by decide) v l.length _ hs hown ⟨g, 0, none⟩ 1 1 [.int .u8 y] hx rfl ?_ ?_ (by unfold maxLen; omega) (by rw [hz2]; omega) hb fun v' w' h1 h2 _ => hK v' w' ?_ h2
  · intro j u hj
    match j, hj with
    | 0, hj => simp at hj; subst hj; simpa [Addr.add] using hcell
  · intro u hu; simp at hu; subst hu; rfl
  · unfold OwnI
    rw [List.length_append, List.map_append]
    exact h1
theorem Try.info_bool : (Try.prog.info? 4).map (fun i => (i.zero, i.size, i.bytes)) = some (some (.bool false), 1, 1) := by kernel_rfl
theorem wp_make_bool (w : World) {ops : Array Oper} {rest : List Oper} {o : Oper} {a : Act} {Q : Exit → Act → World → Prop}
    (hg : o.guard = none) (l c : Operand) (hop : o.op = Op.makeSlice 51 l c) (n : Nat) (L C : Int) (hl : a.eval l = .int .i64 L) (hc : a.eval c = .int .i64 C) (hL : L = n) (hC : C = n) (hn : n ≤ 1000000)
    (hK : ∀ w', OwnB w' w.heap.size 4 (.slice (some ⟨w.heap.size, 0, none⟩) n n) (List.replicate n false) → Below w.heap.size w w' → wpList Try.prog ops Q rest (a.put o.dst (.slice (some ⟨w.heap.size, 0, none⟩) n n)) w') :
    wpList Try.prog ops Q (o :: rest) a w := by
  obtain ⟨i0, hi, hz0, hz1, hz2⟩ := info_parts Try.info_bool
  refine wpList_make_full w hg l c _ hop w.heap.size 4 i0 (.bool false) 1 Try.underlying51 hi hz0 hz1 _ _ _ _ n hl hc hL hC (by rw [hz2]; omega) (by unfold maxLen; omega) (Nat.le_refl _) fun w' h1 h2 => ?_
  refine hK w' ?_ ((Below.refl _ _).grown h2 (Nat.le_refl _) (fun k hk => by cases hk))
  unfold OwnB
  rw [show (Value.bool false).cells = #[.bool false] from rfl, toList_madeCells_one'] at h1
  simpa using h1
end Go.Proofs.Ytnbehigjeopniaa
