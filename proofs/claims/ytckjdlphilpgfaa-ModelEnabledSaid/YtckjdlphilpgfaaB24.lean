import Derived.Deep.Fields
import Derived.Deep.Slices
import Derived.Deep.DeepCutAuto
import Derived.Deep.CutBlock
import Derived.Test.YtckjdlphilpgfaaB01
import Derived.Test.YtckjdlphilpgfaaB16
import Derived.Test.YtckjdlphilpgfaaB05
import Derived.Test.YtckjdlphilpgfaaB20
import Derived.Test.YtckjdlphilpgfaaB02
set_option linter.unusedVariables false
set_option linter.unusedSimpArgs false
/- From the reading of an argument that is an operation to the words of the walks. -/
namespace Go.Proofs.Ytckjdlphilpgfaa
open Go.ChangeShapes Go.WideShapes Go.ChangeAt Go.RowKit Go.Deep
set_option maxRecDepth 100000

section
variable {H : Type} {enc : TypeId × Value → H} {W : World}
theorem sized_agg {ts : List TypeId} {ds parts : List (DataW H)} {j : Nat} {t : TypeId} {fs : Array Field} (h : (DataW.weightsEach Try.prog ts ds).all (· ≤ reachBytes) = true) (ht : ts[j]? = some t) (hd : ds[j]? = some (.agg parts)) (hu : Try.prog.underlying t = some (.struct fs)) :
    (DataW.weightsEach Try.prog (fs.toList.map (·.type)) parts).all (· ≤ reachBytes) = true := by
  rw [List.all_eq_true]
  intro n hn
  have := DataW.weights_mem_each (P := Try.prog) ht hd n (by simp only [DataW.weights, hu]; exact hn)
  exact List.all_eq_true.1 h n this
theorem open3 {t : TypeId} {f0 f1 f2 : Field} {q0 q1 q2 : Value} {fuel : Nat} {x : DataW H × List MemPlace} (hs : Try.prog.underlying t = some (.struct #[f0, f1, f2])) (hone : oneCellFields Try.prog #[f0, f1, f2] = true)
    (h : DataW.trod enc Try.prog W 0 (fun _ => true) true fuel t [q0, q1, q2] = some x) :
    ∃ (y0 y1 y2 : DataW H × List MemPlace) (n : Nat), x.1 = .agg [y0.1, y1.1, y2.1] ∧ DataW.trod enc Try.prog W 0 (fun _ => true) true n f0.type [q0] = some y0 ∧ DataW.trod enc Try.prog W 0 (fun _ => true) true n f1.type [q1] = some y1 ∧ DataW.trod enc Try.prog W 0 (fun _ => true) true n f2.type [q2] = some y2 := by
  obtain ⟨xs, n, _, hx, _, hlen, hg⟩ := DataW.trod_struct hs h
  obtain ⟨o0, k0⟩ := hone_of hone 0 f0 rfl
  obtain ⟨o1, k1⟩ := hone_of hone 1 f1 rfl
  obtain ⟨o2, k2⟩ := hone_of hone 2 f2 rfl
  match xs, hlen with
  | [y0, y1, y2], _ =>
    subst hx
    exact ⟨y0, y1, y2, n, rfl, by simpa [o0, k0] using hg 0 f0 rfl, by simpa [o1, k1] using hg 1 f1 rfl, by simpa [o2, k2] using hg 2 f2 rfl⟩
theorem open7 {t : TypeId} {f0 f1 f2 f3 f4 f5 f6 : Field} {q0 q1 q2 q3 q4 q5 q6 : Value} {fuel : Nat} {x : DataW H × List MemPlace} (hs : Try.prog.underlying t = some (.struct #[f0, f1, f2, f3, f4, f5, f6])) (hone : oneCellFields Try.prog #[f0, f1, f2, f3, f4, f5, f6] = true)
    (h : DataW.trod enc Try.prog W 0 (fun _ => true) true fuel t [q0, q1, q2, q3, q4, q5, q6] = some x) :
    ∃ (y0 y1 y2 y3 y4 y5 y6 : DataW H × List MemPlace) (n : Nat), x.1 = .agg [y0.1, y1.1, y2.1, y3.1, y4.1, y5.1, y6.1] ∧ DataW.trod enc Try.prog W 0 (fun _ => true) true n f0.type [q0] = some y0 ∧ DataW.trod enc Try.prog W 0 (fun _ => true) true n f1.type [q1] = some y1 ∧ DataW.trod enc Try.prog W 0 (fun _ => true) true n f2.type [q2] = some y2 ∧ DataW.trod enc Try.prog W 0 (fun _ => true) true n f3.type [q3] = some y3 ∧ DataW.trod enc Try.prog W 0 (fun _ => true) true n f4.type [q4] = some y4 ∧ DataW.trod enc Try.prog W 0 (fun _ => true) true n f5.type [q5] = some y5 ∧ DataW.trod enc Try.prog W 0 (fun _ => true) true n f6.type [q6] = some y6 := by
  obtain ⟨xs, n, _, hx, _, hlen, hg⟩ := DataW.trod_struct hs h
  obtain ⟨o0, k0⟩ := hone_of hone 0 f0 rfl
  obtain ⟨o1, k1⟩ := hone_of hone 1 f1 rfl
  obtain ⟨o2, k2⟩ := hone_of hone 2 f2 rfl
  obtain ⟨o3, k3⟩ := hone_of hone 3 f3 rfl
  obtain ⟨o4, k4⟩ := hone_of hone 4 f4 rfl
  obtain ⟨o5, k5⟩ := hone_of hone 5 f5 rfl
  obtain ⟨o6, k6⟩ := hone_of hone 6 f6 rfl
  match xs, hlen with
  | [y0, y1, y2, y3, y4, y5, y6], _ =>
    subst hx
    exact ⟨y0, y1, y2, y3, y4, y5, y6, n, rfl, by simpa [o0, k0] using hg 0 f0 rfl, by simpa [o1, k1] using hg 1 f1 rfl, by simpa [o2, k2] using hg 2 f2 rfl, by simpa [o3, k3] using hg 3 f3 rfl, by simpa [o4, k4] using hg 4 f4 rfl, by simpa [o5, k5] using hg 5 f5 rfl, by simpa [o6, k6] using hg 6 f6 rfl⟩
/-- a slice of whole numbers, from its cell -/
theorem view_cell {t e : TypeId} {k : IntKind} {v : Value} {n : Nat} {x : DataW H × List MemPlace} (ht : Try.prog.underlying t = some (.slice e)) (he : Try.prog.underlying e = some (.int k)) (hc : Try.prog.cellsOf e = 1)
    (hsz : ∀ elems sp, x.1 = .slice elems sp → (elems.length + sp.length) * Try.prog.bytesOf e ≤ reachBytes) (hby : 1 ≤ Try.prog.bytesOf e)
    (hf : DataW.trod enc Try.prog W 0 (fun _ => true) true n t [v] = some x) : ∃ l, SlI W k v l := by
  rcases open_ints ht he hc hf with ⟨hcs, hx⟩ | ⟨a, len', cap', zs, hcs, _, hl, hm, hz, hx, hcell, hwz⟩
  · simp at hcs
    subst hcs
    exact ⟨[], SlI.nil _ _⟩
  · simp at hcs
    subst hcs
    subst hx
    simp only [if_true] at hz
    have hle : len' ≤ 140737488351232 := by
      have h1 := hsz _ _ rfl
      simp only [lits, List.length_map, List.length_take, List.length_drop, reachBytes] at h1
      have h2 : (min len' zs.length + (zs.length - len')) * 1 ≤ (min len' zs.length + (zs.length - len')) * Try.prog.bytesOf e := Nat.mul_le_mul_left _ hby
      omega
    have hlen : (zs.take len').length = len' := by simp; omega
    refine ⟨zs.take len', by omega, fun x hx => wrap_of_wf (hwz x (List.mem_of_mem_take hx)), some a, cap', by rw [hlen], by omega, fun i hi => ?_⟩
    have hi' : i < len' := by omega
    have hc := hcell i (by omega)
    have h0 := hcell 0 (by omega)
    obtain ⟨b, off, sp⟩ := a
    have hsp : sp = none := by simpa [Addr.add] using World.cell?_spot h0
    subst hsp
    rw [add_plain] at hc
    refine ⟨b, off, rfl, by simpa using World.block_lt_of_cell? W _ hc, ?_⟩
    rw [hc]
    simp [List.getD_eq_getElem?_getD, hi']
/-- a list of cases, from its cell -/
theorem view_cases {v : Value} {n : Nat} {x : DataW H × List MemPlace} (hsz : ∀ elems sp, x.1 = .slice elems sp → (elems.length + sp.length) * Try.prog.bytesOf 63 ≤ reachBytes)
    (hf : DataW.trod enc Try.prog W 0 (fun _ => true) true n 36 [v] = some x) : ∃ l, SlC W v l := by
  have hC : Try.prog.cellsOf 63 = 3 := by kernel_rfl
  rcases open_slice Try.underlying36 hf with ⟨hcs, hx⟩ | ⟨a, len, cap, m, n', D, Pl, hcs, _, hl, hm, hmm, hx, hi⟩
  · simp at hcs
    subst hcs
    exact ⟨[], SlC.nil _⟩
  · simp at hcs
    subst hcs
    subst hx
    simp only [if_true] at hmm
    subst hmm
    have hle : len ≤ 140737488351232 := by
      have h1 := hsz _ _ rfl
      have hb : Try.prog.bytesOf 63 = 24 := by kernel_rfl
      rw [hb] at h1
      simp only [List.length_map, List.length_range, reachBytes] at h1
      omega
    have each : ∀ i, i < m → ∃ c : CaseM, c.ok ∧ W.cell? (a.add (i * 3)) = some (.bool c.send) ∧ W.cell? (a.add (i * 3 + 1)) = some (.int .i64 c.chan) ∧ W.cell? (a.add (i * 3 + 2)) = some (.int .u64 c.val) := by
      intro i him
      obtain ⟨cs', hc', ht'⟩ := hi i him
      rw [hC] at hc'
      obtain ⟨_, hcl, hat⟩ := World.cells?_some hc'
      match cs', hcl with
      | [q0, q1, q2], _ =>
        obtain ⟨y0, y1, y2, n2, -, g0, g1, g2⟩ := open3 Try.underlying63 (by kernel_rfl) ht'
        obtain ⟨b, hb, -⟩ := DataW.trod_bool Try.underlying4 g0
        obtain ⟨z1, hz1, -, wz1⟩ := DataW.trod_int Try.underlying3 g1
        obtain ⟨z2, hz2, -, wz2⟩ := DataW.trod_int Try.underlying23 g2
        simp at hb hz1 hz2
        subst hb hz1 hz2
        have a0 := hat 0 (by omega)
        have a1 := hat 1 (by omega)
        have a2 := hat 2 (by omega)
        have aa : ∀ j, (a.add (i * 3)).add j = a.add (i * 3 + j) := fun j => by
          unfold Addr.add
          by_cases hi0 : i * 3 = 0 <;> by_cases hj : j = 0 <;> simp [hi0, hj, Nat.add_assoc]
        rw [aa] at a0 a1 a2
        exact ⟨⟨b, z1, z2⟩, ⟨wrap_of_wf wz1, wrap_of_wf wz2⟩, by simpa using a0, by simpa using a1, by simpa using a2⟩
    have each' : ∀ i, ∃ c : CaseM, i < m → c.ok ∧ W.cell? (a.add (i * 3)) = some (.bool c.send) ∧ W.cell? (a.add (i * 3 + 1)) = some (.int .i64 c.chan) ∧ W.cell? (a.add (i * 3 + 2)) = some (.int .u64 c.val) := fun i => by
      by_cases him : i < m
      · obtain ⟨c, hc⟩ := each i him; exact ⟨c, fun _ => hc⟩
      · exact ⟨noCase, fun h => absurd h him⟩
    refine ⟨(List.range len).map fun i => (each' i).choose, by simpa using hle, ?_, some a, m, by simp, by simpa using hl, fun i hi' => ?_⟩
    · intro c hc
      obtain ⟨i, hir, rfl⟩ := List.mem_map.1 hc
      exact ((each' i).choose_spec (by have := List.mem_range.1 hir; omega)).1
    · simp at hi'
      have hg : ((List.range len).map fun i => (each' i).choose).getD i noCase = (each' i).choose := by
        simp [List.getD_eq_getElem?_getD, hi']
      rw [hg]
      generalize hch : (each' i).choose = ch
      have hsp := (each' i).choose_spec (by omega)
      rw [hch] at hsp
      obtain ⟨-, c0, c1, c2⟩ := hsp
      clear hg hch
      have d0 := ((each' 0).choose_spec (by omega)).2.1
      obtain ⟨b, off, sp⟩ := a
      have hsp : sp = none := by simpa [Addr.add] using World.cell?_spot d0
      subst hsp
      rw [add_plain] at c0 c1 c2
      exact ⟨b, off, rfl, by simpa using World.block_lt_of_cell? W _ c0, c0, by simpa [Nat.add_assoc] using c1, by simpa [Nat.add_assoc] using c2⟩
/-- AN ARGUMENT THAT IS AN OPERATION. -/
theorem view_op {v : Value} {d : DataW H} {p : List MemPlace}
    (hsz : ∀ parts, d = .agg parts → (DataW.weightsEach Try.prog [3, 3, 3, 23, 3, 36, 31] parts).all (· ≤ reachBytes) = true)
    (hval : Value.okWide Try.prog W .any 0 38 v) (hd : DataW.Trod enc Try.prog W 0 (fun _ => true) true 38 v d p) : ∃ op, OpV W v op ∧ op.ok := by
  obtain ⟨cs, rfl, hcz⟩ := okWide_struct Try.underlying38 hval
  rw [show Try.prog.cellsOf 38 = 7 by kernel_rfl] at hcz
  obtain ⟨l⟩ := cs
  match l, hcz with
  | [q0, q1, q2, q3, q4, q5, q6], _ =>
    obtain ⟨fuel, hf⟩ := hd
    obtain ⟨y0, y1, y2, y3, y4, y5, y6, n, hx, g0, g1, g2, g3, g4, g5, g6⟩ := open7 Try.underlying38 (by kernel_rfl) hf
    have hsz' := hsz _ hx
    obtain ⟨z0, e0, -, w0⟩ := DataW.trod_int Try.underlying3 g0
    obtain ⟨z1, e1, -, w1⟩ := DataW.trod_int Try.underlying3 g1
    obtain ⟨z2, e2, -, w2⟩ := DataW.trod_int Try.underlying3 g2
    obtain ⟨z3, e3, -, w3⟩ := DataW.trod_int Try.underlying23 g3
    obtain ⟨z4, e4, -, w4⟩ := DataW.trod_int Try.underlying3 g4
    obtain ⟨lc, hlc⟩ := view_cases (v := q5) (fun elems sp hd => sized_slice hsz' (j := 5) (t := 36) (e := 63) rfl (by simp; exact hd) Try.underlying36) g5
    obtain ⟨ld, hld⟩ := view_cell (v := q6) (k := .i64) Try.underlying31 Try.underlying3 (by kernel_rfl) (fun elems sp hd => sized_slice hsz' (j := 6) (t := 31) (e := 3) rfl (by simp; exact hd) Try.underlying31) (of_decide_eq_true (by kernel_rfl)) g6
    simp at e0 e1 e2 e3 e4
    subst e0 e1 e2 e3 e4
    exact ⟨⟨z0, z1, z2, z3, z4, lc, ld⟩, ⟨q5, q6, rfl, hlc, hld⟩, wrap_of_wf w0, wrap_of_wf w1, wrap_of_wf w2, wrap_of_wf w3, wrap_of_wf w4⟩
end
end Go.Proofs.Ytckjdlphilpgfaa
/- An argument that is a result. -/
namespace Go.Proofs.Ytckjdlphilpgfaa
open Go.ChangeShapes Go.WideShapes Go.ChangeAt Go.RowKit Go.Deep
set_option maxRecDepth 100000

section
variable {H : Type} {enc : TypeId × Value → H} {W : World}
theorem open5r {t : TypeId} {f0 f1 f2 f3 f4 : Field} {q0 q1 q2 q3 q4 : Value} {fuel : Nat} {x : DataW H × List MemPlace} (hs : Try.prog.underlying t = some (.struct #[f0, f1, f2, f3, f4])) (hone : oneCellFields Try.prog #[f0, f1, f2, f3, f4] = true)
    (h : DataW.trod enc Try.prog W 0 (fun _ => true) true fuel t [q0, q1, q2, q3, q4] = some x) :
    ∃ (y0 y1 y2 y3 y4 : DataW H × List MemPlace) (n : Nat), x.1 = .agg [y0.1, y1.1, y2.1, y3.1, y4.1] ∧ DataW.trod enc Try.prog W 0 (fun _ => true) true n f0.type [q0] = some y0 ∧ DataW.trod enc Try.prog W 0 (fun _ => true) true n f1.type [q1] = some y1 ∧ DataW.trod enc Try.prog W 0 (fun _ => true) true n f2.type [q2] = some y2 ∧ DataW.trod enc Try.prog W 0 (fun _ => true) true n f3.type [q3] = some y3 ∧ DataW.trod enc Try.prog W 0 (fun _ => true) true n f4.type [q4] = some y4 := by
  obtain ⟨xs, n, _, hx, _, hlen, hg⟩ := DataW.trod_struct hs h
  obtain ⟨o0, k0⟩ := hone_of hone 0 f0 rfl
  obtain ⟨o1, k1⟩ := hone_of hone 1 f1 rfl
  obtain ⟨o2, k2⟩ := hone_of hone 2 f2 rfl
  obtain ⟨o3, k3⟩ := hone_of hone 3 f3 rfl
  obtain ⟨o4, k4⟩ := hone_of hone 4 f4 rfl
  match xs, hlen with
  | [y0, y1, y2, y3, y4], _ =>
    subst hx
    exact ⟨y0, y1, y2, y3, y4, n, rfl, by simpa [o0, k0] using hg 0 f0 rfl, by simpa [o1, k1] using hg 1 f1 rfl, by simpa [o2, k2] using hg 2 f2 rfl, by simpa [o3, k3] using hg 3 f3 rfl, by simpa [o4, k4] using hg 4 f4 rfl⟩

/-- AN ARGUMENT THAT IS A RESULT. -/
theorem view_res {v : Value} {d : DataW H} {p : List MemPlace}
    (hval : Value.okWide Try.prog W .any 0 25 v) (hd : DataW.Trod enc Try.prog W 0 (fun _ => true) true 25 v d p) : ∃ r, v = resW r := by
  obtain ⟨cs, rfl, hcz⟩ := okWide_struct Try.underlying25 hval
  rw [show Try.prog.cellsOf 25 = 5 by kernel_rfl] at hcz
  obtain ⟨l⟩ := cs
  match l, hcz with
  | [q0, q1, q2, q3, q4], _ =>
    obtain ⟨fuel, hf⟩ := hd
    obtain ⟨y0, y1, y2, y3, y4, n, -, g0, g1, g2, g3, g4⟩ := open5r Try.underlying25 (by kernel_rfl) hf
    obtain ⟨z0, e0, -, w0⟩ := DataW.trod_int Try.underlying3 g0
    obtain ⟨z1, e1, -, w1⟩ := DataW.trod_int Try.underlying3 g1
    obtain ⟨z2, e2, -, w2⟩ := DataW.trod_int Try.underlying23 g2
    obtain ⟨z3, e3, -⟩ := DataW.trod_bool Try.underlying4 g3
    obtain ⟨z4, e4, -, w4⟩ := DataW.trod_int Try.underlying3 g4
    simp at e0 e1 e2 e3 e4
    subst e0 e1 e2 e3 e4
    exact ⟨⟨z0, z1, z2, z3, z4⟩, rfl⟩
end
end Go.Proofs.Ytckjdlphilpgfaa
/- Layer 14: the law's config. -/
namespace Go.Proofs.Ytckjdlphilpgfaa
open Go.ChangeShapes Go.WideShapes Go.ChangeAt Go.RowKit
set_option maxRecDepth 100000

theorem own_apart2 {w : World} {b1 b2 : Nat} {v1 v2 : Value} {l1 l2 : List Int} (h1 : OwnI w b1 3 .i64 v1 l1) (h2 : OwnI w b2 23 .u64 v2 l2) : v1.ownBlock = none ∨ v1.ownBlock ≠ v2.ownBlock := by
  rcases h1.2 with ⟨rfl, _⟩ | ⟨g, cap, cur, rfl, _, hg, _⟩
  · exact .inl rfl
  · rcases h2.2 with ⟨rfl, _⟩ | ⟨g', cap', cur', rfl, _, hg', _⟩
    · exact .inr (by simp [Value.ownBlock])
    · refine .inr ?_
      simp only [Value.ownBlock, ne_eq, Option.some.injEq]
      intro e
      rw [e, hg'] at hg
      simp at hg
theorem own_slice {w : World} {b : Nat} {e : TypeId} {k : IntKind} {v : Value} {l : List Int} (h : OwnI w b e k v l) : ∃ p n q, v = .slice p n q := by
  rcases h.shape with ⟨rfl, -⟩ | ⟨g, c, rfl, -⟩
  · exact ⟨_, _, _, rfl⟩
  · exact ⟨_, _, _, rfl⟩
/-- while the configuration is made -/
structure CgI (w wx : World) (X i : Nat) (vc vs : Value) (caps starts : List Int) : Prop where
  row : wx.heap[X]? = some (.cells #[vc, vs, .int .i64 2] 34 (0, 0))
  oc : OwnI wx (w.heap.size + 2) 3 .i64 vc caps
  os : OwnI wx (w.heap.size + 2) 23 .u64 vs starts
  lc : caps.length = i
  ls : starts.length = i
  vcap : ∀ x ∈ caps, x = IntKind.i64.wrap x
  vst : ∀ x ∈ starts, x = IntKind.u64.wrap x
  below : Below w.heap.size w wx
  res : wx.heap[w.heap.size]? = some (.cells #[.slice none 0 0, .slice none 0 0, .int .i64 0] 34 (0, 0))
  X1 : X = w.heap.size + 1
  sz : w.heap.size + 2 ≤ wx.heap.size
theorem CgI.caps {w wx u2 : World} {X i : Nat} {vc vs v2 : Value} {caps starts : List Int} {x : Int} (h : CgI w wx X i vc vs caps starts) (hg : wx.grownBy u2 vc.ownBlock) (ho : OwnI u2 (w.heap.size + 2) 3 .i64 v2 (caps ++ [x])) (hx : x = IntKind.i64.wrap x) :
    ∃ W, u2.setCell ⟨X, 0, none⟩ v2 = W ∧ W.heap[X]? = some (.cells #[v2, vs, .int .i64 2] 34 (0, 0)) ∧ OwnI W (w.heap.size + 2) 3 .i64 v2 (caps ++ [x]) ∧ OwnI W (w.heap.size + 2) 23 .u64 vs starts ∧ Below w.heap.size w W ∧ W.heap[w.heap.size]? = some (.cells #[.slice none 0 0, .slice none 0 0, .int .i64 0] 34 (0, 0)) ∧ w.heap.size + 2 ≤ W.heap.size := by
  have hX := h.X1
  have hsz := h.sz
  have hgs := hg.size
  have hob : ∀ j, vc.ownBlock = some j → w.heap.size + 2 ≤ j := fun j hj => h.oc.own_ge j hj
  have hr : u2.heap[X]? = some (.cells #[vc, vs, .int .i64 2] 34 (0, 0)) := (hg.block X (by omega) (fun e => by have := hob X e.symm; omega)).trans h.row
  have hs : OwnI u2 (w.heap.size + 2) 23 .u64 vs starts := h.os.kept hg (by
    rcases own_apart2 h.oc h.os with h1 | h1
    · rw [h1]; cases vs.ownBlock <;> simp
    · exact .inr fun e => h1 e.symm)
  have r1 := heap_setCell_same u2 X 0 _ _ v2 hr
  simp at r1
  refine ⟨_, rfl, r1, ho.kept (grownBy_setCell u2 ⟨X, 0, none⟩ v2) (ho.ne (by show X < _; omega)), hs.kept (grownBy_setCell u2 ⟨X, 0, none⟩ v2) (hs.ne (by show X < _; omega)), (h.below.grown hg h.below.size (fun j hj => by have := hob j hj; omega)).setCell (p := ⟨X, 0, none⟩) (by show w.heap.size ≤ X; omega) _, ?_, ?_⟩
  · exact (heap_setCell_other u2 ⟨X, 0, none⟩ w.heap.size v2 (by show w.heap.size ≠ X; omega)).trans ((hg.block w.heap.size (by omega) (fun e => by have := hob _ e.symm; omega)).trans h.res)
  · simp; omega
theorem CgI.sts {w A u7 : World} {X i : Nat} {v2 vs v7 : Value} {cs ss : List Int} (hr : A.heap[X]? = some (.cells #[v2, vs, .int .i64 2] 34 (0, 0))) (hoc : OwnI A (w.heap.size + 2) 3 .i64 v2 cs) (hos : OwnI A (w.heap.size + 2) 23 .u64 vs ss) (hb : Below w.heap.size w A) (hres : A.heap[w.heap.size]? = some (.cells #[.slice none 0 0, .slice none 0 0, .int .i64 0] 34 (0, 0))) (hX : X = w.heap.size + 1) (hsz : w.heap.size + 2 ≤ A.heap.size)
    (hg : A.grownBy u7 vs.ownBlock) (ho : OwnI u7 (w.heap.size + 2) 23 .u64 v7 (ss ++ [0])) (lc : cs.length = i + 1) (ls : ss.length = i) (vc : ∀ x ∈ cs, x = IntKind.i64.wrap x) (vst : ∀ x ∈ ss, x = IntKind.u64.wrap x) : CgI w (u7.setCell ⟨X, 1, none⟩ v7) X (i + 1) v2 v7 cs (ss ++ [0]) := by
  have hgs := hg.size
  have hob : ∀ j, vs.ownBlock = some j → w.heap.size + 2 ≤ j := fun j hj => hos.own_ge j hj
  have hr7 : u7.heap[X]? = some (.cells #[v2, vs, .int .i64 2] 34 (0, 0)) := (hg.block X (by omega) (fun e => by have := hob X e.symm; omega)).trans hr
  have r1 := heap_setCell_same u7 X 1 _ _ v7 hr7
  simp at r1
  refine ⟨r1, ((hoc.kept hg (own_apart2 hoc hos))).kept (grownBy_setCell u7 ⟨X, 1, none⟩ v7) (((hoc.kept hg (own_apart2 hoc hos))).ne (by show X < _; omega)), ho.kept (grownBy_setCell u7 ⟨X, 1, none⟩ v7) (ho.ne (by show X < _; omega)), lc, by rw [List.length_append, ls]; rfl, vc, fun x hx => ?_, (hb.grown hg hb.size (fun j hj => by have := hob j hj; omega)).setCell (p := ⟨X, 1, none⟩) (by show w.heap.size ≤ X; omega) _, ?_, hX, ?_⟩
  · rcases List.mem_append.1 hx with h | h
    · exact vst x h
    · rw [List.mem_singleton.1 h]; rfl
  · exact (heap_setCell_other u7 ⟨X, 1, none⟩ w.heap.size v7 (by show w.heap.size ≠ X; omega)).trans ((hg.block w.heap.size (by omega) (fun e => by have := hob _ e.symm; omega)).trans hres)
  · simp; omega
set_option maxRecDepth 100000 in
set_option maxHeartbeats 16000000 in
theorem configL_any (v : Value) (l : List ChanM) (w : World) (hv : SlH w v l) (hl : l.length ≤ 100) : Calls Try.prog 12 #[v] w fun e w' => ∃ vc vs, e = .returned (.agg #[vc, vs, .int .i64 2]) ∧ ∃ caps, OwnI w' (w.heap.size + 2) 3 .i64 vc caps ∧ caps.length = l.length ∧ (∀ x ∈ caps, x = IntKind.i64.wrap x) ∧ ∃ starts, OwnI w' (w.heap.size + 2) 23 .u64 vs starts ∧ starts.length = l.length ∧ (∀ x ∈ starts, x = IntKind.u64.wrap x) ∧ Below w.heap.size w w' := by
  have HV := Lib.hid hv
  have H4 : Hid (∀ i, i < l.length → (l.getD i noChan).cap = IntKind.i64.wrap (l.getD i noChan).cap) := fun i hi => by
    obtain ⟨us, -, -, -, h4, -⟩ := hv
    rw [List.getD_eq_getElem?_getD, List.getElem?_eq_getElem hi]
    exact h4 _ (List.getElem_mem hi)
  obtain ⟨aq, cap, hve, -⟩ := hv.len
  subst hve
  clear hv
  obtain ⟨W, hW, HB, R0, hz⟩ := one_new w (.cells #[.slice none 0 0, .slice none 0 0, .int .i64 0] 34)
  have HW := Lib.hid hW
  clear hW
  go_enter Try.func12, Try.ntmps12
  go_upto_region 1 with fail
  rw [HW.out]
  clear HW
  obtain ⟨Wx, hWx⟩ : ∃ Wx, (W.alloc (.cells #[.slice none 0 0, .slice none 0 0, .int .i64 0] 34)).setRow W.heap.size #[.slice none 0 0, .slice none 0 0, .int .i64 2] = Wx := ⟨_, rfl⟩
  have Nx : Hid ((W.alloc (.cells #[.slice none 0 0, .slice none 0 0, .int .i64 0] 34)).heap[W.heap.size]? = some (.cells #[.slice none 0 0, .slice none 0 0, .int .i64 0] 34 (0, 0))) := heap_alloc_new _ _
  have HBx : Hid (Below W.heap.size W Wx) := hWx ▸ row_below (below_new (Below.refl _ _) _) (Nat.le_refl _) _
  have Rx : Hid (Wx.heap[W.heap.size]? = some (.cells #[.slice none 0 0, .slice none 0 0, .int .i64 2] 34 (0, 0))) := hWx ▸ setRow_heap _ _ _ _ _ (0, 0) Nx.out
  have HWx := Lib.hid hWx
  clear hWx
  go_upto_region 2 with (refine wpList_store_row rfl 34 _ _ rfl (W.heap.size) _ rfl rfl 34 #[.slice none 0 0, .slice none 0 0, .int .i64 0] Nx.out (by kernel_rfl) rfl (by simp [Value.oneCell']) ?_)
  rw [HWx.out]
  try simp only [Act.put]
  clear HWx Nx
  obtain ⟨X, hX⟩ : ∃ X, W.heap.size = X := ⟨_, rfl⟩
  rw [hX] at Rx
  rw [hX]
  have hX1 : X = w.heap.size + 1 := by omega
  clear hX
  have HI0 : Hid (CgI w Wx X 0 (.slice none 0 0) (.slice none 0 0) [] []) := ⟨Rx.out, OwnI.nil _ _ _ _, OwnI.nil _ _ _ _, rfl, rfl, by simp, by simp, below_then HB.out HBx.out, (HBx.out.block w.heap.size (Array.getElem?_eq_some_iff.1 R0.out).1).trans R0.out, hX1, by have := (Array.getElem?_eq_some_iff.1 Rx.out).1; omega⟩
  clear HB R0 HBx Rx hX1 hz
  go_wp2_with fail
  go_loopw [8] (fun u8 wr => ∃ (i : Nat) (vc vs : Value) (caps starts : List Int), u8 = .int .i64 i ∧ i ≤ l.length ∧ Hid (CgI w wr X i vc vs caps starts)) (fun u8 _ => l.length - (intOf u8).toNat)
  case atStart => exact ⟨0, _, _, _, _, rfl, by omega, HI0⟩
  case round =>
    clear HI0
    obtain ⟨i, vc, vs, caps, starts, rfl, hi, HI⟩ := hrel
    obtain ⟨wo, rfl⟩ : ∃ wo : World, wo = wr := ⟨_, rfl⟩
    by_cases hlt : i < l.length
    · have hltI : (i : Int) < (l.length : Int) := by omega
      obtain ⟨b, off, cap', u, hve, hb, c0, c1, c2, hu⟩ := (HV.out.below HI.out.below).at i hlt
      simp only [Value.slice.injEq] at hve
      obtain ⟨rfl, -, rfl⟩ := hve
      have H4i := Lib.hid (H4.out i hlt)
      obtain ⟨cc, hcc⟩ : ∃ c, (l.getD i noChan).cap = c := ⟨_, rfl⟩
      rw [hcc] at c0 H4i
      obtain ⟨ac, nc, kc, rfl⟩ : ∃ p n q, vc = .slice p n q := by
        rcases HI.out.oc.shape with ⟨rfl, -⟩ | ⟨g, c, rfl, -⟩
        · exact ⟨_, _, _, rfl⟩
        · exact ⟨_, _, _, rfl⟩
      obtain ⟨ast, nst, kst, rfl⟩ : ∃ p n q, vs = .slice p n q := by
        rcases HI.out.os.shape with ⟨rfl, -⟩ | ⟨g, c, rfl, -⟩
        · exact ⟨_, _, _, rfl⟩
        · exact ⟨_, _, _, rfl⟩
      have hXl : X < wo.heap.size := (Array.getElem?_eq_some_iff.1 HI.out.row).1
      have KS5 : Hid (∀ w', Below wo.heap.size wo w' → (fun w' : World => w'.cell? ⟨X, 0, none⟩ = some (.slice ac nc kc) ∧ w'.cell? ⟨b, off + i * 3, none⟩ = some (.int .i64 cc)) w') := fun w' hbb => ⟨(rowc3 ((hbb.block X hXl).trans HI.out.row)).1, (hbb.cell (p := ⟨b, off + i * 3, none⟩) hb).trans c0⟩
      clear c0 c1 c2 hu hcc
      go_upto_region 5 with fail
      refine untilK KS5 8 11 (by kernel_rfl) rfl ?_
      obtain ⟨u0, hu0, HU0⟩ := drew_pack wo
      rw [hu0]
      clear hu0
      have hSU0 := KS5.out _ HU0.out
      refine wpAnyU_takeW (v := ?_) 0 la0 (by kernel_rfl) (by kernel_rfl) (by kernel_rfl) (by kernel_rfl) (fun _ _ _ h => h) (fun _ => hSU0) rfl ?_ ?_
      rotate_left
      · (intro w; go_simp <;> with_reducible rfl)
      simp only [Act.put, List.setIfInBounds_toArray, List.set_cons_zero, List.set_cons_succ]
      refine tkU (v := ?_) 1 la1 hSU0 (by kernel_rfl) (fun _ _ _ h => h) rfl ?_ ?_
      rotate_left
      · (intro w hSw; (try dsimp only at hSw); go_simp <;> with_reducible rfl)
      simp only [Act.put, List.setIfInBounds_toArray, List.set_cons_zero, List.set_cons_succ]
      refine wpAnyU_takeW (v := ?_) 2 la2 (by kernel_rfl) (by kernel_rfl) (by kernel_rfl) (by kernel_rfl) (fun _ _ _ h => h) (fun _ => hSU0) rfl ?_ ?_
      rotate_left
      · (intro w; go_simp <;> with_reducible rfl)
      simp only [Act.put, List.setIfInBounds_toArray, List.set_cons_zero, List.set_cons_succ]
      refine wpAnyU_takeW (v := ?_) 3 la3 (by kernel_rfl) (by kernel_rfl) (by kernel_rfl) (by kernel_rfl) (fun _ _ _ h => h) (fun _ => hSU0) rfl ?_ ?_
      rotate_left
      · (intro w; go_simp <;> with_reducible rfl)
      simp only [Act.put, List.setIfInBounds_toArray, List.set_cons_zero, List.set_cons_succ]
      refine wpAnyU_takeW (v := ?_) 4 la4 (by kernel_rfl) (by kernel_rfl) (by kernel_rfl) (by kernel_rfl) (fun _ _ _ h => h) (fun _ => hSU0) rfl ?_ ?_
      rotate_left
      · (intro w; go_simp <;> with_reducible rfl)
      simp only [Act.put, List.setIfInBounds_toArray, List.set_cons_zero, List.set_cons_succ]
      refine wpAnyU_takeW (v := ?_) 5 la5 (by kernel_rfl) (by kernel_rfl) (by kernel_rfl) (by kernel_rfl) (fun _ _ _ h => h) (fun _ => hSU0) rfl ?_ ?_
      rotate_left
      · (intro w; go_simp <;> with_reducible rfl)
      simp only [Act.put, List.setIfInBounds_toArray, List.set_cons_zero, List.set_cons_succ]
      refine wpAnyU_ready (rs := [6]) (by kernel_rfl) rfl ?_
      refine AllReadyU.cons la6 rfl (fun K hK => ?_) ?_
      · go_simp
        refine hK.out _ _ ?_ (fun hSU1 => ?_)
        · exact hSU0
        clear hK K hSU0
        try simp only [Act.put, List.setIfInBounds_toArray, List.set_cons_zero, List.set_cons_succ]
        refine wpAnyU_ready (rs := [7]) (by kernel_rfl) rfl ?_
        refine AllReadyU.cons la7 rfl (fun K hK => ?_) ?_
        · go_simp
          obtain ⟨u1, nb, hv1, hX2, RN, hbn, ltn⟩ := alloc_pack u0 (.cells #[.int .i64 cc] 3)
          rw [hv1, hX2]
          have HU1 := Lib.hid (below_then HU0.out hbn.out)
          clear hv1 hX2 hbn ltn
          refine hK.out _ _ ?_ (fun hSU2 => ?_)
          · exact KS5.out _ HU1.out
          clear hK K hSU1
          try simp only [Act.put, List.setIfInBounds_toArray, List.set_cons_zero, List.set_cons_succ]
          refine wpAnyU_ready (rs := [8]) (by kernel_rfl) rfl ?_
          refine AllReadyU.free la8 rfl (by kernel_rfl) (fun K hK => ?_) ?_
          · refine step_append_i64 (w := u1) (by rfl) _ _ (by rfl) (w.heap.size + 2) (.slice ac nc kc) caps (by rfl) (HI.out.oc.below HU1.out) cc nb (by rfl) (by exact cell_of_row _ _ 0 _ _ _ RN.out) (by have := HI.out.lc; omega) (by have := HI.out.sz; have := HU1.out.size; omega) ?_
            intro v6 u2 ho6 hg6
            obtain ⟨p6, n6, q6, rfl⟩ : ∃ p n q, v6 = .slice p n q := by
              rcases ho6.shape with ⟨rfl, -⟩ | ⟨g, c, rfl, -⟩
              · exact ⟨_, _, _, rfl⟩
              · exact ⟨_, _, _, rfl⟩
            have HI1 : CgI w u1 X i (.slice ac nc kc) (.slice ast nst kst) caps starts := ⟨(HU1.out.block X hXl).trans HI.out.row, HI.out.oc.below HU1.out, HI.out.os.below HU1.out, HI.out.lc, HI.out.ls, HI.out.vcap, HI.out.vst, below_then HI.out.below HU1.out, (HU1.out.block w.heap.size (Array.getElem?_eq_some_iff.1 HI.out.res).1).trans HI.out.res, HI.out.X1, Nat.le_trans HI.out.sz HU1.out.size⟩
            have hne : ∀ j, (Value.slice ac nc kc).ownBlock = some j → w.heap.size + 2 ≤ j := fun j hj => HI.out.oc.own_ge j hj
            have HSX := Lib.hid (hg6.block X (by have := HU1.out.size; omega) (fun e => by have := hne X e.symm; have := HI.out.X1; omega))
            have HP := Lib.hid (HI1.caps hg6 ho6 H4i.out)
            have HCB : Hid (∀ h : (.slice ac nc kc : Value).ownBlock ≠ some b, u2.cell? ⟨b, off + i * 3, none⟩ = some (.int .i64 cc)) := fun h => (cell_of_block (hg6.block b (by have := HU1.out.size; omega) (fun e => h e.symm))).trans (KS5.out _ HU1.out).2
            have hgz := hg6.size
            clear ho6 hg6 HI1 hne
            refine hK.out _ _ ?_
            clear hK K hSU2
            try simp only [Act.put, List.setIfInBounds_toArray, List.set_cons_zero, List.set_cons_succ]
            refine wpAnyU_takeW (v := ?_) 9 la9 (by kernel_rfl) (by kernel_rfl) (by kernel_rfl) (by kernel_rfl) (fun _ _ _ h => h) (past_k (by kernel_rfl)) rfl ?_ ?_
            rotate_left
            · (intro w; go_simp <;> with_reducible rfl)
            simp only [Act.put, List.setIfInBounds_toArray, List.set_cons_zero, List.set_cons_succ]
            refine wpAnyU_ready (rs := [10]) (by kernel_rfl) rfl ?_
            refine AllReadyU.free la10 rfl (by kernel_rfl) (fun K hK => ?_) ?_
            · have fz : u2.frozen? ⟨X, 0, none⟩ = false := (frozen_of_block HSX.out).trans (frozen_of_row u1 X 0 _ _ ((HU1.out.block X hXl).trans HI.out.row))
              have z1 := (cell_of_block (o := 0) HSX.out).trans (KS5.out _ HU1.out).1
              go_simp
              clear z1 fz
              refine hK.out _ _ ?_
              clear hK K
              try simp only [Act.put, List.setIfInBounds_toArray, List.set_cons_zero, List.set_cons_succ]
              refine wpAnyU_done (by kernel_rfl) ?_ _
              obtain ⟨W5, hW5, hr5, hoc5, hos5, hb5, hres5, hsz5⟩ := HP.out
              rw [hW5]
              have HR5 := Lib.hid hr5
              have HOS5 := Lib.hid hos5
              have HR6 : Hid (CgI w W5 X i (.slice p6 n6 q6) (.slice ast nst kst) (caps ++ [cc]) starts → True) := fun _ => trivial
              have HQ5 := Lib.hid (And.intro hoc5 (And.intro hb5 (And.intro hres5 hsz5)))
              clear hW5 hr5 hoc5 hos5 hb5 hres5 hsz5 HR6
              obtain ⟨x0, x1, x2⟩ := rowc3 HR5.out
              have RA : Hid ((W5.alloc (.cells #[.int .u64 0] 23)).heap[X]? = some (.cells #[.slice p6 n6 q6, .slice ast nst kst, .int .i64 2] 34 (0, 0))) := (heap_alloc_old _ _ (Array.getElem?_eq_some_iff.1 HR5.out).1).trans HR5.out
              go_upto_region 7 with (at_builtin; refine wp_append_u64 _ rfl _ _ rfl (w.heap.size + 2) (.slice ast nst kst) starts rfl (HOS5.out.below (below_new (Below.refl _ _) _)) 0 W5.heap.size rfl (World.cell?_alloc_at _ _ _ _ rfl) (by have := HI.out.ls; omega) (by have := HQ5.out.2.2.2; simp; omega) ?_; intro v7 u7 ho7 hg7; obtain ⟨p7, n7, q7, rfl⟩ : ∃ p n q, v7 = .slice p n q := own_slice ho7; have HR7 := Lib.hid ((hg7.block X (by have := (Array.getElem?_eq_some_iff.1 RA.out).1; exact this) (fun e => by have := HOS5.out.own_ge X e.symm; have := HI.out.X1; omega)).trans RA.out); have fz := frozen_of_row u7 X 1 _ _ HR7.out; obtain ⟨y0, y1, y2⟩ := rowc3 HR7.out; have HF7 := Lib.hid (CgI.sts (i := i) RA.out (HQ5.out.1.below (below_new (Below.refl _ _) _)) (HOS5.out.below (below_new (Below.refl _ _) _)) (below_new HQ5.out.2.1 _) ((heap_alloc_old _ _ (Array.getElem?_eq_some_iff.1 HQ5.out.2.2.1).1).trans HQ5.out.2.2.1) HI.out.X1 (by have := HQ5.out.2.2.2; simp; omega) hg7 ho7 (by rw [List.length_append, HI.out.lc]; rfl) HI.out.ls (fun x hx => by rcases List.mem_append.1 hx with h | h; exact HI.out.vcap x h; rw [List.mem_singleton.1 h]; exact H4i.out) HI.out.vst); clear ho7 hg7)
              obtain ⟨W9, hW9⟩ : ∃ W9, u7.setCell ⟨X, 1, none⟩ (.slice p7 n7 q7) = W9 := ⟨_, rfl⟩
              rw [hW9] at HF7
              try rw [hW9]
              clear hW9 fz y0 y1 y2 x0 x1 x2
              go_wp2_with fail
              go_roundw
              case rel => exact ⟨i + 1, _, _, _, _, by go_num, by omega, HF7⟩
              case measure => simp [intOf]; omega
            exact AllReadyU.nil
          exact AllReadyU.nil
        exact AllReadyU.nil
      exact AllReadyU.nil
    · have hge : ¬ (i : Int) < (l.length : Int) := by omega
      have hil : i = l.length := by omega
      obtain ⟨x0, x1, x2⟩ := rowc3 HI.out.row
      have HL1 := Lib.hid (HI.out.lc.trans hil)
      have HL2 := Lib.hid (HI.out.ls.trans hil)
      obtain ⟨ac, nc, kc, rfl⟩ : ∃ p n q, vc = .slice p n q := by
        rcases HI.out.oc.shape with ⟨rfl, -⟩ | ⟨g, c, rfl, -⟩
        · exact ⟨_, _, _, rfl⟩
        · exact ⟨_, _, _, rfl⟩
      obtain ⟨ast, nst, kst, rfl⟩ : ∃ p n q, vs = .slice p n q := by
        rcases HI.out.os.shape with ⟨rfl, -⟩ | ⟨g, c, rfl, -⟩
        · exact ⟨_, _, _, rfl⟩
        · exact ⟨_, _, _, rfl⟩
      clear hil
      go_wp2_with (refine wpList_store_row rfl 34 _ _ rfl (w.heap.size) _ rfl rfl 34 #[.slice none 0 0, .slice none 0 0, .int .i64 0] HI.out.res (by kernel_rfl) rfl (by simp [Value.oneCell']) ?_)
      refine bodyPost_ret (v := .agg #[.slice ac nc kc, .slice ast nst kst, .int .i64 2]) (results_cell_row Try.results12 _ _ (w.heap.size) 34 _ (0, 0) _ rfl (setRow_heap _ _ _ _ 34 (0, 0) HI.out.res) Try.underlying34 rfl (by kernel_rfl)) rfl ?_
      exact ⟨_, _, rfl, caps, HI.out.oc.kept (row_grown _ _ _) (HI.out.oc.ne (by omega)), HL1.out, HI.out.vcap, starts, HI.out.os.kept (row_grown _ _ _) (HI.out.os.ne (by omega)), HL2.out, HI.out.vst, row_below HI.out.below (Nat.le_refl _) _⟩
end Go.Proofs.Ytckjdlphilpgfaa
