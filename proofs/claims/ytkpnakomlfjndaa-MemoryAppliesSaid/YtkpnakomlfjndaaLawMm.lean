/- From the reading of arguments that are accesses, answers, records, memories to the words of the walks. -/
import Derived.Test.YtkpnakomlfjndaaLawOp
import Derived.Test.YtkpnakomlfjndaaMm
import Derived.Test.YtkpnakomlfjndaaItems
namespace Go.Proofs.Ytkpnakomlfjndaa
open Go.ChangeShapes Go.WideShapes Go.ChangeAt Go.RowKit Go.Deep
set_option maxRecDepth 100000

section
variable {H : Type} {enc : TypeId × Value → H} {W : World}
theorem open4 {t : TypeId} {f0 f1 f2 f3 : Field} {q0 q1 q2 q3 : Value} {fuel : Nat} {x : DataW H × List MemPlace} (hs : Try.prog.underlying t = some (.struct #[f0, f1, f2, f3])) (hone : oneCellFields Try.prog #[f0, f1, f2, f3] = true)
    (h : DataW.trod enc Try.prog W 0 (fun _ => true) true fuel t [q0, q1, q2, q3] = some x) :
    ∃ (y0 y1 y2 y3 : DataW H × List MemPlace) (n : Nat), x.1 = .agg [y0.1, y1.1, y2.1, y3.1] ∧ DataW.trod enc Try.prog W 0 (fun _ => true) true n f0.type [q0] = some y0 ∧ DataW.trod enc Try.prog W 0 (fun _ => true) true n f1.type [q1] = some y1 ∧ DataW.trod enc Try.prog W 0 (fun _ => true) true n f2.type [q2] = some y2 ∧ DataW.trod enc Try.prog W 0 (fun _ => true) true n f3.type [q3] = some y3 := by
  obtain ⟨xs, n, _, hx, _, hlen, hg⟩ := DataW.trod_struct hs h
  obtain ⟨o0, k0⟩ := hone_of hone 0 f0 rfl
  obtain ⟨o1, k1⟩ := hone_of hone 1 f1 rfl
  obtain ⟨o2, k2⟩ := hone_of hone 2 f2 rfl
  obtain ⟨o3, k3⟩ := hone_of hone 3 f3 rfl
  match xs, hlen with
  | [y0, y1, y2, y3], _ =>
    subst hx
    exact ⟨y0, y1, y2, y3, n, rfl, by simpa [o0, k0] using hg 0 f0 rfl, by simpa [o1, k1] using hg 1 f1 rfl, by simpa [o2, k2] using hg 2 f2 rfl, by simpa [o3, k3] using hg 3 f3 rfl⟩
theorem open5 {t : TypeId} {f0 f1 f2 f3 f4 : Field} {q0 q1 q2 q3 q4 : Value} {fuel : Nat} {x : DataW H × List MemPlace} (hs : Try.prog.underlying t = some (.struct #[f0, f1, f2, f3, f4])) (hone : oneCellFields Try.prog #[f0, f1, f2, f3, f4] = true)
    (h : DataW.trod enc Try.prog W 0 (fun _ => true) true fuel t [q0, q1, q2, q3, q4] = some x) :
    ∃ (y0 y1 y2 y3 y4 : DataW H × List MemPlace) (n : Nat), x.1 = .agg [y0.1, y1.1, y2.1, y3.1, y4.1] ∧ DataW.trod enc Try.prog W 0 (fun _ => true) true n f0.type [q0] = some y0 ∧ DataW.trod enc Try.prog W 0 (fun _ => true) true n f1.type [q1] = some y1 ∧ DataW.trod enc Try.prog W 0 (fun _ => true) true n f2.type [q2] = some y2 ∧ DataW.trod enc Try.prog W 0 (fun _ => true) true n f3.type [q3] = some y3 ∧ DataW.trod enc Try.prog W 0 (fun _ => true) true n f4.type [q4] = some y4 := by
  obtain ⟨xs, n, _, hx, _, hlen, hg⟩ := DataW.trod_struct hs h
  obtain ⟨o0, k0⟩ := hone_of hone 0 f0 rfl
  obtain ⟨o1, k1⟩ := hone_of hone 1 f1 rfl
  obtain ⟨o2, k2⟩ := hone_of hone 2 f2 rfl
  obtain ⟨o3, k3⟩ := hone_of hone 3 f3 rfl
  obtain ⟨o4, k4⟩ := hone_of hone 4 f4 rfl
  match xs, hlen with
  | [y0, y1, y2, y3, y4], _ =>
    subst hx
    exact ⟨y0, y1, y2, y3, y4, n, rfl, by simpa [o0, k0] using hg 0 f0 rfl, by simpa [o1, k1] using hg 1 f1 rfl, by simpa [o2, k2] using hg 2 f2 rfl, by simpa [o3, k3] using hg 3 f3 rfl, by simpa [o4, k4] using hg 4 f4 rfl⟩

/-- an access, from its cells -/
theorem cells_acc {n : Nat} {q0 q1 q2 q3 q4 : Value} {x : DataW H × List MemPlace} (hf : DataW.trod enc Try.prog W 0 (fun _ => true) true n 28 [q0, q1, q2, q3, q4] = some x) :
    ∃ a : AccM, a.ok ∧ q0 = .int .i64 a.kind ∧ q1 = .int .i64 a.addr ∧ q2 = .int .u64 a.old ∧ q3 = .int .u64 a.new ∧ q4 = .int .i64 a.til := by
  obtain ⟨y0, y1, y2, y3, y4, n, -, g0, g1, g2, g3, g4⟩ := open5 Try.underlying28 (by kernel_rfl) hf
  obtain ⟨z0, e0, -, w0⟩ := DataW.trod_int Try.underlying3 g0
  obtain ⟨z1, e1, -, w1⟩ := DataW.trod_int Try.underlying3 g1
  obtain ⟨z2, e2, -, w2⟩ := DataW.trod_int Try.underlying26 g2
  obtain ⟨z3, e3, -, w3⟩ := DataW.trod_int Try.underlying26 g3
  obtain ⟨z4, e4, -, w4⟩ := DataW.trod_int Try.underlying3 g4
  simp at e0 e1 e2 e3 e4
  exact ⟨⟨z0, z1, z2, z3, z4⟩, ⟨wrap_of_wf w0, wrap_of_wf w1, wrap_of_wf w2, wrap_of_wf w3, wrap_of_wf w4⟩, e0, e1, e2, e3, e4⟩
/-- AN ARGUMENT THAT IS AN ACCESS. -/
theorem view_acc {v : Value} {d : DataW H} {p : List MemPlace}
    (hval : Value.okWide Try.prog W .any 0 28 v) (hd : DataW.Trod enc Try.prog W 0 (fun _ => true) true 28 v d p) : ∃ a, v = accV a ∧ a.ok := by
  obtain ⟨cs, rfl, hcz⟩ := okWide_struct Try.underlying28 hval
  rw [show Try.prog.cellsOf 28 = 5 by kernel_rfl] at hcz
  obtain ⟨l⟩ := cs
  match l, hcz with
  | [q0, q1, q2, q3, q4], _ =>
    obtain ⟨fuel, hf⟩ := hd
    obtain ⟨a, ha, e0, e1, e2, e3, e4⟩ := cells_acc hf
    subst e0 e1 e2 e3 e4
    exact ⟨a, rfl, ha⟩
/-- AN ARGUMENT THAT IS AN ANSWER. -/
theorem view_ans {v : Value} {d : DataW H} {p : List MemPlace}
    (hsz : ∀ parts, d = .agg parts → (DataW.weightsEach Try.prog [26, 4, 4, 36] parts).all (· ≤ reachBytes) = true)
    (hval : Value.okWide Try.prog W .any 0 38 v) (hd : DataW.Trod enc Try.prog W 0 (fun _ => true) true 38 v d p) :
    ∃ (b : AnsM) (vl : Value), v = .agg #[.int .u64 b.val, .bool b.ok, .bool b.late, vl] ∧ SlI W .i64 vl b.list ∧ b.val = IntKind.u64.wrap b.val := by
  obtain ⟨cs, rfl, hcz⟩ := okWide_struct Try.underlying38 hval
  rw [show Try.prog.cellsOf 38 = 4 by kernel_rfl] at hcz
  obtain ⟨l⟩ := cs
  match l, hcz with
  | [q0, q1, q2, q3], _ =>
    obtain ⟨fuel, hf⟩ := hd
    obtain ⟨y0, y1, y2, y3, n, hx, g0, g1, g2, g3⟩ := open4 Try.underlying38 (by kernel_rfl) hf
    have hsz' := hsz _ hx
    obtain ⟨z0, e0, -, w0⟩ := DataW.trod_int Try.underlying26 g0
    obtain ⟨b1, e1, -⟩ := DataW.trod_bool Try.underlying4 g1
    obtain ⟨b2, e2, -⟩ := DataW.trod_bool Try.underlying4 g2
    obtain ⟨lc, hlc⟩ := view_cell (v := q3) (k := .i64) Try.underlying36 Try.underlying3 (by kernel_rfl) (fun elems sp hd => sized_slice hsz' (j := 3) (t := 36) (e := 3) rfl (by simp; exact hd) Try.underlying36) (of_decide_eq_true (by kernel_rfl)) g3
    simp at e0 e1 e2
    subst e0 e1 e2
    exact ⟨⟨z0, b1, b2, lc⟩, q3, rfl, hlc, wrap_of_wf w0⟩
/-- AN ARGUMENT THAT IS A RECORD. -/
theorem view_item {v : Value} {d : DataW H} {p : List MemPlace}
    (hval : Value.okWide Try.prog W .any 0 57 v) (hd : DataW.Trod enc Try.prog W 0 (fun _ => true) true 57 v d p) : ∃ x, v = itemV x ∧ x.good := by
  obtain ⟨cs, rfl, hcz⟩ := okWide_struct Try.underlying57 hval
  rw [show Try.prog.cellsOf 57 = 8 by kernel_rfl] at hcz
  obtain ⟨l⟩ := cs
  match l, hcz with
  | [q0, q1, q2, q3, q4, q5, q6, q7], _ =>
    obtain ⟨fuel, hf⟩ := hd
    obtain ⟨xs, n, _, hx, _, hlen, hg⟩ := DataW.trod_struct Try.underlying57 hf
    have c3 : Try.prog.cellsOf 3 = 1 := by kernel_rfl
    have c28 : Try.prog.cellsOf 28 = 5 := by kernel_rfl
    have c26 : Try.prog.cellsOf 26 = 1 := by kernel_rfl
    have c4 : Try.prog.cellsOf 4 = 1 := by kernel_rfl
    match xs, hlen with
    | [y0, y1, y2, y3], _ =>
      have g0 : DataW.trod enc Try.prog W 0 (fun _ => true) true n 3 [q0] = some y0 := by simpa [c3, Value.cells] using hg 0 _ rfl
      have g1 : DataW.trod enc Try.prog W 0 (fun _ => true) true n 28 [q1, q2, q3, q4, q5] = some y1 := by simpa [c28, Value.cells] using hg 1 _ rfl
      have g2 : DataW.trod enc Try.prog W 0 (fun _ => true) true n 26 [q6] = some y2 := by simpa [c26, Value.cells] using hg 2 _ rfl
      have g3 : DataW.trod enc Try.prog W 0 (fun _ => true) true n 4 [q7] = some y3 := by simpa [c4, Value.cells] using hg 3 _ rfl
      obtain ⟨z0, e0, -, w0⟩ := DataW.trod_int Try.underlying3 g0
      obtain ⟨a, ha, a0, a1, a2, a3, a4⟩ := cells_acc g1
      obtain ⟨z2, e2, -, w2⟩ := DataW.trod_int Try.underlying26 g2
      obtain ⟨b3, e3, -⟩ := DataW.trod_bool Try.underlying4 g3
      simp at e0 e2 e3
      subst e0 e2 e3 a0 a1 a2 a3 a4
      exact ⟨⟨z0, a, z2, b3⟩, rfl, wrap_of_wf w0, ha, wrap_of_wf w2⟩
theorem weights_all {e : TypeId} : ∀ (l : List (DataW H)) (d : DataW H) (n : Nat), d ∈ l → n ∈ d.weights Try.prog e → n ∈ DataW.weightsAll Try.prog e l
  | x :: l, d, n, hd, hn => by
    simp only [DataW.weightsAll, List.mem_append]
    rcases List.mem_cons.1 hd with rfl | hd
    · exact .inl hn
    · exact .inr (weights_all l d n hd hn)
/-- a list of lists of numbers, from its cell -/
theorem view_lists {v : Value} {n : Nat} {x : DataW H × List MemPlace} (hsz : ∀ m ∈ x.1.weights Try.prog 23, m ≤ reachBytes)
    (hf : DataW.trod enc Try.prog W 0 (fun _ => true) true n 23 [v] = some x) : ∃ us ll, SlL W v us ll := by
  rcases open_slice1 Try.underlying23 (by kernel_rfl) hf with ⟨hcs, hx⟩ | ⟨a, len, cap, m, n', V, D, Pl, hcs, _, hl, hm, hmm, hx, hi⟩
  · simp at hcs
    subst hcs
    exact ⟨[], [], SlL.nil _⟩
  · simp at hcs
    subst hcs
    subst hx
    simp only [if_true] at hmm
    subst hmm
    have hw : ∀ k ∈ (DataW.slice ((List.range len).map D) ((List.range (m - len)).map fun j => D (len + j))).weights Try.prog 23, k ≤ reachBytes := hsz
    simp only [DataW.weights, Try.underlying23, List.mem_cons, List.mem_append] at hw
    have hle : len ≤ 140737488351232 := by
      have h1 := hw _ (.inl rfl)
      have hb : Try.prog.bytesOf 36 = 24 := by kernel_rfl
      rw [hb] at h1
      simp only [List.length_map, List.length_range, reachBytes] at h1
      omega
    have each : ∀ i, i < len → ∃ l, SlI W .i64 (V i) l := by
      intro i hil
      obtain ⟨-, ht'⟩ := hi i (by omega)
      refine view_cell (v := V i) (k := .i64) Try.underlying36 Try.underlying3 (by kernel_rfl) (fun elems sp hd => ?_) (of_decide_eq_true (by kernel_rfl)) ht'
      refine hw _ (.inr (.inl (weights_all _ (D i) _ (List.mem_map.2 ⟨i, List.mem_range.2 hil, rfl⟩) ?_)))
      have hd' : D i = .slice elems sp := hd
      rw [hd']
      simp [DataW.weights, Try.underlying36]
    have each' : ∀ i, ∃ l, i < len → SlI W .i64 (V i) l := fun i => by
      by_cases him : i < len
      · obtain ⟨c, hc⟩ := each i him; exact ⟨c, fun _ => hc⟩
      · exact ⟨[], fun h => absurd h him⟩
    refine ⟨(List.range len).map V, (List.range len).map fun i => (each' i).choose, by simpa using hle, by simp, some a, m, by simp, by simpa using hl, fun i hi' => ?_⟩
    simp at hi'
    have hg : ((List.range len).map fun i => (each' i).choose).getD i [] = (each' i).choose := by
      simp [List.getD_eq_getElem?_getD, hi']
    have hu : ((List.range len).map V).getD i (.slice none 0 0) = V i := by
      simp [List.getD_eq_getElem?_getD, hi']
    rw [hg, hu]
    have hsp := (each' i).choose_spec hi'
    have c0 := (hi i (by omega)).1
    have d0 := (hi 0 (by omega)).1
    obtain ⟨b, off, sp⟩ := a
    have hspn : sp = none := by simpa [Addr.add] using World.cell?_spot d0
    subst hspn
    rw [add_plain] at c0
    exact ⟨b, off, rfl, by simpa using World.block_lt_of_cell? W _ c0, c0, hsp⟩
/-- AN ARGUMENT THAT IS A MEMORY. -/
theorem view_mem {v : Value} {d : DataW H} {p : List MemPlace}
    (hsz : ∀ parts, d = .agg parts → (DataW.weightsEach Try.prog [22, 23, 3] parts).all (· ≤ reachBytes) = true)
    (hval : Value.okWide Try.prog W .any 0 25 v) (hd : DataW.Trod enc Try.prog W 0 (fun _ => true) true 25 v d p) : ∃ m, MemV W v m ∧ m.tick = IntKind.i64.wrap m.tick := by
  obtain ⟨cs, rfl, hcz⟩ := okWide_struct Try.underlying25 hval
  rw [show Try.prog.cellsOf 25 = 3 by kernel_rfl] at hcz
  obtain ⟨l⟩ := cs
  match l, hcz with
  | [q0, q1, q2], _ =>
    obtain ⟨fuel, hf⟩ := hd
    obtain ⟨y0, y1, y2, n, hx, g0, g1, g2⟩ := open3 Try.underlying25 (by kernel_rfl) hf
    have hsz' := hsz _ hx
    obtain ⟨lc, hlc⟩ := view_cell (v := q0) (k := .u64) Try.underlying22 Try.underlying26 (by kernel_rfl) (fun elems sp hd => sized_slice hsz' (j := 0) (t := 22) (e := 26) rfl (by simp; exact hd) Try.underlying22) (of_decide_eq_true (by kernel_rfl)) g0
    obtain ⟨us, ll, hll⟩ := view_lists (v := q1) (fun m hm => by
      have := DataW.weights_mem_each (P := Try.prog) (ts := [22, 23, 3]) (ds := [y0.1, y1.1, y2.1]) (j := 1) rfl rfl m hm
      simpa using List.all_eq_true.1 hsz' m this) g1
    obtain ⟨z2, e2, -, w2⟩ := DataW.trod_int Try.underlying3 g2
    simp at e2
    subst e2
    exact ⟨⟨lc, ll, z2⟩, ⟨q0, q1, us, rfl, hlc, hll⟩, wrap_of_wf w2⟩
end
end Go.Proofs.Ytkpnakomlfjndaa
