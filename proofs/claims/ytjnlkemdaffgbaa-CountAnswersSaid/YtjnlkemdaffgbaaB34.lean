
import Derived.Test.YtjnlkemdaffgbaaB33
import Derived.Test.YtjnlkemdaffgbaaB02
import Derived.Test.YtjnlkemdaffgbaaB04
import Derived.Test.YtjnlkemdaffgbaaB12
import Derived.Test.YtjnlkemdaffgbaaB16
import Derived.Test.YtjnlkemdaffgbaaB14
import Derived.Test.YtjnlkemdaffgbaaB28
import Derived.Test.YtjnlkemdaffgbaaB06
import Derived.Test.YtjnlkemdaffgbaaB05
set_option linter.unusedVariables false
set_option linter.unusedSimpArgs false
/- From the reading of arguments that are accesses, answers, records, memories to the words of the walks. -/
namespace Go.Proofs.Ytjnlkemdaffgbaa
open Go.ChangeShapes Go.WideShapes Go.ChangeAt Go.RowKit Go.Deep
set_option maxRecDepth 100000

section
variable {H : Type} {enc : TypeId × Value → H} {W : World}
theorem open4 {t : TypeId} {f0 f1 f2 f3 : Field} {q0 q1 q2 q3 : Value} {fuel : Nat} {x : DataW H × List MemPlace} (hs : Try.prog.underlying t = some (.struct #[f0, f1, f2, f3])) (hone : oneCellFields Try.prog #[f0, f1, f2, f3] = true)
    (h : DataW.trod enc Try.prog W 0 (fun _ => true) true fuel t [q0, q1, q2, q3] = some x) :
    ∃ (y0 y1 y2 y3 : DataW H × List MemPlace) (n : Nat), x.1 = .agg [y0.1, y1.1, y2.1, y3.1] ∧ DataW.trod enc Try.prog W 0 (fun _ => true) true n f0.type [q0] = some y0 ∧ DataW.trod enc Try.prog W 0 (fun _ => true) true n f1.type [q1] = some y1 ∧ DataW.trod enc Try.prog W 0 (fun _ => true) true n f2.type [q2] = some y2 ∧ DataW.trod enc Try.prog W 0 (fun _ => true) true n f3.type [q3] = some y3 := by
  obtain ⟨xs, n, _, hx, _, hlen, hg⟩ := DataW.trod_struct hs h
  obtain ⟨o0, k0⟩ := hone_of hone 0 f0 rfl
  obtain ⟨o1, k1⟩ := hone_of hone 1 f1 rfl
  obtain ⟨o2, k2⟩ := hone_of hone 2 f2 rfl
  obtain ⟨o3, k3⟩ := hone_of hone 3 f3 rfl
  match xs, hlen with
  | [y0, y1, y2, y3], _ =>
    subst hx
    exact ⟨y0, y1, y2, y3, n, rfl, by simpa [o0, k0] using hg 0 f0 rfl, by simpa [o1, k1] using hg 1 f1 rfl, by simpa [o2, k2] using hg 2 f2 rfl, by simpa [o3, k3] using hg 3 f3 rfl⟩
theorem open5 {t : TypeId} {f0 f1 f2 f3 f4 : Field} {q0 q1 q2 q3 q4 : Value} {fuel : Nat} {x : DataW H × List MemPlace} (hs : Try.prog.underlying t = some (.struct #[f0, f1, f2, f3, f4])) (hone : oneCellFields Try.prog #[f0, f1, f2, f3, f4] = true)
    (h : DataW.trod enc Try.prog W 0 (fun _ => true) true fuel t [q0, q1, q2, q3, q4] = some x) :
    ∃ (y0 y1 y2 y3 y4 : DataW H × List MemPlace) (n : Nat), x.1 = .agg [y0.1, y1.1, y2.1, y3.1, y4.1] ∧ DataW.trod enc Try.prog W 0 (fun _ => true) true n f0.type [q0] = some y0 ∧ DataW.trod enc Try.prog W 0 (fun _ => true) true n f1.type [q1] = some y1 ∧ DataW.trod enc Try.prog W 0 (fun _ => true) true n f2.type [q2] = some y2 ∧ DataW.trod enc Try.prog W 0 (fun _ => true) true n f3.type [q3] = some y3 ∧ DataW.trod enc Try.prog W 0 (fun _ => true) true n f4.type [q4] = some y4 := by
  obtain ⟨xs, n, _, hx, _, hlen, hg⟩ := DataW.trod_struct hs h
  obtain ⟨o0, k0⟩ := hone_of hone 0 f0 rfl
  obtain ⟨o1, k1⟩ := hone_of hone 1 f1 rfl
  obtain ⟨o2, k2⟩ := hone_of hone 2 f2 rfl
  obtain ⟨o3, k3⟩ := hone_of hone 3 f3 rfl
  obtain ⟨o4, k4⟩ := hone_of hone 4 f4 rfl
  match xs, hlen with
  | [y0, y1, y2, y3, y4], _ =>
    subst hx
    exact ⟨y0, y1, y2, y3, y4, n, rfl, by simpa [o0, k0] using hg 0 f0 rfl, by simpa [o1, k1] using hg 1 f1 rfl, by simpa [o2, k2] using hg 2 f2 rfl, by simpa [o3, k3] using hg 3 f3 rfl, by simpa [o4, k4] using hg 4 f4 rfl⟩

/-- an access, from its cells -/
theorem cells_acc {n : Nat} {q0 q1 q2 q3 q4 : Value} {x : DataW H × List MemPlace} (hf : DataW.trod enc Try.prog W 0 (fun _ => true) true n 69 [q0, q1, q2, q3, q4] = some x) :
    ∃ a : AccM, a.ok ∧ q0 = .int .i64 a.kind ∧ q1 = .int .i64 a.addr ∧ q2 = .int .u64 a.old ∧ q3 = .int .u64 a.new ∧ q4 = .int .i64 a.til := by
  obtain ⟨y0, y1, y2, y3, y4, n, -, g0, g1, g2, g3, g4⟩ := open5 Try.underlying69 (by kernel_rfl) hf
  obtain ⟨z0, e0, -, w0⟩ := DataW.trod_int Try.underlying3 g0
  obtain ⟨z1, e1, -, w1⟩ := DataW.trod_int Try.underlying3 g1
  obtain ⟨z2, e2, -, w2⟩ := DataW.trod_int Try.underlying27 g2
  obtain ⟨z3, e3, -, w3⟩ := DataW.trod_int Try.underlying27 g3
  obtain ⟨z4, e4, -, w4⟩ := DataW.trod_int Try.underlying3 g4
  simp at e0 e1 e2 e3 e4
  exact ⟨⟨z0, z1, z2, z3, z4⟩, ⟨wrap_of_wf w0, wrap_of_wf w1, wrap_of_wf w2, wrap_of_wf w3, wrap_of_wf w4⟩, e0, e1, e2, e3, e4⟩
/-- AN ARGUMENT THAT IS AN ACCESS. -/
theorem view_acc {v : Value} {d : DataW H} {p : List MemPlace}
    (hval : Value.okWide Try.prog W .any 0 69 v) (hd : DataW.Trod enc Try.prog W 0 (fun _ => true) true 69 v d p) : ∃ a, v = accV a ∧ a.ok := by
  obtain ⟨cs, rfl, hcz⟩ := okWide_struct Try.underlying69 hval
  rw [show Try.prog.cellsOf 69 = 5 by kernel_rfl] at hcz
  obtain ⟨l⟩ := cs
  match l, hcz with
  | [q0, q1, q2, q3, q4], _ =>
    obtain ⟨fuel, hf⟩ := hd
    obtain ⟨a, ha, e0, e1, e2, e3, e4⟩ := cells_acc hf
    subst e0 e1 e2 e3 e4
    exact ⟨a, rfl, ha⟩
/-- AN ARGUMENT THAT IS AN ANSWER. -/
theorem view_ans {v : Value} {d : DataW H} {p : List MemPlace}
    (hsz : ∀ parts, d = .agg parts → (DataW.weightsEach Try.prog [27, 4, 4, 33] parts).all (· ≤ reachBytes) = true)
    (hval : Value.okWide Try.prog W .any 0 53 v) (hd : DataW.Trod enc Try.prog W 0 (fun _ => true) true 53 v d p) :
    ∃ (b : AnsM) (vl : Value), v = .agg #[.int .u64 b.val, .bool b.ok, .bool b.late, vl] ∧ SlI W .i64 vl b.list ∧ b.val = IntKind.u64.wrap b.val := by
  obtain ⟨cs, rfl, hcz⟩ := okWide_struct Try.underlying53 hval
  rw [show Try.prog.cellsOf 53 = 4 by kernel_rfl] at hcz
  obtain ⟨l⟩ := cs
  match l, hcz with
  | [q0, q1, q2, q3], _ =>
    obtain ⟨fuel, hf⟩ := hd
    obtain ⟨y0, y1, y2, y3, n, hx, g0, g1, g2, g3⟩ := open4 Try.underlying53 (by kernel_rfl) hf
    have hsz' := hsz _ hx
    obtain ⟨z0, e0, -, w0⟩ := DataW.trod_int Try.underlying27 g0
    obtain ⟨b1, e1, -⟩ := DataW.trod_bool Try.underlying4 g1
    obtain ⟨b2, e2, -⟩ := DataW.trod_bool Try.underlying4 g2
    obtain ⟨lc, hlc⟩ := view_cell (v := q3) (k := .i64) Try.underlying33 Try.underlying3 (by kernel_rfl) (fun elems sp hd => sized_slice hsz' (j := 3) (t := 33) (e := 3) rfl (by simp; exact hd) Try.underlying33) (of_decide_eq_true (by kernel_rfl)) g3
    simp at e0 e1 e2
    subst e0 e1 e2
    exact ⟨⟨z0, b1, b2, lc⟩, q3, rfl, hlc, wrap_of_wf w0⟩
/-- AN ARGUMENT THAT IS A RECORD. -/
theorem view_item {v : Value} {d : DataW H} {p : List MemPlace}
    (hval : Value.okWide Try.prog W .any 0 71 v) (hd : DataW.Trod enc Try.prog W 0 (fun _ => true) true 71 v d p) : ∃ x, v = itemV x ∧ x.good := by
  obtain ⟨cs, rfl, hcz⟩ := okWide_struct Try.underlying71 hval
  rw [show Try.prog.cellsOf 71 = 8 by kernel_rfl] at hcz
  obtain ⟨l⟩ := cs
  match l, hcz with
  | [q0, q1, q2, q3, q4, q5, q6, q7], _ =>
    obtain ⟨fuel, hf⟩ := hd
    obtain ⟨xs, n, _, hx, _, hlen, hg⟩ := DataW.trod_struct Try.underlying71 hf
    have c3 : Try.prog.cellsOf 3 = 1 := by kernel_rfl
    have c28 : Try.prog.cellsOf 69 = 5 := by kernel_rfl
    have c26 : Try.prog.cellsOf 27 = 1 := by kernel_rfl
    have c4 : Try.prog.cellsOf 4 = 1 := by kernel_rfl
    match xs, hlen with
    | [y0, y1, y2, y3], _ =>
      have g0 : DataW.trod enc Try.prog W 0 (fun _ => true) true n 3 [q0] = some y0 := by simpa [c3, Value.cells] using hg 0 _ rfl
      have g1 : DataW.trod enc Try.prog W 0 (fun _ => true) true n 69 [q1, q2, q3, q4, q5] = some y1 := by simpa [c28, Value.cells] using hg 1 _ rfl
      have g2 : DataW.trod enc Try.prog W 0 (fun _ => true) true n 27 [q6] = some y2 := by simpa [c26, Value.cells] using hg 2 _ rfl
      have g3 : DataW.trod enc Try.prog W 0 (fun _ => true) true n 4 [q7] = some y3 := by simpa [c4, Value.cells] using hg 3 _ rfl
      obtain ⟨z0, e0, -, w0⟩ := DataW.trod_int Try.underlying3 g0
      obtain ⟨a, ha, a0, a1, a2, a3, a4⟩ := cells_acc g1
      obtain ⟨z2, e2, -, w2⟩ := DataW.trod_int Try.underlying27 g2
      obtain ⟨b3, e3, -⟩ := DataW.trod_bool Try.underlying4 g3
      simp at e0 e2 e3
      subst e0 e2 e3 a0 a1 a2 a3 a4
      exact ⟨⟨z0, a, z2, b3⟩, rfl, wrap_of_wf w0, ha, wrap_of_wf w2⟩
theorem weights_all {e : TypeId} : ∀ (l : List (DataW H)) (d : DataW H) (n : Nat), d ∈ l → n ∈ d.weights Try.prog e → n ∈ DataW.weightsAll Try.prog e l
  | x :: l, d, n, hd, hn => by
    simp only [DataW.weightsAll, List.mem_append]
    rcases List.mem_cons.1 hd with rfl | hd
    · exact .inl hn
    · exact .inr (weights_all l d n hd hn)
/-- a list of lists of numbers, from its cell -/
theorem view_lists {v : Value} {n : Nat} {x : DataW H × List MemPlace} (hsz : ∀ m ∈ x.1.weights Try.prog 37, m ≤ reachBytes)
    (hf : DataW.trod enc Try.prog W 0 (fun _ => true) true n 37 [v] = some x) : ∃ us ll, SlL W v us ll := by
  rcases open_slice1 Try.underlying37 (by kernel_rfl) hf with ⟨hcs, hx⟩ | ⟨a, len, cap, m, n', V, D, Pl, hcs, _, hl, hm, hmm, hx, hi⟩
  · simp at hcs
    subst hcs
    exact ⟨[], [], SlL.nil _⟩
  · simp at hcs
    subst hcs
    subst hx
    simp only [if_true] at hmm
    subst hmm
    have hw : ∀ k ∈ (DataW.slice ((List.range len).map D) ((List.range (m - len)).map fun j => D (len + j))).weights Try.prog 37, k ≤ reachBytes := hsz
    simp only [DataW.weights, Try.underlying37, List.mem_cons, List.mem_append] at hw
    have hle : len ≤ 140737488351232 := by
      have h1 := hw _ (.inl rfl)
      have hb : Try.prog.bytesOf 33 = 24 := by kernel_rfl
      rw [hb] at h1
      simp only [List.length_map, List.length_range, reachBytes] at h1
      omega
    have each : ∀ i, i < len → ∃ l, SlI W .i64 (V i) l := by
      intro i hil
      obtain ⟨-, ht'⟩ := hi i (by omega)
      refine view_cell (v := V i) (k := .i64) Try.underlying33 Try.underlying3 (by kernel_rfl) (fun elems sp hd => ?_) (of_decide_eq_true (by kernel_rfl)) ht'
      refine hw _ (.inr (.inl (weights_all _ (D i) _ (List.mem_map.2 ⟨i, List.mem_range.2 hil, rfl⟩) ?_)))
      have hd' : D i = .slice elems sp := hd
      rw [hd']
      simp [DataW.weights, Try.underlying33]
    have each' : ∀ i, ∃ l, i < len → SlI W .i64 (V i) l := fun i => by
      by_cases him : i < len
      · obtain ⟨c, hc⟩ := each i him; exact ⟨c, fun _ => hc⟩
      · exact ⟨[], fun h => absurd h him⟩
    refine ⟨(List.range len).map V, (List.range len).map fun i => (each' i).choose, by simpa using hle, by simp, some a, m, by simp, by simpa using hl, fun i hi' => ?_⟩
    simp at hi'
    have hg : ((List.range len).map fun i => (each' i).choose).getD i [] = (each' i).choose := by
      simp [List.getD_eq_getElem?_getD, hi']
    have hu : ((List.range len).map V).getD i (.slice none 0 0) = V i := by
      simp [List.getD_eq_getElem?_getD, hi']
    rw [hg, hu]
    have hsp := (each' i).choose_spec hi'
    have c0 := (hi i (by omega)).1
    have d0 := (hi 0 (by omega)).1
    obtain ⟨b, off, sp⟩ := a
    have hspn : sp = none := by simpa [Addr.add] using World.cell?_spot d0
    subst hspn
    rw [add_plain] at c0
    exact ⟨b, off, rfl, by simpa using World.block_lt_of_cell? W _ c0, c0, hsp⟩
/-- AN ARGUMENT THAT IS A MEMORY. -/
theorem view_mem {v : Value} {d : DataW H} {p : List MemPlace}
    (hsz : ∀ parts, d = .agg parts → (DataW.weightsEach Try.prog [34, 37, 3] parts).all (· ≤ reachBytes) = true)
    (hval : Value.okWide Try.prog W .any 0 39 v) (hd : DataW.Trod enc Try.prog W 0 (fun _ => true) true 39 v d p) : ∃ m, MemV W v m ∧ m.tick = IntKind.i64.wrap m.tick := by
  obtain ⟨cs, rfl, hcz⟩ := okWide_struct Try.underlying39 hval
  rw [show Try.prog.cellsOf 39 = 3 by kernel_rfl] at hcz
  obtain ⟨l⟩ := cs
  match l, hcz with
  | [q0, q1, q2], _ =>
    obtain ⟨fuel, hf⟩ := hd
    obtain ⟨y0, y1, y2, n, hx, g0, g1, g2⟩ := open3 Try.underlying39 (by kernel_rfl) hf
    have hsz' := hsz _ hx
    obtain ⟨lc, hlc⟩ := view_cell (v := q0) (k := .u64) Try.underlying34 Try.underlying27 (by kernel_rfl) (fun elems sp hd => sized_slice hsz' (j := 0) (t := 34) (e := 27) rfl (by simp; exact hd) Try.underlying34) (of_decide_eq_true (by kernel_rfl)) g0
    obtain ⟨us, ll, hll⟩ := view_lists (v := q1) (fun m hm => by
      have := DataW.weights_mem_each (P := Try.prog) (ts := [34, 37, 3]) (ds := [y0.1, y1.1, y2.1]) (j := 1) rfl rfl m hm
      simpa using List.all_eq_true.1 hsz' m this) g1
    obtain ⟨z2, e2, -, w2⟩ := DataW.trod_int Try.underlying3 g2
    simp at e2
    subst e2
    exact ⟨⟨lc, ll, z2⟩, ⟨q0, q1, us, rfl, hlc, hll⟩, wrap_of_wf w2⟩
end
end Go.Proofs.Ytjnlkemdaffgbaa
/- From the reading of an argument that is a list of answers to the words of the walks. -/
namespace Go.Proofs.Ytjnlkemdaffgbaa
open Go.ChangeShapes Go.WideShapes Go.ChangeAt Go.RowKit Go.Deep
set_option maxRecDepth 100000

/-- an answer in a list: what its four cells hold -/
structure AnsC where
  val : Int
  ok : Bool
  late : Bool
  a : Option Addr
  n : Nat
  c : Nat
def noAns : AnsC := ⟨0, false, false, none, 0, 0⟩
def AnsC.row (b : AnsC) : List Value := [.int .u64 b.val, .bool b.ok, .bool b.late, .slice b.a b.n b.c]
/-- The slice value v reads in w as the list l of answers. -/
def SlA (w : World) (v : Value) (l : List AnsC) : Prop :=
  l.length ≤ 140737488351232 ∧ (∀ b ∈ l, 0 ≤ b.val ∧ b.val < 18446744073709551616) ∧ ∃ a cap, v = .slice a l.length cap ∧ l.length ≤ cap ∧
    ∀ t, t < l.length → ∃ b off, a = some ⟨b, off, none⟩ ∧ b < w.heap.size ∧ ∀ j, j < 4 → w.cell? ⟨b, off + (t * 4 + j), none⟩ = some ((l.getD t noAns).row.getD j (.bool false))
theorem SlA.below {w w' : World} {v : Value} {l : List AnsC} (h : SlA w v l) (hb : Below w.heap.size w w') : SlA w' v l := by
  obtain ⟨h1, h2, a, cap, h3, h4, h5⟩ := h
  refine ⟨h1, h2, a, cap, h3, h4, fun t ht => ?_⟩
  obtain ⟨b, off, e, hlt, hc⟩ := h5 t ht
  exact ⟨b, off, e, Nat.lt_of_lt_of_le hlt hb.size, fun j hj => (hb.cell (p := ⟨b, off + (t * 4 + j), none⟩) hlt).trans (hc j hj)⟩
theorem SlA.len {w : World} {v : Value} {l : List AnsC} (h : SlA w v l) : ∃ a cap, v = .slice a l.length cap := by
  obtain ⟨_, _, a, cap, rfl, _⟩ := h
  exact ⟨a, cap, rfl⟩
theorem SlA.nil (w : World) : SlA w (.slice none 0 0) [] := ⟨by simp, by simp, none, 0, rfl, Nat.le_refl _, fun t ht => by simp at ht⟩
/-- a cell that is a list of ints: some slice -/
theorem slice_cell {H : Type} {enc : TypeId × Value → H} {W : World} {t e : TypeId} {v : Value} {n : Nat} {x : DataW H × List MemPlace} (ht : Try.prog.underlying t = some (.slice e)) (hf : DataW.trod enc Try.prog W 0 (fun _ => true) true n t [v] = some x) : ∃ a m c, v = .slice a m c := by
  rcases open_slice ht hf with ⟨hcs, _⟩ | ⟨a, len, cap, m, n', D, Pl, hcs, _⟩
  · simp at hcs; exact ⟨_, _, _, hcs⟩
  · simp at hcs; exact ⟨_, _, _, hcs⟩
/-- AN ARGUMENT THAT IS A LIST OF ANSWERS. -/
theorem view_answers {H : Type} {enc : TypeId × Value → H} {W : World} {v : Value} {d : DataW H} {p : List MemPlace} (hsz : ∀ elems sp, d = .slice elems sp → (elems.length + sp.length) * Try.prog.bytesOf 53 ≤ reachBytes)
    (hval : Value.okWide Try.prog W .any 0 30 v) (hd : DataW.Trod enc Try.prog W 0 (fun _ => true) true 30 v d p) : ∃ l, SlA W v l := by
  obtain ⟨a0, len0, cap0, rfl⟩ := okWide_slice Try.underlying30 hval
  obtain ⟨fuel, hf⟩ := hd
  have hC : Try.prog.cellsOf 53 = 4 := by kernel_rfl
  rcases open_slice Try.underlying30 hf with ⟨hcs, hx⟩ | ⟨a, len, cap, m, n', D, Pl, hcs, _, hl, hm, hmm, hx, hi⟩
  · simp [Value.cells] at hcs
    obtain ⟨rfl, rfl, rfl⟩ := hcs
    exact ⟨[], SlA.nil _⟩
  · simp [Value.cells] at hcs
    obtain ⟨rfl, rfl, rfl⟩ := hcs
    simp only [Prod.mk.injEq] at hx
    obtain ⟨rfl, rfl⟩ := hx
    simp only [if_true] at hmm
    subst hmm
    have hle : len0 ≤ 140737488351232 := by
      have h1 := hsz _ _ rfl
      have hb : Try.prog.bytesOf 53 = 40 := by kernel_rfl
      rw [hb] at h1
      simp only [List.length_map, List.length_range, reachBytes] at h1
      omega
    have each : ∀ i, i < m → ∃ b : AnsC, (0 ≤ b.val ∧ b.val < 18446744073709551616) ∧ ∀ j, j < 4 → W.cell? (a.add (i * 4 + j)) = some (b.row.getD j (.bool false)) := by
      intro i him
      obtain ⟨cs', hc', ht'⟩ := hi i him
      rw [hC] at hc'
      obtain ⟨_, hcl, hat⟩ := World.cells?_some hc'
      match cs', hcl with
      | [q0, q1, q2, q3], _ =>
        obtain ⟨y0, y1, y2, y3, n2, -, g0, g1, g2, g3⟩ := open4 Try.underlying53 (by kernel_rfl) ht'
        obtain ⟨z0, hz0, -, wz0⟩ := DataW.trod_int Try.underlying27 g0
        obtain ⟨b1, hb1, -⟩ := DataW.trod_bool Try.underlying4 g1
        obtain ⟨b2, hb2, -⟩ := DataW.trod_bool Try.underlying4 g2
        obtain ⟨sa, sn, sc, hs⟩ := slice_cell Try.underlying33 g3
        simp at hz0 hb1 hb2
        subst hz0 hb1 hb2 hs
        have hw := wrap_of_wf wz0
        rw [IntKind.wrap_u64] at hw
        have aa : ∀ j, (a.add (i * 4)).add j = a.add (i * 4 + j) := fun j => by
          unfold Addr.add
          by_cases hi0 : i * 4 = 0 <;> by_cases hj : j = 0 <;> simp [hi0, hj, Nat.add_assoc]
        refine ⟨⟨z0, b1, b2, sa, sn, sc⟩, ⟨by show 0 ≤ z0; omega, by show z0 < _; omega⟩, fun j hj => ?_⟩
        have h4 := hat j (by simpa using hj)
        rw [aa] at h4
        have hj4 : j = 0 ∨ j = 1 ∨ j = 2 ∨ j = 3 := by omega
        rcases hj4 with rfl | rfl | rfl | rfl <;> simpa [AnsC.row] using h4
    have each' : ∀ i, ∃ b : AnsC, i < m → (0 ≤ b.val ∧ b.val < 18446744073709551616) ∧ ∀ j, j < 4 → W.cell? (a.add (i * 4 + j)) = some (b.row.getD j (.bool false)) := fun i => by
      by_cases him : i < m
      · obtain ⟨c, hc⟩ := each i him; exact ⟨c, fun _ => hc⟩
      · exact ⟨noAns, fun h => absurd h him⟩
    refine ⟨(List.range len0).map fun i => (each' i).choose, by simpa using hle, ?_, some a, m, by simp, by simpa using hl, fun i hi' => ?_⟩
    · intro c hc
      obtain ⟨i, hir, rfl⟩ := List.mem_map.1 hc
      exact ((each' i).choose_spec (by have := List.mem_range.1 hir; omega)).1
    · simp at hi'
      have hg : ((List.range len0).map fun i => (each' i).choose).getD i noAns = (each' i).choose := by
        simp [List.getD_eq_getElem?_getD, hi']
      rw [hg]
      generalize hch : (each' i).choose = ch
      have hsp := (each' i).choose_spec (by omega)
      rw [hch] at hsp
      have d0 := ((each' 0).choose_spec (by omega)).2 0 (by omega)
      clear hg hch
      obtain ⟨b, off, sp⟩ := a
      have hsp2 : sp = none := by simpa [Addr.add] using World.cell?_spot d0
      subst hsp2
      rw [add_plain] at d0
      refine ⟨b, off, rfl, by simpa using World.block_lt_of_cell? W _ d0, fun j hj => ?_⟩
      have h6 := hsp.2 j hj
      rw [add_plain] at h6
      exact h6
end Go.Proofs.Ytjnlkemdaffgbaa
/- A world of machines beside a block that the law writes. -/
namespace Go.Proofs.Ytjnlkemdaffgbaa
open Go.ChangeShapes Go.WideShapes Go.ChangeAt Go.RowKit
set_option maxRecDepth 100000

theorem MemM.fits.wordU {m : MemM} (h : m.fits) (j : Nat) : U64 (m.words.getD j 0) := by
  by_cases hj : j < m.words.length
  · rw [List.getD_eq_getElem?_getD, List.getElem?_eq_getElem hj]; exact U64.of (h.wf _ (List.getElem_mem hj))
  · rw [List.getD_eq_getElem?_getD, List.getElem?_eq_none (by omega)]; exact U64.zero
theorem newE_len {c : ConfM} (hg : c.good) (h3 : c.caps.length ≤ 3) : 1 ≤ (newE c).words.length ∧ (newE c).words.length ≤ 256 := by
  have hb := hg.base c.caps.length (Nat.le_refl _)
  have ht := hg.thr
  unfold newE
  rw [if_pos (checkC_good hg)]
  show 1 ≤ (chansE c c.caps.length).length ∧ _
  rw [chansE_len]
  unfold ConfM.thrW
  omega
/-- the words of a world's memory -/
theorem WI.wordsAt {WT : TypeId} {w0 w : World} {E : List (Option Nat)} {B D : Nat} {x : WV} {y : WM} (h : WI WT w0 w E B D x y) (hn : 1 ≤ y.m.words.length) : ∃ mb mo, x.mA = some ⟨mb, mo, none⟩ ∧ ∀ w', OffS (x.S E B) w w' → ∀ j, j < y.m.words.length → w'.cell? ⟨mb, mo + j, none⟩ = some (.int .u64 (y.m.words.getD j 0)) := by
  have key : ∀ w', OffS (x.S E B) w w' → ∃ mb mo, x.mA = some ⟨mb, mo, none⟩ ∧ ∀ j, j < y.m.words.length → w'.cell? ⟨mb, mo + j, none⟩ = some (.int .u64 (y.m.words.getD j 0)) := fun w' hw => by
    obtain ⟨vw, vl, us, e, h1, -⟩ := h.mem.at hw
    unfold WV.mem at e
    simp only [Value.agg.injEq, Array.mk.injEq, List.cons.injEq] at e
    obtain ⟨rfl, -⟩ := e
    obtain ⟨b, off, cap, e2, -, -, hc⟩ := h1.open (by intro h0; rw [h0] at hn; simp at hn)
    simp only [Value.slice.injEq] at e2
    exact ⟨b, off, e2.1, hc⟩
  obtain ⟨mb, mo, e, -⟩ := key w (OffS.self _ _)
  refine ⟨mb, mo, e, fun w' hw => ?_⟩
  obtain ⟨mb', mo', e', hc⟩ := key w' hw
  rw [e] at e'
  simp only [Option.some.injEq, Addr.mk.injEq] at e'
  obtain ⟨rfl, rfl, -⟩ := e'
  exact hc
theorem OffS.exempt {S : List (Option Nat)} {w w2 : World} {A : Nat} (hb : Below w.heap.size w w2) (hA : w.heap.size ≤ A) : ∀ w3, OffS (some A :: S) w2 w3 → OffS S w w3 := fun w3 h3 => (OffS.below (S := S) hb).trans h3 fun j hj hm => by
  simp only [List.mem_cons, Option.some.injEq] at hm
  rcases hm with rfl | hm
  · omega
  · exact hm
/-- a block that may change was written -/
theorem WI.poke {WT AT : TypeId} {w0 wr w2 : World} {E : List (Option Nat)} {B D A : Nat} {x : WV} {y : WM} {cs : Array Value} (h : WI WT w0 wr E B D x y) (hAE : some A ∈ E) (hA : wr.heap[A]? = some (.cells cs AT (0, 0))) (hAB : A ≠ B) (hg : wr.grownBy w2 (some A)) (h1 : AT ≠ 58) (h2 : AT ≠ 71) (h3 : AT ≠ 39) (h4 : AT ≠ 61) : WI WT w0 w2 E B D x y := by
  have o1 : OffS (x.S E B) wr w2 := OffS.grown hg (.inr (by simp [WV.S, hAE]))
  have hin : ∀ w3, OffS (x.S E B) w2 w3 → OffS (x.S E B) wr w3 := fun w3 h5 => o1.trans1 h5
  have k : ∀ {e : TypeId} {s : Nat} {v : Value} {r : List (List Value)}, OwnS wr D e s v r → AT ≠ e → OwnS w2 D e s v r := fun ho he => ho.kept hg (by
    rcases ho.2.2 with ⟨rfl, _⟩ | ⟨b, cap, cur, rfl, _, hb, _⟩
    · exact .inl rfl
    · refine .inr ?_
      simp only [Value.ownBlock, ne_eq, Option.some.injEq]
      rintro rfl
      rw [hA] at hb
      simp at hb
      exact he hb.2)
  exact ⟨h.w0B, fun j hj => ⟨(h.eW j hj).1, Nat.lt_of_lt_of_le (h.eW j hj).2 hg.size⟩, h.BD, Nat.le_trans h.Dw hg.size, (hg.block B h.lt (by simp; omega)).trans h.row, fun w3 h5 => h.conf w3 (hin w3 h5), h.good, h.mem.sub hin, h.fits, k h.ol h1, k h.ot h2, k h.op h3, k h.of h4, fun z hz => (h.past z hz).sub hin, h.below.grown hg h.below.size (fun j hj => by cases hj; exact (h.eW A hAE).1)⟩
theorem U64.wrapped (x : Int) : U64 (IntKind.u64.wrap x) := by rw [IntKind.wrap_u64]; unfold U64; omega
theorem cell_heap {w w' : World} {b : Nat} (h : w'.heap[b]? = w.heap[b]?) (o : Nat) : w'.cell? ⟨b, o, none⟩ = w.cell? ⟨b, o, none⟩ := by
  simp [World.cell?, h]
theorem CodesE.grown2 {w : World} {g a b o1 o2 : Nat} {l1 l2 : List Value} (h : CodesE w g) (h1 : g < a) (h2 : g < b) : CodesE ((w.setCells a o1 l1).setCells b o2 l2) g :=
  (h.grown h1 (setCells_grown a l1 o1 w)).grown h2 (setCells_grown b l2 o2 _)
/-- the lists of machines and of frames lie in different blocks -/
theorem lists_apart {WT : TypeId} {w0 w : World} {E : List (Option Nat)} {B D : Nat} {x : WV} {y : WM} (h : WI WT w0 w E B D x y) {gl fl : Nat} (hl : x.lA = some ⟨gl, 0, none⟩) (hf : x.fA = some ⟨fl, 0, none⟩) : fl ≠ gl := by
  rintro rfl
  have h1 := h.ol
  have h2 := h.of
  unfold WV.vl at h1
  unfold WV.vf at h2
  rw [hl] at h1
  rw [hf] at h2
  rcases h1.2.2 with ⟨e, _⟩ | ⟨b, cap, cur, e, _, hb, _⟩
  · simp at e
  · rcases h2.2.2 with ⟨e', _⟩ | ⟨b', cap', cur', e', _, hb', _⟩
    · simp at e'
    · simp only [Value.slice.injEq, Option.some.injEq, Addr.mk.injEq] at e e'
      rw [← e.1.1] at hb
      rw [← e'.1.1, hb] at hb'
      simp at hb'
theorem there_keep {w u : World} {b o n a o1 : Nat} {l1 : List Value} (h : w.there b o n) (hb : Below w.heap.size w u) (hl : b < w.heap.size) (hne : b ≠ a) : (u.setCells a o1 l1).there b o n := fun j hj => by
  have h1 := there_below h hb hl j hj
  have h2 := setCells_other a l1 o1 u b hne
  have e1 : (u.setCells a o1 l1).cell? ⟨b, o + j, none⟩ = u.cell? ⟨b, o + j, none⟩ := cell_heap h2 _
  have e2 : (u.setCells a o1 l1).frozen? ⟨b, o + j, none⟩ = u.frozen? ⟨b, o + j, none⟩ := by simp [World.frozen?, h2]
  rw [e1, e2]
  exact h1
theorem SlA.elemAt {w : World} {v : Value} {l : List AnsC} (h : SlA w v l) (i : Nat) (hi : i < l.length) : ∃ b o c, v = .slice (some ⟨b, o, none⟩) l.length c ∧ b < w.heap.size ∧ w.cell? ⟨b, o + i * 4, none⟩ = some (.int .u64 (l.getD i noAns).val) ∧ w.cell? ⟨b, o + i * 4 + 1, none⟩ = some (.bool (l.getD i noAns).ok) ∧ w.cell? ⟨b, o + i * 4 + 2, none⟩ = some (.bool (l.getD i noAns).late) ∧ w.cell? ⟨b, o + i * 4 + 3, none⟩ = some (.slice (l.getD i noAns).a (l.getD i noAns).n (l.getD i noAns).c) := by
  obtain ⟨_, _, a, cap, rfl, _, h5⟩ := h
  obtain ⟨b, off, rfl, hlt, hc⟩ := h5 i hi
  exact ⟨b, off, cap, rfl, hlt, hc 0 (by omega), hc 1 (by omega), hc 2 (by omega), hc 3 (by omega)⟩
theorem SlA.valU {w : World} {v : Value} {l : List AnsC} (h : SlA w v l) (i : Nat) : U64 (l.getD i noAns).val := by
  by_cases hi : i < l.length
  · rw [List.getD_eq_getElem?_getD, List.getElem?_eq_getElem hi]; exact h.2.1 _ (List.getElem_mem hi)
  · rw [List.getD_eq_getElem?_getD, List.getElem?_eq_none (by omega)]; exact U64.zero
theorem nx_ans {S : List (Option Nat)} {w8 u1 u2 w3 : World} (h1 : Below w8.heap.size w8 u1) (hb : Below u1.heap.size u1 u2) (hS : ∀ j, some j ∈ S → j < w8.heap.size) (h3 : OffS S u2 w3) : Nx (OffS S w8) u1 u2 w3 := by
  have z1 := h1.size
  have z2 := hb.size
  exact ⟨(OffS.below (below_then h1 hb)).trans1 h3, ⟨h3.1, fun j hj hj2 => h3.2 j hj2 (fun e => by have := hS j e; omega)⟩⟩
end Go.Proofs.Ytjnlkemdaffgbaa
/- Layer 11: what a play leaves of the machine that counts; where the records and the past memories of a world lie. -/
namespace Go.Proofs.Ytjnlkemdaffgbaa
open Go.ChangeShapes Go.WideShapes Go.ChangeAt Go.RowKit
set_option maxRecDepth 100000

theorem packI_u64 {s : Int} (P : Nat) (cl : Bool) : U64 (packI (nextI s P) cl) := by
  have h := nextI_rng s P
  unfold packI
  cases cl
  · exact ⟨by simp; omega, by simp; omega⟩
  · exact ⟨by simp; omega, by simp; omega⟩
theorem Rg.two_words {c : ConfM} {m : MemM} {s : Int} {P Q : Nat} {cl : Bool} (h : Rg c m s P Q cl) (hg : c.good) (hk : 1 ≤ c.caps.length) : 2 ≤ m.words.length ∧ U64 (m.words.getD 0 0) := by
  have h1 := h.len
  have h2 := hg.size 0 hk
  exact ⟨by omega, by rw [h.tail]; exact packI_u64 P cl⟩
theorem play_truth {c : ConfM} (hg : c.good) (hk : 1 ≤ c.caps.length) (hf : (newE c).fits) (l : List MachM) (hl : ∀ k ∈ l, Fresh c k) (hn : l.length ≤ 1000) (is : List Nat) (hi : ∀ i ∈ is, i < l.length) (j : Nat) (hj : j < l.length) (hw : l[j].what = 6) (hc : 2 * l.countP (isB 3) + 6 ≤ is.count j) {y : WM}
    (htp : ((y.m, y.l), (y.t.map ItemM.thr, y.p.map Prod.snd)) = is.foldl (stepT rgNE rgRE c) ((newE c, l), ([], []))) :
    ∃ k, y.l[j]? = some k ∧ k.what = 6 ∧ k.pl = 0 ∧ k.ok = 9 ∧ 0 ≤ k.ov ∧ k.ov ≤ c.caps.getD 0 0 ∧ y.p.length = y.t.length ∧ (∀ z ∈ y.p, 2 ≤ z.2.words.length ∧ U64 (z.2.words.getD 0 0)) ∧ ∃ (i : Nat) (h1 : i < y.t.length) (h2 : i < y.p.length), y.t[i].thr = j ∧ restI (y.p[i].2.words.getD 0 0 / 2) (y.p[i].2.words.getD 1 0) = k.ov := by
  have e : is.foldl (stepT rgNE rgRE c) ((newE c, l), ([], [])) = hstT (hrun c ⟨newE c, l, [], []⟩ is) := foldT_hrun c is ⟨newE c, l, [], []⟩
  rw [e] at htp
  have e2 := (hrun_runL c ⟨newE c, l, [], []⟩ is)
  obtain ⟨k, h1, h2, h3, h4, h5, i, m1, h6, h7, h8⟩ := count_truth hg hk hf l hl hn is hi j hj hw hc
  obtain ⟨P2, Q2, cl2, H⟩ := (HI.start hg hk hf l hl).run (by show l.length ≤ 100000; omega) is hi
  have hwh := H.li
  have hkw : k.what = 6 := by
    have hd : dL (newE c, l) = l.countP (isB 3) + 1 := by
      rw [(HI.start hg hk hf l hl).li.dEq]
      show l.countP (isB 3) - 0 + _ = _
      simp
    obtain ⟨k2, a1, a2, a3⟩ := (HI.start hg hk hf l hl).li.ended (by show l.length ≤ 100000; omega) is hi j l[j] (List.getElem?_eq_getElem hj) (.inr hw) (by show 2 * dL (newE c, l) + 4 ≤ _; omega)
    have a4 : (hrun c ⟨newE c, l, [], []⟩ is).l[j]? = some k2 := by
      have : (hrun c ⟨newE c, l, [], []⟩ is).l = (runL c (newE c, l) is).2 := congrArg Prod.snd e2
      rw [this]; exact a1
    rw [h1, Option.some.injEq] at a4
    rw [a4, a2]; exact hw
  clear e e2 hwh
  generalize hrun c ⟨newE c, l, [], []⟩ is = K at *
  unfold hstT at htp
  simp only [Prod.mk.injEq] at htp
  obtain ⟨⟨-, hyl⟩, hyt, hyp⟩ := htp
  have lt : y.t.length = K.t.length := by have := congrArg List.length hyt; simpa using this
  have lp : y.p.length = K.p.length := by have := congrArg List.length hyp; simpa using this
  have hi1 : i < K.p.length := (List.getElem?_eq_some_iff.1 h6).1
  have hlen := H.len
  refine ⟨k, by rw [hyl]; exact h1, hkw, h2, h3, h4, h5, by omega, fun z hz => ?_, i, by omega, by omega, ?_, ?_⟩
  · have hm : z.2 ∈ K.p := hyp ▸ List.mem_map_of_mem hz
    obtain ⟨q, hq, eq⟩ := List.getElem_of_mem hm
    obtain ⟨P1, Q1, cl1, hr⟩ := H.each q z.2 (by rw [List.getElem?_append_left hq, List.getElem?_eq_getElem hq, eq])
    exact hr.two_words hg hk
  · have e3 : (y.t.map ItemM.thr)[i]? = (K.t.map fun x => (x.1 : Int))[i]? := by rw [hyt]
    rw [List.getElem?_map, List.getElem?_map, List.getElem?_eq_getElem (by omega)] at e3
    cases hK : K.t[i]? with
    | none => rw [hK] at h7; cases h7
    | some w =>
      rw [hK] at e3 h7
      simp only [Option.map_some, Option.some.injEq] at e3 h7
      rw [e3, h7]
  · have e3 : (y.p.map Prod.snd)[i]? = some m1 := by rw [hyp]; exact h6
    rw [List.getElem?_map, List.getElem?_eq_getElem (by omega)] at e3
    simp only [Option.map_some, Option.some.injEq] at e3
    rw [e3]; exact h8
section
variable {WT : TypeId} {w0 wr : World} {E : List (Option Nat)} {B D : Nat} {x : WV} {y : WM}
theorem WI.traceAt (h : WI WT w0 wr E B D x y) (i : Nat) (hi : i < y.t.length) : ∃ tl tc, x.tA = some ⟨tl, 0, none⟩ ∧ x.tc = tc ∧ tl < wr.heap.size ∧ wr.cell? ⟨tl, i * 8, none⟩ = some (.int .i64 y.t[i].thr) := by
  obtain ⟨fl, fc, e, h1, h2, h3⟩ := h.ot.open (by rw [List.length_map]; omega)
  have e' := e
  rw [List.length_map] at e'
  simp only [WV.vt, Value.slice.injEq, true_and] at e'
  have ho := h.ot
  rw [e] at ho
  have hr := ho.row i (by rw [List.length_map]; exact hi)
  rw [List.getElem_map] at hr
  exact ⟨fl, fc, e'.1, e'.2, h2, hr.1 0 _ rfl⟩
theorem WI.pastAt (h : WI WT w0 wr E B D x y) (i : Nat) (hi : i < y.p.length) : ∃ pl pc a n k a2 n2 k2 ti, x.pA = some ⟨pl, 0, none⟩ ∧ x.pc = pc ∧ pl < wr.heap.size ∧ wr.cell? ⟨pl, i * 3, none⟩ = some (.slice a n k) ∧ wr.cell? ⟨pl, i * 3 + 1, none⟩ = some (.slice a2 n2 k2) ∧ wr.cell? ⟨pl, i * 3 + 2, none⟩ = some (.int .i64 ti) ∧ Hid (StM (OffS (x.S E B) wr) (.agg #[.slice a n k, .slice a2 n2 k2, .int .i64 ti]) y.p[i].2) := by
  obtain ⟨fl, fc, e, h1, h2, h3⟩ := h.op.open (by rw [List.length_map]; omega)
  have e' := e
  rw [List.length_map] at e'
  simp only [WV.vp, Value.slice.injEq, true_and] at e'
  have ho := h.op
  rw [e] at ho
  have hr := ho.row i (by rw [List.length_map]; exact hi)
  rw [List.getElem_map] at hr
  have hs := h.past y.p[i] (List.getElem_mem hi)
  obtain ⟨vw, vl, us, e2, h4⟩ := hs
  simp only [Value.agg.injEq] at e2
  have e3 : y.p[i].1 = [vw, vl, .int .i64 y.p[i].2.tick] := by have := congrArg Array.toList e2; simpa using this
  obtain ⟨a, k, rfl, -⟩ := (h4 wr (OffS.self _ _)).1.len
  obtain ⟨a2, k2, rfl, -⟩ := (h4 wr (OffS.self _ _)).2.len
  rw [e3] at hr
  exact ⟨fl, fc, a, _, k, a2, _, k2, _, e'.1, e'.2, h2, hr.1 0 _ rfl, hr.1 1 _ rfl, hr.1 2 _ rfl, Lib.hid ⟨_, _, us, rfl, h4⟩⟩
end
end Go.Proofs.Ytjnlkemdaffgbaa
/- Layer 11: how many values are in the ring. -/
namespace Go.Proofs.Ytjnlkemdaffgbaa
open Go.ChangeShapes Go.WideShapes Go.ChangeAt Go.RowKit
set_option maxRecDepth 100000

set_option maxRecDepth 100000 in
set_option maxHeartbeats 16000000 in
theorem used_run (a a2 : Option Addr) (cap cap2 : Nat) (c : ConfM) (hg : c.good) (hk : 0 < c.caps.length) (t h tick : Int) (ht : U64 t) (wb wo nw wc : Nat) (la : Option Addr) (ln lc : Nat) (hnw : 2 ≤ nw) (w : World) (hv : ConfV w (.agg #[.slice a c.caps.length cap, .slice a2 c.starts.length cap2, .int .i64 c.threads]) c) (hwb : wb < w.heap.size) (hw0 : w.cell? ⟨wb, wo, none⟩ = some (.int .u64 t)) (hw1 : w.cell? ⟨wb, wo + 1, none⟩ = some (.int .u64 h)) : Calls Try.prog 19 #[.agg #[.slice a c.caps.length cap, .slice a2 c.starts.length cap2, .int .i64 c.threads], .agg #[.slice (some ⟨wb, wo, none⟩) nw wc, .slice la ln lc, .int .i64 tick]] w fun e w' => e = .returned (.tuple #[.int .i64 (restI (t / 2) h), .bool (closedB t)]) ∧ Below w.heap.size w w' := by
  have TT := Lib.hid fun w' (hb : Below w.heap.size w w') => rtail_any _ c 0 w' (hv.below hb) (Nat.zero_le _) hg
  have TH := Lib.hid fun w' (hb : Below w.heap.size w w') => rheadW_any _ c 0 hk w' (hv.below hb) hg
  rw [show c.base 0 = 0 from rfl] at TT TH
  rw [Int.zero_add] at TH
  have TS := Lib.hid fun w' => rseq1_any t w'
  have TR := Lib.hid fun w' => rrest_any (t / 2) h w'
  have TC := Lib.hid fun w' => rclosed1_any t w' ht.1 ht.2
  have hr : 0 ≤ restI (t / 2) h ∧ restI (t / 2) h < 9223372036854775808 := by unfold restI; omega
  obtain ⟨r, hre⟩ : ∃ r, restI (t / 2) h = r := ⟨_, rfl⟩
  obtain ⟨q, hq⟩ : ∃ q, closedB t = q := ⟨_, rfl⟩
  rw [hre] at hr TR
  rw [hq] at TC
  rw [hre, hq]
  have hrw : IntKind.i64.wrap r = r := by rw [IntKind.wrap_i64]; omega
  obtain ⟨t2, ht2⟩ : ∃ t2, t / 2 = t2 := ⟨_, rfl⟩
  rw [ht2] at TS TR
  have hnI : (0 : Int) < (nw : Int) := by omega
  have hnI1 : (1 : Int) < (nw : Int) := by omega
  clear hre hq ht2 hr hv ht hk hg
  have HK0 := Lib.hid (hw0)
  have hbk0 : wb < w.heap.size := hwb
  have HK1 := Lib.hid (hw1)
  have hbk1 : wb < w.heap.size := hwb
  obtain ⟨W, hW, HB, R0, R1, hz⟩ := two_new w (.cells #[.slice a c.caps.length cap, .slice a2 c.starts.length cap2, .int .i64 c.threads] 36) (.cells #[.slice (some ⟨wb, wo, none⟩) nw wc, .slice la ln lc, .int .i64 tick] 39)
  have HW := Lib.hid hW
  clear hW
  go_enter Try.func19, Try.ntmps19
  go_upto_region 1 with fail
  rw [HW.out]
  clear HW
  obtain ⟨x0_0, x0_1, x0_2⟩ := rowc3 R0.out
  obtain ⟨x1_0, x1_1, x1_2⟩ := rowc3 R1.out
  have ck0 := (HB.out.cell (p := ⟨wb, wo, none⟩) hbk0).trans HK0.out
  have ck1 := (HB.out.cell (p := ⟨wb, wo + 1, none⟩) hbk1).trans HK1.out
  have Xx0_0 := ext_cell _ _ (ltR R0) _ x0_0
  have Xx0_1 := ext_cell _ _ (ltR R0) _ x0_1
  have Xx0_2 := ext_cell _ _ (ltR R0) _ x0_2
  have Xx1_0 := ext_cell _ _ (ltR R1) _ x1_0
  have Xx1_1 := ext_cell _ _ (ltR R1) _ x1_1
  have Xx1_2 := ext_cell _ _ (ltR R1) _ x1_2
  have Xck0 := ext_cell _ _ (Nat.lt_of_lt_of_le hbk0 HB.out.size) _ ck0
  have Xck1 := ext_cell _ _ (Nat.lt_of_lt_of_le hbk1 HB.out.size) _ ck1
  clear x0_0 x0_1 x0_2 x1_0 x1_1 x1_2 ck0 ck1
  refine wp_region_ext W (by kernel_rfl) (by kernel_rfl) (Below.refl _ _) ?_
  repeat (go_big_quiet_step (first
    | (go_at_call 41; with_reducible exact calls_ext (TT.out _ (below_then HB.out (Ext.below _))))
    | (go_at_call 42; with_reducible exact calls_ext (TH.out _ (below_then HB.out (Ext.below _))))))
  refine wpQuiet_nil ?_
  intro _ hw'
  obtain ⟨n9, rfl⟩ := hw'
  have P1_0 := keepR n9.below R0
  have P1_1 := keepR n9.below R1
  have HB1 := Lib.hid (below_then HB.out n9.below)
  generalize n9.wd = w1 at *
  clear Xx0_0 Xx0_1 Xx0_2 Xx1_0 Xx1_1 Xx1_2 Xck0 Xck1
  obtain ⟨x0_0, x0_1, x0_2⟩ := rowc3 P1_0.out
  obtain ⟨x1_0, x1_1, x1_2⟩ := rowc3 P1_1.out
  have ck0 := (HB1.out.cell (p := ⟨wb, wo, none⟩) hbk0).trans HK0.out
  have ck1 := (HB1.out.cell (p := ⟨wb, wo + 1, none⟩) hbk1).trans HK1.out
  go_wp2_with fail
  refine (TS.out _).mono ?_; rintro e w' ⟨rfl, rfl⟩
  go_wp2_with fail
  refine (TR.out _).mono ?_; rintro e w' ⟨rfl, rfl⟩
  go_wp2_with fail
  refine (TC.out _).mono ?_; rintro e w' ⟨rfl, rfl⟩
  go_wp2_with fail
  go_ret2
  exact ⟨by first | rfl | (rw [hrw]) | (simp [hrw]), HB1.out⟩
theorem used_any {G : World → Prop} {v vm : Value} {c : ConfM} {m : MemM} (hg : c.good) (hk : 0 < c.caps.length) (hf : U64 (m.words.getD 0 0)) (hn : 2 ≤ m.words.length) (w : World) (hv : ConfV w v c) (hm : StM G vm m) (hG : G w) : Calls Try.prog 19 #[v, vm] w fun e w' => e = .returned (.tuple #[.int .i64 (restI (m.words.getD 0 0 / 2) (m.words.getD 1 0)), .bool (closedB (m.words.getD 0 0))]) ∧ Below w.heap.size w w' := by
  have HV := hv
  obtain ⟨vc, vs, rfl, h1, h2⟩ := hv
  obtain ⟨a, cap, rfl, -⟩ := h1.len
  obtain ⟨a2, cap2, rfl, -⟩ := h2.len
  obtain ⟨vw, vl, us, rfl, h3, h4⟩ := hm.at hG
  obtain ⟨wb, wo, wc, rfl, -, h5, h6⟩ := h3.open (by intro e; rw [e] at hn; simp at hn)
  obtain ⟨la, lc, rfl⟩ : ∃ la lc, vl = .slice la m.lists.length lc := by
    obtain ⟨la, lc, e, -⟩ := h4.len
    exact ⟨la, lc, e⟩
  exact used_run a a2 cap cap2 c hg hk _ _ _ hf wb wo _ wc la _ lc hn w HV h5 (h6 0 (by omega)) (h6 1 (by omega))
end Go.Proofs.Ytjnlkemdaffgbaa
