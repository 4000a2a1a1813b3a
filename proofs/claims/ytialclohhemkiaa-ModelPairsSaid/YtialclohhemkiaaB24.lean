import Derived.Deep.DeepCutAuto
import Derived.Deep.CutBlock
import Derived.Test.YtialclohhemkiaaB16
import Derived.Test.YtialclohhemkiaaB15
import Derived.Test.YtialclohhemkiaaB12
import Derived.Test.YtialclohhemkiaaB22
import Derived.Test.YtialclohhemkiaaB19
import Derived.Test.YtialclohhemkiaaB01
set_option linter.unusedVariables false
set_option linter.unusedSimpArgs false
/- Layer 14, plainly: the program's Could is the document's. -/
namespace Go.Proofs.Ytialclohhemkiaa
open Go.ChangeShapes Go.WideShapes Go.ChangeAt Go.RowKit
set_option maxRecDepth 100000

theorem modE_case {l : List ChanM} {op : OpM} {k : Nat} (hk : k < (casesE op).length) (r : ResM) (hr : r.case = numE op k) (hd : r.kind = 1 ∨ r.kind = 2 ∨ r.kind = 5) : (modE l op r).isSome = true ↔ aloneE l ((casesE op).getD k noCase) = some ⟨r.kind, -1, r.val, r.ok, r.num⟩ := by
  have h3 : op.kind ≠ 3 := fun e => by rw [good_kind3 op e] at hk; simp at hk
  have hc : chosenE op r = some ((casesE op).getD k noCase) := (chosen_iff op r _).2 ⟨k, hk, rfl, hr⟩
  rw [← doE_iff l _ r hd]
  unfold modE
  by_cases h12 : r.kind = 1 ∨ r.kind = 2
  · rw [if_pos h12, hc]; rfl
  · rw [if_neg h12, if_pos (by omega), if_neg h3, hc]; rfl
theorem alone_shape (l : List ChanM) (x : CaseM) : aloneE l x = none ∨ (x.send = true ∧ (aloneE l x = some ⟨5, -1, 0, false, 0⟩ ∨ aloneE l x = some ⟨1, -1, 0, false, 0⟩)) ∨
    (x.send = false ∧ ((exB l x.chan = true ∧ 0 < (chE l x.chan).buf.length ∧ aloneE l x = some ⟨2, -1, (chE l x.chan).buf.getD 0 0, true, 0⟩) ∨ (¬ (exB l x.chan = true ∧ 0 < (chE l x.chan).buf.length) ∧ aloneE l x = some ⟨2, -1, 0, false, 0⟩))) := by
  unfold aloneE aloneC fndE
  cases hex : exB l x.chan with
  | false => simp
  | true =>
    cases hs : x.send with
    | true =>
      cases hcl : (chE l x.chan).closed with
      | true => simp [hcl]
      | false =>
        by_cases hlt : ((chE l x.chan).buf.length : Int) < (chE l x.chan).cap <;> simp [hcl, hlt]
    | false =>
      by_cases h0 : 0 < (chE l x.chan).buf.length
      · simp [h0]
      · cases hcl : (chE l x.chan).closed <;> simp [h0, hcl]
theorem try_filter {l : List ChanM} {op : OpM} {k : Nat} (hk : k < (casesE op).length) : (tryE l ((casesE op).getD k noCase) (numE op k)).filter (fun r => (modE l op r).isSome) = altR l op k := by
  have hm := fun r hr hd => modE_case (l := l) hk r hr hd
  have hf : ∀ r : ResM, r.case = numE op k → (r.kind = 1 ∨ r.kind = 2 ∨ r.kind = 5) → aloneE l ((casesE op).getD k noCase) ≠ some ⟨r.kind, -1, r.val, r.ok, r.num⟩ → (modE l op r).isSome = false := fun r hr hd hn => by
    cases h : (modE l op r).isSome with
    | false => rfl
    | true => exact absurd ((hm r hr hd).1 h) hn
  unfold altR tryE
  generalize (casesE op).getD k noCase = x at hm hf
  generalize numE op k = n at hm hf
  have hsh := alone_shape l x
  generalize (chE l x.chan).buf.getD 0 0 = b0 at hsh ⊢
  rcases hsh with h | ⟨hs, h | h⟩ | ⟨hs, ⟨h1, h2, h⟩ | ⟨h1, h⟩⟩
  · rw [h] at hf ⊢
    have a5 := hf ⟨5, n, 0, false, 0⟩ rfl (by simp) (by simp)
    have a1 := hf ⟨1, n, 0, false, 0⟩ rfl (by simp) (by simp)
    have a2 := hf ⟨2, n, 0, false, 0⟩ rfl (by simp) (by simp)
    have a3 := hf ⟨2, n, b0, true, 0⟩ rfl (by simp) (by simp)
    cases x.send
    · simp only [Bool.false_eq_true, if_false]
      split <;> simp [List.filter, a2, a3]
    · simp [List.filter, a5, a1]
  · have a5 := (hm ⟨5, n, 0, false, 0⟩ rfl (by simp)).2 h
    have a1 := hf ⟨1, n, 0, false, 0⟩ rfl (by simp) (by rw [h]; simp)
    rw [h, hs]
    simp [List.filter, a5, a1]
  · have a5 := hf ⟨5, n, 0, false, 0⟩ rfl (by simp) (by rw [h]; simp)
    have a1 := (hm ⟨1, n, 0, false, 0⟩ rfl (by simp)).2 h
    rw [h, hs]
    simp [List.filter, a5, a1]
  · have a3 := (hm ⟨2, n, b0, true, 0⟩ rfl (by simp)).2 h
    have a2 := hf ⟨2, n, 0, false, 0⟩ rfl (by simp) (by rw [h]; simp)
    rw [h, hs]
    rw [if_neg (by simp), if_pos ⟨h1, h2⟩]
    simp [List.filter, a2, a3]
  · have a2 := (hm ⟨2, n, 0, false, 0⟩ rfl (by simp)).2 h
    rw [h, hs]
    rw [if_neg (by simp), if_neg h1]
    simp [List.filter, a2]
theorem tries_filter (l : List ChanM) (op : OpM) : ∀ k, k ≤ (casesE op).length → (triesE l op k).filter (fun r => (modE l op r).isSome) = couldAt l op k
  | 0, _ => rfl
  | k + 1, h => by
    rw [triesE_succ, List.filter_append, tries_filter l op k (by omega), try_filter (by omega)]
    rfl
theorem couldP_eq (l : List ChanM) (op : OpM) : couldP l op = couldE l op := by
  unfold couldP couldE allE
  by_cases h3 : op.kind = 3
  · rw [if_pos h3, if_pos h3, good_kind3 op h3]
    have hm6 : (modE l op ⟨6, -1, 0, false, 0⟩).isSome = (exB l op.chan && !(chE l op.chan).closed) := by
      unfold modE onlyB
      rw [if_neg (by decide), if_neg (by decide), if_pos rfl]
      cases exB l op.chan <;> cases (chE l op.chan).closed <;> simp [h3]
    have hm5 : (modE l op ⟨5, -1, 0, false, 0⟩).isSome = !(exB l op.chan && !(chE l op.chan).closed) := by
      unfold modE onlyB
      rw [if_neg (by decide), if_pos rfl, if_pos h3]
      cases exB l op.chan <;> cases (chE l op.chan).closed <;> simp
    unfold closeR fndE triesE
    simp only [List.length_nil, List.range_zero, List.map_nil, List.flatten_nil, List.append_nil, List.filter_cons, hm6, hm5, List.filter_nil]
    cases hex : exB l op.chan <;> cases hcl : (chE l op.chan).closed <;> simp [hcl, noChan]
  · rw [if_neg h3, if_neg h3, List.nil_append]
    exact (tries_filter l op _ (Nat.le_refl _)).symm
end Go.Proofs.Ytialclohhemkiaa
/- Layer 14: the program's Meets. -/
namespace Go.Proofs.Ytialclohhemkiaa
open Go.ChangeShapes Go.WideShapes Go.ChangeAt Go.RowKit
set_option maxRecDepth 100000

def meetP (l : List ChanM) (a b : OpM) : Bool := (casesE a).any fun x => (casesE b).any fun y => rdvB l x y
theorem meetP_yes {l : List ChanM} {a b : OpM} {i k : Nat} (hi : i < (casesE a).length) (hk : k < (casesE b).length) (h : rdvB l ((casesE a).getD i noCase) ((casesE b).getD k noCase) = true) : meetP l a b = true := by
  rw [List.getD_eq_getElem?_getD, List.getD_eq_getElem?_getD, List.getElem?_eq_getElem hi, List.getElem?_eq_getElem hk] at h
  unfold meetP
  rw [List.any_eq_true]
  refine ⟨_, List.getElem_mem hi, ?_⟩
  rw [List.any_eq_true]
  exact ⟨_, List.getElem_mem hk, h⟩
theorem meetP_no {l : List ChanM} {a b : OpM} (h : ∀ i, i < (casesE a).length → ∀ k, k < (casesE b).length → rdvB l ((casesE a).getD i noCase) ((casesE b).getD k noCase) = false) : meetP l a b = false := by
  unfold meetP
  rw [List.any_eq_false]
  intro x hx
  rw [Bool.not_eq_true, List.any_eq_false]
  intro y hy
  obtain ⟨i, hi, rfl⟩ := List.mem_iff_getElem.1 hx
  obtain ⟨k, hk, rfl⟩ := List.mem_iff_getElem.1 hy
  have := h i hi k hk
  rw [List.getD_eq_getElem?_getD, List.getD_eq_getElem?_getD, List.getElem?_eq_getElem hi, List.getElem?_eq_getElem hk] at this
  simpa using this
end Go.Proofs.Ytialclohhemkiaa
/- Layer 14, plainly: the program's Pair and Meets are the document's. -/
namespace Go.Proofs.Ytialclohhemkiaa
open Go.ChangeShapes Go.WideShapes Go.ChangeAt Go.RowKit
set_option maxRecDepth 100000

theorem rdv_exB {l : List ChanM} {p q : CaseM} (h : p.chan = q.chan) : rdvB l p q = rdvB l q p := by
  unfold rdvB fndE
  rw [h]
  cases exB l q.chan <;> cases p.send <;> cases q.send <;> simp
/-- a sends to b -/
theorem half_iff (l : List ChanM) (a : OpM) (x : ResM) (b : OpM) (y : ResM) : halfB l a x b y = true ↔ ∃ p q, chosenE a x = some p ∧ chosenE b y = some q ∧ p.send = true ∧ q.send = false ∧ rdvB l p q = true ∧ passB p.val x y = true := by
  rw [halfB_eq]
  constructor
  · intro h
    simp only [Bool.and_eq_true, decide_eq_true_eq] at h
    obtain ⟨⟨⟨⟨⟨h1, h2⟩, h3⟩, h4⟩, h5⟩, h6⟩ := h
    unfold halfM at h6
    cases hp : chosenE a x with
    | none => rw [hp] at h6; cases h6
    | some p =>
      cases hq : chosenE b y with
      | none => rw [hp, hq] at h6; cases h6
      | some q =>
        rw [hp, hq] at h6
        simp only [Bool.and_eq_true, decide_eq_true_eq, Bool.not_eq_true'] at h6
        obtain ⟨⟨⟨⟨⟨⟨k1, k2⟩, k3⟩, k4⟩, k5⟩, k6⟩, k7⟩ := h6
        refine ⟨p, q, rfl, rfl, k1, k2, ?_, ?_⟩
        · unfold rdvB fndE
          rw [k4, if_pos rfl]
          rw [k3] at k5 k6
          simp [k3, k1, k2, k5, k6]
        · unfold onlyB at h3 h4
          simp only [Bool.false_or, Bool.true_or, Bool.true_and, Bool.and_eq_true, beq_iff_eq, Bool.not_eq_true'] at h3 h4
          unfold passB
          simp [h1, h2, h3, h4, h5, k7]
  · rintro ⟨p, q, hp, hq, k1, k2, hr, hs⟩
    unfold passB at hs
    simp only [Bool.and_eq_true, beq_iff_eq, Bool.not_eq_true'] at hs
    obtain ⟨⟨s1, s2, s3, s4⟩, s5, s6, s7, s8⟩ := hs
    unfold rdvB fndE at hr
    simp only [Bool.and_eq_true, beq_iff_eq, Bool.not_eq_true', decide_eq_true_eq] at hr
    obtain ⟨r1, r2, r3, r4, r5⟩ := hr
    rw [r1, if_pos rfl] at r4 r5
    unfold onlyB halfM
    rw [hp, hq]
    simp [s1, s2, s3, s4, s5, s6, s7, s8, k1, k2, r1, ← r2, r4, r5]
theorem pairP_eq (l : List ChanM) (a : OpM) (x : ResM) (b : OpM) (y : ResM) : pairP l a x b y = pairB l a x b y := by
  rw [Bool.eq_iff_iff]
  unfold pairB
  rw [Bool.or_eq_true, half_iff, half_iff]
  unfold pairP pairC
  constructor
  · intro h
    cases hp : chosenE a x with
    | none => rw [hp] at h; cases h
    | some p =>
      cases hq : chosenE b y with
      | none => rw [hp, hq] at h; cases h
      | some q =>
        rw [hp, hq] at h
        simp only [Bool.and_eq_true] at h
        obtain ⟨h1, h2⟩ := h
        have hne : p.send ≠ q.send ∧ p.chan = q.chan := by
          unfold rdvB at h1
          simp only [Bool.and_eq_true, beq_iff_eq, bne_iff_ne] at h1
          exact ⟨h1.2.2.1, h1.2.1⟩
        cases hs : p.send with
        | true =>
          rw [hs, if_pos rfl] at h2
          exact .inl ⟨p, q, rfl, rfl, hs, by rw [hs] at hne; cases hq2 : q.send <;> simp_all, h1, h2⟩
        | false =>
          rw [hs, if_neg (by simp)] at h2
          refine .inr ⟨q, p, rfl, rfl, by rw [hs] at hne; cases hq2 : q.send <;> simp_all, hs, ?_, h2⟩
          rw [rdv_exB hne.2.symm]; exact h1
  · rintro (⟨p, q, hp, hq, h1, h2, h3, h4⟩ | ⟨q, p, hq, hp, h1, h2, h3, h4⟩)
    · rw [hp, hq]
      simp [h1, h3, h4]
    · rw [hp, hq]
      have hch : q.chan = p.chan := by
        unfold rdvB at h3
        simp only [Bool.and_eq_true, beq_iff_eq] at h3
        exact h3.2.1
      simp [h2, h4, rdv_exB hch.symm, h3]
/-- two cases meet with the results of Meeting exactly if they can -/
theorem pairB_meetPQ {l : List ChanM} {a b : OpM} {i k : Nat} (hi : i < (casesE a).length) (hk : k < (casesE b).length) : pairB l a (meetPQ a b i k).1 b (meetPQ a b i k).2 = rdvB l ((casesE a).getD i noCase) ((casesE b).getD k noCase) := by
  rw [← pairP_eq]
  unfold pairP meetPQ
  have ha : ∀ r : ResM, r.case = numE a i → chosenE a r = some ((casesE a).getD i noCase) := fun r hr => (chosen_iff a r _).2 ⟨i, hi, rfl, hr⟩
  have hb : ∀ r : ResM, r.case = numE b k → chosenE b r = some ((casesE b).getD k noCase) := fun r hr => (chosen_iff b r _).2 ⟨k, hk, rfl, hr⟩
  generalize (casesE a).getD i noCase = x at ha ⊢
  generalize (casesE b).getD k noCase = y at hb ⊢
  cases hs : x.send with
  | true =>
    simp only [if_true]
    rw [ha _ rfl, hb _ rfl]
    unfold pairC
    simp [hs, passB]
  | false =>
    simp only [Bool.false_eq_true, if_false]
    rw [ha _ rfl, hb _ rfl]
    unfold pairC
    simp [hs, passB]
theorem meetsB_eq (l : List ChanM) (a b : OpM) : meetsB l a b = meetP l a b := by
  rw [Bool.eq_iff_iff]
  unfold meetsB
  rw [Bool.not_eq_true', List.isEmpty_eq_false_iff_exists_mem]
  unfold meetP
  rw [List.any_eq_true]
  constructor
  · rintro ⟨pq, h⟩
    unfold meetingE at h
    rw [List.mem_flatten] at h
    obtain ⟨row, hr, hm⟩ := h
    obtain ⟨i, hi, rfl⟩ := List.mem_map.1 hr
    rw [List.mem_range] at hi
    unfold meetRow at hm
    rw [List.mem_filter] at hm
    obtain ⟨hm, hp⟩ := hm
    obtain ⟨k, hk, rfl⟩ := List.mem_map.1 hm
    rw [List.mem_range] at hk
    rw [pairB_meetPQ hi hk] at hp
    rw [List.getD_eq_getElem?_getD, List.getD_eq_getElem?_getD, List.getElem?_eq_getElem hi, List.getElem?_eq_getElem hk] at hp
    exact ⟨_, List.getElem_mem hi, List.any_eq_true.2 ⟨_, List.getElem_mem hk, hp⟩⟩
  · rintro ⟨x, hx, h⟩
    rw [List.any_eq_true] at h
    obtain ⟨y, hy, h⟩ := h
    obtain ⟨i, hi, rfl⟩ := List.mem_iff_getElem.1 hx
    obtain ⟨k, hk, rfl⟩ := List.mem_iff_getElem.1 hy
    refine ⟨meetPQ a b i k, ?_⟩
    unfold meetingE
    rw [List.mem_flatten]
    refine ⟨_, List.mem_map.2 ⟨i, List.mem_range.2 hi, rfl⟩, ?_⟩
    unfold meetRow
    rw [List.mem_filter]
    refine ⟨List.mem_map.2 ⟨k, List.mem_range.2 hk, rfl⟩, ?_⟩
    rw [pairB_meetPQ hi hk, List.getD_eq_getElem?_getD, List.getD_eq_getElem?_getD, List.getElem?_eq_getElem hi, List.getElem?_eq_getElem hk]
    exact h
theorem meetP_symm (l : List ChanM) (a b : OpM) : meetP l a b = meetP l b a := by
  have h1 : ∀ x y : CaseM, rdvB l x y = rdvB l y x := fun x y => by
    by_cases h : x.chan = y.chan
    · exact rdv_exB h
    · unfold rdvB
      have h2 : (x.chan == y.chan) = false := by simpa using h
      have h3 : (y.chan == x.chan) = false := by simpa using fun e => h e.symm
      rw [h2, h3]
      simp
  rw [Bool.eq_iff_iff]
  unfold meetP
  rw [List.any_eq_true, List.any_eq_true]
  constructor
  · rintro ⟨x, hx, h⟩
    rw [List.any_eq_true] at h
    obtain ⟨y, hy, h⟩ := h
    exact ⟨y, hy, List.any_eq_true.2 ⟨x, hx, by rw [h1]; exact h⟩⟩
  · rintro ⟨x, hx, h⟩
    rw [List.any_eq_true] at h
    obtain ⟨y, hy, h⟩ := h
    exact ⟨y, hy, List.any_eq_true.2 ⟨x, hx, by rw [h1]; exact h⟩⟩
end Go.Proofs.Ytialclohhemkiaa
/- The reader of choices: valid selects. -/
namespace Go.Proofs.Ytialclohhemkiaa
open Go.ChangeShapes Go.WideShapes Go.ChangeAt Go.RowKit
set_option maxRecDepth 100000

/-- while a select is made: the reader, the configuration's box in R, the result in R + 1, the variable in R + 2 with its two lists -/
structure SelInv (w0 w : World) (g : Nat) (cc : Array Value) (vc vd : Value) (cs : List CaseM) (ds : List Int) : Prop where
  lt : g < w0.heap.size
  size : w0.heap.size + 3 ≤ w.heap.size
  codes : CodesE w g
  grown : w0.grownBy w (some g)
  box : w.heap[w0.heap.size]? = some (.cells cc 34 (0, 0))
  res : w.heap[w0.heap.size + 1]? = some (.cells zeroOp 38 (0, 0))
  var : w.heap[w0.heap.size + 2]? = some (.cells #[.int .i64 4, .int .i64 0, .int .i64 0, .int .u64 0, .int .i64 0, vc, vd] 38 (0, 0))
  oc : OwnC w (w0.heap.size + 3) vc cs
  od : OwnI w (w0.heap.size + 3) 3 .i64 vd ds
theorem SelInv.next {w0 w w' : World} {g : Nat} {cc : Array Value} {vc vd : Value} {cs : List CaseM} {ds : List Int} (h : SelInv w0 w g cc vc vd cs ds) (hc : CodesE w' g) (hg : w.grownBy w' (some g)) : SelInv w0 w' g cc vc vd cs ds := by
  have hs := h.size
  have hl := h.lt
  have b : ∀ j, w0.heap.size ≤ j → j < w0.heap.size + 3 → w'.heap[j]? = w.heap[j]? := fun j h1 h2 => hg.block j (by omega) (by simp; omega)
  exact ⟨hl, Nat.le_trans hs hg.size, hc, grownBy_trans h.grown hg, (b _ (by omega) (by omega)).trans h.box, (b _ (by omega) (by omega)).trans h.res, (b _ (by omega) (by omega)).trans h.var, h.oc.kept hg (h.oc.ne (by omega)), h.od.kept hg (h.od.ne (by omega))⟩
theorem SelInv.below {w0 w w' : World} {g : Nat} {cc : Array Value} {vc vd : Value} {cs : List CaseM} {ds : List Int} (h : SelInv w0 w g cc vc vd cs ds) (hb : Below w.heap.size w w') : SelInv w0 w' g cc vc vd cs ds :=
  h.next (h.codes.kept h.codes.lt hb) (grown_of_below hb)
/-- a block of the call's own, behind the others, is written -/
theorem SelInv.mine {w0 w : World} {g b o : Nat} {u : Value} {cc : Array Value} {vc vd : Value} {cs : List CaseM} {ds : List Int} {T : TypeId} {cells : Array Value} (h : SelInv w0 w g cc vc vd cs ds)
    (hb : w.heap[b]? = some (.cells cells T (0, 0))) (hT : T ≠ 3) (hb3 : w0.heap.size + 3 ≤ b) (hC : T ≠ 74 ∨ vc.ownBlock ≠ some b) : SelInv w0 (w.setCell ⟨b, o, none⟩ u) g cc vc vd cs ds := by
  have hs := h.size
  have hl := h.lt
  have hgr := grownBy_setCell w ⟨b, o, none⟩ u
  have e : ∀ j, j ≠ b → (w.setCell ⟨b, o, none⟩ u).heap[j]? = w.heap[j]? := fun j hj => heap_setCell_other w ⟨b, o, none⟩ j u hj
  have hbl : Below (w0.heap.size + 3) w (w.setCell ⟨b, o, none⟩ u) := (Below.refl _ w).setCell (p := ⟨b, o, none⟩) hb3 u
  refine ⟨hl, by simpa using hs, h.codes.kept (B := w0.heap.size + 3) (by omega) hbl, ?_, (e _ (by omega)).trans h.box, (e _ (by omega)).trans h.res, (e _ (by omega)).trans h.var, h.oc.kept hgr ?_, h.od.kept hgr ?_⟩
  · exact grownBy_of_new h.grown hgr (fun k hk => by cases hk; simp; omega)
  · cases hv : vc.ownBlock with
    | none => exact .inl rfl
    | some q =>
      refine .inr fun eq => ?_
      simp only [Option.some.injEq] at eq
      subst eq
      rcases hC with hC | hC
      · rcases h.oc.2 with ⟨rfl, _⟩ | ⟨g', cap, cur, rfl, _, hg', _⟩
        · simp [Value.ownBlock] at hv
        · simp only [Value.ownBlock, Option.some.injEq] at hv
          subst hv
          rw [hb] at hg'
          simp only [Option.some.injEq, Obj.cells.injEq] at hg'
          exact hC hg'.2.1
      · exact hC hv
  · cases hv : vd.ownBlock with
    | none => exact .inl rfl
    | some q =>
      refine .inr fun eq => ?_
      simp only [Option.some.injEq] at eq
      subst eq
      rcases h.od.2 with ⟨rfl, _⟩ | ⟨g', cap, cur, rfl, _, hg', _⟩
      · simp [Value.ownBlock] at hv
      · simp only [Value.ownBlock, Option.some.injEq] at hv
        subst hv
        rw [hb] at hg'
        simp only [Option.some.injEq, Obj.cells.injEq] at hg'
        exact hT hg'.2.1
/-- what was appended is stored in the variable -/
theorem SelInv.addCase {w0 w w1 : World} {g : Nat} {cc : Array Value} {vc vd vc' : Value} {cs cs' : List CaseM} {ds : List Int} (h : SelInv w0 w g cc vc vd cs ds) (ho : OwnC w1 (w0.heap.size + 3) vc' cs') (hg : w.grownBy w1 vc.ownBlock) :
    SelInv w0 (w1.setCell ⟨w0.heap.size + 2, 5, none⟩ vc') g cc vc' vd cs' ds := by
  have hs := h.size
  have hl := h.lt
  have hge := h.oc.own_ge
  have b : ∀ j, j < w0.heap.size + 3 → w1.heap[j]? = w.heap[j]? := fun j hj => hg.block j (by omega) (fun e => by have := hge j e.symm; omega)
  have b2 : ∀ j, j ≠ w0.heap.size + 2 → (w1.setCell ⟨w0.heap.size + 2, 5, none⟩ vc').heap[j]? = w1.heap[j]? := fun j hj => heap_setCell_other w1 ⟨w0.heap.size + 2, 5, none⟩ j _ hj
  have hb : Below (w0.heap.size + 2) w (w1.setCell ⟨w0.heap.size + 2, 5, none⟩ vc') := by
    refine ⟨hg.os, hg.tape, hg.output, by simpa using hg.size, fun k hk => (b2 k (by omega)).trans (b k (by omega))⟩
  have hv := heap_setCell_same w1 (w0.heap.size + 2) 5 _ _ vc' ((b _ (by omega)).trans h.var)
  refine ⟨hl, ?_, h.codes.kept (by omega) hb, ?_, (b2 _ (by omega)).trans ((b _ (by omega)).trans h.box), (b2 _ (by omega)).trans ((b _ (by omega)).trans h.res), by simpa using hv, ?_, ?_⟩
  · simpa using Nat.le_trans hs hg.size
  · exact grownBy_of_new (grownBy_of_new h.grown hg (fun k hk => by have := hge k hk; omega)) (grownBy_setCell w1 ⟨w0.heap.size + 2, 5, none⟩ vc') (fun k hk => by cases hk; simp)
  · exact ho.kept (grownBy_setCell w1 ⟨w0.heap.size + 2, 5, none⟩ vc') (ho.ne (Nat.lt_succ_self _))
  · have h1 := h.od.kept hg (rows_apart h.od h.oc (by decide))
    exact h1.kept (grownBy_setCell w1 ⟨w0.heap.size + 2, 5, none⟩ vc') (h1.ne (Nat.lt_succ_self _))
theorem SelInv.addDraw {w0 w w1 : World} {g : Nat} {cc : Array Value} {vc vd vd' : Value} {cs : List CaseM} {ds ds' : List Int} (h : SelInv w0 w g cc vc vd cs ds) (ho : OwnI w1 (w0.heap.size + 3) 3 .i64 vd' ds') (hg : w.grownBy w1 vd.ownBlock) :
    SelInv w0 (w1.setCell ⟨w0.heap.size + 2, 6, none⟩ vd') g cc vc vd' cs ds' := by
  have hs := h.size
  have hl := h.lt
  have hge := h.od.own_ge
  have b : ∀ j, j < w0.heap.size + 3 → w1.heap[j]? = w.heap[j]? := fun j hj => hg.block j (by omega) (fun e => by have := hge j e.symm; omega)
  have b2 : ∀ j, j ≠ w0.heap.size + 2 → (w1.setCell ⟨w0.heap.size + 2, 6, none⟩ vd').heap[j]? = w1.heap[j]? := fun j hj => heap_setCell_other w1 ⟨w0.heap.size + 2, 6, none⟩ j _ hj
  have hb : Below (w0.heap.size + 2) w (w1.setCell ⟨w0.heap.size + 2, 6, none⟩ vd') := by
    refine ⟨hg.os, hg.tape, hg.output, by simpa using hg.size, fun k hk => (b2 k (by omega)).trans (b k (by omega))⟩
  have hv := heap_setCell_same w1 (w0.heap.size + 2) 6 _ _ vd' ((b _ (by omega)).trans h.var)
  refine ⟨hl, ?_, h.codes.kept (by omega) hb, ?_, (b2 _ (by omega)).trans ((b _ (by omega)).trans h.box), (b2 _ (by omega)).trans ((b _ (by omega)).trans h.res), by simpa using hv, ?_, ?_⟩
  · simpa using Nat.le_trans hs hg.size
  · exact grownBy_of_new (grownBy_of_new h.grown hg (fun k hk => by have := hge k hk; omega)) (grownBy_setCell w1 ⟨w0.heap.size + 2, 6, none⟩ vd') (fun k hk => by cases hk; simp)
  · have h1 := h.oc.kept hg (rows_apart h.oc h.od (by decide))
    exact h1.kept (grownBy_setCell w1 ⟨w0.heap.size + 2, 6, none⟩ vd') (h1.ne (Nat.lt_succ_self _))
  · exact ho.kept (grownBy_setCell w1 ⟨w0.heap.size + 2, 6, none⟩ vd') (ho.ne (Nat.lt_succ_self _))
theorem SelInv.own_lt {w0 w : World} {g : Nat} {cc : Array Value} {vc vd : Value} {cs : List CaseM} {ds : List Int} (h : SelInv w0 w g cc vc vd cs ds) (b : Nat) (hb : w.heap.size ≤ b) : vc.ownBlock ≠ some b := by
  intro e
  have := (World.ownsRow.lt h.oc b e).2
  omega
/-- beside it a case of the round's own lies in block Y -/
structure YInv (w0 w : World) (g : Nat) (cc : Array Value) (vc vd : Value) (cs : List CaseM) (ds : List Int) (Y : Nat) (cells : Array Value) : Prop where
  inv : SelInv w0 w g cc vc vd cs ds
  row : w.heap[Y]? = some (.cells cells 74 (0, 0))
  ge : w0.heap.size + 3 ≤ Y
  ne : vc.ownBlock ≠ some Y
def zeroCase : Array Value := #[.bool false, .int .i64 0, .int .u64 0]
theorem YInv.new {w0 w : World} {g : Nat} {cc : Array Value} {vc vd : Value} {cs : List CaseM} {ds : List Int} (h : SelInv w0 w g cc vc vd cs ds) : YInv w0 (w.alloc (.cells zeroCase 74)) g cc vc vd cs ds w.heap.size zeroCase :=
  ⟨h.below (below_new (Below.refl _ _) _), heap_alloc_new _ _, h.size, h.own_lt _ (Nat.le_refl _)⟩
theorem YInv.lit {w0 w : World} {g : Nat} {cc : Array Value} {vc vd : Value} {cs : List CaseM} {ds : List Int} (h : SelInv w0 w g cc vc vd cs ds) (cells : Array Value) : YInv w0 (w.alloc (.cells cells 74)) g cc vc vd cs ds w.heap.size cells :=
  ⟨h.below (below_new (Below.refl _ _) _), heap_alloc_new _ _, h.size, h.own_lt _ (Nat.le_refl _)⟩
theorem YInv.frozen {w0 w : World} {g : Nat} {cc : Array Value} {vc vd : Value} {cs : List CaseM} {ds : List Int} {Y : Nat} {cells : Array Value} (h : YInv w0 w g cc vc vd cs ds Y cells) : w.frozen? ⟨Y, 0, none⟩ = false ∧ w.frozen? ⟨Y, 1, none⟩ = false ∧ w.frozen? ⟨Y, 2, none⟩ = false :=
  ⟨frozen_of_row _ _ 0 _ _ h.row, frozen_of_row _ _ 1 _ _ h.row, frozen_of_row _ _ 2 _ _ h.row⟩
theorem YInv.next {w0 w w' : World} {g : Nat} {cc : Array Value} {vc vd : Value} {cs : List CaseM} {ds : List Int} {Y : Nat} {cells : Array Value} (h : YInv w0 w g cc vc vd cs ds Y cells) (hc : CodesE w' g) (hg : w.grownBy w' (some g)) : YInv w0 w' g cc vc vd cs ds Y cells := by
  have hl := h.inv.lt
  have hge := h.ge
  exact ⟨h.inv.next hc hg, (hg.block Y (Array.getElem?_eq_some_iff.1 h.row).1 (by simp; omega)).trans h.row, h.ge, h.ne⟩
theorem YInv.set {w0 w : World} {g : Nat} {cc : Array Value} {vc vd : Value} {cs : List CaseM} {ds : List Int} {Y : Nat} {cells : Array Value} (h : YInv w0 w g cc vc vd cs ds Y cells) (o : Nat) (u : Value) : YInv w0 (w.setCell ⟨Y, o, none⟩ u) g cc vc vd cs ds Y (cells.setIfInBounds o u) :=
  ⟨h.inv.mine h.row (by decide) h.ge (.inr h.ne), heap_setCell_same w Y o _ _ u h.row, h.ge, h.ne⟩
theorem YInv.set3 {w0 w : World} {g : Nat} {cc : Array Value} {vc vd : Value} {cs : List CaseM} {ds : List Int} {Y : Nat} (h : YInv w0 w g cc vc vd cs ds Y zeroCase) (a b c : Value) : YInv w0 (((w.setCell ⟨Y, 0, none⟩ a).setCell ⟨Y, 1, none⟩ b).setCell ⟨Y, 2, none⟩ c) g cc vc vd cs ds Y #[a, b, c] := by
  have := ((h.set 0 a).set 1 b).set 2 c
  simpa [zeroCase] using this
theorem YInv.row_ {w0 w : World} {g : Nat} {cc : Array Value} {vc vd : Value} {cs : List CaseM} {ds : List Int} {Y : Nat} {cells cells' : Array Value} (h : YInv w0 w g cc vc vd cs ds Y cells) : YInv w0 (w.setRow Y cells') g cc vc vd cs ds Y cells' := by
  have hi := h.inv
  have hs := hi.size
  have hl := hi.lt
  have hge := h.ge
  have hgr := grownBy_setRow w Y cells'
  have e : ∀ j, j ≠ Y → (w.setRow Y cells').heap[j]? = w.heap[j]? := fun j hj => setRow_other w Y j cells' hj
  have hbl : Below (w0.heap.size + 3) w (w.setRow Y cells') := below_setRow (Below.refl _ w) h.ge cells'
  refine ⟨⟨hl, Nat.le_trans hs hgr.size, hi.codes.kept (B := w0.heap.size + 3) (by omega) hbl, grownBy_of_new hi.grown hgr (fun k hk => by cases hk; omega), (e _ (by omega)).trans hi.box, (e _ (by omega)).trans hi.res, (e _ (by omega)).trans hi.var, hi.oc.kept hgr (.inr h.ne), hi.od.kept hgr ?_⟩, setRow_heap w Y _ _ _ (0, 0) h.row, h.ge, h.ne⟩
  cases hv : vd.ownBlock with
  | none => exact .inl rfl
  | some q =>
    refine .inr fun eq => ?_
    simp only [Option.some.injEq] at eq
    subst eq
    rcases hi.od.2 with ⟨rfl, _⟩ | ⟨g', cap, cur, rfl, _, hg', _⟩
    · simp [Value.ownBlock] at hv
    · simp only [Value.ownBlock, Option.some.injEq] at hv
      subst hv
      rw [h.row] at hg'
      simp only [Option.some.injEq, Obj.cells.injEq] at hg'
      exact absurd hg'.2.1 (by decide)
/-- the variable, behind an append to one of its lists -/
theorem SelInv.varAt {w0 w w1 : World} {g : Nat} {cc : Array Value} {vc vd : Value} {cs : List CaseM} {ds : List Int} {row : Option Nat} (h : SelInv w0 w g cc vc vd cs ds) (hg : w.grownBy w1 row) (hr : ∀ j, row = some j → w0.heap.size + 3 ≤ j) :
    w1.heap[w0.heap.size + 2]? = some (.cells #[.int .i64 4, .int .i64 0, .int .i64 0, .int .u64 0, .int .i64 0, vc, vd] 38 (0, 0)) :=
  (hg.block _ (by have := h.size; omega) (fun e => by have := hr _ e.symm; omega)).trans h.var
theorem OwnC.shape_ne {w : World} {base : Nat} {v : Value} {l : List CaseM} {y : CaseM} (h : OwnC w base v (l ++ [y])) : ∃ g cap, v = .slice (some ⟨g, 0, none⟩) (l.length + 1) cap := by
  rcases h.shape with ⟨_, h1⟩ | ⟨g, cap, h1, _⟩
  · exact absurd h1 (by simp)
  · exact ⟨g, cap, by simpa using h1⟩
theorem OwnC.one {w : World} {base : Nat} {v : Value} {l : List CaseM} (h : OwnC w base v l) : v.oneCell' = true := by
  rcases h.shape with ⟨rfl, _⟩ | ⟨g, cap, rfl, _⟩ <;> rfl
theorem OwnI.one {w : World} {base : Nat} {e : TypeId} {k : IntKind} {v : Value} {l : List Int} (h : OwnI w base e k v l) : v.oneCell' = true := by
  rcases h.shape with ⟨rfl, _⟩ | ⟨g, cap, rfl, _⟩ <;> rfl
/-- the slice lies in a block from B on -/
def newB (B : Nat) (v : Value) : Prop := ∀ a n c, v = .slice (some a) n c → n = 0 ∨ B ≤ a.block
theorem newB.off {B g : Nat} {v : Value} (h : newB B v) (hg : g < B) : offB g v := fun a n c e => (h a n c e).imp id fun h => by omega
theorem newB.mono {B C : Nat} {v : Value} (h : newB B v) (hc : C ≤ B) : newB C v := fun a n c e => (h a n c e).imp id fun h => by omega
theorem newB.nil (B : Nat) : newB B (.slice none 0 0) := fun a n c e => by simp at e
theorem OwnI.newB {w : World} {base : Nat} {e : TypeId} {k : IntKind} {v : Value} {l : List Int} (h : OwnI w base e k v l) : newB base v := by
  intro a n c e
  subst e
  exact .inr (h.own_ge a.block rfl)
theorem OwnC.newB {w : World} {base : Nat} {v : Value} {l : List CaseM} (h : OwnC w base v l) : newB base v := by
  intro a n c e
  subst e
  exact .inr (h.own_ge a.block rfl)
/-- an operation whose lists lie in blocks from B on -/
def OpN (w : World) (B : Nat) (v : Value) (op : OpM) : Prop :=
  ∃ vc vd, v = .agg #[.int .i64 op.kind, .int .i64 op.mode, .int .i64 op.chan, .int .u64 op.val, .int .i64 op.dl, vc, vd] ∧ SlC w vc op.cases ∧ SlI w .i64 vd op.draws ∧ newB B vc ∧ newB B vd
theorem OpN.opx {w : World} {B g : Nat} {v : Value} {op : OpM} (h : OpN w B v op) (hg : g < B) : OpX w g v op := by
  obtain ⟨vc, vd, e, h1, h2, h3, h4⟩ := h; exact ⟨vc, vd, e, h1, h2, h3.off hg, h4.off hg⟩
theorem OpN.grown {w w' : World} {B b : Nat} {v : Value} {op : OpM} (h : OpN w B v op) (hg : w.grownBy w' (some b)) (hb : b < B) : OpN w' B v op := by
  obtain ⟨vc, vd, e, h1, h2, h3, h4⟩ := h; exact ⟨vc, vd, e, h1.grown hg (h3.off hb), h2.grown hg (h4.off hb), h3, h4⟩
theorem OpN.mono {w : World} {B C : Nat} {v : Value} {op : OpM} (h : OpN w B v op) (hc : C ≤ B) : OpN w C v op := by
  obtain ⟨vc, vd, e, h1, h2, h3, h4⟩ := h; exact ⟨vc, vd, e, h1, h2, h3.mono hc, h4.mono hc⟩
/-- the end: the words are laid in the result's block -/
theorem SelInv.fin {w0 w : World} {g : Nat} {cc : Array Value} {vc vd : Value} {cs : List CaseM} {ds : List Int} (h : SelInv w0 w g cc vc vd cs ds) (h1 : cs.length ≤ 140737488351232) (h2 : ∀ x ∈ cs, x.ok) (h3 : ds.length ≤ 140737488351232) (h4 : ∀ x ∈ ds, x = IntKind.i64.wrap x) (cells : Array Value) (kd m ch vl d : Int) :
    OpN (w.setRow (w0.heap.size + 1) cells) w0.heap.size (.agg #[.int .i64 kd, .int .i64 m, .int .i64 ch, .int .u64 vl, .int .i64 d, vc, vd]) ⟨kd, m, ch, vl, d, cs, ds⟩ ∧ CodesE (w.setRow (w0.heap.size + 1) cells) g ∧ w0.grownBy (w.setRow (w0.heap.size + 1) cells) (some g) := by
  have hl := h.lt
  have hgr := grownBy_setRow w (w0.heap.size + 1) cells
  refine ⟨⟨vc, vd, rfl, (h.oc.kept hgr (h.oc.ne (by omega))).read h1 h2, (h.od.kept hgr (h.od.ne (by omega))).read h3 h4, h.oc.newB.mono (by omega), h.od.newB.mono (by omega)⟩, ?_, grownBy_of_new h.grown hgr (fun k hk => by cases hk; omega)⟩
  exact h.codes.kept (B := w0.heap.size) hl (below_setRow (Below.refl _ w) (by omega) cells)
theorem all7 {k0 k1 k2 k3 k4 : IntKind} {n0 n1 n2 n3 n4 : Int} {u v : Value} (hu : u.oneCell' = true) (hv : v.oneCell' = true) : (#[.int k0 n0, .int k1 n1, .int k2 n2, .int k3 n3, .int k4 n4, u, v] : Array Value).all (·.oneCell') = true := by
  have hi : ∀ k n, (Value.int k n).oneCell' = true := fun _ _ => rfl
  simp [hi, hu, hv]
end Go.Proofs.Ytialclohhemkiaa
