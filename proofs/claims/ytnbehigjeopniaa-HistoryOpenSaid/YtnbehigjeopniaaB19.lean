
import Derived.Test.YtnbehigjeopniaaB18
import Derived.Test.YtnbehigjeopniaaB07
set_option linter.unusedVariables false
set_option linter.unusedSimpArgs false
/- Histories, plainly: which calls are open (P16.3). -/
namespace Go.Proofs.Ytnbehigjeopniaa
open Go.ChangeShapes Go.WideShapes Go.ChangeAt Go.RowKit
set_option maxRecDepth 100000

theorem histE_take {ns : List Nat} {L : List EvM} (h : histE ns L = true) (n : Nat) : histE ns (L.take n) = true := histE_yes fun i hi => by
  rw [List.length_take] at hi
  have h1 := histE_at h (show i < L.length by omega)
  rw [List.take_take, Nat.min_eq_left (by omega), List.getD_eq_getElem?_getD, List.getElem?_take_of_lt (by omega), ← List.getD_eq_getElem?_getD]
  exact h1
theorem cnt_take_le (L : List EvM) (i : Nat) (t : Int) : cntT (L.take i) t ≤ cntT L t := (List.take_sublist i L).countP_le
theorem mem_calls {ns : List Nat} {L : List EvM} (h : histE ns L = true) {c : Int × Int} (hc : c ∈ callsE L) : ∃ t o : Nat, c = ((t : Int), (o : Int)) ∧ t < ns.length ∧ 2 * o < cntT L (t : Int) := by
  unfold callsE at hc
  obtain ⟨e, he, rfl⟩ := List.mem_map.1 hc
  obtain ⟨hm, hr⟩ := List.mem_filter.1 he
  obtain ⟨i, hi, rfl⟩ := List.mem_iff_getElem.1 hm
  obtain ⟨t, h1, h2, h3, h4, -⟩ := hist_small h hi
  have e0 : L.getD i evZ = L[i] := by rw [List.getD_eq_getElem?_getD, List.getElem?_eq_getElem hi]; rfl
  have h5 := cntT_take hi (t : Int)
  have h6 := cnt_take_le L (i + 1) (t : Int)
  rw [if_pos h1] at h5
  rw [e0] at h1 h3 h4
  have h7 : cntT (L.take i) (t : Int) % 2 = 0 := by
    have hr2 : (L[i]).ret = false := by simpa using hr
    rw [hr2] at h4
    rcases Nat.mod_two_eq_zero_or_one (cntT (L.take i) (t : Int)) with h | h
    · exact h
    · rw [h] at h4; cases h4
  exact ⟨t, cntT (L.take i) (t : Int) / 2, Prod.ext h1 h3, h2, by omega⟩
theorem end_iff {ns : List Nat} {L : List EvM} (h : histE ns L = true) (t o : Nat) : endF L ((t : Int), (o : Int)) = true ↔ 2 * o + 1 < cntT L (t : Int) := by
  unfold endF
  rw [List.any_eq_true]
  constructor
  · rintro ⟨e, he, h1⟩
    simp only [Bool.and_eq_true, beq_iff_eq] at h1
    obtain ⟨h1, h2⟩ := h1
    obtain ⟨i, hi, rfl⟩ := List.mem_iff_getElem.1 he
    obtain ⟨t2, k1, k2, k3, k4, -⟩ := hist_small h hi
    have e0 : L.getD i evZ = L[i] := by rw [List.getD_eq_getElem?_getD, List.getElem?_eq_getElem hi]; rfl
    have h5 := cntT_take hi (t2 : Int)
    have h6 := cnt_take_le L (i + 1) (t2 : Int)
    rw [if_pos k1] at h5
    rw [e0] at k1 k3 k4
    rw [h1] at k4
    unfold callOf at h2
    rw [k1, k3] at h2
    simp only [Prod.mk.injEq] at h2
    have h8 : t2 = t := Int.natCast_inj.1 h2.1
    subst h8
    have h7 : cntT (L.take i) (t2 : Int) % 2 = 1 := by simpa using k4.symm
    have h9 := h2.2
    omega
  · intro h1
    obtain ⟨i, g1, g2, g3⟩ := cnt_at (L := L) (t := (t : Int)) (c := 2 * o + 1) L.length (Nat.le_refl _) (by rw [List.take_length]; exact h1)
    obtain ⟨t2, k1, k2, k3, k4, -⟩ := hist_small h g1
    have h8 : t2 = t := Int.natCast_inj.1 (by rw [← k1, g2])
    subst h8
    have e0 : L.getD i evZ = L[i] := by rw [List.getD_eq_getElem?_getD, List.getElem?_eq_getElem g1]; rfl
    rw [e0] at k1 k3 k4
    rw [g3] at k3 k4
    refine ⟨L[i], List.getElem_mem g1, ?_⟩
    simp only [Bool.and_eq_true, beq_iff_eq]
    refine ⟨by rw [k4, show (2 * o + 1) % 2 = 1 by omega]; rfl, Prod.ext k1 ?_⟩
    show (L[i]).op = _
    rw [k3]
    omega
theorem calls_pair {ns : List Nat} {L : List EvM} (h : histE ns L = true) : ∀ n, n ≤ L.length → (callsE (L.take n)).Pairwise fun a b => a.1 = b.1 → a.2 < b.2 := by
  intro n
  induction n with
  | zero => intro _; simp [callsE]
  | succ n ih =>
    intro hn
    have hlt : n < L.length := by omega
    rw [callsE_take hlt]
    cases hr : (L.getD n evZ).ret with
    | true => rw [if_pos rfl, List.append_nil]; exact ih (by omega)
    | false =>
      rw [if_neg (by decide), List.pairwise_append]
      refine ⟨ih (by omega), List.pairwise_singleton _ _, fun a ha b hb hab => ?_⟩
      rw [List.mem_singleton] at hb
      subst hb
      obtain ⟨t, o, rfl, h1, h2⟩ := mem_calls (histE_take h n) ha
      obtain ⟨t2, k1, k2, k3, k4, -⟩ := hist_small h hlt
      have h3 : (t : Int) = t2 := by rw [← k1]; exact hab
      have h4 : t = t2 := Int.natCast_inj.1 h3
      subst h4
      have k5 : cntT (L.take n) (t : Int) % 2 = 0 := by
        rw [hr] at k4
        rcases Nat.mod_two_eq_zero_or_one (cntT (L.take n) (t : Int)) with h | h
        · exact h
        · rw [h] at k4; cases k4
      show (o : Int) < (L.getD n evZ).op
      rw [k3]
      omega
theorem open_mem {ns : List Nat} {L : List EvM} (h : histE ns L = true) {c : Int × Int} (hc : c ∈ openE L) : ∃ t o : Nat, c = ((t : Int), (o : Int)) ∧ t < ns.length ∧ cntT L (t : Int) = 2 * o + 1 := by
  obtain ⟨h1, h2⟩ := List.mem_filter.1 hc
  obtain ⟨t, o, rfl, h3, h4⟩ := mem_calls h h1
  refine ⟨t, o, rfl, h3, ?_⟩
  rw [openP_end] at h2
  have h5 : ¬ (2 * o + 1 < cntT L (t : Int)) := fun h6 => by
    rw [(end_iff h t o).2 h6] at h2
    cases h2
  omega
/-- no two open calls are of one thread -/
theorem open_apart {ns : List Nat} {L : List EvM} (h : histE ns L = true) {j k : Nat} (hjk : j < k) (hk : k < (openE L).length) : ((openE L).getD j (0, 0)).1 ≠ ((openE L).getD k (0, 0)).1 := by
  have hp := (calls_pair h L.length (Nat.le_refl _)).filter (openP L)
  rw [List.take_length] at hp
  have hj : j < (openE L).length := by omega
  have h1 := List.pairwise_iff_getElem.1 hp j k hj hk hjk
  rw [List.getD_eq_getElem?_getD, List.getD_eq_getElem?_getD, List.getElem?_eq_getElem hj, List.getElem?_eq_getElem hk]
  intro e
  have h2 := h1 e
  obtain ⟨t, o, e1, -, e2⟩ := open_mem h (List.getElem_mem hj)
  obtain ⟨t2, o2, f1, -, f2⟩ := open_mem h (List.getElem_mem hk)
  have h3 : ((openE L)[j]).1 = ((openE L)[k]).1 := e
  have h4 : ((openE L)[j]).2 < ((openE L)[k]).2 := h2
  rw [e1, f1] at h3 h4
  have h5 : t = t2 := Int.natCast_inj.1 h3
  subst h5
  have h6 : (o : Int) < o2 := h4
  omega
/-- an open call is the last of its thread -/
theorem open_last {ns : List Nat} {L : List EvM} (h : histE ns L = true) {x y : Int × Int} (hx : x ∈ openE L) (hy : y ∈ callsE L) (e : y.1 = x.1) : y.2 ≤ x.2 := by
  obtain ⟨t, o, rfl, -, e1⟩ := open_mem h hx
  obtain ⟨t2, o2, rfl, -, e2⟩ := mem_calls h hy
  have h5 : t2 = t := Int.natCast_inj.1 e
  subst h5
  show (o2 : Int) ≤ o
  omega
theorem filter_one {l : List (Int × Int)} {a : Int × Int} : l.Nodup → a ∈ l → (l.filter fun c => !(a == c)).length + 1 = l.length := by
  induction l with
  | nil => intro _ h; cases h
  | cons x l ih =>
    intro hn ha
    rw [List.nodup_cons] at hn
    by_cases hx : a = x
    · subst hx
      rw [List.filter_cons_of_neg (by simp), List.filter_eq_self.2 (fun c hc => by
        have : a ≠ c := fun e => hn.1 (e ▸ hc)
        simpa using this)]
      rfl
    · rw [List.filter_cons_of_pos (by simpa using hx), List.length_cons, List.length_cons, ih hn.2 (by
        rcases List.mem_cons.1 ha with h | h
        · exact absurd h hx
        · exact h)]
theorem open_count {ns : List Nat} {L : List EvM} (h : histE ns L = true) : ∀ n, n ≤ L.length → n + (openE (L.take n)).length = 2 * (callsE (L.take n)).length := by
  intro n
  induction n with
  | zero => intro _; simp [callsE, openE]
  | succ n ih =>
    intro hn
    have hlt : n < L.length := by omega
    have h0 := ih (by omega)
    have hp : histE ns (L.take n) = true := histE_take h n
    obtain ⟨t, k1, k2, k3, k4, -⟩ := hist_small h hlt
    have hcall : callOf (L.getD n evZ) = ((t : Int), ((cntT (L.take n) (t : Int) / 2 : Nat) : Int)) := Prod.ext k1 k3
    have hE : ∀ c, openP (L.take (n + 1)) c = !(endF (L.take n) c || ((L.getD n evZ).ret && callOf (L.getD n evZ) == c)) := fun c => by rw [openP_end, endF_take hlt]
    have hE0 : ∀ c, openP (L.take n) c = !endF (L.take n) c := fun c => openP_end _ c
    unfold openE at h0 ⊢
    rw [callsE_take hlt, hcall]
    rw [hcall] at hE
    cases hr : (L.getD n evZ).ret with
    | false =>
      rw [hr] at hE k4
      rw [if_neg (by decide), List.filter_append, List.length_append, List.length_append]
      have e1 : (callsE (L.take n)).filter (openP (L.take (n + 1))) = (callsE (L.take n)).filter (openP (L.take n)) := List.filter_congr fun c _ => by rw [hE, hE0, Bool.false_and, Bool.or_false]
      have hev : cntT (L.take n) (t : Int) % 2 = 0 := by
        rcases Nat.mod_two_eq_zero_or_one (cntT (L.take n) (t : Int)) with h | h
        · exact h
        · rw [h] at k4; cases k4
      have e2 : openP (L.take (n + 1)) ((t : Int), ((cntT (L.take n) (t : Int) / 2 : Nat) : Int)) = true := by
        rw [hE, Bool.false_and, Bool.or_false]
        cases h9 : endF (L.take n) ((t : Int), ((cntT (L.take n) (t : Int) / 2 : Nat) : Int)) with
        | false => rfl
        | true =>
          have := (end_iff hp t _).1 h9
          omega
      rw [e1, List.filter_cons_of_pos e2]
      simp only [List.filter_nil, List.length_singleton]
      omega
    | true =>
      rw [hr] at hE k4
      rw [if_pos rfl, List.append_nil]
      have hodd : cntT (L.take n) (t : Int) % 2 = 1 := by simpa using k4.symm
      obtain ⟨q, hq⟩ : ∃ q, ((t : Int), ((cntT (L.take n) (t : Int) / 2 : Nat) : Int)) = q := ⟨_, rfl⟩
      have e1 : (callsE (L.take n)).filter (openP (L.take (n + 1))) = ((callsE (L.take n)).filter (openP (L.take n))).filter fun c => !(q == c) := by
        rw [List.filter_filter]
        refine List.filter_congr fun c _ => ?_
        rw [hE, hE0, hq, Bool.true_and]
        cases endF (L.take n) c <;> cases (q == c) <;> rfl
      have hmem : q ∈ (callsE (L.take n)).filter (openP (L.take n)) := by
        rw [List.mem_filter]
        constructor
        · obtain ⟨i, g1, g2, g3⟩ := cnt_at (L := L) (t := (t : Int)) (c := cntT (L.take n) (t : Int) - 1) n (by omega) (by omega)
          obtain ⟨t2, m1, m2, m3, m4, -⟩ := hist_small h (show i < L.length by omega)
          have h8 : t2 = t := Int.natCast_inj.1 (by rw [← m1, g2])
          subst h8
          rw [g3] at m3 m4
          unfold callsE
          rw [List.mem_map]
          refine ⟨L.getD i evZ, ?_, ?_⟩
          · rw [List.mem_filter]
            refine ⟨?_, by rw [m4, show (cntT (L.take n) (t2 : Int) - 1) % 2 = 0 by omega]; rfl⟩
            rw [List.getD_eq_getElem?_getD, List.getElem?_eq_getElem (show i < L.length by omega)]
            have : (L.take n)[i]? = some L[i] := by rw [List.getElem?_take_of_lt g1, List.getElem?_eq_getElem (show i < L.length by omega)]
            exact List.mem_of_getElem? this
          · rw [← hq]
            refine Prod.ext m1 ?_
            show (L.getD i evZ).op = ((cntT (L.take n) (t2 : Int) / 2 : Nat) : Int)
            rw [m3]
            omega
        · rw [hE0, ← hq]
          cases h9 : endF (L.take n) ((t : Int), ((cntT (L.take n) (t : Int) / 2 : Nat) : Int)) with
          | false => rfl
          | true =>
            have := (end_iff hp t _).1 h9
            omega
      have hnd : ((callsE (L.take n)).filter (openP (L.take n))).Nodup := by
        have := (calls_pair h n (by omega)).filter (openP (L.take n))
        exact this.imp fun hab e => by
          have := hab (by rw [e])
          rw [e] at this
          omega
      rw [e1]
      have := filter_one hnd hmem
      omega
end Go.Proofs.Ytnbehigjeopniaa
