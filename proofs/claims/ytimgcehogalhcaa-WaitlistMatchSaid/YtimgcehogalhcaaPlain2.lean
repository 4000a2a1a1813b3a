/- Plain lists and numbers for layer 2 (shuffles, draws, factorials); no Go in sight. -/
import Derived.RowKit
namespace Go.Proofs.Ytimgcehogalhcaa
open Go.RowKit
set_option maxRecDepth 100000

theorem tmod_bd (x : Int) (i : Nat) : - ((i : Int) + 1) < x.tmod (i + 1) ∧ x.tmod (i + 1) < i + 1 := by
  constructor
  · rcases Int.le_total 0 x with h | h
    · have := Int.tmod_nonneg (i + 1 : Int) h; omega
    · have := Int.tmod_nonneg (i + 1 : Int) (show 0 ≤ -x by omega)
      have h2 := Int.tmod_lt_of_pos (-x) (show (0 : Int) < i + 1 by omega)
      rw [Int.neg_tmod] at h2; omega
  · exact Int.tmod_lt_of_pos x (by omega)
theorem tmod_mod (x : Int) (i : Nat) : x % (i + 1) = if x.tmod (i + 1) < 0 then x.tmod (i + 1) + (i + 1) else x.tmod (i + 1) := by
  have hb := tmod_bd x i
  have h := Int.tmod_add_mul_tdiv x (i + 1)
  have h3 : x % (i + 1) = (x.tmod (i + 1)) % (i + 1) := by
    conv => lhs; rw [← h]
    rw [Int.add_mul_emod_self_left]
  rw [h3]
  split
  · rw [← Int.add_emod_right, Int.emod_eq_of_lt (by omega) (by omega)]
  · exact Int.emod_eq_of_lt (by omega) (by omega)
/-- the draw at i, brought into range -/
def drawI (l : List Int) (i : Nat) : Nat := ((l.getD i 0) % (i + 1)).toNat
theorem drawI_le (l : List Int) (i : Nat) : drawI l i ≤ i := by
  unfold drawI
  have h1 := Int.emod_nonneg (l.getD i 0) (show ((i : Int) + 1) ≠ 0 by omega)
  have h2 := Int.emod_lt_of_pos (l.getD i 0) (show (0 : Int) < (i : Int) + 1 by omega)
  omega
theorem drawI_out (l : List Int) (i : Nat) (h : l.length ≤ i) : drawI l i = 0 := by
  unfold drawI; rw [List.getD_eq_getElem?_getD, List.getElem?_eq_none h]; simp
theorem drawI_neg (l : List Int) (i : Nat) (h : (l.getD i 0).tmod (i + 1) < 0) : ((l.getD i 0).tmod (i + 1) + (i + 1)) = (drawI l i : Int) := by
  have e := tmod_mod (l.getD i 0) i
  rw [if_pos h] at e
  have h1 := Int.emod_nonneg (l.getD i 0) (show ((i : Int) + 1) ≠ 0 by omega)
  unfold drawI; omega
theorem drawI_pos (l : List Int) (i : Nat) (h : 0 ≤ (l.getD i 0).tmod (i + 1)) : (l.getD i 0).tmod (i + 1) = (drawI l i : Int) := by
  have e := tmod_mod (l.getD i 0) i
  rw [if_neg (by omega)] at e
  unfold drawI; omega
/-- the first place of x, or the length -/
def fd (x : Int) : List Int → Nat
  | [] => 0
  | y :: t => if y = x then 0 else fd x t + 1
theorem fd_hit (x : Int) (l : List Int) (k : Nat) (hk : k < l.length) (h : ∀ j, j < k → l.getD j 0 ≠ x) (hx : l.getD k 0 = x) : fd x l = k := by
  induction l generalizing k with
  | nil => simp at hk
  | cons y t ih =>
    unfold fd
    cases k with
    | zero => simp at hx; rw [if_pos hx]
    | succ k =>
      have h0 := h 0 (by omega)
      simp at h0
      rw [if_neg h0, ih k (by simpa using hk) (fun j hj => by simpa using h (j + 1) (by omega)) (by simpa using hx)]
theorem fd_miss (x : Int) (l : List Int) (h : ∀ j, j < l.length → l.getD j 0 ≠ x) : fd x l = l.length := by
  induction l with
  | nil => rfl
  | cons y t ih =>
    have h0 := h 0 (by simp)
    simp at h0
    unfold fd
    rw [if_neg h0, ih (fun j hj => by simpa using h (j + 1) (by simpa using hj))]
    simp
theorem ext_same (l m : List Int) (hl : l.length = m.length) (h : ∀ j, j < l.length → l.getD j 0 = m.getD j 0) : l = m := by
  apply List.ext_getElem hl
  intro i h1 h2
  simpa [List.getD_eq_getElem?_getD, h1, h2] using h i h1
def asc (n : Nat) : List Int := (List.range n).map fun (i : Nat) => (i : Int)
theorem asc_length (n : Nat) : (asc n).length = n := by simp [asc]
theorem asc_mem (n : Nat) (x : Int) (h : x ∈ asc n) : 0 ≤ x ∧ x < n := by
  simp [asc] at h; obtain ⟨i, hi, rfl⟩ := h; omega
/-- the numbers 0 to k - 1, then zeros: what has been written after k rounds -/
def fill (n k : Nat) : List Int := asc k ++ List.replicate (n - k) 0
theorem fill_zero (n : Nat) : fill n 0 = List.replicate n 0 := by simp [fill, asc]
theorem fill_full (n : Nat) : fill n n = asc n := by simp [fill]
theorem fill_length (n k : Nat) (h : k ≤ n) : (fill n k).length = n := by simp [fill, asc_length]; omega
theorem fill_step (n k : Nat) (h : k < n) : (fill n k).set k (k : Int) = fill n (k + 1) := by
  unfold fill
  rw [List.set_append_right _ _ (by simp [asc_length])]
  obtain ⟨m, hm⟩ : ∃ m, n - k = m + 1 := ⟨n - k - 1, by omega⟩
  rw [hm, show n - (k + 1) = m by omega]
  simp [List.replicate_succ, asc, List.range_succ]
def swp (l : List Int) (i k : Nat) : List Int := (l.set i (l.getD k 0)).set k (l.getD i 0)
theorem swp_length (l : List Int) (i k : Nat) : (swp l i k).length = l.length := by simp [swp]
theorem swp_mem (l : List Int) (i k : Nat) (hi : i < l.length) (hk : k < l.length) (x : Int) (h : x ∈ swp l i k) : x ∈ l := by
  unfold swp at h
  rcases List.mem_or_eq_of_mem_set h with h | rfl
  · rcases List.mem_or_eq_of_mem_set h with h | rfl
    · exact h
    · simp [List.getD_eq_getElem?_getD, hk]
  · simp [List.getD_eq_getElem?_getD, hi]
/-- the shuffle: the rounds i, i - 1, .., 1 -/
def shuf (d : List Int) : Nat → List Int → List Int
  | 0, l => l
  | i + 1, l => shuf d i (swp l (i + 1) (drawI d (i + 1)))
theorem shuf_length (d : List Int) (i : Nat) (l : List Int) : (shuf d i l).length = l.length := by
  induction i generalizing l with
  | zero => rfl
  | succ i ih => unfold shuf; rw [ih, swp_length]
theorem shuf_mem (d : List Int) (i : Nat) (l : List Int) (hi : i < l.length) (x : Int) (h : x ∈ shuf d i l) : x ∈ l := by
  induction i generalizing l with
  | zero => exact h
  | succ i ih =>
    unfold shuf at h
    have := drawI_le d (i + 1)
    exact swp_mem l (i + 1) _ hi (by omega) x (ih _ (by rw [swp_length]; omega) h)
theorem shuf_round (d l : List Int) (k j : Nat) (hk : 0 < k) (hj : drawI d k = j) : shuf d k l = shuf d (k - 1) (swp l k j) := by
  obtain ⟨i, rfl⟩ : ∃ i, k = i + 1 := ⟨k - 1, by omega⟩
  subst hj
  rfl
def fact : Nat → Nat
  | 0 => 1
  | n + 1 => (n + 1) * fact n
theorem fact_pos (n : Nat) : 1 ≤ fact n := by
  induction n with
  | zero => simp [fact]
  | succ n ih => unfold fact; exact Nat.le_trans ih (Nat.le_mul_of_pos_left _ (by omega))
theorem fact_le (m n : Nat) (h : m ≤ n) : fact m ≤ fact n := by
  induction n with
  | zero => obtain rfl : m = 0 := by omega
            exact Nat.le_refl _
  | succ n ih =>
    by_cases e : m = n + 1
    · subst e; exact Nat.le_refl _
    · refine Nat.le_trans (ih (by omega)) ?_
      rw [fact]; exact Nat.le_mul_of_pos_left _ (by omega)
theorem fact_20 (n : Nat) (h : n ≤ 20) : fact n ≤ 2432902008176640000 := Nat.le_trans (fact_le n 20 h) (by decide)
theorem wrap_small (x : Nat) (h : x ≤ 2432902008176640000) : wrap64 (x : Int) = x := by unfold wrap64; omega
/-- down: what is left to be multiplied is i! -/
theorem fact_down (n c i : Nat) (hn : n ≤ 20) (h : c * fact i = fact n) (hi : 1 < i) : wrap64 ((c : Int) * i) = ((c * i : Nat) : Int) ∧ (c * i) * fact (i - 1) = fact n := by
  obtain ⟨j, rfl⟩ : ∃ j, i = j + 1 := ⟨i - 1, by omega⟩
  have e : (c * (j + 1)) * fact (j + 1 - 1) = fact n := by rw [← h, fact, Nat.mul_assoc]; simp
  refine ⟨?_, e⟩
  rw [← Int.natCast_mul]
  refine wrap_small _ (Nat.le_trans ?_ (fact_20 n hn))
  rw [← e]
  exact Nat.le_mul_of_pos_right _ (fact_pos _)
/-- up: what has been multiplied is (i - 1)! -/
theorem fact_up (n c i : Nat) (hn : n ≤ 20) (h : c = fact (i - 1)) (hi : 1 ≤ i) (hin : i ≤ n) : wrap64 ((c : Int) * i) = ((c * i : Nat) : Int) ∧ c * i = fact i := by
  obtain ⟨j, rfl⟩ : ∃ j, i = j + 1 := ⟨i - 1, by omega⟩
  have e : c * (j + 1) = fact (j + 1) := by rw [h, fact, Nat.mul_comm]; simp
  refine ⟨?_, e⟩
  rw [← Int.natCast_mul, e]
  exact wrap_small _ (fact_20 _ (by omega))
def cntI (n : Int) : Int := if 0 ≤ n ∧ n ≤ 20 then (fact n.toNat : Int) else 0
theorem cntI_in (m : Nat) (h : m ≤ 20) : cntI m = fact m := by unfold cntI; rw [if_pos (by omega)]; simp
theorem cntI_out (n : Int) (h : ¬ (0 ≤ n ∧ n ≤ 20)) : cntI n = 0 := by unfold cntI; rw [if_neg h]
/-- the list of draws with a number, from the last element on -/
def nthR : Nat → Nat → List Int
  | 0, _ => []
  | i + 1, k => nthR i (k / (i + 1)) ++ [((k % (i + 1) : Nat) : Int)]
theorem nthR_length (n k : Nat) : (nthR n k).length = n := by
  induction n generalizing k with
  | zero => rfl
  | succ n ih => simp [nthR, ih]
theorem nthR_mem (n k : Nat) (x : Int) (h : x ∈ nthR n k) : 0 ≤ x ∧ x < n := by
  induction n generalizing k with
  | zero => simp [nthR] at h
  | succ n ih =>
    rw [nthR, List.mem_append, List.mem_singleton] at h
    rcases h with h | h
    · have := ih _ h; omega
    · have := Nat.mod_lt k (show 0 < n + 1 by omega); omega
theorem set_drop (l : List Int) (i : Nat) (x : Int) (h : i < l.length) : (l.set i x).drop i = x :: l.drop (i + 1) := by
  rw [List.drop_eq_getElem_cons (by simpa using h)]
  simp [List.drop_set]
theorem nthR_step (n k0 i k : Nat) (l : List Int) (hl : i < l.length) (h : nthR (i + 1) k ++ l.drop (i + 1) = nthR n k0) :
    nthR i (k / (i + 1)) ++ (l.set i ((k % (i + 1) : Nat) : Int)).drop i = nthR n k0 := by
  rw [set_drop _ _ _ hl, ← h, nthR, List.append_assoc]; rfl
def nthB (n k : Int) : Bool := decide (0 ≤ k ∧ k < cntI n)
def nthL (n k : Int) : List Int := if 0 ≤ k ∧ k < cntI n then nthR n.toNat k.toNat else []
theorem nth_yes (n k : Int) (h : 0 ≤ k ∧ k < cntI n) : 0 ≤ n ∧ n ≤ 20 ∧ nthB n k = true ∧ nthL n k = nthR n.toNat k.toNat := by
  refine ⟨?_, ?_, by unfold nthB; simpa using h, by unfold nthL; rw [if_pos h]⟩
  · refine Classical.byContradiction fun hc => ?_
    have := cntI_out n (by omega); omega
  · refine Classical.byContradiction fun hc => ?_
    have := cntI_out n (by omega); omega
theorem nth_no (n k : Int) (h : ¬ (0 ≤ k ∧ k < cntI n)) : nthB n k = false ∧ nthL n k = [] :=
  ⟨by unfold nthB; exact decide_eq_false h, by unfold nthL; rw [if_neg h]⟩
/-- the number of a list of draws, from the first element on -/
def idxR : Nat → Nat → List Int → Nat
  | _, a, [] => a
  | i, a, x :: t => idxR (i + 1) (a * (i + 1) + x.toNat) t
def okD : Nat → List Int → Bool
  | _, [] => true
  | i, x :: t => decide (0 ≤ x ∧ x ≤ i) && okD (i + 1) t
def idxB (l : List Int) : Bool := decide (l.length ≤ 20) && okD 0 l
def idxI (l : List Int) : Int := if idxB l = true then (idxR 0 0 l : Int) else 0
theorem idx_step (l : List Int) (k a : Nat) (hk : k < l.length) (hk2 : k ≤ 19) (ha : a < fact k) (x : Int) (hx : l.getD k 0 = x) (x0 : 0 ≤ x) (x1 : x ≤ k) :
    idxR k a (l.drop k) = idxR (k + 1) (a * (k + 1) + x.toNat) (l.drop (k + 1)) ∧ okD k (l.drop k) = okD (k + 1) (l.drop (k + 1)) ∧ a * (k + 1) + x.toNat < fact (k + 1) ∧
    wrap64 ((a : Int) * ((k : Int) + 1)) = ((a * (k + 1) : Nat) : Int) ∧ wrap64 (((a * (k + 1) : Nat) : Int) + x) = ((a * (k + 1) + x.toNat : Nat) : Int) := by
  have e : l.drop k = x :: l.drop (k + 1) := by
    rw [List.drop_eq_getElem_cons hk]; congr 1
    simpa [List.getD_eq_getElem?_getD, hk] using hx
  have h2 : a * (k + 1) + (k + 1) ≤ fact (k + 1) := by
    rw [fact, ← Nat.succ_mul, Nat.mul_comm (k + 1)]
    exact Nat.mul_le_mul_right _ ha
  have h3 := fact_20 (k + 1) (by omega)
  have h1 : a * (k + 1) ≤ 2432902008176640000 := by omega
  refine ⟨by rw [e]; rfl, by rw [e, okD, decide_eq_true ⟨x0, x1⟩]; rfl, by omega, ?_, ?_⟩
  · rw [show (a : Int) * ((k : Int) + 1) = ((a * (k + 1) : Nat) : Int) by push_cast; rfl]
    exact wrap_small _ h1
  · rw [show (((a * (k + 1) : Nat) : Int) + x) = ((a * (k + 1) + x.toNat : Nat) : Int) by omega]
    exact wrap_small _ (by omega)
theorem idx_bad (l : List Int) (k : Nat) (hk : k < l.length) (x : Int) (hx : l.getD k 0 = x) (h : ¬ (0 ≤ x ∧ x ≤ k)) (he : okD k (l.drop k) = okD 0 l) : idxB l = false ∧ idxI l = 0 := by
  have e : l.drop k = x :: l.drop (k + 1) := by
    rw [List.drop_eq_getElem_cons hk]; congr 1
    simpa [List.getD_eq_getElem?_getD, hk] using hx
  have h1 : okD 0 l = false := by rw [← he, e, okD, decide_eq_false h]; rfl
  have h2 : idxB l = false := by unfold idxB; rw [h1]; simp
  exact ⟨h2, by unfold idxI; rw [if_neg (by rw [h2]; simp)]⟩
theorem idx_long (l : List Int) (h : 20 < l.length) : idxB l = false ∧ idxI l = 0 := by
  have h2 : idxB l = false := by unfold idxB; rw [decide_eq_false (by omega)]; rfl
  exact ⟨h2, by unfold idxI; rw [if_neg (by rw [h2]; simp)]⟩
theorem idx_end (l : List Int) (a : Nat) (hl : l.length ≤ 20) (he : okD l.length (l.drop l.length) = okD 0 l) (hi : idxR l.length a (l.drop l.length) = idxR 0 0 l) : idxB l = true ∧ idxI l = a := by
  rw [List.drop_length] at he hi
  have h2 : idxB l = true := by unfold idxB; rw [decide_eq_true hl, ← he]; rfl
  exact ⟨h2, by unfold idxI; rw [if_pos h2, ← hi]; rfl⟩
end Go.Proofs.Ytimgcehogalhcaa
