/- Plain lists for layer 2: the permutations with the numbers 0, 1, .. are different, and each element comes first, and before the others of a set, equally often. -/
import Derived.Test.YtggnomnfcdibeaaPerm2
namespace Go.Proofs.Ytggnomnfcdibeaa
open Go.RowKit

/-- the permutation with the number k -/
def perm (n k : Nat) : List Int := shuf (nthR n k) (n - 1) (asc n)
theorem perm_full (n k : Nat) (hn : 1 ≤ n) : Full n (perm n k) := shuf_full _ n (n - 1) _ (full_asc n) (by omega)
theorem nthR_ok (n k : Nat) : OkDraws (nthR n k) := by
  induction n generalizing k with
  | zero => intro i hi; simp [nthR] at hi
  | succ n ih =>
    intro i hi
    rw [nthR_length] at hi
    have hl := nthR_length n (k / (n + 1))
    rw [nthR]
    by_cases h : i < n
    · have e : (nthR n (k / (n + 1)) ++ [((k % (n + 1) : Nat) : Int)]).getD i 0 = (nthR n (k / (n + 1))).getD i 0 := by
        simp [List.getD_eq_getElem?_getD, List.getElem?_append, hl, h]
      rw [e]
      exact ih _ i (by omega)
    · have hin : i = n := by omega
      subst hin
      have e : (nthR i (k / (i + 1)) ++ [((k % (i + 1) : Nat) : Int)]).getD i 0 = ((k % (i + 1) : Nat) : Int) := by
        simp [List.getD_eq_getElem?_getD, hl]
      rw [e]
      have := Nat.mod_lt k (show 0 < i + 1 by omega)
      omega
theorem perm_inj (n i k : Nat) (hn : 1 ≤ n) (hi : i < fact n) (hk : k < fact n) (h : perm n i = perm n k) : i = k := by
  have e1 := un_back (nthR n i) n hn (nthR_ok n i) (nthR_length n i)
  have e2 := un_back (nthR n k) n hn (nthR_ok n k) (nthR_length n k)
  unfold perm at h
  rw [h, e2] at e1
  have e3 := (idx_nth n i hi).2
  rw [← e1, (idx_nth n k hk).2] at e3
  exact e3.symm
/-- one more at p -/
def inc (l : List Int) (p : Nat) : List Int := l.set p (l.getD p 0 + 1)
/-- how often each element came first in the permutations 0 to k - 1 -/
def firstL (n : Nat) : Nat → List Int
  | 0 => List.replicate n 0
  | k + 1 => inc (firstL n k) ((perm n k).getD 0 0).toNat
theorem inc_length (l : List Int) (p : Nat) : (inc l p).length = l.length := by simp [inc]
theorem firstL_length (n k : Nat) : (firstL n k).length = n := by
  induction k with
  | zero => simp [firstL]
  | succ k ih => rw [firstL, inc_length, ih]
theorem inc_bound (l : List Int) (p k : Nat) (h : ∀ x ∈ l, 0 ≤ x ∧ x ≤ k) (x : Int) (hx : x ∈ inc l p) : 0 ≤ x ∧ x ≤ (k + 1 : Nat) := by
  rcases List.mem_or_eq_of_mem_set hx with h1 | rfl
  · have := h x h1; omega
  · by_cases hp : p < l.length
    · have := h _ (mem_of_getD l p hp); omega
    · have : l.getD p 0 = 0 := by rw [List.getD_eq_getElem?_getD, List.getElem?_eq_none (by omega)]; rfl
      omega
theorem firstL_bound (n k : Nat) (x : Int) (hx : x ∈ firstL n k) : 0 ≤ x ∧ x ≤ k := by
  induction k generalizing x with
  | zero => simp [firstL] at hx; omega
  | succ k ih => exact inc_bound _ _ k ih x hx
def fairB (n : Nat) : Bool := (firstL n (fact n)).all fun x => x * n == fact n
theorem fair_all (n : Nat) (h1 : 1 ≤ n) (h2 : n ≤ 5) : fairB n = true := by
  obtain rfl | rfl | rfl | rfl | rfl : n = 1 ∨ n = 2 ∨ n = 3 ∨ n = 4 ∨ n = 5 := by omega
  all_goals decide +kernel
theorem fair_at (n i : Nat) (h1 : 1 ≤ n) (h2 : n ≤ 5) (hi : i < n) : (firstL n (fact n)).getD i 0 * n = fact n := by
  have h := fair_all n h1 h2
  unfold fairB at h
  rw [List.all_eq_true] at h
  simpa using h _ (mem_of_getD _ i (by rw [firstL_length]; exact hi))
/-- element i of a set -/
def inS (s i : Nat) : Bool := s / 2 ^ i % 2 == 1
def sizeS (s : Nat) : Nat → Nat
  | 0 => 0
  | k + 1 => sizeS s k + if inS s k then 1 else 0
/-- the first element of a list that is in the set -/
def hit (s : Nat) : List Int → Option Nat
  | [] => none
  | x :: t => if inS s x.toNat then some x.toNat else hit s t
def winsL (n s : Nat) : Nat → List Int
  | 0 => List.replicate n 0
  | k + 1 => match hit s (perm n k) with | some p => inc (winsL n s k) p | none => winsL n s k
theorem winsL_length (n s k : Nat) : (winsL n s k).length = n := by
  induction k with
  | zero => simp [winsL]
  | succ k ih =>
    rw [winsL]
    split
    · rw [inc_length, ih]
    · exact ih
theorem winsL_bound (n s k : Nat) (x : Int) (hx : x ∈ winsL n s k) : 0 ≤ x ∧ x ≤ k := by
  induction k generalizing x with
  | zero => simp [winsL] at hx; omega
  | succ k ih =>
    rw [winsL] at hx
    split at hx
    · exact inc_bound _ _ k ih x hx
    · have := ih x hx; omega
/-- the permutations are made once -/
def winsF (s : Nat) (ps : List (List Int)) (l : List Int) : List Int := ps.foldl (fun l o => match hit s o with | some p => inc l p | none => l) l
theorem winsF_eq (n s k : Nat) : winsF s ((List.range k).map (perm n)) (List.replicate n 0) = winsL n s k := by
  unfold winsF
  induction k with
  | zero => rfl
  | succ k ih =>
    rw [List.range_succ, List.map_append, List.foldl_append, ih, winsL]
    rfl
def winB (n s : Nat) (ps : List (List Int)) : Bool :=
  let l := winsF s ps (List.replicate n 0)
  let z := sizeS s n
  (List.range n).all fun i => !inS s i || l.getD i 0 * z == fact n
def winAll (n : Nat) : Bool :=
  let ps := (List.range (fact n)).map (perm n)
  (List.range 32).all fun s => winB n s ps
theorem win_all (n : Nat) (h1 : 1 ≤ n) (h2 : n ≤ 5) : winAll n = true := by
  obtain rfl | rfl | rfl | rfl | rfl : n = 1 ∨ n = 2 ∨ n = 3 ∨ n = 4 ∨ n = 5 := by omega
  all_goals decide +kernel
theorem win_at (n s i : Nat) (h1 : 1 ≤ n) (h2 : n ≤ 5) (hs : s < 32) (hi : i < n) (hin : inS s i = true) : (winsL n s (fact n)).getD i 0 * sizeS s n = fact n := by
  have h := win_all n h1 h2
  unfold winAll at h
  rw [List.all_eq_true] at h
  have h3 := h s (by simpa using hs)
  unfold winB at h3
  rw [winsF_eq, List.all_eq_true] at h3
  have h4 := h3 i (by simpa using hi)
  rw [hin] at h4
  simpa using h4
theorem inS_mod (s i : Nat) (hi : i < 5) : inS s i = inS (s % 32) i := by
  unfold inS
  obtain rfl | rfl | rfl | rfl | rfl : i = 0 ∨ i = 1 ∨ i = 2 ∨ i = 3 ∨ i = 4 := by omega
  all_goals
    congr 1
    simp only [Nat.reducePow]
    omega
theorem sizeS_mod (s n : Nat) (hn : n ≤ 5) : sizeS s n = sizeS (s % 32) n := by
  induction n with
  | zero => rfl
  | succ n ih => rw [sizeS, sizeS, ih (by omega), inS_mod s n (by omega)]
theorem hit_mod (s : Nat) (l : List Int) (h : ∀ x ∈ l, 0 ≤ x ∧ x < 5) : hit s l = hit (s % 32) l := by
  induction l with
  | nil => rfl
  | cons x t ih =>
    have hx := h x (by simp)
    rw [hit, hit, inS_mod s x.toNat (by omega), ih fun y hy => h y (by simp [hy])]
theorem winsL_mod (n s k : Nat) (h1 : 1 ≤ n) (h2 : n ≤ 5) : winsL n s k = winsL n (s % 32) k := by
  induction k with
  | zero => rfl
  | succ k ih =>
    rw [winsL, winsL, ih, hit_mod s (perm n k) fun x hx => by have := (perm_full n k h1).range x hx; omega]
theorem win_set (n s i : Nat) (h1 : 1 ≤ n) (h2 : n ≤ 5) (hi : i < n) (hin : inS s i = true) : (winsL n s (fact n)).getD i 0 * sizeS s n = fact n := by
  rw [winsL_mod n s _ h1 h2, sizeS_mod s n h2]
  exact win_at n (s % 32) i h1 h2 (Nat.mod_lt _ (by omega)) hi (by rw [← inS_mod s i (by omega)]; exact hin)
/-- the first j elements of a list are not in the set -/
theorem hit_at (s : Nat) (l : List Int) (j : Nat) (hj : j < l.length) (h : ∀ i, i < j → inS s (l.getD i 0).toNat = false) (ht : inS s (l.getD j 0).toNat = true) : hit s l = some (l.getD j 0).toNat := by
  induction l generalizing j with
  | nil => simp at hj
  | cons x t ih =>
    cases j with
    | zero => simp at ht ⊢; rw [hit, if_pos ht]
    | succ j =>
      have h0 := h 0 (by omega)
      simp at h0
      rw [hit, h0]
      simpa using ih j (by simpa using hj) (fun i hi => by simpa using h (i + 1) (by omega)) (by simpa using ht)
theorem hit_none (s : Nat) (l : List Int) (h : ∀ i, i < l.length → inS s (l.getD i 0).toNat = false) : hit s l = none := by
  induction l with
  | nil => rfl
  | cons x t ih =>
    have h0 := h 0 (by simp)
    simp at h0
    rw [hit, h0]
    simpa using ih fun i hi => by simpa using h (i + 1) (by simpa using hi)
end Go.Proofs.Ytggnomnfcdibeaa
