/- Layer 3, plain lists: a sorted list, walked once without doubles, is the ascending list of its members in a range. -/
import Derived.Test.YtkciejealeinoaaSort
namespace Go.Proofs.Ytkciejealeinoaa
open Go.RowKit
set_option maxRecDepth 100000

/-- the members of l that number a channel of n, in ascending order -/
def lockL (n : Nat) (l : List Int) : List Int := ((List.range n).filter fun (i : Nat) => decide ((i : Int) ∈ l)).map fun (i : Nat) => (i : Int)
def lk (n : Nat) : Option Int → List Int → List Int
  | _, [] => []
  | p, x :: l => if p = some x then lk n (some x) l else if 0 ≤ x ∧ x < n then x :: lk n (some x) l else if 0 ≤ x then [] else lk n (some x) l
theorem lk_mem (n : Nat) (p : Option Int) (s : List Int) (hs : s.Pairwise (· ≤ ·)) (hp : ∀ q, p = some q → ∀ x ∈ s, q ≤ x) (x : Int) :
    x ∈ lk n p s ↔ x ∈ s ∧ 0 ≤ x ∧ x < n ∧ p ≠ some x := by
  induction s generalizing p with
  | nil => simp [lk]
  | cons y s ih =>
    rw [List.pairwise_cons] at hs
    have ih' := ih (some y) hs.2 (fun q hq x hx => by cases hq; exact hs.1 x hx)
    have key : x ∈ lk n (some y) s ↔ x ∈ s ∧ 0 ≤ x ∧ x < n ∧ x ≠ y := by
      rw [ih']; simp only [ne_eq, Option.some.injEq, eq_comm]
    have hps : p = some x → x ≤ y := fun e => hp x e y (List.mem_cons_self ..)
    unfold lk
    by_cases h1 : p = some y
    · rw [if_pos h1, key, h1]
      simp only [List.mem_cons, ne_eq, Option.some.injEq]
      constructor
      · rintro ⟨a, b, c, d⟩; exact ⟨.inr a, b, c, fun e => d e.symm⟩
      · rintro ⟨a, b, c, d⟩; exact ⟨a.resolve_left fun e => d e.symm, b, c, fun e => d e.symm⟩
    · rw [if_neg h1]
      by_cases h2 : 0 ≤ y ∧ y < n
      · rw [if_pos h2, List.mem_cons, key, List.mem_cons]
        constructor
        · rintro (rfl | ⟨a, b, c, d⟩)
          · exact ⟨.inl rfl, h2.1, h2.2, h1⟩
          · refine ⟨.inr a, b, c, fun e => d ?_⟩
            have := hps e; have := hs.1 x a; omega
        · rintro ⟨a, b, c, d⟩
          by_cases e : x = y
          · exact .inl e
          · exact .inr ⟨a.resolve_left e, b, c, e⟩
      · rw [if_neg h2]
        by_cases h3 : 0 ≤ y
        · rw [if_pos h3]
          simp only [List.not_mem_nil, List.mem_cons, false_iff]
          rintro ⟨a, b, c, d⟩
          rcases a with rfl | a
          · omega
          · have := hs.1 x a; omega
        · rw [if_neg h3, key, List.mem_cons]
          constructor
          · rintro ⟨a, b, c, d⟩
            refine ⟨.inr a, b, c, fun e => d ?_⟩
            have := hps e; have := hs.1 x a; omega
          · rintro ⟨a, b, c, d⟩
            have e : x ≠ y := fun e => by omega
            exact ⟨a.resolve_left e, b, c, e⟩
theorem lk_asc (n : Nat) (p : Option Int) (s : List Int) (hs : s.Pairwise (· ≤ ·)) (hp : ∀ q, p = some q → ∀ x ∈ s, q ≤ x) : (lk n p s).Pairwise (· < ·) := by
  induction s generalizing p with
  | nil => simp [lk]
  | cons y s ih =>
    rw [List.pairwise_cons] at hs
    have hp' : ∀ q, some y = some q → ∀ x ∈ s, q ≤ x := fun q hq x hx => by cases hq; exact hs.1 x hx
    have ih' := ih (some y) hs.2 hp'
    unfold lk
    split
    · exact ih'
    · split
      · rw [List.pairwise_cons]
        refine ⟨fun x hx => ?_, ih'⟩
        have := (lk_mem n (some y) s hs.2 hp' x).1 hx
        have h1 := hs.1 x this.1
        have h2 : y ≠ x := fun e => this.2.2.2 (by rw [e])
        omega
      · split
        · exact List.Pairwise.nil
        · exact ih'
theorem asc_eq (l m : List Int) (hl : l.Pairwise (· < ·)) (hm : m.Pairwise (· < ·)) (h : ∀ x, x ∈ l ↔ x ∈ m) : l = m := by
  induction l generalizing m with
  | nil =>
    cases m with
    | nil => rfl
    | cons b m => exact absurd ((h b).2 (List.mem_cons_self ..)) (by simp)
  | cons a l ih =>
    cases m with
    | nil => exact absurd ((h a).1 (List.mem_cons_self ..)) (by simp)
    | cons b m =>
      rw [List.pairwise_cons] at hl hm
      have e : a = b := by
        have h1 := (h a).1 (List.mem_cons_self ..)
        have h2 := (h b).2 (List.mem_cons_self ..)
        rw [List.mem_cons] at h1 h2
        rcases h1 with h1 | h1
        · exact h1
        · rcases h2 with h2 | h2
          · exact h2.symm
          · have := hm.1 a h1; have := hl.1 b h2; omega
      subst e
      rw [ih m hl.2 hm.2 fun x => ?_]
      have := h x
      rw [List.mem_cons, List.mem_cons] at this
      constructor
      · intro hx
        exact (this.1 (.inr hx)).resolve_left fun e => by have := hl.1 x hx; omega
      · intro hx
        exact (this.2 (.inr hx)).resolve_left fun e => by have := hm.1 x hx; omega
theorem lockL_mem (n : Nat) (l : List Int) (x : Int) : x ∈ lockL n l ↔ x ∈ l ∧ 0 ≤ x ∧ x < n := by
  unfold lockL
  simp only [List.mem_map, List.mem_filter, List.mem_range, decide_eq_true_eq]
  constructor
  · rintro ⟨i, ⟨a, b⟩, rfl⟩; exact ⟨b, by omega, by omega⟩
  · rintro ⟨a, b, c⟩; exact ⟨x.toNat, ⟨by omega, by rw [Int.toNat_of_nonneg b]; exact a⟩, Int.toNat_of_nonneg b⟩
theorem lockL_asc (n : Nat) (l : List Int) : (lockL n l).Pairwise (· < ·) := by
  unfold lockL
  rw [List.pairwise_map]
  exact ((List.pairwise_lt_range (n := n)).filter _).imp (by intro a b h; omega)
theorem lk_sorted (n : Nat) (l : List Int) : lk n none (sorted l) = lockL n l :=
  asc_eq _ _ (lk_asc n none _ (sorted_asc l) (by simp)) (lockL_asc n l) fun x => by
    rw [lk_mem n none _ (sorted_asc l) (by simp), lockL_mem, sorted_mem]; simp
theorem lockL_length (n : Nat) (l : List Int) : (lockL n l).length ≤ n := by
  unfold lockL
  rw [List.length_map]
  exact Nat.le_trans (List.length_filter_le _ _) (by simp)
/-- the element before place k -/
def prevO (s : List Int) (k : Nat) : Option Int := if k = 0 then none else some (s.getD (k - 1) 0)
theorem drop_int (l : List Int) (k : Nat) (hk : k < l.length) (x : Int) (hx : l.getD k 0 = x) : l.drop k = x :: l.drop (k + 1) := by
  rw [List.drop_eq_getElem_cons hk]; congr 1
  simpa [List.getD_eq_getElem?_getD, hk] using hx
theorem prevO_succ (s : List Int) (k : Nat) (x : Int) (hx : s.getD k 0 = x) : prevO s (k + 1) = some x := by simp [prevO, ← hx]
theorem lk_double (n : Nat) (s acc r : List Int) (k : Nat) (hk : k < s.length) (x : Int) (hx : s.getD k 0 = x) (hp : prevO s k = some x) (h : r = acc ++ lk n (prevO s k) (s.drop k)) :
    r = acc ++ lk n (prevO s (k + 1)) (s.drop (k + 1)) := by
  rw [h, drop_int s k hk x hx, lk, if_pos hp, prevO_succ s k x hx]
theorem lk_take (n : Nat) (s acc r : List Int) (k : Nat) (hk : k < s.length) (x : Int) (hx : s.getD k 0 = x) (hp : prevO s k ≠ some x) (h0 : 0 ≤ x) (h1 : x < n) (h : r = acc ++ lk n (prevO s k) (s.drop k)) :
    r = (acc ++ [x]) ++ lk n (prevO s (k + 1)) (s.drop (k + 1)) := by
  rw [h, drop_int s k hk x hx, lk, if_neg hp, if_pos ⟨h0, h1⟩, prevO_succ s k x hx, List.append_assoc]; rfl
theorem lk_stop (n : Nat) (s acc r : List Int) (k : Nat) (hk : k < s.length) (x : Int) (hx : s.getD k 0 = x) (hp : prevO s k ≠ some x) (h0 : 0 ≤ x) (h1 : ¬ x < n) (h : r = acc ++ lk n (prevO s k) (s.drop k)) :
    r = acc := by
  rw [h, drop_int s k hk x hx, lk, if_neg hp, if_neg (fun h => h1 h.2), if_pos h0, List.append_nil]
theorem lk_skip (n : Nat) (s acc r : List Int) (k : Nat) (hk : k < s.length) (x : Int) (hx : s.getD k 0 = x) (hp : prevO s k ≠ some x) (h0 : ¬ 0 ≤ x) (h : r = acc ++ lk n (prevO s k) (s.drop k)) :
    r = acc ++ lk n (prevO s (k + 1)) (s.drop (k + 1)) := by
  rw [h, drop_int s k hk x hx, lk, if_neg hp, if_neg (fun h => h0 h.1), if_neg h0, prevO_succ s k x hx]
theorem lk_end (n : Nat) (s acc r : List Int) (p : Option Int) (h : r = acc ++ lk n p (s.drop s.length)) : r = acc := by
  rw [h, List.drop_length]; simp [lk]
end Go.Proofs.Ytkciejealeinoaa
