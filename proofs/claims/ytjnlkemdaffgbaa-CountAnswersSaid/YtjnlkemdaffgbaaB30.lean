
import Derived.Test.YtjnlkemdaffgbaaB16
import Derived.Test.YtjnlkemdaffgbaaB06
set_option linter.unusedVariables false
set_option linter.unusedSimpArgs false
/- The ring while machines run one after another, plainly. -/
namespace Go.Proofs.Ytjnlkemdaffgbaa
open Go.ChangeShapes Go.WideShapes Go.ChangeAt Go.RowKit
set_option maxRecDepth 100000

def putW (m : MemM) (a x : Int) : MemM := ⟨m.words.set a.toNat x, m.lists, m.tick⟩
theorem apply_load {m : MemM} {a : Int} (h0 : 0 ≤ a) (h1 : a < m.words.length) : applyE m ⟨1, a, 0, 0, 0⟩ = (m, ⟨m.words.getD a.toNat 0, false, false, []⟩, true) := by
  have hb : hasB m.words.length a = true := by unfold hasB; simp [h0, h1]
  unfold applyE grantB wordE
  simp [hb]
theorem apply_read {m : MemM} {a : Int} (h0 : 0 ≤ a) (h1 : a < m.words.length) : applyE m ⟨5, a, 0, 0, 0⟩ = (m, ⟨m.words.getD a.toNat 0, false, false, []⟩, true) := by
  have hb : hasB m.words.length a = true := by unfold hasB; simp [h0, h1]
  unfold applyE grantB wordE
  simp [hb]
theorem apply_store {m : MemM} {a x : Int} (h0 : 0 ≤ a) (h1 : a < m.words.length) : applyE m ⟨2, a, 0, x, 0⟩ = (putW m a x, ansZ, true) := by
  have hb : hasB m.words.length a = true := by unfold hasB; simp [h0, h1]
  unfold applyE grantB wordE putW
  simp [hb]
theorem apply_write {m : MemM} {a x : Int} (h0 : 0 ≤ a) (h1 : a < m.words.length) : applyE m ⟨6, a, 0, x, 0⟩ = (putW m a x, ansZ, true) := by
  have hb : hasB m.words.length a = true := by unfold hasB; simp [h0, h1]
  unfold applyE grantB wordE putW
  simp [hb]
theorem apply_cas {m : MemM} {a o x : Int} (h0 : 0 ≤ a) (h1 : a < m.words.length) (he : m.words.getD a.toNat 0 = o) : applyE m ⟨3, a, o, x, 0⟩ = (putW m a x, ⟨o, true, false, []⟩, true) := by
  have hb : hasB m.words.length a = true := by unfold hasB; simp [h0, h1]
  unfold applyE grantB wordE putW
  rw [he]
  simp [hb, he]
/-- one machine makes its access -/
def step1 (c : ConfM) (s : MemM × MachM) : MemM × MachM :=
  if s.2.pl = 0 then s else if (applyE s.1 (rgNE c s.2)).2.2 = true then ((applyE s.1 (rgNE c s.2)).1, rgRE c s.2 (applyE s.1 (rgNE c s.2)).2.1) else s
theorem putW_at (m : MemM) (a x : Int) (b : Int) (h0 : 0 ≤ a) (hb : 0 ≤ b) (h1 : a < m.words.length) : (putW m a x).words.getD b.toNat 0 = if b = a then x else m.words.getD b.toNat 0 := by
  unfold putW
  show (m.words.set a.toNat x).getD b.toNat 0 = _
  rw [getD_setL]
  by_cases h : b = a
  · subst h; rw [if_pos ⟨rfl, by omega⟩, if_pos rfl]
  · rw [if_neg (by omega), if_neg h]
theorem putW_len (m : MemM) (a x : Int) : (putW m a x).words.length = m.words.length := by unfold putW; simp
/-- what size a ring has -/
def Two (z : Int) : Prop := z = 1 ∨ z = 2 ∨ z = 4 ∨ z = 8 ∨ z = 16
theorem slot_next {z : Int} (hz : Two z) (s j : Int) : slotI (nextI s j) z = (s + j) % z := by
  unfold slotI nextI
  rcases hz with rfl | rfl | rfl | rfl | rfl <;> rw [if_neg (by omega)] <;> omega
theorem slot_apart {z : Int} (hz : Two z) (s i j : Int) (h : i ≠ j) (h1 : i - j < z) (h2 : j - i < z) : (s + i) % z ≠ (s + j) % z := by
  rcases hz with rfl | rfl | rfl | rfl | rfl <;> omega
theorem slot_range {z : Int} (hz : Two z) (x : Int) : 0 ≤ x % z ∧ x % z < z := by
  rcases hz with rfl | rfl | rfl | rfl | rfl <;> omega
/-- the ring of channel 0 at rest: p values were taken, n were added, of those that began at s; cl: it is closed -/
structure RingSt (c : ConfM) (m : MemM) (s : Int) (p n : Nat) (cl : Bool) (val : Nat → Int) : Prop where
  two : Two (c.size 0)
  srng : 0 ≤ s ∧ s < 9223372036854775808
  len : 5 + c.size 0 * 2 ≤ (m.words.length : Int)
  pn : p ≤ n ∧ (n : Int) ≤ p + c.caps.getD 0 0
  cap : c.caps.getD 0 0 ≤ c.size 0 ∧ 0 ≤ c.caps.getD 0 0
  tail : m.words.getD 0 0 = packI (nextI s n) cl
  head : m.words.getD 1 0 = nextI s p
  slot : ∀ j : Nat, p ≤ j → (j : Int) < p + c.size 0 → m.words.getD (5 + (s + j) % c.size 0 * 2).toNat 0 = if j < n then nextI s (j + 1) else nextI s j
  vals : ∀ j : Nat, p ≤ j → j < n → m.words.getD (5 + (s + j) % c.size 0 * 2 + 1).toNat 0 = val j
theorem packI_half (x : Int) (h : 0 ≤ x ∧ x < 9223372036854775808) (b : Bool) : packI x b / 2 = x := by
  unfold packI
  cases b <;> simp <;> omega
theorem packI_closed (x : Int) (b : Bool) : closedB (packI x b) = b := by
  unfold packI closedB
  cases b
  · simp <;> omega
  · simp <;> omega
theorem nextI_rng (x y : Int) : 0 ≤ nextI x y ∧ nextI x y < 9223372036854775808 := by unfold nextI; omega
theorem nextI_next (s j : Int) : nextI (nextI s j) 1 = nextI s (j + 1) := by unfold nextI; omega
theorem rest_next (s : Int) (n p : Nat) (h : p ≤ n) (h2 : (n : Int) - p ≤ 16) : restI (nextI s n) (nextI s p) = (n : Int) - p := by unfold restI nextI; omega
theorem slotW0 {c : ConfM} (hz : Two (c.size 0)) (s j : Int) : c.slotW 0 (nextI s j) = 5 + (s + j) % c.size 0 * 2 := by
  show c.base 0 + 5 + slotI (nextI s j) (c.size 0) * 2 = _
  rw [slot_next hz]
  show (0 : Int) + 5 + _ = _
  omega
/-- a push that runs alone, behind j accesses; T: the tail word -/
def pushK (v T : Int) : Nat → MachM
  | 0 => ⟨3, 1, 0, 0, v % 4, v % 8, v, 0, 0, 0, 0⟩
  | 1 => ⟨3, 2, 0, 0, v % 4, v % 8, v, T, 0, 0, 0⟩
  | 2 => ⟨3, 4, 0, 0, v % 4, v % 8, v, T, 0, 0, 0⟩
  | 3 => ⟨3, 5, 0, 0, v % 4, v % 8, v, T, 0, 0, 0⟩
  | 4 => ⟨3, 6, 0, 0, v % 4, v % 8, v, T, 0, 0, 0⟩
  | 5 => ⟨3, 7, 0, 0, v % 4, v % 8, v, T, 0, 0, 0⟩
  | _ + 6 => ⟨3, 0, 0, 0, v % 4, v % 8, v, T, 0, 1, 0⟩
def pushM (c : ConfM) (m : MemM) (v T : Int) : Nat → MemM
  | 0 | 1 | 2 | 3 => m
  | 4 => putW m 0 (packI (nextI (T / 2) 1) false)
  | 5 => putW (putW m 0 (packI (nextI (T / 2) 1) false)) (c.slotW 0 (T / 2) + 1) v
  | _ + 6 => putW (putW (putW m 0 (packI (nextI (T / 2) 1) false)) (c.slotW 0 (T / 2) + 1) v) (c.slotW 0 (T / 2)) (nextI (T / 2) 1)
theorem step1_of {c : ConfM} {m m2 : MemM} {k : MachM} {a : AccM} {b : AnsM} (h : ¬ k.pl = 0) (ha : rgNE c k = a) (hb : applyE m a = (m2, b, true)) : step1 c (m, k) = (m2, rgRE c k b) := by
  unfold step1
  simp only [ha, hb]
  rw [if_neg h]
  exact if_pos trivial
theorem push_step {c : ConfM} {m : MemM} {s : Int} {p n : Nat} {val : Nat → Int} (h : RingSt c m s p n false val) (hn : (n : Int) < p + c.caps.getD 0 0) (v : Int) (j : Nat) (hj : j < 6) :
    step1 c (pushM c m v (packI (nextI s n) false) j, pushK v (packI (nextI s n) false) j) = (pushM c m v (packI (nextI s n) false) (j + 1), pushK v (packI (nextI s n) false) (j + 1)) := by
  have hT2 := packI_half (nextI s n) (nextI_rng s n) false
  have hcl := packI_closed (nextI s n) false
  have hz := slot_range h.two (s + n)
  have hA := slotW0 h.two s n
  have hlen := h.len
  have h16 : (n : Int) - p ≤ 16 := by have := h.two; have := h.cap; rcases h.two with e | e | e | e | e <;> omega
  have hr := rest_next s n p h.pn.1 h16
  have hsl := h.slot n h.pn.1 (by have := h.cap; omega)
  rw [if_neg (by omega)] at hsl
  obtain ⟨T, hT⟩ : ∃ T, packI (nextI s n) false = T := ⟨_, rfl⟩
  have htl : m.words.getD 0 0 = T := h.tail.trans hT
  rw [hT] at hT2 hcl ⊢
  obtain ⟨A, hAe⟩ : ∃ A, c.slotW 0 (T / 2) = A := ⟨_, rfl⟩
  have hA' : A = 5 + (s + n) % c.size 0 * 2 := by rw [← hAe, hT2]; exact hA
  have hA0 : 0 ≤ A := by omega
  have hA1 : A + 1 < (m.words.length : Int) := by omega
  have hj6 : j = 0 ∨ j = 1 ∨ j = 2 ∨ j = 3 ∨ j = 4 ∨ j = 5 := by omega
  rcases hj6 with rfl | rfl | rfl | rfl | rfl | rfl
  · refine (step1_of (a := ⟨1, 0, 0, 0, 0⟩) (by show ¬ (1 : Int) = 0; omega) rfl (apply_load (by omega) (by show (0 : Int) < m.words.length; omega))).trans ?_
    rw [show (pushM c m v T 0).words.getD (Int.toNat 0) 0 = T from htl]
    show (m, rgRE c _ ⟨T, false, false, []⟩) = _
    unfold rgRE pushRE pushK
    simp [hcl, pushM]
  · refine (step1_of (a := ⟨1, 1, 0, 0, 0⟩) (by show ¬ (2 : Int) = 0; omega) rfl (apply_load (by omega) (by show (1 : Int) < m.words.length; omega))).trans ?_
    rw [show (pushM c m v T 1).words.getD (Int.toNat 1) 0 = nextI s p from h.head]
    unfold rgRE pushRE pushK
    have e1 : restI (T / 2) (nextI s p) = (n : Int) - p := by rw [hT2]; exact hr
    have e2 : c.caps[0]?.getD 0 = c.caps.getD 0 0 := List.getD_eq_getElem?_getD.symm
    simp [e1, pushM]
    rw [if_neg (by omega), if_neg (by omega)]
  · refine (step1_of (a := ⟨1, A, 0, 0, 0⟩) (by show ¬ (4 : Int) = 0; omega) (by unfold rgNE pushNE pushK; simp [hAe]) (apply_load hA0 (by show A < _; exact Int.lt_of_lt_of_le (by omega) (Int.le_of_lt hA1)))).trans ?_
    have e1 : (pushM c m v T 2).words.getD A.toNat 0 = T / 2 := by rw [hA', hT2]; exact hsl
    rw [e1]
    unfold rgRE pushRE pushK
    simp [pushM]
  · refine (step1_of (a := ⟨3, 0, T, packI (nextI (T / 2) 1) false, 0⟩) (by show ¬ (5 : Int) = 0; omega) (by unfold rgNE pushNE pushK; simp; rfl) (apply_cas (by omega) (by show (0 : Int) < m.words.length; omega) htl)).trans ?_
    unfold rgRE pushRE pushK
    simp [pushM]
  · refine (step1_of (a := ⟨6, A + 1, 0, v, 0⟩) (by show ¬ (6 : Int) = 0; omega) (by unfold rgNE pushNE pushK; simp [hAe]) (apply_write (by omega) (by show A + 1 < ((putW m 0 _).words.length : Int); rw [putW_len]; exact hA1))).trans ?_
    unfold rgRE pushRE pushK
    simp [pushM, hAe]
  · refine (step1_of (a := ⟨2, A, 0, nextI (T / 2) 1, 0⟩) (by show ¬ (7 : Int) = 0; omega) (by unfold rgNE pushNE pushK; simp [hAe]) (apply_store hA0 (by show A < ((putW (putW m 0 _) _ _).words.length : Int); rw [putW_len, putW_len]; omega))).trans ?_
    unfold rgRE pushRE pushK
    simp [pushM, hAe]
/-- what a push leaves -/
theorem RingSt.pushed {c : ConfM} {m : MemM} {s : Int} {p n : Nat} {val : Nat → Int} (h : RingSt c m s p n false val) (hn : (n : Int) < p + c.caps.getD 0 0) (v : Int) :
    RingSt c (pushM c m v (packI (nextI s n) false) 6) s p (n + 1) false (fun j => if j = n then v else val j) := by
  have hT2 := packI_half (nextI s n) (nextI_rng s n) false
  have hA := slotW0 h.two s n
  have hz := slot_range h.two (s + n)
  have hlen := h.len
  have hcap := h.cap
  have hpn := h.pn
  obtain ⟨T, hT⟩ : ∃ T, packI (nextI s n) false = T := ⟨_, rfl⟩
  rw [hT] at hT2 ⊢
  rw [← hT2] at hA
  obtain ⟨A, hAe⟩ : ∃ A, c.slotW 0 (T / 2) = A := ⟨_, rfl⟩
  rw [hAe] at hA
  have hM : pushM c m v T 6 = putW (putW (putW m 0 (packI (nextI (T / 2) 1) false)) (A + 1) v) A (nextI (T / 2) 1) := by rw [← hAe]; rfl
  rw [hM]
  have hnx : nextI (T / 2) 1 = nextI s ((n : Int) + 1) := by rw [hT2, nextI_next]
  rw [hnx]
  have E : ∀ b : Int, 0 ≤ b → (putW (putW (putW m 0 (packI (nextI s ((n : Int) + 1)) false)) (A + 1) v) A (nextI s ((n : Int) + 1))).words.getD b.toNat 0 = if b = A then nextI s ((n : Int) + 1) else if b = A + 1 then v else if b = 0 then packI (nextI s ((n : Int) + 1)) false else m.words.getD b.toNat 0 := fun b hb => by
    rw [putW_at _ _ _ _ (by omega) hb (by rw [putW_len, putW_len]; omega), putW_at _ _ _ _ (by omega) hb (by rw [putW_len]; omega), putW_at _ _ _ _ (by omega) hb (by omega)]
  refine ⟨h.two, h.srng, by rw [putW_len, putW_len, putW_len]; exact hlen, ⟨by omega, by omega⟩, hcap, ?_, ?_, fun j h1 h2 => ?_, fun j h1 h2 => ?_⟩
  · refine (E 0 (by omega)).trans ?_
    rw [if_neg (by omega), if_neg (by omega), if_pos rfl]
    rfl
  · refine (E 1 (by omega)).trans ?_
    rw [if_neg (by omega), if_neg (by omega), if_neg (by omega)]
    exact h.head
  · have hzj := slot_range h.two (s + j)
    refine (E _ (by omega)).trans ?_
    by_cases e : j = n
    · subst e
      rw [if_pos hA.symm, if_pos (by omega)]
    · have hap := slot_apart h.two s j n (by omega) (by omega) (by omega)
      rw [if_neg (by omega), if_neg (by omega), if_neg (by omega)]
      rw [h.slot j h1 h2]
      by_cases e2 : j < n
      · rw [if_pos e2, if_pos (by omega)]
      · rw [if_neg e2, if_neg (by omega)]
  · have hzj := slot_range h.two (s + j)
    refine (E _ (by omega)).trans ?_
    by_cases e : j = n
    · subst e
      rw [if_neg (by omega), if_pos (by omega), if_pos rfl]
    · have hap := slot_apart h.two s j n (by omega) (by omega) (by omega)
      rw [if_neg (by omega), if_neg (by omega), if_neg (by omega), if_neg e]
      exact h.vals j h1 (by omega)
/-- what a full ring answers -/
def fullK (v T : Int) : Nat → MachM
  | 0 => ⟨3, 1, 0, 0, v % 4, v % 8, v, 0, 0, 0, 0⟩
  | 1 => ⟨3, 2, 0, 0, v % 4, v % 8, v, T, 0, 0, 0⟩
  | 2 => ⟨3, 3, 0, 0, v % 4, v % 8, v, T, 0, 0, 0⟩
  | _ + 3 => ⟨3, 0, 0, 0, v % 4, v % 8, v, T, 0, 2, 0⟩
theorem full_step {c : ConfM} {m : MemM} {s : Int} {p n : Nat} {val : Nat → Int} (h : RingSt c m s p n false val) (hn : (n : Int) = p + c.caps.getD 0 0) (v : Int) (j : Nat) (hj : j < 3) :
    step1 c (m, fullK v (packI (nextI s n) false) j) = (m, fullK v (packI (nextI s n) false) (j + 1)) := by
  have hT2 := packI_half (nextI s n) (nextI_rng s n) false
  have hcl := packI_closed (nextI s n) false
  have hlen := h.len
  have htw := h.two
  have h16 : (n : Int) - p ≤ 16 := by have := h.cap; rcases h.two with e | e | e | e | e <;> omega
  have hr := rest_next s n p h.pn.1 h16
  obtain ⟨T, hT⟩ : ∃ T, packI (nextI s n) false = T := ⟨_, rfl⟩
  have htl : m.words.getD 0 0 = T := h.tail.trans hT
  rw [hT] at hT2 hcl ⊢
  have hl5 : (5 : Int) < m.words.length := by rcases htw with e | e | e | e | e <;> omega
  have hj3 : j = 0 ∨ j = 1 ∨ j = 2 := by omega
  rcases hj3 with rfl | rfl | rfl
  · refine (step1_of (a := ⟨1, 0, 0, 0, 0⟩) (by show ¬ (1 : Int) = 0; omega) rfl (apply_load (by omega) (by show (0 : Int) < m.words.length; omega))).trans ?_
    rw [show m.words.getD (Int.toNat 0) 0 = T from htl]
    unfold rgRE pushRE fullK
    simp [hcl]
  · refine (step1_of (a := ⟨1, 1, 0, 0, 0⟩) (by show ¬ (2 : Int) = 0; omega) rfl (apply_load (by omega) (by show (1 : Int) < m.words.length; omega))).trans ?_
    rw [show m.words.getD (Int.toNat 1) 0 = nextI s p from h.head]
    unfold rgRE pushRE fullK
    have e1 : restI (T / 2) (nextI s p) = (n : Int) - p := by rw [hT2]; exact hr
    have e2 : c.caps[0]?.getD 0 = c.caps.getD 0 0 := List.getD_eq_getElem?_getD.symm
    simp [e1]
    exact fun hne => absurd (by omega) hne
  · refine (step1_of (a := ⟨1, 0, 0, 0, 0⟩) (by show ¬ (3 : Int) = 0; omega) rfl (apply_load (by omega) (by show (0 : Int) < m.words.length; omega))).trans ?_
    rw [show m.words.getD (Int.toNat 0) 0 = T from htl]
    unfold rgRE pushRE fullK
    simp
/-- what a closed ring answers to a push -/
theorem closed_step {c : ConfM} {m : MemM} {s : Int} {p n : Nat} {val : Nat → Int} (h : RingSt c m s p n true val) (v : Int) :
    step1 c (m, ⟨3, 1, 0, 0, v % 4, v % 8, v, 0, 0, 0, 0⟩) = (m, ⟨3, 0, 0, 0, v % 4, v % 8, v, packI (nextI s n) true, 0, 4, 0⟩) := by
  have hcl := packI_closed (nextI s n) true
  have hlen := h.len
  have hl5 : (5 : Int) < m.words.length := by rcases h.two with e | e | e | e | e <;> omega
  have htl := h.tail
  obtain ⟨T, hT⟩ : ∃ T, packI (nextI s n) true = T := ⟨_, rfl⟩
  rw [hT] at hcl htl ⊢
  refine (step1_of (a := ⟨1, 0, 0, 0, 0⟩) (by show ¬ (1 : Int) = 0; omega) rfl (apply_load (by omega) (by show (0 : Int) < m.words.length; omega))).trans ?_
  rw [show m.words.getD (Int.toNat 0) 0 = T from htl]
  unfold rgRE pushRE
  simp [hcl]
/-- a shut that runs alone, behind j accesses -/
def shutK (v T : Int) : Nat → MachM
  | 0 => ⟨5, 1, 0, 0, v % 4, v % 8, v, 0, 0, 0, 0⟩
  | 1 => ⟨5, 2, 0, 0, v % 4, v % 8, v, T, 0, 0, 0⟩
  | _ + 2 => ⟨5, 0, 0, 0, v % 4, v % 8, v, T, 0, 1, 0⟩
def shutM (m : MemM) (T : Int) : Nat → MemM
  | 0 | 1 => m
  | _ + 2 => putW m 0 (packI (T / 2) true)
theorem shut_step {c : ConfM} {m : MemM} {s : Int} {p n : Nat} {val : Nat → Int} (h : RingSt c m s p n false val) (v : Int) (j : Nat) (hj : j < 2) :
    step1 c (shutM m (packI (nextI s n) false) j, shutK v (packI (nextI s n) false) j) = (shutM m (packI (nextI s n) false) (j + 1), shutK v (packI (nextI s n) false) (j + 1)) := by
  have hcl := packI_closed (nextI s n) false
  have hlen := h.len
  have hl5 : (5 : Int) < m.words.length := by rcases h.two with e | e | e | e | e <;> omega
  have htl := h.tail
  obtain ⟨T, hT⟩ : ∃ T, packI (nextI s n) false = T := ⟨_, rfl⟩
  rw [hT] at hcl htl ⊢
  have hj2 : j = 0 ∨ j = 1 := by omega
  rcases hj2 with rfl | rfl
  · refine (step1_of (a := ⟨1, 0, 0, 0, 0⟩) (by show ¬ (1 : Int) = 0; omega) rfl (apply_load (by omega) (by show (0 : Int) < m.words.length; omega))).trans ?_
    rw [show (shutM m T 0).words.getD (Int.toNat 0) 0 = T from htl]
    unfold rgRE shutRE shutK
    simp [hcl, shutM]
  · refine (step1_of (a := ⟨3, 0, T, packI (T / 2) true, 0⟩) (by show ¬ (2 : Int) = 0; omega) rfl (apply_cas (by omega) (by show (0 : Int) < m.words.length; omega) htl)).trans ?_
    unfold rgRE shutRE shutK
    simp [shutM]
theorem RingSt.shut {c : ConfM} {m : MemM} {s : Int} {p n : Nat} {val : Nat → Int} (h : RingSt c m s p n false val) : RingSt c (shutM m (packI (nextI s n) false) 2) s p n true val := by
  have hT2 := packI_half (nextI s n) (nextI_rng s n) false
  have hlen := h.len
  have hl5 : (5 : Int) < m.words.length := by rcases h.two with e | e | e | e | e <;> omega
  have hM : shutM m (packI (nextI s n) false) 2 = putW m 0 (packI (nextI s n) true) := by
    show putW m 0 (packI (packI (nextI s n) false / 2) true) = _
    rw [hT2]
  rw [hM]
  have E : ∀ b : Int, 0 ≤ b → (putW m 0 (packI (nextI s n) true)).words.getD b.toNat 0 = if b = 0 then packI (nextI s n) true else m.words.getD b.toNat 0 := fun b hb => putW_at _ _ _ _ (by omega) hb (by omega)
  refine ⟨h.two, h.srng, by rw [putW_len]; exact hlen, h.pn, h.cap, ?_, ?_, fun j h1 h2 => ?_, fun j h1 h2 => ?_⟩
  · exact (E 0 (by omega)).trans (if_pos rfl)
  · exact ((E 1 (by omega)).trans (if_neg (by omega))).trans h.head
  · have hzj := slot_range h.two (s + j)
    exact ((E _ (by omega)).trans (if_neg (by omega))).trans (h.slot j h1 h2)
  · have hzj := slot_range h.two (s + j)
    exact ((E _ (by omega)).trans (if_neg (by omega))).trans (h.vals j h1 h2)
/-- the ring with which a configuration begins -/
theorem slotsE_at {c : ConfM} (hz : Two (c.size 0)) (ws : List Int) (hl : 5 + c.size 0 * 2 ≤ (ws.length : Int)) (j : Nat) (hj : (j : Int) ≤ c.size 0) :
    (∀ i : Nat, i < j → (slotsE c 0 ws j).getD (5 + (c.st 0 + i) % c.size 0 * 2).toNat 0 = nextI (c.st 0) i) ∧ (∀ b : Int, 0 ≤ b → b < 5 → (slotsE c 0 ws j).getD b.toNat 0 = ws.getD b.toNat 0) := by
  induction j with
  | zero => exact ⟨fun i hi => absurd hi (Nat.not_lt_zero _), fun _ _ _ => rfl⟩
  | succ j ih =>
    obtain ⟨i1, i2⟩ := ih (by omega)
    have hr := slot_range hz (c.st 0 + j)
    have hA := slotW0 hz (c.st 0) j
    have key : ∀ b : Int, 0 ≤ b → (slotsE c 0 ws (j + 1)).getD b.toNat 0 = if b = 5 + (c.st 0 + j) % c.size 0 * 2 then nextI (c.st 0) j else (slotsE c 0 ws j).getD b.toNat 0 := fun b hb => by
      show ((slotsE c 0 ws j).set (c.slotW 0 (nextI (c.st 0) j)).toNat (nextI (c.st 0) j)).getD b.toNat 0 = _
      rw [hA, getD_setL, slotsE_len]
      by_cases e : b = 5 + (c.st 0 + j) % c.size 0 * 2
      · subst e; rw [if_pos ⟨rfl, by omega⟩, if_pos rfl]
      · rw [if_neg (by omega), if_neg e]
    refine ⟨fun i hi => ?_, fun b h0 h5 => ?_⟩
    · have hri := slot_range hz (c.st 0 + i)
      rw [key _ (by omega)]
      by_cases e : i = j
      · subst e; rw [if_pos rfl]
      · have hap := slot_apart hz (c.st 0) i j (by omega) (by omega) (by omega)
        rw [if_neg (by omega)]
        exact i1 i (by omega)
    · rw [key b h0, if_neg (by omega)]
      exact i2 b h0 h5
theorem slotsE_low {c : ConfM} (k : Nat) (ws : List Int) (j : Nat) (b : Int) (h0 : 0 ≤ b) (hb : b < c.base k) (hz : 1 ≤ c.size k) : (slotsE c k ws j).getD b.toNat 0 = ws.getD b.toNat 0 := by
  induction j with
  | zero => rfl
  | succ j ih =>
    show ((slotsE c k ws j).set (c.slotW k (nextI (c.st k) j)).toNat (nextI (c.st k) j)).getD b.toNat 0 = _
    have hs : 0 ≤ slotI (nextI (c.st k) j) (c.size k) := by
      unfold slotI
      split
      · omega
      · exact Int.emod_nonneg _ (by omega)
    have : c.slotW k (nextI (c.st k) j) = c.base k + 5 + slotI (nextI (c.st k) j) (c.size k) * 2 := rfl
    rw [getD_setL, if_neg (by omega)]
    exact ih
theorem chansE_low {c : ConfM} (hg : c.good) (k : Nat) (hk : k + 1 ≤ c.caps.length) (b : Int) (h0 : 0 ≤ b) (hb : b < c.base 1) : (chansE c (k + 1)).getD b.toNat 0 = (chansE c 1).getD b.toNat 0 := by
  induction k with
  | zero => rfl
  | succ k ih =>
    have hm : ∀ i : Nat, i + 1 ≤ c.caps.length → c.base 1 ≤ c.base (i + 1) := fun i hi => by
      induction i with
      | zero => exact Int.le_refl _
      | succ i ih2 =>
        have := hg.size (i + 1) (by omega)
        have h1 := ih2 (by omega)
        show c.base 1 ≤ c.base (i + 1) + (5 + c.size (i + 1) * 2)
        omega
    have hbk := hm k (by omega)
    show (slotsE c (k + 1) (headE c (k + 1) (chansE c (k + 1))) (c.size (k + 1)).toNat).getD b.toNat 0 = _
    rw [slotsE_low (k + 1) _ _ b h0 (by omega) (hg.size (k + 1) (by omega)).1]
    unfold headE
    rw [getD_setL, if_neg (by omega), getD_setL, if_neg (by omega)]
    exact ih (by omega)
theorem two_size {c : ConfM} (hg : c.good) (hk : 1 ≤ c.caps.length) : Two (c.size 0) ∧ 0 ≤ c.caps.getD 0 0 ∧ c.caps.getD 0 0 ≤ c.size 0 := by
  have h := hg.cap 0 (by omega)
  have key : ∀ x : Int, 0 ≤ x → x ≤ 16 → Two (sizeI x) ∧ 0 ≤ x ∧ x ≤ sizeI x := fun x h0 h1 => by
    obtain ⟨n, rfl⟩ := Int.eq_ofNat_of_zero_le h0
    have hn : n ≤ 16 := by omega
    have : ∀ n : Nat, n < 17 → (sizeI n = 1 ∨ sizeI n = 2 ∨ sizeI n = 4 ∨ sizeI n = 8 ∨ sizeI n = 16) ∧ (n : Int) ≤ sizeI n := by decide +kernel
    exact ⟨(this n (by omega)).1, h0, (this n (by omega)).2⟩
  exact key _ h.1 h.2
theorem ringSt_new {c : ConfM} (hg : c.good) (hk : 1 ≤ c.caps.length) (val : Nat → Int) : RingSt c (newE c) (c.st 0) 0 0 false val := by
  obtain ⟨hz, h0, hcz⟩ := two_size hg hk
  have hW : (newE c).words = chansE c c.caps.length := by unfold newE; rw [if_pos (checkC_good hg)]
  obtain ⟨k, hke⟩ : ∃ k, c.caps.length = k + 1 := ⟨c.caps.length - 1, by omega⟩
  have hb1 : c.base 1 = 5 + c.size 0 * 2 := by show (0 : Int) + (5 + c.size 0 * 2) = _; omega
  have hL : c.base 1 ≤ ((chansE c 1).length : Int) := by
    rw [chansE_len]
    unfold ConfM.thrW
    have hm : ∀ i : Nat, i + 1 ≤ c.caps.length → c.base 1 ≤ c.base (i + 1) := fun i hi => by
      induction i with
      | zero => exact Int.le_refl _
      | succ i ih2 =>
        have := hg.size (i + 1) (by omega)
        have h1 := ih2 (by omega)
        show c.base 1 ≤ c.base (i + 1) + (5 + c.size (i + 1) * 2)
        omega
    have := hm k (by omega)
    rw [← hke] at this
    have := hg.thr
    omega
  have hLn : (newE c).words.length = (chansE c 1).length := by rw [hW, chansE_len, chansE_len]
  have E : ∀ b : Int, 0 ≤ b → b < c.base 1 → (newE c).words.getD b.toNat 0 = (slotsE c 0 (headE c 0 (chansE c 0)) (c.size 0).toNat).getD b.toNat 0 := fun b h0 h1 => by
    rw [hW, hke]
    exact chansE_low hg k (by omega) b h0 h1
  have hl0 : (headE c 0 (chansE c 0)).length = (chansE c 1).length := by rw [headE_len, chansE_len, chansE_len]
  have hzr : 1 ≤ c.size 0 := by rcases hz with e | e | e | e | e <;> omega
  obtain ⟨s1, s2⟩ := slotsE_at hz (headE c 0 (chansE c 0)) (by rw [hl0]; omega) (c.size 0).toNat (by omega)
  have hst : 0 ≤ c.st 0 ∧ c.st 0 < 9223372036854775808 := by
    unfold ConfM.st
    have hs : 0 < c.starts.length := by rw [hg.same]; omega
    rw [List.getD_eq_getElem?_getD, List.getElem?_eq_getElem hs]
    exact hg.starts _ (List.getElem_mem hs)
  have hn0 : nextI (c.st 0) ((0 : Nat) : Int) = c.st 0 := by unfold nextI; omega
  have hlen0 : (chansE c 0).length = (chansE c 1).length := by rw [chansE_len, chansE_len]
  refine ⟨hz, hst, by rw [hLn]; omega, ⟨Nat.le_refl _, by omega⟩, ⟨hcz, h0⟩, ?_, ?_, fun j h1 h2 => ?_, fun j h1 h2 => absurd h2 (Nat.not_lt_zero _)⟩
  · refine (E 0 (by omega) (by omega)).trans ?_
    rw [s2 0 (by omega) (by omega), hn0]
    show (((chansE c 0).set (c.base 0).toNat (packI (c.st 0) false)).set (c.base 0 + 1).toNat (c.st 0)).getD (Int.toNat 0) 0 = _
    have hb0 : c.base 0 = 0 := rfl
    rw [hb0, getD_setL, if_neg (by omega), getD_setL, if_pos ⟨rfl, by show 0 < _; omega⟩]
  · refine (E 1 (by omega) (by omega)).trans ?_
    rw [s2 1 (by omega) (by omega), hn0]
    show (((chansE c 0).set (c.base 0).toNat (packI (c.st 0) false)).set (c.base 0 + 1).toNat (c.st 0)).getD (Int.toNat 1) 0 = _
    have hb0 : c.base 0 = 0 := rfl
    rw [hb0, getD_setL, List.length_set, if_pos ⟨rfl, by show 1 < _; omega⟩]
  · have hzj := slot_range hz (c.st 0 + j)
    rw [if_neg (Nat.not_lt_zero _)]
    refine (E _ (by omega) (by omega)).trans ?_
    exact s1 j (by omega)
/-- a value that lies in a slot is among the words -/
theorem RingSt.found {c : ConfM} {m : MemM} {s : Int} {p n : Nat} {cl : Bool} {val : Nat → Int} (h : RingSt c m s p n cl val) (j : Nat) (h1 : p ≤ j) (h2 : j < n) : val j ∈ m.words := by
  have hz := slot_range h.two (s + j)
  have hl := h.len
  have e := h.vals j h1 h2
  have hb : (5 + (s + j) % c.size 0 * 2 + 1).toNat < m.words.length := by omega
  rw [List.getD_eq_getElem?_getD, List.getElem?_eq_getElem hb] at e
  rw [← e]
  exact List.getElem_mem hb
end Go.Proofs.Ytjnlkemdaffgbaa
/- The ring while a pop runs alone, plainly. -/
namespace Go.Proofs.Ytjnlkemdaffgbaa
open Go.ChangeShapes Go.WideShapes Go.ChangeAt Go.RowKit
set_option maxRecDepth 100000

/-- a pop that runs alone, behind j accesses; T: the tail word, H: the head, x: the value -/
def popK (T H x : Int) : Nat → MachM
  | 0 => ⟨4, 1, 0, 0, 0, 0, 0, 0, 0, 0, 0⟩
  | 1 => ⟨4, 2, 0, 0, 0, 0, 0, 0, H, 0, 0⟩
  | 2 => ⟨4, 4, 0, 0, 0, 0, 0, T, H, 0, 0⟩
  | 3 => ⟨4, 5, 0, 0, 0, 0, 0, T, H, 0, 0⟩
  | 4 => ⟨4, 6, 0, 0, 0, 0, 0, T, H, 0, 0⟩
  | 5 => ⟨4, 7, 0, 0, 0, 0, x, T, H, 0, 0⟩
  | _ + 6 => ⟨4, 0, 0, 0, 0, 0, x, T, H, 6, x⟩
def popM (c : ConfM) (m : MemM) (H : Int) : Nat → MemM
  | 0 | 1 | 2 | 3 => m
  | 4 | 5 => putW m 1 (nextI H 1)
  | _ + 6 => putW (putW m 1 (nextI H 1)) (c.slotW 0 H) (nextI H (c.size 0))
theorem nextI_add (s i j : Int) : nextI (nextI s i) j = nextI s (i + j) := by unfold nextI; omega
theorem pop_step {c : ConfM} {m : MemM} {s : Int} {p n : Nat} {cl : Bool} {val : Nat → Int} (h : RingSt c m s p n cl val) (hn : p < n) (j : Nat) (hj : j < 6) :
    step1 c (popM c m (nextI s p) j, popK (packI (nextI s n) cl) (nextI s p) (val p) j) = (popM c m (nextI s p) (j + 1), popK (packI (nextI s n) cl) (nextI s p) (val p) (j + 1)) := by
  have hT2 := packI_half (nextI s n) (nextI_rng s n) cl
  have hz := slot_range h.two (s + p)
  have hA := slotW0 h.two s p
  have hlen := h.len
  have hpn := h.pn
  have hcap := h.cap
  have h16 : (n : Int) - p ≤ 16 := by rcases h.two with e | e | e | e | e <;> omega
  have hr := rest_next s n p h.pn.1 h16
  have hsz : 1 ≤ c.size 0 := by rcases h.two with e | e | e | e | e <;> omega
  have hsl := h.slot p (Nat.le_refl _) (by omega)
  rw [if_pos hn] at hsl
  have hvl := h.vals p (Nat.le_refl _) hn
  have htl := h.tail
  have hhd := h.head
  have hnx := nextI_next s p
  obtain ⟨T, hT⟩ : ∃ T, packI (nextI s n) cl = T := ⟨_, rfl⟩
  obtain ⟨H, hH⟩ : ∃ H, nextI s p = H := ⟨_, rfl⟩
  rw [hT] at hT2 htl ⊢
  rw [hH] at hr hA hhd hnx ⊢
  rw [← hT2] at hr
  obtain ⟨A, hAe⟩ : ∃ A, c.slotW 0 H = A := ⟨_, rfl⟩
  have hA' : A = 5 + (s + p) % c.size 0 * 2 := by rw [← hAe]; exact hA
  have hA0 : 0 ≤ A := by omega
  have hA1 : A + 1 < (m.words.length : Int) := by omega
  rw [← hA'] at hsl hvl
  have hj6 : j = 0 ∨ j = 1 ∨ j = 2 ∨ j = 3 ∨ j = 4 ∨ j = 5 := by omega
  rcases hj6 with rfl | rfl | rfl | rfl | rfl | rfl
  · refine (step1_of (a := ⟨1, 1, 0, 0, 0⟩) (by show ¬ (1 : Int) = 0; omega) rfl (apply_load (by omega) (by show (1 : Int) < m.words.length; omega))).trans ?_
    rw [show (popM c m H 0).words.getD (Int.toNat 1) 0 = H from hhd]
    unfold rgRE popRE popK
    simp [popM]
  · refine (step1_of (a := ⟨1, 0, 0, 0, 0⟩) (by show ¬ (2 : Int) = 0; omega) rfl (apply_load (by omega) (by show (0 : Int) < m.words.length; omega))).trans ?_
    rw [show (popM c m H 1).words.getD (Int.toNat 0) 0 = T from htl]
    unfold rgRE popRE popK
    have e2 : c.caps[0]?.getD 0 = c.caps.getD 0 0 := List.getD_eq_getElem?_getD.symm
    simp [hr, popM]
    rw [if_neg (by omega), if_neg (by omega)]
  · refine (step1_of (a := ⟨1, A, 0, 0, 0⟩) (by show ¬ (4 : Int) = 0; omega) (by unfold rgNE popNE popK; simp [hAe]) (apply_load hA0 (by show A < _; exact Int.lt_of_lt_of_le (by omega) (Int.le_of_lt hA1)))).trans ?_
    rw [show (popM c m H 2).words.getD A.toNat 0 = nextI H 1 from hsl.trans hnx.symm]
    unfold rgRE popRE popK
    simp [popM]
  · refine (step1_of (a := ⟨3, 1, H, nextI H 1, 0⟩) (by show ¬ (5 : Int) = 0; omega) (by unfold rgNE popNE popK; simp; rfl) (apply_cas (by omega) (by show (1 : Int) < m.words.length; omega) hhd)).trans ?_
    unfold rgRE popRE popK
    simp [popM]
  · have ev : (popM c m H 4).words.getD (A + 1).toNat 0 = val p := by
      show (putW m 1 (nextI H 1)).words.getD (A + 1).toNat 0 = _
      rw [putW_at _ _ _ _ (by omega) (by omega) (by omega), if_neg (by omega)]
      exact hvl
    refine (step1_of (a := ⟨5, A + 1, 0, 0, 0⟩) (by show ¬ (6 : Int) = 0; omega) (by unfold rgNE popNE popK; simp [hAe]) (apply_read (by omega) (by show A + 1 < ((putW m 1 _).words.length : Int); rw [putW_len]; exact hA1))).trans ?_
    rw [ev]
    unfold rgRE popRE popK
    simp [popM]
  · refine (step1_of (a := ⟨2, A, 0, nextI H (c.size 0), 0⟩) (by show ¬ (7 : Int) = 0; omega) (by unfold rgNE popNE popK; simp [hAe]) (apply_store hA0 (by show A < ((putW m 1 _).words.length : Int); rw [putW_len]; omega))).trans ?_
    unfold rgRE popRE popK
    simp [popM, hAe]
/-- what a pop leaves -/
theorem RingSt.popped {c : ConfM} {m : MemM} {s : Int} {p n : Nat} {cl : Bool} {val : Nat → Int} (h : RingSt c m s p n cl val) (hn : p < n) : RingSt c (popM c m (nextI s p) 6) s (p + 1) n cl val := by
  have hA := slotW0 h.two s p
  have hz := slot_range h.two (s + p)
  have hlen := h.len
  have hcap := h.cap
  have hpn := h.pn
  obtain ⟨A, hAe⟩ : ∃ A, c.slotW 0 (nextI s p) = A := ⟨_, rfl⟩
  rw [hAe] at hA
  have hM : popM c m (nextI s p) 6 = putW (putW m 1 (nextI s ((p : Int) + 1))) A (nextI s ((p : Int) + c.size 0)) := by rw [← hAe, ← nextI_next, ← nextI_add]; rfl
  rw [hM]
  have E : ∀ b : Int, 0 ≤ b → (putW (putW m 1 (nextI s ((p : Int) + 1))) A (nextI s ((p : Int) + c.size 0))).words.getD b.toNat 0 = if b = A then nextI s ((p : Int) + c.size 0) else if b = 1 then nextI s ((p : Int) + 1) else m.words.getD b.toNat 0 := fun b hb => by
    rw [putW_at _ _ _ _ (by omega) hb (by rw [putW_len]; omega), putW_at _ _ _ _ (by omega) hb (by omega)]
  refine ⟨h.two, h.srng, by rw [putW_len, putW_len]; exact hlen, ⟨by omega, by omega⟩, hcap, ?_, ?_, fun j h1 h2 => ?_, fun j h1 h2 => ?_⟩
  · refine (E 0 (by omega)).trans ?_
    rw [if_neg (by omega), if_neg (by omega)]
    exact h.tail
  · refine (E 1 (by omega)).trans ?_
    rw [if_neg (by omega), if_pos rfl]
    rfl
  · have hzj := slot_range h.two (s + j)
    refine (E _ (by omega)).trans ?_
    by_cases e : (j : Int) = p + c.size 0
    · have e3 : (s + j) % c.size 0 = (s + p) % c.size 0 := by rw [e, ← Int.add_assoc, Int.add_emod_right]
      rw [if_pos (by rw [e3]; exact hA.symm), if_neg (by omega), e]
    · have hap := slot_apart h.two s j p (by omega) (by omega) (by omega)
      rw [if_neg (by omega), if_neg (by omega)]
      exact h.slot j (by omega) (by omega)
  · have hzj := slot_range h.two (s + j)
    have hap := slot_apart h.two s j p (by omega) (by omega) (by omega)
    refine (E _ (by omega)).trans ?_
    rw [if_neg (by omega), if_neg (by omega)]
    exact h.vals j (by omega) h2
/-- what an empty ring answers -/
def emptyK (T H ok : Int) : Nat → MachM
  | 0 => ⟨4, 1, 0, 0, 0, 0, 0, 0, 0, 0, 0⟩
  | 1 => ⟨4, 2, 0, 0, 0, 0, 0, 0, H, 0, 0⟩
  | 2 => ⟨4, 3, 0, 0, 0, 0, 0, T, H, 0, 0⟩
  | _ + 3 => ⟨4, 0, 0, 0, 0, 0, 0, T, H, ok, 0⟩
theorem empty_step {c : ConfM} {m : MemM} {s : Int} {p : Nat} {cl : Bool} {val : Nat → Int} (h : RingSt c m s p p cl val) (j : Nat) (hj : j < 3) :
    step1 c (m, emptyK (packI (nextI s p) cl) (nextI s p) (if cl = true then 5 else 3) j) = (m, emptyK (packI (nextI s p) cl) (nextI s p) (if cl = true then 5 else 3) (j + 1)) := by
  have hT2 := packI_half (nextI s p) (nextI_rng s p) cl
  have hcl := packI_closed (nextI s p) cl
  have hlen := h.len
  have hr := rest_next s p p (Nat.le_refl _) (by omega)
  have htl := h.tail
  have hhd := h.head
  have hl5 : (5 : Int) < m.words.length := by rcases h.two with e | e | e | e | e <;> omega
  obtain ⟨T, hT⟩ : ∃ T, packI (nextI s p) cl = T := ⟨_, rfl⟩
  obtain ⟨H, hH⟩ : ∃ H, nextI s p = H := ⟨_, rfl⟩
  rw [hH] at hT2 hr hhd ⊢
  rw [hT] at htl
  rw [hH] at hT hcl
  rw [hT] at hT2 hcl ⊢
  have hr0 : restI (T / 2) H = 0 := by rw [hT2]; omega
  have hj3 : j = 0 ∨ j = 1 ∨ j = 2 := by omega
  rcases hj3 with rfl | rfl | rfl
  · refine (step1_of (a := ⟨1, 1, 0, 0, 0⟩) (by show ¬ (1 : Int) = 0; omega) rfl (apply_load (by omega) (by show (1 : Int) < m.words.length; omega))).trans ?_
    rw [show m.words.getD (Int.toNat 1) 0 = H from hhd]
    unfold rgRE popRE emptyK
    simp
  · refine (step1_of (a := ⟨1, 0, 0, 0, 0⟩) (by show ¬ (2 : Int) = 0; omega) rfl (apply_load (by omega) (by show (0 : Int) < m.words.length; omega))).trans ?_
    rw [show m.words.getD (Int.toNat 0) 0 = T from htl]
    unfold rgRE popRE emptyK
    simp [hr0]
  · refine (step1_of (a := ⟨1, 1, 0, 0, 0⟩) (by show ¬ (3 : Int) = 0; omega) rfl (apply_load (by omega) (by show (1 : Int) < m.words.length; omega))).trans ?_
    rw [show m.words.getD (Int.toNat 1) 0 = H from hhd]
    unfold rgRE popRE emptyK
    cases cl <;> simp [hcl]
theorem RingSt.congr {c : ConfM} {m : MemM} {s : Int} {p n : Nat} {cl : Bool} {val val2 : Nat → Int} (h : RingSt c m s p n cl val) (he : ∀ j, j < n → val j = val2 j) : RingSt c m s p n cl val2 :=
  ⟨h.two, h.srng, h.len, h.pn, h.cap, h.tail, h.head, h.slot, fun j h1 h2 => (h.vals j h1 h2).trans (he j h2)⟩
end Go.Proofs.Ytjnlkemdaffgbaa
