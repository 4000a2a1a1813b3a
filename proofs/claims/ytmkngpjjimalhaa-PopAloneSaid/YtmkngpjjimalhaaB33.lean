
import Derived.Test.YtmkngpjjimalhaaB13
import Derived.Test.YtmkngpjjimalhaaB32
set_option linter.unusedVariables false
set_option linter.unusedSimpArgs false
/- The ring while a pop runs alone, plainly. -/
namespace Go.Proofs.Ytmkngpjjimalhaa
open Go.ChangeShapes Go.WideShapes Go.ChangeAt Go.RowKit
set_option maxRecDepth 100000

/-- a pop that runs alone, behind j accesses; T: the tail word, H: the head, x: the value -/
def popK (T H x : Int) : Nat → MachM
  | 0 => ⟨4, 1, 0, 0, 0, 0, 0, 0, 0, 0, 0⟩
  | 1 => ⟨4, 2, 0, 0, 0, 0, 0, 0, H, 0, 0⟩
  | 2 => ⟨4, 4, 0, 0, 0, 0, 0, T, H, 0, 0⟩
  | 3 => ⟨4, 5, 0, 0, 0, 0, 0, T, H, 0, 0⟩
  | 4 => ⟨4, 6, 0, 0, 0, 0, 0, T, H, 0, 0⟩
  | 5 => ⟨4, 7, 0, 0, 0, 0, x, T, H, 0, 0⟩
  | _ + 6 => ⟨4, 0, 0, 0, 0, 0, x, T, H, 6, x⟩
def popM (c : ConfM) (m : MemM) (H : Int) : Nat → MemM
  | 0 | 1 | 2 | 3 => m
  | 4 | 5 => putW m 1 (nextI H 1)
  | _ + 6 => putW (putW m 1 (nextI H 1)) (c.slotW 0 H) (nextI H (c.size 0))
theorem nextI_add (s i j : Int) : nextI (nextI s i) j = nextI s (i + j) := by unfold nextI; omega
theorem pop_step {c : ConfM} {m : MemM} {s : Int} {p n : Nat} {cl : Bool} {val : Nat → Int} (h : RingSt c m s p n cl val) (hn : p < n) (j : Nat) (hj : j < 6) :
    step1 c (popM c m (nextI s p) j, popK (packI (nextI s n) cl) (nextI s p) (val p) j) = (popM c m (nextI s p) (j + 1), popK (packI (nextI s n) cl) (nextI s p) (val p) (j + 1)) := by
  have hT2 := packI_half (nextI s n) (nextI_rng s n) cl
  have hz := slot_range h.two (s + p)
  have hA := slotW0 h.two s p
  have hlen := h.len
  have hpn := h.pn
  have hcap := h.cap
  have h16 : (n : Int) - p ≤ 16 := by rcases h.two with e | e | e | e | e <;> omega
  have hr := rest_next s n p h.pn.1 h16
  have hsz : 1 ≤ c.size 0 := by rcases h.two with e | e | e | e | e <;> omega
  have hsl := h.slot p (Nat.le_refl _) (by omega)
  rw [if_pos hn] at hsl
  have hvl := h.vals p (Nat.le_refl _) hn
  have htl := h.tail
  have hhd := h.head
  have hnx := nextI_next s p
  obtain ⟨T, hT⟩ : ∃ T, packI (nextI s n) cl = T := ⟨_, rfl⟩
  obtain ⟨H, hH⟩ : ∃ H, nextI s p = H := ⟨_, rfl⟩
  rw [hT] at hT2 htl ⊢
  rw [hH] at hr hA hhd hnx ⊢
  rw [← hT2] at hr
  obtain ⟨A, hAe⟩ : ∃ A, c.slotW 0 H = A := ⟨_, rfl⟩
  have hA' : A = 5 + (s + p) % c.size 0 * 2 := by rw [← hAe]; exact hA
  have hA0 : 0 ≤ A := by omega
  have hA1 : A + 1 < (m.words.length : Int) := by omega
  rw [← hA'] at hsl hvl
  have hj6 : j = 0 ∨ j = 1 ∨ j = 2 ∨ j = 3 ∨ j = 4 ∨ j = 5 := by omega
  rcases hj6 with rfl | rfl | rfl | rfl | rfl | rfl
  · refine (step1_of (a := ⟨1, 1, 0, 0, 0⟩) (by show ¬ (1 : Int) = 0; omega) rfl (apply_load (by omega) (by show (1 : Int) < m.words.length; omega))).trans ?_
    rw [show (popM c m H 0).words.getD (Int.toNat 1) 0 = H from hhd]
    unfold rgRE popRE popK
    simp [popM]
  · refine (step1_of (a := ⟨1, 0, 0, 0, 0⟩) (by show ¬ (2 : Int) = 0; omega) rfl (apply_load (by omega) (by show (0 : Int) < m.words.length; omega))).trans ?_
    rw [show (popM c m H 1).words.getD (Int.toNat 0) 0 = T from htl]
    unfold rgRE popRE popK
    have e2 : c.caps[0]?.getD 0 = c.caps.getD 0 0 := List.getD_eq_getElem?_getD.symm
    simp [hr, popM]
    rw [if_neg (by omega), if_neg (by omega)]
  · refine (step1_of (a := ⟨1, A, 0, 0, 0⟩) (by show ¬ (4 : Int) = 0; omega) (by unfold rgNE popNE popK; simp [hAe]) (apply_load hA0 (by show A < _; exact Int.lt_of_lt_of_le (by omega) (Int.le_of_lt hA1)))).trans ?_
    rw [show (popM c m H 2).words.getD A.toNat 0 = nextI H 1 from hsl.trans hnx.symm]
    unfold rgRE popRE popK
    simp [popM]
  · refine (step1_of (a := ⟨3, 1, H, nextI H 1, 0⟩) (by show ¬ (5 : Int) = 0; omega) (by unfold rgNE popNE popK; simp; rfl) (apply_cas (by omega) (by show (1 : Int) < m.words.length; omega) hhd)).trans ?_
    unfold rgRE popRE popK
    simp [popM]
  · have ev : (popM c m H 4).words.getD (A + 1).toNat 0 = val p := by
      show (putW m 1 (nextI H 1)).words.getD (A + 1).toNat 0 = _
      rw [putW_at _ _ _ _ (by omega) (by omega) (by omega), if_neg (by omega)]
      exact hvl
    refine (step1_of (a := ⟨5, A + 1, 0, 0, 0⟩) (by show ¬ (6 : Int) = 0; omega) (by unfold rgNE popNE popK; simp [hAe]) (apply_read (by omega) (by show A + 1 < ((putW m 1 _).words.length : Int); rw [putW_len]; exact hA1))).trans ?_
    rw [ev]
    unfold rgRE popRE popK
    simp [popM]
  · refine (step1_of (a := ⟨2, A, 0, nextI H (c.size 0), 0⟩) (by show ¬ (7 : Int) = 0; omega) (by unfold rgNE popNE popK; simp [hAe]) (apply_store hA0 (by show A < ((putW m 1 _).words.length : Int); rw [putW_len]; omega))).trans ?_
    unfold rgRE popRE popK
    simp [popM, hAe]
/-- what a pop leaves -/
theorem RingSt.popped {c : ConfM} {m : MemM} {s : Int} {p n : Nat} {cl : Bool} {val : Nat → Int} (h : RingSt c m s p n cl val) (hn : p < n) : RingSt c (popM c m (nextI s p) 6) s (p + 1) n cl val := by
  have hA := slotW0 h.two s p
  have hz := slot_range h.two (s + p)
  have hlen := h.len
  have hcap := h.cap
  have hpn := h.pn
  obtain ⟨A, hAe⟩ : ∃ A, c.slotW 0 (nextI s p) = A := ⟨_, rfl⟩
  rw [hAe] at hA
  have hM : popM c m (nextI s p) 6 = putW (putW m 1 (nextI s ((p : Int) + 1))) A (nextI s ((p : Int) + c.size 0)) := by rw [← hAe, ← nextI_next, ← nextI_add]; rfl
  rw [hM]
  have E : ∀ b : Int, 0 ≤ b → (putW (putW m 1 (nextI s ((p : Int) + 1))) A (nextI s ((p : Int) + c.size 0))).words.getD b.toNat 0 = if b = A then nextI s ((p : Int) + c.size 0) else if b = 1 then nextI s ((p : Int) + 1) else m.words.getD b.toNat 0 := fun b hb => by
    rw [putW_at _ _ _ _ (by omega) hb (by rw [putW_len]; omega), putW_at _ _ _ _ (by omega) hb (by omega)]
  refine ⟨h.two, h.srng, by rw [putW_len, putW_len]; exact hlen, ⟨by omega, by omega⟩, hcap, ?_, ?_, fun j h1 h2 => ?_, fun j h1 h2 => ?_⟩
  · refine (E 0 (by omega)).trans ?_
    rw [if_neg (by omega), if_neg (by omega)]
    exact h.tail
  · refine (E 1 (by omega)).trans ?_
    rw [if_neg (by omega), if_pos rfl]
    rfl
  · have hzj := slot_range h.two (s + j)
    refine (E _ (by omega)).trans ?_
    by_cases e : (j : Int) = p + c.size 0
    · have e3 : (s + j) % c.size 0 = (s + p) % c.size 0 := by rw [e, ← Int.add_assoc, Int.add_emod_right]
      rw [if_pos (by rw [e3]; exact hA.symm), if_neg (by omega), e]
    · have hap := slot_apart h.two s j p (by omega) (by omega) (by omega)
      rw [if_neg (by omega), if_neg (by omega)]
      exact h.slot j (by omega) (by omega)
  · have hzj := slot_range h.two (s + j)
    have hap := slot_apart h.two s j p (by omega) (by omega) (by omega)
    refine (E _ (by omega)).trans ?_
    rw [if_neg (by omega), if_neg (by omega)]
    exact h.vals j (by omega) h2
/-- what an empty ring answers -/
def emptyK (T H ok : Int) : Nat → MachM
  | 0 => ⟨4, 1, 0, 0, 0, 0, 0, 0, 0, 0, 0⟩
  | 1 => ⟨4, 2, 0, 0, 0, 0, 0, 0, H, 0, 0⟩
  | 2 => ⟨4, 3, 0, 0, 0, 0, 0, T, H, 0, 0⟩
  | _ + 3 => ⟨4, 0, 0, 0, 0, 0, 0, T, H, ok, 0⟩
theorem empty_step {c : ConfM} {m : MemM} {s : Int} {p : Nat} {cl : Bool} {val : Nat → Int} (h : RingSt c m s p p cl val) (j : Nat) (hj : j < 3) :
    step1 c (m, emptyK (packI (nextI s p) cl) (nextI s p) (if cl = true then 5 else 3) j) = (m, emptyK (packI (nextI s p) cl) (nextI s p) (if cl = true then 5 else 3) (j + 1)) := by
  have hT2 := packI_half (nextI s p) (nextI_rng s p) cl
  have hcl := packI_closed (nextI s p) cl
  have hlen := h.len
  have hr := rest_next s p p (Nat.le_refl _) (by omega)
  have htl := h.tail
  have hhd := h.head
  have hl5 : (5 : Int) < m.words.length := by rcases h.two with e | e | e | e | e <;> omega
  obtain ⟨T, hT⟩ : ∃ T, packI (nextI s p) cl = T := ⟨_, rfl⟩
  obtain ⟨H, hH⟩ : ∃ H, nextI s p = H := ⟨_, rfl⟩
  rw [hH] at hT2 hr hhd ⊢
  rw [hT] at htl
  rw [hH] at hT hcl
  rw [hT] at hT2 hcl ⊢
  have hr0 : restI (T / 2) H = 0 := by rw [hT2]; omega
  have hj3 : j = 0 ∨ j = 1 ∨ j = 2 := by omega
  rcases hj3 with rfl | rfl | rfl
  · refine (step1_of (a := ⟨1, 1, 0, 0, 0⟩) (by show ¬ (1 : Int) = 0; omega) rfl (apply_load (by omega) (by show (1 : Int) < m.words.length; omega))).trans ?_
    rw [show m.words.getD (Int.toNat 1) 0 = H from hhd]
    unfold rgRE popRE emptyK
    simp
  · refine (step1_of (a := ⟨1, 0, 0, 0, 0⟩) (by show ¬ (2 : Int) = 0; omega) rfl (apply_load (by omega) (by show (0 : Int) < m.words.length; omega))).trans ?_
    rw [show m.words.getD (Int.toNat 0) 0 = T from htl]
    unfold rgRE popRE emptyK
    simp [hr0]
  · refine (step1_of (a := ⟨1, 1, 0, 0, 0⟩) (by show ¬ (3 : Int) = 0; omega) rfl (apply_load (by omega) (by show (1 : Int) < m.words.length; omega))).trans ?_
    rw [show m.words.getD (Int.toNat 1) 0 = H from hhd]
    unfold rgRE popRE emptyK
    cases cl <;> simp [hcl]
theorem RingSt.congr {c : ConfM} {m : MemM} {s : Int} {p n : Nat} {cl : Bool} {val val2 : Nat → Int} (h : RingSt c m s p n cl val) (he : ∀ j, j < n → val j = val2 j) : RingSt c m s p n cl val2 :=
  ⟨h.two, h.srng, h.len, h.pn, h.cap, h.tail, h.head, h.slot, fun j h1 h2 => (h.vals j h1 h2).trans (he j h2)⟩
end Go.Proofs.Ytmkngpjjimalhaa
/- Layer 9: machines of a ring that run one after another, each alone. -/
namespace Go.Proofs.Ytmkngpjjimalhaa
open Go.ChangeShapes Go.WideShapes Go.ChangeAt Go.RowKit
set_option maxRecDepth 100000

theorem stepE_last (c : ConfM) (m : MemM) (l : List MachM) (k : MachM) (i : Nat) (hi : i = l.length) : stepE rgNE rgRE c m (l ++ [k]) i = ((step1 c (m, k)).1, l ++ [(step1 c (m, k)).2]) := by
  subst hi
  have e : (l ++ [k])[l.length]? = some k := by simp
  have e2 : ∀ q, (l ++ [k]).set l.length q = l ++ [q] := fun q => by simp
  unfold stepE step1
  rw [e]
  show (if k.pl = 0 then _ else if (applyE m (rgNE c k)).2.2 = true then _ else _) = _
  by_cases h1 : k.pl = 0
  · rw [if_pos h1, if_pos h1]
  · rw [if_neg h1, if_neg h1]
    by_cases h2 : (applyE m (rgNE c k)).2.2 = true
    · rw [if_pos h2, if_pos h2, e2]
    · rw [if_neg h2, if_neg h2]
theorem al_step {w0 w : World} {E : List (Option Nat)} {B : Nat} {x : WV} {y : WM} {c : ConfM} {n q : Nat} (h : AL w0 w E B x y c (n + 1) q) (hn : n ≤ 100) (hq : q ≤ 1000) (l : List MachM) (k : MachM) (hl : y.l = l ++ [k]) :
    Calls Try.prog 17 #[.pointer (some ⟨B, 0, none⟩), .int .i64 n] w fun e w' => ∃ x2 y2, e = .returned (.bool true) ∧ Hid (AL w0 w' E B x2 y2 c (n + 1) (q + 1)) ∧ y2.m = (step1 c (y.m, k)).1 ∧ y2.l = l ++ [(step1 c (y.m, k)).2] := by
  have hln : l.length = n := by have := h.len; rw [hl, List.length_append] at this; simpa using this
  refine (al_stepE h (by omega) hq n (by omega)).mono ?_
  rintro e w' ⟨x2, y2, rfl, h1, h2, -⟩
  rw [hl, stepE_last c y.m l k n hln.symm] at h2
  exact ⟨x2, y2, rfl, h1, congrArg Prod.fst h2, congrArg Prod.snd h2⟩
/-- how far the last machine is -/
theorem AL.at {w0 w : World} {E : List (Option Nat)} {B : Nat} {x : WV} {y : WM} {c : ConfM} {n q : Nat} (h : AL w0 w E B x y c (n + 1) q) (l : List MachM) (k : MachM) (hl : y.l = l ++ [k]) : ∃ gl lc, w.cell? ⟨B, 6, none⟩ = some (.slice (some ⟨gl, 0, none⟩) (n + 1 : Nat) lc) ∧ w.cell? ⟨gl, n * 14 + 1, none⟩ = some (.int .i64 k.pl) ∧ n + 1 ≤ lc ∧ gl < w.heap.size := by
  have hln : l.length = n := by have := h.len; rw [hl, List.length_append] at this; simpa using this
  obtain ⟨gl, lc, hvl, hlA, hlc, hgl, hgls, hcap, RG, -⟩ := h.wi.machAt n (by rw [h.len]; omega)
  have row0 := h.wi.row
  unfold WV.row at row0
  rw [hlA, hlc, h.len] at row0
  have hk : y.l[n]'(by rw [h.len]; omega) = k := by simp [hl, ← hln]
  rw [hk] at RG
  exact ⟨gl, lc, (rowc10 row0).2.2.2.2.2.2.1, RG 1 (.int .i64 k.pl) rfl, by rw [h.len] at hcap; exact hcap, hgls⟩
/-- the run of a pop alone: of a ring with values, or of an empty one -/
theorem alone_run {c : ConfM} {m : MemM} {s : Int} {p k : Nat} {cl : Bool} {val : Nat → Int} (h : RingSt c m s p k cl val) :
    ∃ (N : Nat) (M : Nat → MemM) (K : Nat → MachM) (x t hd ok ov : Int), M 0 = m ∧ K 0 = ⟨4, 1, 0, 0, 0, 0, 0, 0, 0, 0, 0⟩ ∧ N ≤ 6 ∧ (∀ j : Nat, j < N → step1 c (M j, K j) = (M (j + 1), K (j + 1)) ∧ 0 < (K j).pl) ∧ K N = ⟨4, 0, 0, 0, 0, 0, x, t, hd, ok, ov⟩ ∧
      ((p < k ∧ N = 6 ∧ ok = 6 ∧ ov = val p ∧ RingSt c (M N) s (p + 1) k cl val) ∨ (p = k ∧ N = 3 ∧ ok = (if cl = true then 5 else 3) ∧ ov = 0)) := by
  by_cases hp : p < k
  · refine ⟨6, popM c m (nextI s p), popK (packI (nextI s k) cl) (nextI s p) (val p), _, _, _, _, _, rfl, rfl, by omega, fun j hj => ⟨pop_step h hp j hj, ?_⟩, rfl, .inl ⟨hp, rfl, rfl, rfl, h.popped hp⟩⟩
    have hj6 : j = 0 ∨ j = 1 ∨ j = 2 ∨ j = 3 ∨ j = 4 ∨ j = 5 := by omega
    rcases hj6 with rfl | rfl | rfl | rfl | rfl | rfl
    · show (0 : Int) < 1; omega
    · show (0 : Int) < 2; omega
    · show (0 : Int) < 4; omega
    · show (0 : Int) < 5; omega
    · show (0 : Int) < 6; omega
    · show (0 : Int) < 7; omega
  · have hpk : p = k := by have := h.pn; omega
    subst hpk
    refine ⟨3, fun _ => m, emptyK (packI (nextI s p) cl) (nextI s p) (if cl = true then 5 else 3), _, _, _, _, _, rfl, rfl, by omega, fun j hj => ⟨empty_step h j hj, ?_⟩, rfl, .inr ⟨rfl, rfl, rfl, rfl⟩⟩
    have hj3 : j = 0 ∨ j = 1 ∨ j = 2 := by omega
    rcases hj3 with rfl | rfl | rfl
    · show (0 : Int) < 1; omega
    · show (0 : Int) < 2; omega
    · show (0 : Int) < 3; omega
end Go.Proofs.Ytmkngpjjimalhaa
