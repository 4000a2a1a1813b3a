
import Derived.Test.YtjnlkemdaffgbaaB30
set_option linter.unusedVariables false
set_option linter.unusedSimpArgs false
/- The ring while machines of all kinds interleave, plainly: what every access keeps. -/
namespace Go.Proofs.Ytjnlkemdaffgbaa
open Go.ChangeShapes Go.WideShapes Go.ChangeAt Go.RowKit
set_option maxRecDepth 100000

theorem apply_cas_no {m : MemM} {a o x : Int} (h0 : 0 ≤ a) (h1 : a < m.words.length) (he : ¬ m.words.getD a.toNat 0 = o) : applyE m ⟨3, a, o, x, 0⟩ = (m, ⟨m.words.getD a.toNat 0, false, false, []⟩, true) := by
  have hb : hasB m.words.length a = true := by unfold hasB; simp [h0, h1]
  have he2 : ¬ m.words[a.toNat]?.getD 0 = o := by rwa [List.getD_eq_getElem?_getD] at he
  unfold applyE grantB wordE
  simp [hb, he2]
/-- the ring of channel 0 in between: P values were added, Q taken, of those that began at s; cl: it is closed -/
structure Rg (c : ConfM) (m : MemM) (s : Int) (P Q : Nat) (cl : Bool) : Prop where
  two : Two (c.size 0)
  cap : 0 ≤ c.caps.getD 0 0 ∧ c.caps.getD 0 0 ≤ 16
  len : 5 + c.size 0 * 2 ≤ (m.words.length : Int)
  tail : m.words.getD 0 0 = packI (nextI s P) cl
  head : m.words.getD 1 0 = nextI s Q
  room : Q ≤ P ∧ (P : Int) ≤ Q + c.caps.getD 0 0
/-- what a machine of the ring remembers -/
structure Mi (c : ConfM) (s : Int) (P Q : Nat) (k : MachM) : Prop where
  rg : rgK c k
  chan : k.chan = 0
  push : k.what = 3 → 2 ≤ k.pl → k.pl ≤ 5 → ∃ p : Nat, p ≤ P ∧ k.t = packI (nextI s p) false ∧ (4 ≤ k.pl → (p : Int) < Q + c.caps.getD 0 0)
  pop : k.what = 4 → 2 ≤ k.pl → k.pl ≤ 5 → ∃ q : Nat, q ≤ Q ∧ k.h = nextI s q ∧ (4 ≤ k.pl → q + 1 ≤ P)
  shut : k.what = 5 → k.pl = 2 → ∃ p : Nat, p ≤ P ∧ k.t = packI (nextI s p) false
theorem Mi.mono {c : ConfM} {s : Int} {P Q P2 Q2 : Nat} {k : MachM} (h : Mi c s P Q k) (hP : P ≤ P2) (hQ : Q ≤ Q2) : Mi c s P2 Q2 k :=
  ⟨h.rg, h.chan, fun a b d => let ⟨p, h1, h2, h3⟩ := h.push a b d; ⟨p, by omega, h2, fun e => by have := h3 e; omega⟩, fun a b d => let ⟨q, h1, h2, h3⟩ := h.pop a b d; ⟨q, by omega, h2, fun e => by have := h3 e; omega⟩, fun a b => let ⟨p, h1, h2⟩ := h.shut a b; ⟨p, by omega, h2⟩⟩
/-- its access is a Cas of the tail word that takes effect -/
def casT (c : ConfM) (m : MemM) (k : MachM) : Prop := (rgNE c k).kind = 3 ∧ (rgNE c k).addr = 0 ∧ (applyE m (rgNE c k)).2.1.ok = true
/-- its push has taken effect -/
def pushDone (k : MachM) : Prop := k.what = 3 ∧ (6 ≤ k.pl ∨ (k.pl = 0 ∧ k.ok = 1))
/-- it has closed the ring -/
def shutDone (k : MachM) : Prop := k.what = 5 ∧ k.pl = 0 ∧ k.ok = 1
/-- what an access of a machine of the ring does -/
inductive StepR (c : ConfM) (m : MemM) (s : Int) (P Q : Nat) (cl : Bool) (k : MachM) (m2 : MemM) (k2 : MachM) : Prop where
  | quiet (h1 : Rg c m2 s P Q cl) (h2 : Mi c s P Q k2) (h3 : ¬ casT c m k) (h4 : pushDone k2 ↔ pushDone k) (h5 : shutDone k2 ↔ shutDone k) (h6 : k2.what = 5 → k2.pl = 0 → cl = true ∧ k2.ok = 4)
  | pushed (h0 : cl = false) (hw : k.what = 3) (h1 : Rg c m2 s (P + 1) Q false) (h2 : Mi c s (P + 1) Q k2) (h3 : casT c m k) (h4 : ¬ pushDone k) (h5 : pushDone k2)
  | popped (hw : k.what = 4) (h1 : Rg c m2 s P (Q + 1) cl) (h2 : Mi c s P (Q + 1) k2) (h3 : ¬ casT c m k)
  | shut (h0 : cl = false) (hw : k.what = 5) (h1 : Rg c m2 s P Q true) (h2 : Mi c s P Q k2) (h3 : casT c m k) (h4 : ¬ shutDone k) (h5 : shutDone k2)
theorem packI_inj {x y : Int} {a b : Bool} (hx : 0 ≤ x ∧ x < 9223372036854775808) (hy : 0 ≤ y ∧ y < 9223372036854775808) (h : packI x a = packI y b) : x = y ∧ a = b :=
  ⟨by rw [← packI_half x hx a, h, packI_half y hy b], by rw [← packI_closed x a, h, packI_closed y b]⟩
theorem nextI_inj {s : Int} {a b : Nat} (ha : a ≤ 2000000) (hb : b ≤ 2000000) (h : nextI s a = nextI s b) : a = b := by unfold nextI at h; omega
/-- where a slot's words lie -/
theorem Rg.slotAt {c : ConfM} {m : MemM} {s : Int} {P Q : Nat} {cl : Bool} (h : Rg c m s P Q cl) (x : Int) (hx : 0 ≤ x) : 5 ≤ c.slotW 0 x ∧ c.slotW 0 x + 1 < (m.words.length : Int) := by
  have h1 : 1 ≤ c.size 0 := by rcases h.two with e | e | e | e | e <;> omega
  have h2 := slotI_lt x (c.size 0) hx h1
  have h3 := h.len
  rw [slotW_eq]
  have : c.base 0 = 0 := rfl
  omega
/-- a word that is neither Tail nor Head was written -/
theorem Rg.put {c : ConfM} {m : MemM} {s : Int} {P Q : Nat} {cl : Bool} (h : Rg c m s P Q cl) (a x : Int) (h0 : 2 ≤ a) (h1 : a < (m.words.length : Int)) : Rg c (putW m a x) s P Q cl := by
  have e0 := putW_at m a x 0 (by omega) (by omega) h1
  have e1 := putW_at m a x 1 (by omega) (by omega) h1
  rw [if_neg (by omega)] at e0 e1
  exact ⟨h.two, h.cap, by rw [putW_len]; exact h.len, e0.trans h.tail, e1.trans h.head, h.room⟩
theorem Rg.lens {c : ConfM} {m : MemM} {s : Int} {P Q : Nat} {cl : Bool} (h : Rg c m s P Q cl) : (5 : Int) < m.words.length := by
  have := h.len
  rcases h.two with e | e | e | e | e <;> omega
/-- Tail moves on -/
theorem Rg.setTail {c : ConfM} {m : MemM} {s : Int} {P Q P2 : Nat} {cl cl2 : Bool} (h : Rg c m s P Q cl) (h2 : Q ≤ P2 ∧ (P2 : Int) ≤ Q + c.caps.getD 0 0) : Rg c (putW m 0 (packI (nextI s P2) cl2)) s P2 Q cl2 := by
  have hl := h.lens
  have e0 := putW_at m 0 (packI (nextI s P2) cl2) 0 (by omega) (by omega) (by omega)
  have e1 := putW_at m 0 (packI (nextI s P2) cl2) 1 (by omega) (by omega) (by omega)
  rw [if_pos rfl] at e0
  rw [if_neg (by omega)] at e1
  exact ⟨h.two, h.cap, by rw [putW_len]; exact h.len, e0, e1.trans h.head, h2⟩
/-- Head moves on -/
theorem Rg.setHead {c : ConfM} {m : MemM} {s : Int} {P Q Q2 : Nat} {cl : Bool} (h : Rg c m s P Q cl) (h2 : Q2 ≤ P ∧ (P : Int) ≤ Q2 + c.caps.getD 0 0) : Rg c (putW m 1 (nextI s Q2)) s P Q2 cl := by
  have hl := h.lens
  have e0 := putW_at m 1 (nextI s Q2) 0 (by omega) (by omega) (by omega)
  have e1 := putW_at m 1 (nextI s Q2) 1 (by omega) (by omega) (by omega)
  rw [if_neg (by omega)] at e0
  rw [if_pos rfl] at e1
  exact ⟨h.two, h.cap, by rw [putW_len]; exact h.len, e0.trans h.tail, e1, h2⟩
section
variable {c : ConfM} {m : MemM} {s : Int} {P Q : Nat} {cl : Bool} {k : MachM}
/-- a new machine of the same kind -/
theorem Mi.of (hk : Mi c s P Q k) {b : AnsM} (hb : U64 b.val) {P2 Q2 : Nat} (h1 : (rgRE c k b).what = 3 → 2 ≤ (rgRE c k b).pl → (rgRE c k b).pl ≤ 5 → ∃ p : Nat, p ≤ P2 ∧ (rgRE c k b).t = packI (nextI s p) false ∧ (4 ≤ (rgRE c k b).pl → (p : Int) < Q2 + c.caps.getD 0 0))
    (h2 : (rgRE c k b).what = 4 → 2 ≤ (rgRE c k b).pl → (rgRE c k b).pl ≤ 5 → ∃ q : Nat, q ≤ Q2 ∧ (rgRE c k b).h = nextI s q ∧ (4 ≤ (rgRE c k b).pl → q + 1 ≤ P2)) (h3 : (rgRE c k b).what = 5 → (rgRE c k b).pl = 2 → ∃ p : Nat, p ≤ P2 ∧ (rgRE c k b).t = packI (nextI s p) false) : Mi c s P2 Q2 (rgRE c k b) := by
  obtain ⟨hi, g, -⟩ := rgRE_goes c k b hk.rg.pl
  exact ⟨rgK_RE hk.rg hb, g.chan.trans hk.chan, h1, h2, h3⟩
/-- the answer to an access, by name -/
theorem step1_ans (hp : ¬ k.pl = 0) {m2 : MemM} {b : AnsM} (ha : applyE m (rgNE c k) = (m2, b, true)) : step1 c (m, k) = (m2, rgRE c k b) := step1_of hp rfl ha
theorem push_stepR (h : Rg c m s P Q cl) (hf : m.fits) (hP : P ≤ 1000000) (hk : Mi c s P Q k) (hp : ¬ k.pl = 0) (hw : k.what = 3) : (applyE m (rgNE c k)).2.2 = true ∧ StepR c m s P Q cl k (step1 c (m, k)).1 (step1 c (m, k)).2 := by
  have hl := h.lens
  have hpl := hk.rg.pl
  have hch : k.chan.toNat = 0 := by rw [hk.chan]; rfl
  have hbase : c.base 0 = 0 := rfl
  have eN : rgNE c k = pushNE c 0 k := by unfold rgNE; rw [if_neg hp, if_pos hw, hch]
  have eR : ∀ b, rgRE c k b = pushRE (c.caps.getD 0 0) k b := fun b => by unfold rgRE; rw [if_neg hp, if_pos hw, hch]
  have hroom := h.room
  have hcap := h.cap
  have hval := fun a => applyE_val hf a
  have ht := hk.rg.t
  have w5 : ∀ b, (rgRE c k b).what = 3 := fun b => (rgRE_what c k b).trans hw
  have key : ∀ {m2 : MemM} {b : AnsM}, applyE m (rgNE c k) = (m2, b, true) → (U64 b.val → StepR c m s P Q cl k m2 (rgRE c k b)) → (applyE m (rgNE c k)).2.2 = true ∧ StepR c m s P Q cl k (step1 c (m, k)).1 (step1 c (m, k)).2 := fun {m2 b} ha hs => by
    have hb : U64 b.val := by have := hval (rgNE c k); rw [ha] at this; exact this
    rw [step1_ans hp ha, ha]
    exact ⟨rfl, hs hb⟩
  have quiet : ∀ {m2 : MemM} {b : AnsM}, U64 b.val → Rg c m2 s P Q cl → ¬ casT c m k → (2 ≤ (rgRE c k b).pl → (rgRE c k b).pl ≤ 5 → ∃ p : Nat, p ≤ P ∧ (rgRE c k b).t = packI (nextI s p) false ∧ (4 ≤ (rgRE c k b).pl → (p : Int) < Q + c.caps.getD 0 0)) → (pushDone (rgRE c k b) ↔ pushDone k) → StepR c m s P Q cl k m2 (rgRE c k b) := fun {m2 b} hb h1 h3 h4 h5 =>
    .quiet h1 (hk.of hb (fun _ => h4) (fun e => by rw [w5] at e; omega) (fun e => by rw [w5] at e; omega)) h3 h5 ⟨fun e => by have := e.1; rw [w5] at this; omega, fun e => by have := e.1; omega⟩ (fun e => by rw [w5] at e; omega)
  have hps : k.pl = 1 ∨ k.pl = 2 ∨ k.pl = 3 ∨ k.pl = 4 ∨ k.pl = 5 ∨ k.pl = 6 ∨ k.pl = 7 := by omega
  rcases hps with e | e | e | e | e | e | e
  · have a1 : rgNE c k = ⟨1, 0, 0, 0, 0⟩ := by rw [eN]; unfold pushNE; rw [if_pos (.inl e)]; rfl
    refine key (a1 ▸ apply_load (by omega) (by omega)) fun hb => ?_
    have hnc : ¬ casT c m k := fun hc => by have := hc.1; rw [a1] at this; exact absurd this (by simp)
    refine quiet hb h hnc ?_ ?_ <;> rw [eR] <;> unfold pushRE <;> rw [if_pos e] <;> split
    · intro h1; exact absurd h1 (by simp)
    · rename_i hcl
      intro _ _
      have hcl2 : cl = false := by
        have h1 : ¬ closedB (m.words.getD 0 0) = true := hcl
        rw [h.tail, packI_closed] at h1; simpa using h1
      subst hcl2
      exact ⟨P, Nat.le_refl _, h.tail, fun h4 => absurd h4 (by simp)⟩
    · unfold pushDone; simp [e, hw]
    · unfold pushDone; simp [e, hw]
  · have a1 : rgNE c k = ⟨1, 1, 0, 0, 0⟩ := by rw [eN]; unfold pushNE; rw [if_neg (by omega), if_pos e]; rfl
    refine key (a1 ▸ apply_load (by omega) (by omega)) fun hb => ?_
    have hnc : ¬ casT c m k := fun hc => by have := hc.1; rw [a1] at this; exact absurd this (by simp)
    obtain ⟨p, hp1, hp2, -⟩ := hk.push hw (by omega) (by omega)
    have hr := packI_half (nextI s p) (nextI_rng s p) false
    refine quiet hb h hnc ?_ ?_ <;> rw [eR] <;> unfold pushRE <;> rw [if_neg (by omega), if_pos e] <;> (try split) <;> (try split)
    · exact fun _ _ => ⟨p, hp1, hp2, fun h4 => absurd h4 (by simp)⟩
    · exact fun h1 => absurd h1 (by simp)
    · rename_i h8 h9
      refine fun _ _ => ⟨p, hp1, hp2, fun _ => ?_⟩
      have h8' : ¬ restI (k.t / 2) (m.words.getD 1 0) = c.caps.getD 0 0 := h8
      have h9' : ¬ c.caps.getD 0 0 < restI (k.t / 2) (m.words.getD 1 0) := h9
      rw [h.head, hp2, hr] at h8' h9'
      unfold restI nextI at h8' h9'
      omega
    · unfold pushDone; simp [e, hw]
    · unfold pushDone; simp [e, hw]
    · unfold pushDone; simp [e, hw]
  · have a1 : rgNE c k = ⟨1, 0, 0, 0, 0⟩ := by rw [eN]; unfold pushNE; rw [if_pos (.inr e)]; rfl
    refine key (a1 ▸ apply_load (by omega) (by omega)) fun hb => ?_
    have hnc : ¬ casT c m k := fun hc => by have := hc.1; rw [a1] at this; exact absurd this (by simp)
    refine quiet hb h hnc ?_ ?_ <;> rw [eR] <;> unfold pushRE <;> rw [if_neg (by omega), if_neg (by omega), if_pos e] <;> (try split) <;> (try split)
    · exact fun h1 => absurd h1 (by simp)
    · exact fun h1 => absurd h1 (by simp)
    · rename_i h8 hcl
      intro _ _
      have hcl2 : cl = false := by
        have h1 : ¬ closedB (m.words.getD 0 0) = true := hcl
        rw [h.tail, packI_closed] at h1; simpa using h1
      subst hcl2
      exact ⟨P, Nat.le_refl _, h.tail, fun h4 => absurd h4 (by simp)⟩
    · unfold pushDone; simp [e, hw]
    · unfold pushDone; simp [e, hw]
    · unfold pushDone; simp [e, hw]
  · have hsl := h.slotAt (k.t / 2) (by have := ht.1; omega)
    have a1 : rgNE c k = ⟨1, c.slotW 0 (k.t / 2), 0, 0, 0⟩ := by rw [eN]; unfold pushNE; rw [if_neg (by omega), if_neg (by omega), if_pos e]
    refine key (a1 ▸ apply_load (by omega) (by omega)) fun hb => ?_
    have hnc : ¬ casT c m k := fun hc => by have := hc.1; rw [a1] at this; exact absurd this (by simp)
    obtain ⟨p, hp1, hp2, hp3⟩ := hk.push hw (by omega) (by omega)
    refine quiet hb h hnc ?_ ?_ <;> rw [eR] <;> unfold pushRE <;> rw [if_neg (by omega), if_neg (by omega), if_neg (by omega), if_pos e] <;> (try split)
    · exact fun _ _ => ⟨p, hp1, hp2, fun _ => hp3 (by omega)⟩
    · exact fun h1 => absurd h1 (by simp)
    · unfold pushDone; simp [e, hw]
    · unfold pushDone; simp [e, hw]
  · obtain ⟨p, hp1, hp2, hp3⟩ := hk.push hw (by omega) (by omega)
    have hr := packI_half (nextI s p) (nextI_rng s p) false
    have a1 : rgNE c k = ⟨3, 0, k.t, packI (nextI (k.t / 2) 1) false, 0⟩ := by rw [eN]; unfold pushNE; rw [if_neg (by omega), if_neg (by omega), if_neg (by omega), if_pos e]; rfl
    by_cases hc : m.words.getD 0 0 = k.t
    · have ha := apply_cas (m := m) (a := 0) (o := k.t) (x := packI (nextI (k.t / 2) 1) false) (by omega) (by omega) hc
      refine key (a1 ▸ ha) fun hb => ?_
      have hc2 := hc
      rw [h.tail, hp2] at hc2
      obtain ⟨h1, h2⟩ := packI_inj (nextI_rng s P) (nextI_rng s p) hc2
      have h3 := nextI_inj (by omega) (by omega) h1
      subst h3
      have hk2 : rgRE c k ⟨k.t, true, false, []⟩ = { k with pl := 6 } := by rw [eR]; unfold pushRE; rw [if_neg (by omega), if_neg (by omega), if_neg (by omega), if_neg (by omega), if_pos e]; rfl
      have h4 := hp3 (by omega)
      have hR := h.setTail (P2 := P + 1) (cl2 := false) ⟨by omega, by omega⟩
      rw [show packI (nextI (k.t / 2) 1) false = packI (nextI s ((P + 1 : Nat) : Int)) false by rw [hp2, hr, nextI_next]; rfl]
      refine .pushed h2 hw hR (hk.of hb (fun _ _ h5 => ?_) (fun e2 => by rw [w5] at e2; omega) (fun e2 => by rw [w5] at e2; omega)) ⟨by rw [a1], by rw [a1], by rw [a1, ha]⟩ (fun h5 => ?_) ?_
      · rw [hk2] at h5; exact absurd h5 (by show ¬ (6 : Int) ≤ 5; decide)
      · rcases h5.2 with h6 | h6 <;> omega
      · rw [hk2]; exact ⟨hw, .inl (by show (6 : Int) ≤ 6; decide)⟩
    · have ha := apply_cas_no (m := m) (a := 0) (o := k.t) (x := packI (nextI (k.t / 2) 1) false) (by omega) (by omega) hc
      refine key (a1 ▸ ha) fun hb => ?_
      have hnc : ¬ casT c m k := fun hc => by have := hc.2.2; rw [a1, ha] at this; exact absurd this (by simp)
      refine quiet hb h hnc ?_ ?_ <;> rw [eR] <;> unfold pushRE <;> rw [if_neg (by omega), if_neg (by omega), if_neg (by omega), if_neg (by omega), if_pos e, if_neg (by simp)]
      · exact fun h1 => absurd h1 (by simp)
      · unfold pushDone; simp [e, hw]
  · have hsl := h.slotAt (k.t / 2) (by have := ht.1; omega)
    have a1 : rgNE c k = ⟨6, c.slotW 0 (k.t / 2) + 1, 0, k.val, 0⟩ := by rw [eN]; unfold pushNE; rw [if_neg (by omega), if_neg (by omega), if_neg (by omega), if_neg (by omega), if_pos e]
    refine key (a1 ▸ apply_write (by omega) (by omega)) fun hb => ?_
    have hnc : ¬ casT c m k := fun hc => by have := hc.1; rw [a1] at this; exact absurd this (by simp)
    refine quiet hb (h.put _ _ (by omega) (by omega)) hnc ?_ ?_ <;> rw [eR] <;> unfold pushRE <;> rw [if_neg (by omega), if_neg (by omega), if_neg (by omega), if_neg (by omega), if_neg (by omega), if_pos e]
    · exact fun _ h1 => absurd h1 (by simp)
    · unfold pushDone; simp [e, hw]
  · have hsl := h.slotAt (k.t / 2) (by have := ht.1; omega)
    have a1 : rgNE c k = ⟨2, c.slotW 0 (k.t / 2), 0, nextI (k.t / 2) 1, 0⟩ := by rw [eN]; unfold pushNE; rw [if_neg (by omega), if_neg (by omega), if_neg (by omega), if_neg (by omega), if_neg (by omega)]
    refine key (a1 ▸ apply_store (by omega) (by omega)) fun hb => ?_
    have hnc : ¬ casT c m k := fun hc => by have := hc.1; rw [a1] at this; exact absurd this (by simp)
    refine quiet hb (h.put _ _ (by omega) (by omega)) hnc ?_ ?_ <;> rw [eR] <;> unfold pushRE <;> rw [if_neg (by omega), if_neg (by omega), if_neg (by omega), if_neg (by omega), if_neg (by omega), if_neg (by omega)]
    · exact fun h1 => absurd h1 (by simp)
    · unfold pushDone; simp [e, hw]
theorem pop_stepR (h : Rg c m s P Q cl) (hf : m.fits) (hP : P ≤ 1000000) (hk : Mi c s P Q k) (hp : ¬ k.pl = 0) (hw : k.what = 4) : (applyE m (rgNE c k)).2.2 = true ∧ StepR c m s P Q cl k (step1 c (m, k)).1 (step1 c (m, k)).2 := by
  have hl := h.lens
  have hpl := hk.rg.pl
  have hch : k.chan.toNat = 0 := by rw [hk.chan]; rfl
  have hbase : c.base 0 = 0 := rfl
  have eN : rgNE c k = popNE c 0 k := by unfold rgNE; rw [if_neg hp, if_neg (by omega), if_pos hw, hch]
  have eR : ∀ b, rgRE c k b = popRE (c.caps.getD 0 0) k b := fun b => by unfold rgRE; rw [if_neg hp, if_neg (by omega), if_pos hw, hch]
  have hroom := h.room
  have hcap := h.cap
  have hval := fun a => applyE_val hf a
  have ht := hk.rg.t
  have hh := hk.rg.h
  have w5 : ∀ b, (rgRE c k b).what = 4 := fun b => (rgRE_what c k b).trans hw
  have key : ∀ {m2 : MemM} {b : AnsM}, applyE m (rgNE c k) = (m2, b, true) → (U64 b.val → StepR c m s P Q cl k m2 (rgRE c k b)) → (applyE m (rgNE c k)).2.2 = true ∧ StepR c m s P Q cl k (step1 c (m, k)).1 (step1 c (m, k)).2 := fun {m2 b} ha hs => by
    have hb : U64 b.val := by have := hval (rgNE c k); rw [ha] at this; exact this
    rw [step1_ans hp ha, ha]
    exact ⟨rfl, hs hb⟩
  have nP : ∀ b, (rgRE c k b).what = 3 → 2 ≤ (rgRE c k b).pl → (rgRE c k b).pl ≤ 5 → ∃ p : Nat, p ≤ P ∧ (rgRE c k b).t = packI (nextI s p) false ∧ (4 ≤ (rgRE c k b).pl → (p : Int) < Q + c.caps.getD 0 0) := fun b e => by rw [w5] at e; omega
  have nD : ∀ b, pushDone (rgRE c k b) ↔ pushDone k := fun b => ⟨fun e => by have := e.1; rw [w5] at this; omega, fun e => by have := e.1; omega⟩
  have quiet : ∀ {m2 : MemM} {b : AnsM}, U64 b.val → Rg c m2 s P Q cl → ¬ casT c m k → (2 ≤ (rgRE c k b).pl → (rgRE c k b).pl ≤ 5 → ∃ q : Nat, q ≤ Q ∧ (rgRE c k b).h = nextI s q ∧ (4 ≤ (rgRE c k b).pl → q + 1 ≤ P)) → StepR c m s P Q cl k m2 (rgRE c k b) := fun {m2 b} hb h1 h3 h4 =>
    .quiet h1 (hk.of hb (nP b) (fun _ => h4) (fun e => by rw [w5] at e; omega)) h3 (nD b) ⟨fun e => by have := e.1; rw [w5] at this; omega, fun e => by have := e.1; omega⟩ (fun e => by rw [w5] at e; omega)
  have hps : k.pl = 1 ∨ k.pl = 2 ∨ k.pl = 3 ∨ k.pl = 4 ∨ k.pl = 5 ∨ k.pl = 6 ∨ k.pl = 7 := by omega
  rcases hps with e | e | e | e | e | e | e
  · have a1 : rgNE c k = ⟨1, 1, 0, 0, 0⟩ := by rw [eN]; unfold popNE; rw [if_pos (.inl e)]; rfl
    refine key (a1 ▸ apply_load (by omega) (by omega)) fun hb => ?_
    have hnc : ¬ casT c m k := fun hc => by have := hc.1; rw [a1] at this; exact absurd this (by simp)
    refine quiet hb h hnc ?_
    rw [eR]; unfold popRE; rw [if_pos e]
    exact fun _ _ => ⟨Q, Nat.le_refl _, h.head, fun h4 => absurd h4 (by simp)⟩
  · have a1 : rgNE c k = ⟨1, 0, 0, 0, 0⟩ := by rw [eN]; unfold popNE; rw [if_neg (by omega), if_pos e]; rfl
    refine key (a1 ▸ apply_load (by omega) (by omega)) fun hb => ?_
    have hnc : ¬ casT c m k := fun hc => by have := hc.1; rw [a1] at this; exact absurd this (by simp)
    obtain ⟨q, hq1, hq2, -⟩ := hk.pop hw (by omega) (by omega)
    have hr := packI_half (nextI s P) (nextI_rng s P) cl
    refine quiet hb h hnc ?_
    rw [eR]; unfold popRE; rw [if_neg (by omega), if_pos e]
    split
    · exact fun _ _ => ⟨q, hq1, hq2, fun h4 => absurd h4 (by simp)⟩
    · rename_i h8
      have h8' : ¬ restI (m.words.getD 0 0 / 2) k.h = 0 := h8
      rw [h.tail, hq2, hr] at h8'
      have hlt : q + 1 ≤ P := by unfold restI nextI at h8'; omega
      split
      · exact fun h1 => absurd h1 (by simp)
      · exact fun _ _ => ⟨q, hq1, hq2, fun _ => hlt⟩
  · have a1 : rgNE c k = ⟨1, 1, 0, 0, 0⟩ := by rw [eN]; unfold popNE; rw [if_pos (.inr e)]; rfl
    refine key (a1 ▸ apply_load (by omega) (by omega)) fun hb => ?_
    have hnc : ¬ casT c m k := fun hc => by have := hc.1; rw [a1] at this; exact absurd this (by simp)
    refine quiet hb h hnc ?_
    rw [eR]; unfold popRE; rw [if_neg (by omega), if_neg (by omega), if_pos e]
    split
    · exact fun _ _ => ⟨Q, Nat.le_refl _, h.head, fun h4 => absurd h4 (by simp)⟩
    · split
      · exact fun h1 => absurd h1 (by simp)
      · exact fun h1 => absurd h1 (by simp)
  · have hsl := h.slotAt k.h hh.1
    have a1 : rgNE c k = ⟨1, c.slotW 0 k.h, 0, 0, 0⟩ := by rw [eN]; unfold popNE; rw [if_neg (by omega), if_neg (by omega), if_pos e]
    refine key (a1 ▸ apply_load (by omega) (by omega)) fun hb => ?_
    have hnc : ¬ casT c m k := fun hc => by have := hc.1; rw [a1] at this; exact absurd this (by simp)
    obtain ⟨q, hq1, hq2, hq3⟩ := hk.pop hw (by omega) (by omega)
    refine quiet hb h hnc ?_
    rw [eR]; unfold popRE; rw [if_neg (by omega), if_neg (by omega), if_neg (by omega), if_pos e]
    split
    · exact fun _ _ => ⟨q, hq1, hq2, fun _ => hq3 (by omega)⟩
    · exact fun h1 => absurd h1 (by simp)
  · obtain ⟨q, hq1, hq2, hq3⟩ := hk.pop hw (by omega) (by omega)
    have a1 : rgNE c k = ⟨3, 1, k.h, nextI k.h 1, 0⟩ := by rw [eN]; unfold popNE; rw [if_neg (by omega), if_neg (by omega), if_neg (by omega), if_pos e]; rfl
    have hnc : ¬ casT c m k := fun hc => by have := hc.2.1; rw [a1] at this; exact absurd this (by simp)
    by_cases hc : m.words.getD 1 0 = k.h
    · have ha := apply_cas (m := m) (a := 1) (o := k.h) (x := nextI k.h 1) (by omega) (by omega) hc
      refine key (a1 ▸ ha) fun hb => ?_
      have hc2 := hc
      rw [h.head, hq2] at hc2
      have h3 := nextI_inj (by omega) (by omega) hc2
      subst h3
      have h4 := hq3 (by omega)
      have hR := h.setHead (Q2 := Q + 1) ⟨by omega, by omega⟩
      rw [show nextI k.h 1 = nextI s ((Q + 1 : Nat) : Int) by rw [hq2, nextI_next]; rfl]
      refine .popped hw hR (hk.of hb (fun e2 => by rw [w5] at e2; omega) (fun _ _ h5 => ?_) (fun e2 => by rw [w5] at e2; omega)) hnc
      rw [eR] at h5; unfold popRE at h5; rw [if_neg (by omega), if_neg (by omega), if_neg (by omega), if_neg (by omega), if_pos e, if_pos rfl] at h5
      exact absurd h5 (by show ¬ (6 : Int) ≤ 5; decide)
    · have ha := apply_cas_no (m := m) (a := 1) (o := k.h) (x := nextI k.h 1) (by omega) (by omega) hc
      refine key (a1 ▸ ha) fun hb => ?_
      refine quiet hb h hnc ?_
      rw [eR]; unfold popRE; rw [if_neg (by omega), if_neg (by omega), if_neg (by omega), if_neg (by omega), if_pos e, if_neg (by simp)]
      exact fun h1 => absurd h1 (by simp)
  · have hsl := h.slotAt k.h hh.1
    have a1 : rgNE c k = ⟨5, c.slotW 0 k.h + 1, 0, 0, 0⟩ := by rw [eN]; unfold popNE; rw [if_neg (by omega), if_neg (by omega), if_neg (by omega), if_neg (by omega), if_pos e]
    refine key (a1 ▸ apply_read (by omega) (by omega)) fun hb => ?_
    have hnc : ¬ casT c m k := fun hc => by have := hc.1; rw [a1] at this; exact absurd this (by simp)
    refine quiet hb h hnc ?_
    rw [eR]; unfold popRE; rw [if_neg (by omega), if_neg (by omega), if_neg (by omega), if_neg (by omega), if_neg (by omega), if_pos e]
    exact fun _ h1 => absurd h1 (by simp)
  · have hsl := h.slotAt k.h hh.1
    have a1 : rgNE c k = ⟨2, c.slotW 0 k.h, 0, nextI k.h (c.size 0), 0⟩ := by rw [eN]; unfold popNE; rw [if_neg (by omega), if_neg (by omega), if_neg (by omega), if_neg (by omega), if_neg (by omega)]
    refine key (a1 ▸ apply_store (by omega) (by omega)) fun hb => ?_
    have hnc : ¬ casT c m k := fun hc => by have := hc.1; rw [a1] at this; exact absurd this (by simp)
    refine quiet hb (h.put _ _ (by omega) (by omega)) hnc ?_
    rw [eR]; unfold popRE; rw [if_neg (by omega), if_neg (by omega), if_neg (by omega), if_neg (by omega), if_neg (by omega), if_neg (by omega)]
    exact fun h1 => absurd h1 (by simp)
theorem shut_stepR (h : Rg c m s P Q cl) (hf : m.fits) (hP : P ≤ 1000000) (hk : Mi c s P Q k) (hp : ¬ k.pl = 0) (hw : k.what = 5) : (applyE m (rgNE c k)).2.2 = true ∧ StepR c m s P Q cl k (step1 c (m, k)).1 (step1 c (m, k)).2 := by
  have hl := h.lens
  have hpl := hk.rg.pl
  have hch : k.chan.toNat = 0 := by rw [hk.chan]; rfl
  have hbase : c.base 0 = 0 := rfl
  have eN : rgNE c k = shutNE c 0 k := by unfold rgNE; rw [if_neg hp, if_neg (by omega), if_neg (by omega), if_pos hw, hch]
  have eR : ∀ b, rgRE c k b = shutRE k b := fun b => by unfold rgRE; rw [if_neg hp, if_neg (by omega), if_neg (by omega), if_pos hw]
  have hroom := h.room
  have hcap := h.cap
  have hval := fun a => applyE_val hf a
  have ht := hk.rg.t
  have hh := hk.rg.h
  have w5 : ∀ b, (rgRE c k b).what = 5 := fun b => (rgRE_what c k b).trans hw
  have key : ∀ {m2 : MemM} {b : AnsM}, applyE m (rgNE c k) = (m2, b, true) → (U64 b.val → StepR c m s P Q cl k m2 (rgRE c k b)) → (applyE m (rgNE c k)).2.2 = true ∧ StepR c m s P Q cl k (step1 c (m, k)).1 (step1 c (m, k)).2 := fun {m2 b} ha hs => by
    have hb : U64 b.val := by have := hval (rgNE c k); rw [ha] at this; exact this
    rw [step1_ans hp ha, ha]
    exact ⟨rfl, hs hb⟩
  have nP : ∀ b, (rgRE c k b).what = 3 → 2 ≤ (rgRE c k b).pl → (rgRE c k b).pl ≤ 5 → ∃ p : Nat, p ≤ P ∧ (rgRE c k b).t = packI (nextI s p) false ∧ (4 ≤ (rgRE c k b).pl → (p : Int) < Q + c.caps.getD 0 0) := fun b e => by rw [w5] at e; omega
  have nD : ∀ b, pushDone (rgRE c k b) ↔ pushDone k := fun b => ⟨fun e => by have := e.1; rw [w5] at this; omega, fun e => by have := e.1; omega⟩
  have quiet : ∀ {m2 : MemM} {b : AnsM}, U64 b.val → Rg c m2 s P Q cl → ¬ casT c m k → ((rgRE c k b).pl = 2 → ∃ p : Nat, p ≤ P ∧ (rgRE c k b).t = packI (nextI s p) false) → (shutDone (rgRE c k b) ↔ shutDone k) → ((rgRE c k b).pl = 0 → cl = true ∧ (rgRE c k b).ok = 4) → StepR c m s P Q cl k m2 (rgRE c k b) := fun {m2 b} hb h1 h3 h4 h5 h6 =>
    .quiet h1 (hk.of hb (nP b) (fun e => by rw [w5] at e; omega) (fun _ => h4)) h3 (nD b) h5 (fun _ => h6)
  have hpl2 := hpl.2.2.1 hw
  have hps : k.pl = 1 ∨ k.pl = 2 := by omega
  rcases hps with e | e
  · have a1 : rgNE c k = ⟨1, 0, 0, 0, 0⟩ := by rw [eN]; unfold shutNE; rw [if_pos e]; rfl
    refine key (a1 ▸ apply_load (by omega) (by omega)) fun hb => ?_
    have hnc : ¬ casT c m k := fun hc => by have := hc.1; rw [a1] at this; exact absurd this (by simp)
    have hclw : closedB (m.words.getD 0 0) = cl := by rw [h.tail, packI_closed]
    refine quiet hb h hnc ?_ ?_ ?_ <;> rw [eR] <;> unfold shutRE <;> rw [if_pos e] <;> split
    · exact fun h1 => absurd h1 (by simp)
    · rename_i hcl
      intro _
      have hcl2 : cl = false := by
        have h1 : ¬ closedB (m.words.getD 0 0) = true := hcl
        rw [h.tail, packI_closed] at h1; simpa using h1
      subst hcl2
      exact ⟨P, Nat.le_refl _, h.tail⟩
    · unfold shutDone; simp [e]
    · unfold shutDone; simp [e]
    · rename_i hcl
      exact fun _ => ⟨hclw.symm.trans hcl, rfl⟩
    · exact fun h1 => absurd h1 (by simp)
  · obtain ⟨p, hp1, hp2⟩ := hk.shut hw e
    have hr := packI_half (nextI s p) (nextI_rng s p) false
    have a1 : rgNE c k = ⟨3, 0, k.t, packI (k.t / 2) true, 0⟩ := by rw [eN]; unfold shutNE; rw [if_neg (by omega)]; rfl
    by_cases hc : m.words.getD 0 0 = k.t
    · have ha := apply_cas (m := m) (a := 0) (o := k.t) (x := packI (k.t / 2) true) (by omega) (by omega) hc
      refine key (a1 ▸ ha) fun hb => ?_
      have hc2 := hc
      rw [h.tail, hp2] at hc2
      obtain ⟨h1, h2⟩ := packI_inj (nextI_rng s P) (nextI_rng s p) hc2
      have h3 := nextI_inj (by omega) (by omega) h1
      subst h3
      have hk2 : rgRE c k ⟨k.t, true, false, []⟩ = { k with pl := 0, ok := 1, ov := 0 } := by rw [eR]; unfold shutRE; rw [if_neg (by omega)]; rfl
      have hR := h.setTail (P2 := P) (cl2 := true) hroom
      rw [show packI (k.t / 2) true = packI (nextI s P) true by rw [hp2, hr]]
      refine .shut h2 hw hR (hk.of hb (fun e2 => by rw [w5] at e2; omega) (fun e2 => by rw [w5] at e2; omega) (fun _ h5 => ?_)) ⟨by rw [a1], by rw [a1], by rw [a1, ha]⟩ (fun h5 => by have := h5.2.1; omega) ?_
      · rw [hk2] at h5; exact absurd h5 (by show ¬ (0 : Int) = 2; decide)
      · rw [hk2]; exact ⟨hw, rfl, rfl⟩
    · have ha := apply_cas_no (m := m) (a := 0) (o := k.t) (x := packI (k.t / 2) true) (by omega) (by omega) hc
      refine key (a1 ▸ ha) fun hb => ?_
      have hnc : ¬ casT c m k := fun hc => by have := hc.2.2; rw [a1, ha] at this; exact absurd this (by simp)
      refine quiet hb h hnc ?_ ?_ ?_ <;> rw [eR] <;> unfold shutRE <;> rw [if_neg (by omega), if_neg (by simp)]
      · exact fun h1 => absurd h1 (by simp)
      · unfold shutDone; simp [e]
      · exact fun h1 => absurd h1 (by simp)
theorem count_stepR (h : Rg c m s P Q cl) (hf : m.fits) (hP : P ≤ 1000000) (hk : Mi c s P Q k) (hp : ¬ k.pl = 0) (hw : k.what = 6) : (applyE m (rgNE c k)).2.2 = true ∧ StepR c m s P Q cl k (step1 c (m, k)).1 (step1 c (m, k)).2 := by
  have hl := h.lens
  have hpl := hk.rg.pl
  have hch : k.chan.toNat = 0 := by rw [hk.chan]; rfl
  have hbase : c.base 0 = 0 := rfl
  have eN : rgNE c k = countNE c 0 k := by unfold rgNE; rw [if_neg hp, if_neg (by omega), if_neg (by omega), if_neg (by omega), hch]
  have eR : ∀ b, rgRE c k b = countRE k b := fun b => by unfold rgRE; rw [if_neg hp, if_neg (by omega), if_neg (by omega), if_neg (by omega)]
  have hroom := h.room
  have hcap := h.cap
  have hval := fun a => applyE_val hf a
  have ht := hk.rg.t
  have hh := hk.rg.h
  have w5 : ∀ b, (rgRE c k b).what = 6 := fun b => (rgRE_what c k b).trans hw
  have key : ∀ {m2 : MemM} {b : AnsM}, applyE m (rgNE c k) = (m2, b, true) → (U64 b.val → StepR c m s P Q cl k m2 (rgRE c k b)) → (applyE m (rgNE c k)).2.2 = true ∧ StepR c m s P Q cl k (step1 c (m, k)).1 (step1 c (m, k)).2 := fun {m2 b} ha hs => by
    have hb : U64 b.val := by have := hval (rgNE c k); rw [ha] at this; exact this
    rw [step1_ans hp ha, ha]
    exact ⟨rfl, hs hb⟩
  have nP : ∀ b, (rgRE c k b).what = 3 → 2 ≤ (rgRE c k b).pl → (rgRE c k b).pl ≤ 5 → ∃ p : Nat, p ≤ P ∧ (rgRE c k b).t = packI (nextI s p) false ∧ (4 ≤ (rgRE c k b).pl → (p : Int) < Q + c.caps.getD 0 0) := fun b e => by rw [w5] at e; omega
  have nD : ∀ b, pushDone (rgRE c k b) ↔ pushDone k := fun b => ⟨fun e => by have := e.1; rw [w5] at this; omega, fun e => by have := e.1; omega⟩
  have a1 : rgNE c k = ⟨1, 0, 0, 0, 0⟩ ∨ rgNE c k = ⟨1, 1, 0, 0, 0⟩ := by
    rw [eN]; unfold countNE
    split
    · exact .inr rfl
    · exact .inl rfl
  have fin : ∀ {b : AnsM}, U64 b.val → ¬ casT c m k → StepR c m s P Q cl k m (rgRE c k b) := fun {b} hb hn =>
    .quiet h (hk.of hb (nP b) (fun e => by rw [w5] at e; omega) (fun e => by rw [w5] at e; omega)) hn (nD b) ⟨fun e => by have := e.1; rw [w5] at this; omega, fun e => by have := e.1; omega⟩ (fun e => by rw [w5] at e; omega)
  rcases a1 with a1 | a1
  · exact key (a1 ▸ apply_load (by omega) (by omega)) fun hb => fin hb fun hc => by have := hc.1; rw [a1] at this; exact absurd this (by simp)
  · exact key (a1 ▸ apply_load (by omega) (by omega)) fun hb => fin hb fun hc => by have := hc.1; rw [a1] at this; exact absurd this (by simp)
/-- any machine of the ring -/
theorem ring_stepR (h : Rg c m s P Q cl) (hf : m.fits) (hP : P ≤ 1000000) (hk : Mi c s P Q k) (hp : ¬ k.pl = 0) : (applyE m (rgNE c k)).2.2 = true ∧ StepR c m s P Q cl k (step1 c (m, k)).1 (step1 c (m, k)).2 := by
  rcases hk.rg.what with hw | hw | hw | hw
  · exact push_stepR h hf hP hk hp hw
  · exact pop_stepR h hf hP hk hp hw
  · exact shut_stepR h hf hP hk hp hw
  · exact count_stepR h hf hP hk hp hw
end
end Go.Proofs.Ytjnlkemdaffgbaa
