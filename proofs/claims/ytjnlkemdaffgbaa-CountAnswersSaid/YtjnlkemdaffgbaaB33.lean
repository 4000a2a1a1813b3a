import Derived.Deep.Fields
import Derived.Deep.Slices
import Derived.Test.YtjnlkemdaffgbaaB32
import Derived.Test.YtjnlkemdaffgbaaB28
import Derived.Test.YtjnlkemdaffgbaaB05
import Derived.Test.YtjnlkemdaffgbaaB13
import Derived.Test.YtjnlkemdaffgbaaB01
set_option linter.unusedVariables false
set_option linter.unusedSimpArgs false
/- The ring while a list of machines interleaves, plainly: what has happened (records of accesses and past memories). -/
namespace Go.Proofs.Ytjnlkemdaffgbaa
open Go.ChangeShapes Go.WideShapes Go.ChangeAt Go.RowKit
set_option maxRecDepth 100000

/-- machines, their memory, and what has happened: the thread of each access, whether it was a Cas of Tail that took effect, and the memories before -/
structure Hst where
  m : MemM
  l : List MachM
  t : List (Nat × Bool)
  p : List MemM
def casTB (c : ConfM) (m : MemM) (k : MachM) : Bool := (rgNE c k).kind == 3 && ((rgNE c k).addr == 0 && (applyE m (rgNE c k)).2.1.ok)
theorem casTB_iff (c : ConfM) (m : MemM) (k : MachM) : casTB c m k = true ↔ casT c m k := by unfold casTB casT; simp
def hstep (c : ConfM) (h : Hst) (i : Nat) : Hst :=
  match h.l[i]? with
  | none => h
  | some k => if k.pl = 0 then h else ⟨(step1 c (h.m, k)).1, h.l.set i (step1 c (h.m, k)).2, h.t ++ [(i, casTB c h.m k)], h.p ++ [h.m]⟩
theorem hstep_stepL (c : ConfM) (h : Hst) (i : Nat) : ((hstep c h i).m, (hstep c h i).l) = stepL c (h.m, h.l) i := by
  unfold hstep stepL
  cases e : h.l[i]? with
  | none => rfl
  | some k =>
    dsimp only
    by_cases hp : k.pl = 0
    · rw [if_pos hp, step1_end c h.m k hp]
      obtain ⟨hi, hk⟩ := List.getElem?_eq_some_iff.1 e
      rw [← hk]
      simp
    · rw [if_neg hp]
/-- Tail stood so before -/
structure Le (a : Nat × Bool) (b : Nat × Bool) : Prop where
  le : a.1 ≤ b.1
  cl : a.2 = true → b.2 = true ∧ b.1 = a.1
theorem Le.refl (a : Nat × Bool) : Le a a := ⟨Nat.le_refl _, fun h => ⟨h, rfl⟩⟩
theorem Le.trans {a b d : Nat × Bool} (h : Le a b) (h2 : Le b d) : Le a d := ⟨by have := h.le; have := h2.le; omega, fun e => by
  have h3 := h.cl e
  have h4 := h2.cl h3.1
  exact ⟨h4.1, h4.2.trans h3.2⟩⟩
theorem Adv.leT {P Q P2 Q2 : Nat} {cl cl2 : Bool} (h : Adv P Q cl P2 Q2 cl2) : Le (P, cl) (P2, cl2) := ⟨by show P ≤ P2; rcases h.push with e | ⟨e, -⟩ <;> omega, fun e => h.shut e⟩
/-- two memories, one behind the other -/
def Pair (c : ConfM) (s : Int) (a b : MemM) : Prop := ∃ (P Q : Nat) (cl : Bool) (P2 Q2 : Nat) (cl2 : Bool), Rg c a s P Q cl ∧ Rg c b s P2 Q2 cl2 ∧ Adv P Q cl P2 Q2 cl2
/-- what a machine that counts knows -/
structure Cnt (c : ConfM) (s : Int) (h : Hst) (P : Nat) (cl : Bool) (j : Nat) (k : MachM) : Prop where
  two : k.pl = 2 → ∃ (p : Nat) (b : Bool), k.t = packI (nextI s p) b ∧ Le (p, b) (P, cl) ∧ p ≤ 1000000
  three : k.pl = 3 → ∃ (p : Nat) (b : Bool) (P1 Q1 : Nat) (cl1 : Bool) (i : Nat) (m1 : MemM), k.t = packI (nextI s p) b ∧ p ≤ 1000000 ∧ h.p[i]? = some m1 ∧ (h.t[i]?.map Prod.fst) = some j ∧ Rg c m1 s P1 Q1 cl1 ∧ k.h = nextI s Q1 ∧ Le (p, b) (P1, cl1) ∧ Le (P1, cl1) (P, cl) ∧ P1 ≤ 1000000
  done : k.pl = 0 → ∃ (P1 Q1 : Nat) (cl1 : Bool) (i : Nat) (m1 : MemM), h.p[i]? = some m1 ∧ (h.t[i]?.map Prod.fst) = some j ∧ Rg c m1 s P1 Q1 cl1 ∧ k.ok = 9 ∧ k.ov = (P1 : Int) - Q1
/-- the process by which a law follows the accesses that changed Tail: whether the last one closed the ring; none: one came behind it -/
def follow (l : List MachM) (acc : Option Bool) (x : Nat × Bool) : Option Bool :=
  match acc with
  | none => none
  | some closed => if x.2 = true then (if closed = true then none else some ((l[x.1]?.map MachM.what) == some 5)) else some closed
structure HI (c : ConfM) (s : Int) (h : Hst) (P Q : Nat) (cl : Bool) : Prop where
  li : Li c s (h.m, h.l) P Q cl
  len : h.t.length = h.p.length
  pair : ∀ i a b, (h.p ++ [h.m])[i]? = some a → (h.p ++ [h.m])[i + 1]? = some b → Pair c s a b
  fold : h.t.foldl (follow h.l) (some false) = some cl
  cnt : ∀ j k, h.l[j]? = some k → k.what = 6 → Cnt c s h P cl j k
theorem follow_congr {l l2 : List MachM} (hw : ∀ i : Nat, l[i]?.map MachM.what = l2[i]?.map MachM.what) (t : List (Nat × Bool)) (a : Option Bool) : t.foldl (follow l) a = t.foldl (follow l2) a := by
  induction t generalizing a with
  | nil => rfl
  | cons x t ih =>
    rw [List.foldl_cons, List.foldl_cons, ih]
    congr 1
    unfold follow
    rw [hw]
theorem HI.start {c : ConfM} (hg : c.good) (hk : 1 ≤ c.caps.length) (hf : (newE c).fits) (l : List MachM) (hl : ∀ k ∈ l, Fresh c k) : HI c (c.st 0) ⟨newE c, l, [], []⟩ 0 0 false := by
  refine ⟨Li.start hg hk hf l hl, rfl, fun i a b h1 h2 => ?_, rfl, fun j k hj hw => ?_⟩
  · have : (([] : List MemM) ++ [newE c])[i + 1]? = none := by simp
    have h3 : (([] : List MemM) ++ [newE c])[i + 1]? = some b := h2
    rw [this] at h3
    cases h3
  · have h1 := (hl k (List.mem_of_getElem? hj)).pl
    exact ⟨fun e => by omega, fun e => by omega, fun e => by omega⟩
theorem Cnt.keep {c : ConfM} {s : Int} {h : Hst} {P P2 : Nat} {cl cl2 : Bool} {j : Nat} {k : MachM} (hc : Cnt c s h P cl j k) (hle : Le (P, cl) (P2, cl2)) {m2 : MemM} {l2 : List MachM} {x : Nat × Bool} {m : MemM} (hlen : h.t.length = h.p.length) : Cnt c s ⟨m2, l2, h.t ++ [x], h.p ++ [m]⟩ P2 cl2 j k := by
  have kp : ∀ {i : Nat} {m1 : MemM}, h.p[i]? = some m1 → (h.t[i]?.map Prod.fst) = some j → (h.p ++ [m])[i]? = some m1 ∧ ((h.t ++ [x])[i]?.map Prod.fst) = some j := fun {i m1} h1 h2 => by
    have hi := (List.getElem?_eq_some_iff.1 h1).1
    rw [List.getElem?_append_left hi, List.getElem?_append_left (by omega)]
    exact ⟨h1, h2⟩
  refine ⟨fun e => ?_, fun e => ?_, fun e => ?_⟩
  · obtain ⟨p, b, h1, h2, h3⟩ := hc.two e
    exact ⟨p, b, h1, h2.trans hle, h3⟩
  · obtain ⟨p, b, P1, Q1, cl1, i, m1, h1, h2, h3, h4, h5, h6, h7, h8, h9⟩ := hc.three e
    obtain ⟨h3, h4⟩ := kp h3 h4
    exact ⟨p, b, P1, Q1, cl1, i, m1, h1, h2, h3, h4, h5, h6, h7, h8.trans hle, h9⟩
  · obtain ⟨P1, Q1, cl1, i, m1, h3, h4, h5⟩ := hc.done e
    obtain ⟨h3, h4⟩ := kp h3 h4
    exact ⟨P1, Q1, cl1, i, m1, h3, h4, h5⟩
theorem rest_of {s : Int} {P Q : Nat} (h : Q ≤ P) (hP : P ≤ 1000000) : restI (nextI s P) (nextI s Q) = (P : Int) - Q := by unfold restI nextI; omega
theorem HI.step {c : ConfM} {s : Int} {h : Hst} {P Q : Nat} {cl : Bool} (H : HI c s h P Q cl) (hn : h.l.length ≤ 100000) (i : Nat) (hi : i < h.l.length) : ∃ P2 Q2 cl2, HI c s (hstep c h i) P2 Q2 cl2 ∧ P ≤ P2 ∧ Q ≤ Q2 := by
  obtain ⟨P2, Q2, cl2, hL, hA, hC, hp3, hp5⟩ := H.li.step hn i hi
  obtain ⟨k, hk⟩ : ∃ k, h.l[i] = k := ⟨_, rfl⟩
  have hke : h.l[i]? = some k := by rw [List.getElem?_eq_getElem hi, hk]
  have hC2 : (k.pl ≠ 0 ∧ casT c h.m k) ↔ (P2 = P + 1 ∨ (cl = false ∧ cl2 = true)) := hk ▸ hC
  have hp3' : P2 = P + 1 → k.what = 3 := hk ▸ hp3
  have hp5' : cl = false → cl2 = true → k.what = 5 := hk ▸ hp5
  have hst := hstep_stepL c h i
  have hle := hA.leT
  have hPle : P ≤ P2 := hle.le
  have hQle : Q ≤ Q2 := by rcases hA.pop with e | e <;> omega
  refine ⟨P2, Q2, cl2, ?_, hPle, hQle⟩
  by_cases hp : k.pl = 0
  · have e : hstep c h i = h := by unfold hstep; rw [hke]; exact if_pos hp
    rw [← hst, e] at hL
    have h1 : P2 = P := by rw [← hL.pushes, ← H.li.pushes]
    have h2 : cl2 = cl := by rw [← hL.closed, ← H.li.closed]
    have h3 : Q2 = Q := by
      have e1 := hL.rg.head
      have e2 := H.li.rg.head
      have r1 := hL.rg.room
      have r2 := H.li.rg.room
      have l1 := H.li.le
      have l2 := List.countP_le_length (p := isB 3) (l := h.l)
      rw [e2] at e1
      have : P ≤ h.l.countP (isB 3) := l1
      exact (nextI_inj (s := s) (by omega) (by omega) e1).symm
    rw [e]; subst h1 h2 h3
    exact H
  · have e : hstep c h i = ⟨(step1 c (h.m, k)).1, h.l.set i (step1 c (h.m, k)).2, h.t ++ [(i, casTB c h.m k)], h.p ++ [h.m]⟩ := by unfold hstep; rw [hke]; exact if_neg hp
    rw [← hst] at hL
    rw [e] at hL ⊢
    have hwh := step1_what c h.m k
    have hww : ∀ q : Nat, h.l[q]?.map MachM.what = (h.l.set i (step1 c (h.m, k)).2)[q]?.map MachM.what := fun q => by
      by_cases hq : i = q
      · subst hq; rw [hke]; simp [hi, hwh]
      · simp [List.getElem?_set, hq]
    have hPl : P ≤ 100000 := by
      have l1 : P ≤ h.l.countP (isB 3) := H.li.le
      have l2 := List.countP_le_length (p := isB 3) (l := h.l)
      omega
    refine ⟨hL, by show (h.t ++ [_]).length = (h.p ++ [_]).length; rw [List.length_append, List.length_append, H.len]; rfl, fun q a b h1 h2 => ?_, ?_, fun j k2 hj hw => ?_⟩
    · have h1' : ((h.p ++ [h.m]) ++ [(step1 c (h.m, k)).1])[q]? = some a := h1
      have h2' : ((h.p ++ [h.m]) ++ [(step1 c (h.m, k)).1])[q + 1]? = some b := h2
      have hlen : (h.p ++ [h.m]).length = h.p.length + 1 := by simp
      by_cases hq : q + 1 < h.p.length + 1
      · rw [List.getElem?_append_left (by omega)] at h1' h2'
        exact H.pair q a b h1' h2'
      · have hq2 : q + 1 < (h.p ++ [h.m] ++ [(step1 c (h.m, k)).1]).length := (List.getElem?_eq_some_iff.1 h2').1
        have hq3 : q = h.p.length := by simp at hq2; omega
        subst hq3
        rw [List.getElem?_append_left (by omega), List.getElem?_append_right (Nat.le_refl _)] at h1'
        rw [List.getElem?_append_right (by omega)] at h2'
        simp at h1' h2'
        subst h1'; subst h2'
        exact ⟨P, Q, cl, P2, Q2, cl2, H.li.rg, hL.rg, hA⟩
    · show (h.t ++ [(i, casTB c h.m k)]).foldl (follow (h.l.set i _)) (some false) = some cl2
      rw [List.foldl_append, ← follow_congr hww h.t, H.fold, List.foldl_cons, List.foldl_nil]
      unfold follow
      dsimp only
      by_cases hct : casT c h.m k
      · rw [if_pos ((casTB_iff c h.m k).2 hct), ← hww, hke]
        rcases hC2.1 ⟨hp, hct⟩ with h1 | ⟨h1, h2⟩
        · have h3 := hp3' h1
          rcases hA.push with h4 | ⟨-, h4, h5⟩
          · omega
          · rw [h4, h5, if_neg (by simp)]
            simp [h3]
        · rw [h1, h2, if_neg (by simp)]
          simp [hp5' h1 h2]
      · have h0 : casTB c h.m k = false := by
          cases hb : casTB c h.m k with
          | false => rfl
          | true => exact absurd ((casTB_iff c h.m k).1 hb) hct
        rw [h0, if_neg (by simp)]
        have h1 : ¬ (P2 = P + 1 ∨ (cl = false ∧ cl2 = true)) := fun h2 => hct (hC2.2 h2).2
        cases cl with
        | true => rw [(hA.shut rfl).1]
        | false =>
          cases cl2 with
          | false => rfl
          | true => exact absurd (.inr ⟨rfl, rfl⟩) h1
    · have hj' : (h.l.set i (step1 c (h.m, k)).2)[j]? = some k2 := hj
      by_cases hij : i = j
      · subst hij
        have hk2 : k2 = (step1 c (h.m, k)).2 := by
          rw [List.getElem?_set] at hj'
          simp [hi] at hj'
          exact hj'.symm
        have hw6 : k.what = 6 := by rw [← hwh, ← hk2]; exact hw
        have hmi := H.li.mi k (List.mem_of_getElem? hke)
        have hC6 := H.cnt i k hke hw6
        have hl5 : (5 : Int) < h.m.words.length := H.li.rg.lens
        have hch : k.chan.toNat = 0 := by rw [hmi.chan]; rfl
        have eN : rgNE c k = countNE c 0 k := by unfold rgNE; rw [if_neg hp, if_neg (by omega), if_neg (by omega), if_neg (by omega), hch]
        have eR : ∀ b, rgRE c k b = countRE k b := fun b => by unfold rgRE; rw [if_neg hp, if_neg (by omega), if_neg (by omega), if_neg (by omega)]
        have hpl := hmi.rg.pl
        have hps : k.pl = 1 ∨ k.pl = 2 ∨ k.pl = 3 := by have := hpl.2.2.2 hw6; omega
        have hi1 : (h.p ++ [h.m])[h.p.length]? = some h.m := by simp
        have hi2 : ∀ x : Nat × Bool, x.1 = i → ((h.t ++ [x])[h.p.length]?.map Prod.fst) = some i := fun x hx => by rw [← H.len]; simp [hx]
        -- the machine that counts changes nothing: P2 = P, cl2 = cl
        have hPQ : P2 = P ∧ cl2 = cl := by
          have h1 : ¬ P2 = P + 1 := fun e1 => by have := hp3' e1; omega
          have h2 : ¬ (cl = false ∧ cl2 = true) := fun e1 => by have := hp5' e1.1 e1.2; omega
          rcases hA.push with e1 | ⟨e1, -⟩
          · refine ⟨e1, ?_⟩
            cases cl with
            | true => exact (hA.shut rfl).1
            | false => cases cl2 with
              | false => rfl
              | true => exact absurd ⟨rfl, rfl⟩ h2
          · exact absurd e1 h1
        obtain ⟨hPe, hce⟩ := hPQ
        rw [hk2, hPe, hce]
        rcases hps with e1 | e1 | e1
        · have a1 : rgNE c k = ⟨1, 0, 0, 0, 0⟩ := by rw [eN]; unfold countNE; rw [if_neg (by omega)]; rfl
          have hs := step1_ans hp (a1 ▸ apply_load (m := h.m) (a := 0) (by omega) (by omega))
          rw [eR] at hs
          unfold countRE at hs
          rw [if_pos e1] at hs
          rw [hs]
          exact ⟨fun _ => ⟨P, cl, H.li.rg.tail, Le.refl _, by omega⟩, fun e2 => absurd e2 (by simp), fun e2 => absurd e2 (by simp)⟩
        · have a1 : rgNE c k = ⟨1, 1, 0, 0, 0⟩ := by rw [eN]; unfold countNE; rw [if_pos e1]; rfl
          have hs := step1_ans hp (a1 ▸ apply_load (m := h.m) (a := 1) (by omega) (by omega))
          rw [eR] at hs
          unfold countRE at hs
          rw [if_neg (by omega), if_pos e1] at hs
          rw [hs]
          obtain ⟨p, b, h1, h2, h3⟩ := hC6.two e1
          exact ⟨fun e2 => absurd e2 (by simp), fun _ => ⟨p, b, P, Q, cl, h.p.length, h.m, h1, h3, hi1, hi2 _ rfl, H.li.rg, H.li.rg.head, h2, Le.refl _, by omega⟩, fun e2 => absurd e2 (by simp)⟩
        · have a1 : rgNE c k = ⟨1, 0, 0, 0, 0⟩ := by rw [eN]; unfold countNE; rw [if_neg (by omega)]; rfl
          have hs := step1_ans hp (a1 ▸ apply_load (m := h.m) (a := 0) (by omega) (by omega))
          rw [eR] at hs
          unfold countRE at hs
          rw [if_neg (by omega), if_neg (by omega)] at hs
          rw [hs]
          have htl : h.m.words.getD (Int.toNat 0) 0 = packI (nextI s P) cl := H.li.rg.tail
          by_cases ht : h.m.words.getD (Int.toNat 0) 0 = k.t
          · rw [if_pos (show AnsM.val ⟨h.m.words.getD (Int.toNat 0) 0, false, false, []⟩ = k.t from ht)]
            obtain ⟨p, b, P1, Q1, cl1, q, m1, h1, h2, h3, h4, h5, h6, h7, h8, h9⟩ := hC6.three e1
            rw [htl, h1] at ht
            obtain ⟨e2, e3⟩ := packI_inj (nextI_rng s P) (nextI_rng s p) ht
            have e4 := nextI_inj (by omega) (by omega) e2
            have e5 : P1 = p := by
              have a1 : p ≤ P1 := h7.le
              have b1 : P1 ≤ P := h8.le
              omega
            have hv : restI (k.t / 2) k.h = (P1 : Int) - Q1 := by rw [h1, h6, packI_half _ (nextI_rng s p), ← e5]; exact rest_of h5.room.1 h9
            have hq := (List.getElem?_eq_some_iff.1 h3).1
            refine ⟨fun e2 => absurd e2 (by simp), fun e2 => absurd e2 (by simp), fun _ => ⟨P1, Q1, cl1, q, m1, ?_, ?_, h5, rfl, hv⟩⟩
            · show (h.p ++ [h.m])[q]? = some m1
              rw [List.getElem?_append_left hq]; exact h3
            · show ((h.t ++ [_])[q]?.map Prod.fst) = some i
              rw [List.getElem?_append_left (by rw [H.len]; exact hq)]; exact h4
          · rw [if_neg (show ¬ AnsM.val ⟨h.m.words.getD (Int.toNat 0) 0, false, false, []⟩ = k.t from ht)]
            exact ⟨fun _ => ⟨P, cl, htl, Le.refl _, by omega⟩, fun e2 => absurd e2 (by simp), fun e2 => absurd e2 (by simp)⟩
      · have hj2 : h.l[j]? = some k2 := by rw [List.getElem?_set] at hj'; simpa [hij] using hj'
        exact (H.cnt j k2 hj2 hw).keep hle H.len
end Go.Proofs.Ytjnlkemdaffgbaa
/- The ring while a list of machines interleaves, plainly: what the laws of the whole ring ask. -/
namespace Go.Proofs.Ytjnlkemdaffgbaa
open Go.ChangeShapes Go.WideShapes Go.ChangeAt Go.RowKit
set_option maxRecDepth 100000

def hrun (c : ConfM) (h : Hst) (is : List Nat) : Hst := is.foldl (hstep c) h
theorem hrun_runL (c : ConfM) (h : Hst) (is : List Nat) : ((hrun c h is).m, (hrun c h is).l) = runL c (h.m, h.l) is := by
  unfold hrun runL
  induction is generalizing h with
  | nil => rfl
  | cons i is ih => rw [List.foldl_cons, List.foldl_cons, ih, hstep_stepL]
theorem hstep_len (c : ConfM) (h : Hst) (i : Nat) : (hstep c h i).l.length = h.l.length := by
  have e := hstep_stepL c h i
  have := stepL_len c (h.m, h.l) i
  rw [← e] at this
  exact this
theorem HI.run {c : ConfM} {s : Int} {h : Hst} {P Q : Nat} {cl : Bool} (H : HI c s h P Q cl) (hn : h.l.length ≤ 100000) (is : List Nat) (hi : ∀ i ∈ is, i < h.l.length) : ∃ P2 Q2 cl2, HI c s (hrun c h is) P2 Q2 cl2 := by
  induction is generalizing h P Q cl with
  | nil => exact ⟨P, Q, cl, H⟩
  | cons i is ih =>
    obtain ⟨P1, Q1, cl1, H1, -, -⟩ := H.step hn i (hi i (List.mem_cons_self ..))
    have hl := hstep_len c h i
    exact ih H1 (by omega) fun j hj => by rw [hl]; exact hi j (List.mem_cons_of_mem _ hj)
/-- any memory that was or is -/
theorem HI.each {c : ConfM} {s : Int} {h : Hst} {P Q : Nat} {cl : Bool} (H : HI c s h P Q cl) (i : Nat) (a : MemM) (ha : (h.p ++ [h.m])[i]? = some a) : ∃ P1 Q1 cl1, Rg c a s P1 Q1 cl1 := by
  have hlen : (h.p ++ [h.m]).length = h.p.length + 1 := by simp
  have hi := (List.getElem?_eq_some_iff.1 ha).1
  by_cases hl : i + 1 < (h.p ++ [h.m]).length
  · obtain ⟨P1, Q1, cl1, _, _, _, h1, -⟩ := H.pair i a _ ha (List.getElem?_eq_getElem hl)
    exact ⟨P1, Q1, cl1, h1⟩
  · have e : i = h.p.length := by omega
    subst e
    rw [List.getElem?_append_right (Nat.le_refl _)] at ha
    simp at ha
    subst ha
    exact ⟨P, Q, cl, H.li.rg⟩
/-- how many values a ring holds -/
theorem Rg.used {c : ConfM} {m : MemM} {s : Int} {P Q : Nat} {cl : Bool} (h : Rg c m s P Q cl) : restI (m.words.getD 0 0 / 2) (m.words.getD 1 0) = (P : Int) - Q ∧ (0 : Int) ≤ (P : Int) - Q ∧ (P : Int) - Q ≤ c.caps.getD 0 0 := by
  have hr := h.room
  have hc := h.cap
  refine ⟨?_, by omega, by omega⟩
  rw [h.tail, h.head, packI_half _ (nextI_rng s P)]
  unfold restI nextI
  omega
/-- neither Head nor Tail goes back, and Tail stays once it is closed -/
theorem Pair.facts {c : ConfM} {s : Int} {a b : MemM} (h : Pair c s a b) : (b.words.getD 1 0 = a.words.getD 1 0 ∨ b.words.getD 1 0 = nextI (a.words.getD 1 0) 1) ∧ (b.words.getD 0 0 / 2 = a.words.getD 0 0 / 2 ∨ b.words.getD 0 0 / 2 = nextI (a.words.getD 0 0 / 2) 1) ∧ (closedB (a.words.getD 0 0) = true → b.words.getD 0 0 = a.words.getD 0 0)
    ∧ (0 ≤ a.words.getD 1 0 ∧ a.words.getD 1 0 < 9223372036854775808) ∧ (0 ≤ a.words.getD 0 0 / 2 ∧ a.words.getD 0 0 / 2 < 9223372036854775808) := by
  obtain ⟨P, Q, cl, P2, Q2, cl2, ha, hb, hA⟩ := h
  rw [ha.tail, ha.head, hb.tail, hb.head, packI_half _ (nextI_rng s P), packI_half _ (nextI_rng s P2), packI_closed]
  refine ⟨?_, ?_, fun e => ?_, nextI_rng s Q, nextI_rng s P⟩
  · rcases hA.pop with e | e
    · rw [e]; exact .inl rfl
    · rw [e]; right; rw [nextI_next]; rfl
  · rcases hA.push with e | ⟨e, -⟩
    · rw [e]; exact .inl rfl
    · rw [e]; right; rw [nextI_next]; rfl
  · have := hA.shut e; rw [this.1, this.2, e]
/-- of the machines that close exactly one did, and nothing changed Tail behind it -/
theorem ring_shut {c : ConfM} (hg : c.good) (hk : 1 ≤ c.caps.length) (hf : (newE c).fits) (l : List MachM) (hl : ∀ k ∈ l, Fresh c k) (hn : l.length ≤ 1000) (is : List Nat) (hi : ∀ i ∈ is, i < l.length) (j : Nat) (hj : j < l.length) (hw : l[j].what = 5) (hc : 2 * l.length + 6 ≤ is.count j) :
    (hrun c ⟨newE c, l, [], []⟩ is).l.countP shutB = 1 ∧ (hrun c ⟨newE c, l, [], []⟩ is).t.foldl (follow (hrun c ⟨newE c, l, [], []⟩ is).l) (some false) = some true := by
  have h0 := HI.start hg hk hf l hl
  obtain ⟨P2, Q2, cl2, H⟩ := h0.run (by show l.length ≤ 100000; omega) is hi
  have hd : dL (newE c, l) ≤ l.length + 1 := by
    rw [h0.li.dEq]
    have := List.countP_le_length (p := isB 3) (l := l)
    show l.countP (isB 3) - 0 + _ ≤ _
    simp
    omega
  obtain ⟨k2, e1, e2, e3⟩ := h0.li.ended (by show l.length ≤ 100000; omega) is hi j l[j] (List.getElem?_eq_getElem hj) (.inl hw) (by show 2 * dL (newE c, l) + 4 ≤ _; omega)
  have er := hrun_runL c ⟨newE c, l, [], []⟩ is
  have e1' : (hrun c ⟨newE c, l, [], []⟩ is).l[j]? = some k2 := by
    have : (hrun c ⟨newE c, l, [], []⟩ is).l = (runL c (newE c, l) is).2 := congrArg Prod.snd er
    rw [this]; exact e1
  have hcl := (H.li.ends k2 (List.mem_of_getElem? e1') (by rw [e2]; exact hw) e3).1
  refine ⟨?_, by rw [H.fold, hcl]⟩
  have := H.li.shuts
  rw [if_pos hcl] at this
  exact this
/-- a number that was counted was true at one of the accesses of its machine -/
theorem count_truth {c : ConfM} (hg : c.good) (hk : 1 ≤ c.caps.length) (hf : (newE c).fits) (l : List MachM) (hl : ∀ k ∈ l, Fresh c k) (hn : l.length ≤ 1000) (is : List Nat) (hi : ∀ i ∈ is, i < l.length) (j : Nat) (hj : j < l.length) (hw : l[j].what = 6) (hc : 2 * l.countP (isB 3) + 6 ≤ is.count j) :
    ∃ k, (hrun c ⟨newE c, l, [], []⟩ is).l[j]? = some k ∧ k.pl = 0 ∧ k.ok = 9 ∧ 0 ≤ k.ov ∧ k.ov ≤ c.caps.getD 0 0 ∧ ∃ (i : Nat) (m1 : MemM), (hrun c ⟨newE c, l, [], []⟩ is).p[i]? = some m1 ∧ ((hrun c ⟨newE c, l, [], []⟩ is).t[i]?.map Prod.fst) = some j ∧ restI (m1.words.getD 0 0 / 2) (m1.words.getD 1 0) = k.ov := by
  have h0 := HI.start hg hk hf l hl
  obtain ⟨P2, Q2, cl2, H⟩ := h0.run (by show l.length ≤ 100000; omega) is hi
  have hd : dL (newE c, l) = l.countP (isB 3) + 1 := by
    rw [h0.li.dEq]
    show l.countP (isB 3) - 0 + _ = _
    simp
  obtain ⟨k2, e1, e2, e3⟩ := h0.li.ended (by show l.length ≤ 100000; omega) is hi j l[j] (List.getElem?_eq_getElem hj) (.inr hw) (by show 2 * dL (newE c, l) + 4 ≤ _; omega)
  have er := hrun_runL c ⟨newE c, l, [], []⟩ is
  have e1' : (hrun c ⟨newE c, l, [], []⟩ is).l[j]? = some k2 := by
    have : (hrun c ⟨newE c, l, [], []⟩ is).l = (runL c (newE c, l) is).2 := congrArg Prod.snd er
    rw [this]; exact e1
  obtain ⟨P1, Q1, cl1, i, m1, h1, h2, h3, h4, h5⟩ := (H.cnt j k2 e1' (by rw [e2]; exact hw)).done e3
  obtain ⟨u1, u2, u3⟩ := h3.used
  exact ⟨k2, e1', e3, h4, by omega, by omega, i, m1, h1, h2, by rw [u1, h5]⟩
end Go.Proofs.Ytjnlkemdaffgbaa
/- Layer 11: the world runs as the plain ring does. -/
namespace Go.Proofs.Ytjnlkemdaffgbaa
open Go.ChangeShapes Go.WideShapes Go.ChangeAt Go.RowKit
set_option maxRecDepth 100000

theorem stepE_stepL (c : ConfM) (m : MemM) (l : List MachM) (i : Nat) : stepE rgNE rgRE c m l i = stepL c (m, l) i := by
  unfold stepE stepL
  cases h : l[i]? with
  | none => simp [h]
  | some k =>
    have hs : l.set i k = l := by
      obtain ⟨hi, e⟩ := List.getElem?_eq_some_iff.1 h
      rw [← e]; exact List.set_getElem_self hi
    simp only [h]
    unfold step1
    by_cases h1 : k.pl = 0
    · simp only [if_pos h1, hs]
    · simp only [if_neg h1]
      by_cases h2 : (applyE m (rgNE c k)).2.2 = true
      · simp only [if_pos h2]
      · simp only [if_neg h2, hs]
theorem runE_runL (c : ConfM) (is : List Nat) (s : MemM × List MachM) : runE rgNE rgRE c s is = runL c s is := by
  induction is generalizing s with
  | nil => rfl
  | cons i is ih =>
    show runE rgNE rgRE c (stepE rgNE rgRE c s.1 s.2 i) is = runL c (stepL c s i) is
    rw [ih, stepE_stepL]
theorem pickI_lt (n : Nat) (p : Int) (hn : 1 ≤ n) : pickI n p < n := by
  unfold pickI
  have := Int.tmod_lt_of_pos p (b := (n : Int)) (by omega)
  omega
theorem playL_lt (l : List Int) (most turns n : Nat) (hn : 1 ≤ n) : ∀ i ∈ playL l most turns n, i < n := fun i hi => by
  unfold playL at hi
  rw [List.mem_append] at hi
  rcases hi with hi | hi
  · obtain ⟨p, -, rfl⟩ := List.mem_map.1 hi
    exact pickI_lt n p hn
  · obtain ⟨r, hr, hi⟩ := List.mem_flatten.1 hi
    rw [List.eq_of_mem_replicate hr] at hi
    exact List.mem_range.1 hi
theorem playL_count (l : List Int) (most turns n j : Nat) (hj : j < n) : turns ≤ (playL l most turns n).count j := by
  unfold playL
  rw [List.count_append, count_turns turns n j hj]
  omega
theorem countP_take {p : MachM → Bool} (l : List MachM) (i : Nat) (k : MachM) (h : l[i]? = some k) : (l.take (i + 1)).countP p = (l.take i).countP p + (if p k = true then 1 else 0) := by
  rw [List.take_add_one, h, List.countP_append]
  show _ + [k].countP p = _
  rw [List.countP_cons, List.countP_nil, Nat.zero_add]
/-- a ring machine's access is always granted -/
theorem rg_granted (c : ConfM) (k : MachM) (m : MemM) (hp : ¬ k.pl = 0) : (applyE m (rgNE c k)).2.2 = true := by
  have key : ∀ a : AccM, a.kind = 1 ∨ a.kind = 2 ∨ a.kind = 3 ∨ a.kind = 5 ∨ a.kind = 6 → (applyE m a).2.2 = true := fun a ha => by
    unfold applyE grantB
    rcases ha with h | h | h | h | h <;> rw [h] <;> rfl
  refine key _ ?_
  unfold rgNE
  rw [if_neg hp]
  unfold pushNE popNE shutNE countNE
  repeat' split
  all_goals first | exact .inl rfl | exact .inr (.inl rfl) | exact .inr (.inr (.inl rfl)) | exact .inr (.inr (.inr (.inl rfl))) | exact .inr (.inr (.inr (.inr rfl)))
def hstT (h : Hst) : (MemM × List MachM) × (List Int × List MemM) := ((h.m, h.l), (h.t.map fun x => (x.1 : Int), h.p))
theorem stepT_hstep (c : ConfM) (h : Hst) (i : Nat) : stepT rgNE rgRE c (hstT h) i = hstT (hstep c h i) := by
  have e1 : stepE rgNE rgRE c h.m h.l i = ((hstep c h i).m, (hstep c h i).l) := by rw [stepE_stepL, hstep_stepL]
  show (stepE rgNE rgRE c h.m h.l i, tpE rgNE c h.m h.l i (h.t.map (fun x => (x.1 : Int)), h.p)) = (((hstep c h i).m, (hstep c h i).l), ((hstep c h i).t.map (fun x => (x.1 : Int)), (hstep c h i).p))
  rw [e1]
  have e2 : tpE rgNE c h.m h.l i (h.t.map (fun x => (x.1 : Int)), h.p) = ((hstep c h i).t.map (fun x => (x.1 : Int)), (hstep c h i).p) := by
    unfold tpE hstep
    cases e : h.l[i]? with
    | none => rfl
    | some k =>
      simp only []
      by_cases hp : k.pl = 0
      · simp only [if_pos hp]
      · simp only [if_neg hp, if_pos (rg_granted c k h.m hp), List.map_append, List.map_cons, List.map_nil]
  rw [e2]
theorem foldT_hrun (c : ConfM) (is : List Nat) (h : Hst) : is.foldl (stepT rgNE rgRE c) (hstT h) = hstT (hrun c h is) := by
  induction is generalizing h with
  | nil => rfl
  | cons i is ih =>
    show is.foldl (stepT rgNE rgRE c) (stepT rgNE rgRE c (hstT h) i) = hstT (is.foldl (hstep c) (hstep c h i))
    rw [stepT_hstep, ih]
    rfl
end Go.Proofs.Ytjnlkemdaffgbaa
/- Operations, plainly: the words of the document's check. -/
namespace Go.Proofs.Ytjnlkemdaffgbaa
open Go.RowKit
set_option maxRecDepth 100000

def namedB (n : Int) : Bool := decide (-1 ≤ n) && decide (n < 8)
def rangesB (op : OpM) : Bool := namedB op.chan && decide (0 ≤ op.dl) && decide (op.dl ≤ 1099511627776) && op.cases.all fun c => namedB c.chan
def shapeB (op : OpM) : Bool :=
  if ((op.kind == 3 || op.kind == 5 || op.kind == 6) && op.mode != 0) || (op.dl != 0 && op.mode != 2) then false
  else if op.kind != 4 then decide (op.cases.length = 0) && decide (op.draws.length = 0) && (op.kind == 1 || op.val == 0)
  else if op.chan != 0 || op.val != 0 || decide (op.draws.length ≠ op.cases.length) then false
  else op.cases.all fun c => c.send || c.val == 0
def kindB (op : OpM) : Bool := decide (1 ≤ op.kind) && decide (op.kind ≤ 6) && decide (0 ≤ op.mode) && decide (op.mode ≤ 2)
def checkE (op : OpM) : Int :=
  if kindB op = false then 2 else if rangesB op = false then 2 else if 6 < op.cases.length ∨ 6 < op.draws.length then 3
  else if okD 0 op.draws = false then 2 else if shapeB op = false then 5 else 0
structure OpM.ok (op : OpM) : Prop where
  kind : op.kind = IntKind.i64.wrap op.kind
  mode : op.mode = IntKind.i64.wrap op.mode
  chan : op.chan = IntKind.i64.wrap op.chan
  val : op.val = IntKind.u64.wrap op.val
  dl : op.dl = IntKind.i64.wrap op.dl
/-- a valid operation of small numbers -/
structure OpM.good (op : OpM) : Prop where
  check : checkE op = 0
  ok : op.ok
  cases : op.cases.length ≤ 6
  draws : op.draws.length ≤ 6
  cok : ∀ c ∈ op.cases, c.ok
theorem i64_small (x : Int) (h0 : -2000000000000 ≤ x) (h1 : x ≤ 2000000000000) : x = IntKind.i64.wrap x := i64_ok x (by omega) (by omega)
theorem good_one (kd md ch vl dl : Int) (hk : 1 ≤ kd ∧ kd ≤ 6) (h4 : kd ≠ 4) (hm : (md = 0 ∧ dl = 0) ∨ ((kd = 1 ∨ kd = 2) ∧ ((md = 1 ∧ dl = 0) ∨ (md = 2 ∧ 0 ≤ dl ∧ dl < 5)))) (hc : -1 ≤ ch ∧ ch < 8) (hv : vl = IntKind.u64.wrap vl) (hv2 : kd = 1 ∨ vl = 0) :
    OpM.good ⟨kd, md, ch, vl, dl, [], []⟩ := by
  have hm2 : 0 ≤ md ∧ md ≤ 2 := by omega
  have hd2 : 0 ≤ dl ∧ dl < 5 := by omega
  refine ⟨?_, ⟨i64_small _ (by simp only; omega) (by simp only; omega), i64_small _ (by simp only; omega) (by simp only; omega), i64_small _ (by simp only; omega) (by simp only; omega), hv, i64_small _ (by simp only; omega) (by simp only; omega)⟩, by simp, by simp, by simp⟩
  have k1 : kindB ⟨kd, md, ch, vl, dl, [], []⟩ = true := by simp [kindB]; omega
  have k2 : rangesB ⟨kd, md, ch, vl, dl, [], []⟩ = true := by simp [rangesB, namedB]; omega
  have k3 : shapeB ⟨kd, md, ch, vl, dl, [], []⟩ = true := by
    unfold shapeB
    have a1 : (kd == 4) = false := by simpa using h4
    have a2 : (kd != 4) = true := by simpa using h4
    have a3 : (((kd == 3 || kd == 5 || kd == 6) && md != 0) || (dl != 0 && md != 2)) = false := by
      rcases hm with ⟨rfl, rfl⟩ | ⟨h, ⟨rfl, rfl⟩ | ⟨rfl, _⟩⟩
      · simp
      · rcases h with rfl | rfl <;> decide
      · rcases h with rfl | rfl <;> simp
    simp only [a3, a2, if_true, Bool.false_eq_true, if_false]
    rcases hv2 with rfl | rfl <;> simp
  simp [checkE, k1, k2, k3, okD]
end Go.Proofs.Ytjnlkemdaffgbaa
/- From the reading of an argument that is an operation to the words of the walks. -/
namespace Go.Proofs.Ytjnlkemdaffgbaa
open Go.ChangeShapes Go.WideShapes Go.ChangeAt Go.RowKit Go.Deep
set_option maxRecDepth 100000

section
variable {H : Type} {enc : TypeId × Value → H} {W : World}
theorem sized_agg {ts : List TypeId} {ds parts : List (DataW H)} {j : Nat} {t : TypeId} {fs : Array Field} (h : (DataW.weightsEach Try.prog ts ds).all (· ≤ reachBytes) = true) (ht : ts[j]? = some t) (hd : ds[j]? = some (.agg parts)) (hu : Try.prog.underlying t = some (.struct fs)) :
    (DataW.weightsEach Try.prog (fs.toList.map (·.type)) parts).all (· ≤ reachBytes) = true := by
  rw [List.all_eq_true]
  intro n hn
  have := DataW.weights_mem_each (P := Try.prog) ht hd n (by simp only [DataW.weights, hu]; exact hn)
  exact List.all_eq_true.1 h n this
theorem open3 {t : TypeId} {f0 f1 f2 : Field} {q0 q1 q2 : Value} {fuel : Nat} {x : DataW H × List MemPlace} (hs : Try.prog.underlying t = some (.struct #[f0, f1, f2])) (hone : oneCellFields Try.prog #[f0, f1, f2] = true)
    (h : DataW.trod enc Try.prog W 0 (fun _ => true) true fuel t [q0, q1, q2] = some x) :
    ∃ (y0 y1 y2 : DataW H × List MemPlace) (n : Nat), x.1 = .agg [y0.1, y1.1, y2.1] ∧ DataW.trod enc Try.prog W 0 (fun _ => true) true n f0.type [q0] = some y0 ∧ DataW.trod enc Try.prog W 0 (fun _ => true) true n f1.type [q1] = some y1 ∧ DataW.trod enc Try.prog W 0 (fun _ => true) true n f2.type [q2] = some y2 := by
  obtain ⟨xs, n, _, hx, _, hlen, hg⟩ := DataW.trod_struct hs h
  obtain ⟨o0, k0⟩ := hone_of hone 0 f0 rfl
  obtain ⟨o1, k1⟩ := hone_of hone 1 f1 rfl
  obtain ⟨o2, k2⟩ := hone_of hone 2 f2 rfl
  match xs, hlen with
  | [y0, y1, y2], _ =>
    subst hx
    exact ⟨y0, y1, y2, n, rfl, by simpa [o0, k0] using hg 0 f0 rfl, by simpa [o1, k1] using hg 1 f1 rfl, by simpa [o2, k2] using hg 2 f2 rfl⟩
theorem open7 {t : TypeId} {f0 f1 f2 f3 f4 f5 f6 : Field} {q0 q1 q2 q3 q4 q5 q6 : Value} {fuel : Nat} {x : DataW H × List MemPlace} (hs : Try.prog.underlying t = some (.struct #[f0, f1, f2, f3, f4, f5, f6])) (hone : oneCellFields Try.prog #[f0, f1, f2, f3, f4, f5, f6] = true)
    (h : DataW.trod enc Try.prog W 0 (fun _ => true) true fuel t [q0, q1, q2, q3, q4, q5, q6] = some x) :
    ∃ (y0 y1 y2 y3 y4 y5 y6 : DataW H × List MemPlace) (n : Nat), x.1 = .agg [y0.1, y1.1, y2.1, y3.1, y4.1, y5.1, y6.1] ∧ DataW.trod enc Try.prog W 0 (fun _ => true) true n f0.type [q0] = some y0 ∧ DataW.trod enc Try.prog W 0 (fun _ => true) true n f1.type [q1] = some y1 ∧ DataW.trod enc Try.prog W 0 (fun _ => true) true n f2.type [q2] = some y2 ∧ DataW.trod enc Try.prog W 0 (fun _ => true) true n f3.type [q3] = some y3 ∧ DataW.trod enc Try.prog W 0 (fun _ => true) true n f4.type [q4] = some y4 ∧ DataW.trod enc Try.prog W 0 (fun _ => true) true n f5.type [q5] = some y5 ∧ DataW.trod enc Try.prog W 0 (fun _ => true) true n f6.type [q6] = some y6 := by
  obtain ⟨xs, n, _, hx, _, hlen, hg⟩ := DataW.trod_struct hs h
  obtain ⟨o0, k0⟩ := hone_of hone 0 f0 rfl
  obtain ⟨o1, k1⟩ := hone_of hone 1 f1 rfl
  obtain ⟨o2, k2⟩ := hone_of hone 2 f2 rfl
  obtain ⟨o3, k3⟩ := hone_of hone 3 f3 rfl
  obtain ⟨o4, k4⟩ := hone_of hone 4 f4 rfl
  obtain ⟨o5, k5⟩ := hone_of hone 5 f5 rfl
  obtain ⟨o6, k6⟩ := hone_of hone 6 f6 rfl
  match xs, hlen with
  | [y0, y1, y2, y3, y4, y5, y6], _ =>
    subst hx
    exact ⟨y0, y1, y2, y3, y4, y5, y6, n, rfl, by simpa [o0, k0] using hg 0 f0 rfl, by simpa [o1, k1] using hg 1 f1 rfl, by simpa [o2, k2] using hg 2 f2 rfl, by simpa [o3, k3] using hg 3 f3 rfl, by simpa [o4, k4] using hg 4 f4 rfl, by simpa [o5, k5] using hg 5 f5 rfl, by simpa [o6, k6] using hg 6 f6 rfl⟩
/-- a slice of whole numbers, from its cell -/
theorem view_cell {t e : TypeId} {k : IntKind} {v : Value} {n : Nat} {x : DataW H × List MemPlace} (ht : Try.prog.underlying t = some (.slice e)) (he : Try.prog.underlying e = some (.int k)) (hc : Try.prog.cellsOf e = 1)
    (hsz : ∀ elems sp, x.1 = .slice elems sp → (elems.length + sp.length) * Try.prog.bytesOf e ≤ reachBytes) (hby : 1 ≤ Try.prog.bytesOf e)
    (hf : DataW.trod enc Try.prog W 0 (fun _ => true) true n t [v] = some x) : ∃ l, SlI W k v l := by
  rcases open_ints ht he hc hf with ⟨hcs, hx⟩ | ⟨a, len', cap', zs, hcs, _, hl, hm, hz, hx, hcell, hwz⟩
  · simp at hcs
    subst hcs
    exact ⟨[], SlI.nil _ _⟩
  · simp at hcs
    subst hcs
    subst hx
    simp only [if_true] at hz
    have hle : len' ≤ 140737488351232 := by
      have h1 := hsz _ _ rfl
      simp only [lits, List.length_map, List.length_take, List.length_drop, reachBytes] at h1
      have h2 : (min len' zs.length + (zs.length - len')) * 1 ≤ (min len' zs.length + (zs.length - len')) * Try.prog.bytesOf e := Nat.mul_le_mul_left _ hby
      omega
    have hlen : (zs.take len').length = len' := by simp; omega
    refine ⟨zs.take len', by omega, fun x hx => wrap_of_wf (hwz x (List.mem_of_mem_take hx)), some a, cap', by rw [hlen], by omega, fun i hi => ?_⟩
    have hi' : i < len' := by omega
    have hc := hcell i (by omega)
    have h0 := hcell 0 (by omega)
    obtain ⟨b, off, sp⟩ := a
    have hsp : sp = none := by simpa [Addr.add] using World.cell?_spot h0
    subst hsp
    rw [add_plain] at hc
    refine ⟨b, off, rfl, by simpa using World.block_lt_of_cell? W _ hc, ?_⟩
    rw [hc]
    simp [List.getD_eq_getElem?_getD, hi']
end
end Go.Proofs.Ytjnlkemdaffgbaa
