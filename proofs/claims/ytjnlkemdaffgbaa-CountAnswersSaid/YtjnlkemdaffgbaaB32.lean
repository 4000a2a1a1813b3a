
import Derived.Test.YtjnlkemdaffgbaaB31
set_option linter.unusedVariables false
set_option linter.unusedSimpArgs false
/- The ring while a list of machines interleaves, plainly. -/
namespace Go.Proofs.Ytjnlkemdaffgbaa
open Go.ChangeShapes Go.WideShapes Go.ChangeAt Go.RowKit
set_option maxRecDepth 100000

theorem rg_acc (c : ConfM) (m : MachM) (h : rgK c m) (hg : c.good) : (rgNE c m).ok := by
  obtain ⟨k, hk, hc⟩ := h.chan
  have hn := hg.base8 k (Nat.le_of_lt hk)
  have hl := hg.len
  have e0 : c.base k = IntKind.i64.wrap (c.base k) := by rw [IntKind.wrap_i64]; omega
  have e1 : c.base k + 1 = IntKind.i64.wrap (c.base k + 1) := by rw [IntKind.wrap_i64]; omega
  have es : ∀ s, 0 ≤ s → c.slotW k s = IntKind.i64.wrap (c.slotW k s) ∧ c.slotW k s + 1 = IntKind.i64.wrap (c.slotW k s + 1) := fun s hs => by
    have := hg.slot8 k s hk hs
    rw [IntKind.wrap_i64, IntKind.wrap_i64]; omega
  have et := es (m.t / 2) (by have := h.t.1; omega)
  have eh := es m.h h.h.1
  have ut := h.t.wrap
  have uh := h.h.wrap
  have uv := h.val.wrap
  have z : (0 : Int) = IntKind.u64.wrap 0 := by decide
  have zi : (0 : Int) = IntKind.i64.wrap 0 := by decide
  have un : ∀ x y, nextI x y = IntKind.u64.wrap (nextI x y) := fun x y => U64.wrap ⟨by unfold nextI; omega, by unfold nextI; omega⟩
  have up : ∀ x b, packI x b = IntKind.u64.wrap (packI x b) := fun x b => U64.wrap ⟨by unfold packI; split <;> omega, by unfold packI; split <;> omega⟩
  unfold rgNE
  rw [show m.chan.toNat = k by omega]
  unfold pushNE popNE shutNE countNE
  repeat' split
  all_goals refine ⟨by dsimp only [accZ]; decide, ?_, ?_, ?_, zi⟩
  all_goals first | exact zi | exact z | exact e0 | exact e1 | exact et.1 | exact et.2 | exact eh.1 | exact eh.2 | exact ut | exact uh | exact uv | exact un _ _ | exact up _ _
def pushB (k : MachM) : Bool := k.what == 3 && (decide (6 ≤ k.pl) || (k.pl == 0 && k.ok == 1))
def shutB (k : MachM) : Bool := k.what == 5 && (k.pl == 0 && k.ok == 1)
def isB (w : Int) (k : MachM) : Bool := k.what == w
theorem pushB_iff (k : MachM) : pushB k = true ↔ pushDone k := by unfold pushB pushDone; simp
theorem shutB_iff (k : MachM) : shutB k = true ↔ shutDone k := by unfold shutB shutDone; simp
theorem pushB_is (k : MachM) (h : pushB k = true) : isB 3 k = true := by unfold pushB at h; unfold isB; simp at h ⊢; exact h.1
theorem bool_iff {a b : Bool} (h : a = true ↔ b = true) : a = b := by cases a <;> cases b <;> simp_all
/-- one access of machine i -/
def stepL (c : ConfM) (st : MemM × List MachM) (i : Nat) : MemM × List MachM :=
  match st.2[i]? with
  | none => st
  | some k => ((step1 c (st.1, k)).1, st.2.set i (step1 c (st.1, k)).2)
def runL (c : ConfM) (st : MemM × List MachM) (is : List Nat) : MemM × List MachM := is.foldl (stepL c) st
theorem stepL_at {c : ConfM} {st : MemM × List MachM} {i : Nat} (hi : i < st.2.length) : stepL c st i = ((step1 c (st.1, st.2[i])).1, st.2.set i (step1 c (st.1, st.2[i])).2) := by
  unfold stepL; rw [List.getElem?_eq_getElem hi]
theorem stepL_len (c : ConfM) (st : MemM × List MachM) (i : Nat) : (stepL c st i).2.length = st.2.length := by
  unfold stepL
  split
  · rfl
  · simp
theorem runL_len (c : ConfM) (st : MemM × List MachM) (is : List Nat) : (runL c st is).2.length = st.2.length := by
  unfold runL
  induction is generalizing st with
  | nil => rfl
  | cons i is ih => rw [List.foldl_cons, ih, stepL_len]
theorem runL_cons (c : ConfM) (st : MemM × List MachM) (i : Nat) (is : List Nat) : runL c st (i :: is) = runL c (stepL c st i) is := rfl
theorem runL_snoc (c : ConfM) (st : MemM × List MachM) (is : List Nat) (i : Nat) : runL c st (is ++ [i]) = stepL c (runL c st is) i := by unfold runL; rw [List.foldl_append]; rfl
theorem countP_set' {p : MachM → Bool} : ∀ {l : List MachM} {i : Nat} (hi : i < l.length) (a : MachM), (l.set i a).countP p + (if p l[i] = true then 1 else 0) = l.countP p + (if p a = true then 1 else 0)
  | b :: l, 0, _, a => by
    rw [List.set_cons_zero, List.countP_cons, List.countP_cons, List.getElem_cons_zero]
    omega
  | b :: l, i + 1, hi, a => by
    have h1 : i < l.length := by simpa using hi
    have h := countP_set' (p := p) h1 a
    rw [List.set_cons_succ, List.countP_cons, List.countP_cons, List.getElem_cons_succ]
    omega
theorem step1_what (c : ConfM) (m : MemM) (k : MachM) : (step1 c (m, k)).2.what = k.what := by
  unfold step1
  split
  · rfl
  · split
    · exact rgRE_what c k _
    · rfl
theorem step1_end (c : ConfM) (m : MemM) (k : MachM) (h : k.pl = 0) : step1 c (m, k) = (m, k) := by
  unfold step1
  rw [if_pos h]
theorem countP_mem {p : MachM → Bool} {l : List MachM} (h : ∀ k ∈ l, p k = true) : l.countP p = l.length := by
  rw [List.countP_eq_length]; exact h
/-- the list of machines and the ring -/
structure Li (c : ConfM) (s : Int) (st : MemM × List MachM) (P Q : Nat) (cl : Bool) : Prop where
  good : c.good
  rg : Rg c st.1 s P Q cl
  fits : st.1.fits
  mi : ∀ k ∈ st.2, Mi c s P Q k
  pushes : st.2.countP pushB = P
  shuts : st.2.countP shutB = if cl = true then 1 else 0
  ends : ∀ k ∈ st.2, k.what = 5 → k.pl = 0 → cl = true ∧ (k.ok = 1 ∨ k.ok = 4)
/-- what an access may change -/
structure Adv (P Q : Nat) (cl : Bool) (P2 Q2 : Nat) (cl2 : Bool) : Prop where
  push : P2 = P ∨ (P2 = P + 1 ∧ cl = false ∧ cl2 = false)
  pop : Q2 = Q ∨ Q2 = Q + 1
  shut : cl = true → cl2 = true ∧ P2 = P
  one : ¬ (P2 = P + 1 ∧ Q2 = Q + 1)
theorem Adv.refl (P Q : Nat) (cl : Bool) : Adv P Q cl P Q cl := ⟨.inl rfl, .inl rfl, fun h => ⟨h, rfl⟩, by omega⟩
theorem Li.step {c : ConfM} {s : Int} {st : MemM × List MachM} {P Q : Nat} {cl : Bool} (h : Li c s st P Q cl) (hn : st.2.length ≤ 100000) (i : Nat) (hi : i < st.2.length) :
    ∃ P2 Q2 cl2, Li c s (stepL c st i) P2 Q2 cl2 ∧ Adv P Q cl P2 Q2 cl2 ∧ ((st.2[i].pl ≠ 0 ∧ casT c st.1 st.2[i]) ↔ (P2 = P + 1 ∨ (cl = false ∧ cl2 = true))) ∧ (P2 = P + 1 → st.2[i].what = 3) ∧ (cl = false → cl2 = true → st.2[i].what = 5) := by
  obtain ⟨m, l⟩ := st
  rw [stepL_at hi]
  have hi' : i < l.length := hi
  obtain ⟨k, hk⟩ : ∃ k, l[i] = k := ⟨_, rfl⟩
  have hmem : k ∈ l := hk ▸ List.getElem_mem hi'
  show ∃ P2 Q2 cl2, Li c s ((step1 c (m, l[i])).1, l.set i (step1 c (m, l[i])).2) P2 Q2 cl2 ∧ Adv P Q cl P2 Q2 cl2 ∧ ((l[i].pl ≠ 0 ∧ casT c m l[i]) ↔ (P2 = P + 1 ∨ (cl = false ∧ cl2 = true))) ∧ (P2 = P + 1 → l[i].what = 3) ∧ (cl = false → cl2 = true → l[i].what = 5)
  rw [hk]
  by_cases hp : k.pl = 0
  · rw [step1_end c m k hp]
    have e : l.set i k = l := by rw [← hk]; simp
    show ∃ P2 Q2 cl2, Li c s (m, l.set i k) P2 Q2 cl2 ∧ _
    rw [e]
    refine ⟨P, Q, cl, h, Adv.refl _ _ _, ⟨fun a => absurd hp a.1, fun a => by rcases a with a | ⟨a, b⟩; omega; rw [a] at b; cases b⟩, by omega, fun a b => by rw [a] at b; cases b⟩
  have hPl : P ≤ 1000000 := by have := h.pushes; have h2 := List.countP_le_length (p := pushB) (l := l); have : l.countP pushB = P := h.pushes; have : l.length ≤ 100000 := hn; omega
  obtain ⟨-, hS⟩ := ring_stepR h.rg h.fits hPl (h.mi k hmem) hp
  have hfit : (step1 c (m, k)).1.fits := by
    unfold step1
    rw [if_neg hp]
    split
    · exact fits_apply h.fits (rg_acc c k (h.mi k hmem).rg h.good)
    · exact h.fits
  obtain ⟨m2, k2, e2⟩ : ∃ m2 k2, step1 c (m, k) = (m2, k2) := ⟨_, _, rfl⟩
  have hwh : k2.what = k.what := by have := step1_what c m k; rw [e2] at this; exact this
  rw [e2] at hS hfit ⊢
  have cp := countP_set' (p := pushB) hi' k2
  have cs := countP_set' (p := shutB) hi' k2
  have hpu : l.countP pushB = P := h.pushes
  have hsh : l.countP shutB = if cl = true then 1 else 0 := h.shuts
  rw [hk, hpu] at cp
  rw [hk, hsh] at cs
  have all : ∀ {P2 Q2 : Nat}, P ≤ P2 → Q ≤ Q2 → Mi c s P2 Q2 k2 → ∀ q ∈ l.set i k2, Mi c s P2 Q2 q := fun h1 h2 h3 q hq => by
    rcases List.mem_or_eq_of_mem_set hq with h4 | rfl
    · exact (h.mi q h4).mono h1 h2
    · exact h3
  have ends : ∀ {cl2 : Bool}, (cl = true → cl2 = true) → (k2.what = 5 → k2.pl = 0 → cl2 = true ∧ (k2.ok = 1 ∨ k2.ok = 4)) → ∀ q ∈ l.set i k2, q.what = 5 → q.pl = 0 → cl2 = true ∧ (q.ok = 1 ∨ q.ok = 4) := fun h1 h2 q hq h5 h6 => by
    rcases List.mem_or_eq_of_mem_set hq with h4 | rfl
    · have := h.ends q h4 h5 h6; exact ⟨h1 this.1, this.2⟩
    · exact h2 h5 h6
  have pb : ∀ {k : MachM}, ¬ pushDone k → ¬ pushB k = true := fun h5 h6 => h5 ((pushB_iff _).1 h6)
  have sb : ∀ {k : MachM}, ¬ shutDone k → ¬ shutB k = true := fun h5 h6 => h5 ((shutB_iff _).1 h6)
  have noS : ∀ {k : MachM}, k.what ≠ 5 → ¬ shutB k = true := fun h5 h6 => h5 ((shutB_iff _).1 h6).1
  have noP : ∀ {k : MachM}, k.what ≠ 3 → ¬ pushB k = true := fun h5 h6 => h5 ((pushB_iff _).1 h6).1
  cases hS with
  | quiet h1 h2 h3 h4 h5 h6 =>
    have e1 : pushB k2 = pushB k := bool_iff (by rw [pushB_iff, pushB_iff]; exact h4)
    have e3 : shutB k2 = shutB k := bool_iff (by rw [shutB_iff, shutB_iff]; exact h5)
    rw [e1] at cp
    rw [e3] at cs
    refine ⟨P, Q, cl, ⟨h.good, h1, hfit, all (Nat.le_refl _) (Nat.le_refl _) h2, by show (l.set i k2).countP pushB = P; omega, by show (l.set i k2).countP shutB = _; omega, ends id fun a b => ⟨(h6 a b).1, .inr (h6 a b).2⟩⟩, Adv.refl _ _ _, ⟨fun a => absurd a.2 h3, fun a => by rcases a with a | ⟨a, b⟩; omega; rw [a] at b; cases b⟩, by omega, fun a b => by rw [a] at b; cases b⟩
  | pushed h0 hw h1 h2 h3 h4 h5 =>
    subst h0
    rw [if_neg (pb h4), if_pos ((pushB_iff _).2 h5)] at cp
    rw [if_neg (noS (by omega)), if_neg (noS (k := k2) (by rw [hwh]; omega))] at cs
    refine ⟨P + 1, Q, false, ⟨h.good, h1, hfit, all (by omega) (Nat.le_refl _) h2, by show (l.set i k2).countP pushB = P + 1; omega, by show (l.set i k2).countP shutB = _; omega, ends (by simp) (by rw [hwh]; omega)⟩, ⟨.inr ⟨rfl, rfl, rfl⟩, .inl rfl, by simp, by omega⟩, ⟨fun _ => .inl rfl, fun _ => ⟨hp, h3⟩⟩, fun _ => hw, by simp⟩
  | popped hw h1 h2 h3 =>
    rw [if_neg (noP (by omega)), if_neg (noP (k := k2) (by rw [hwh]; omega))] at cp
    rw [if_neg (noS (by omega)), if_neg (noS (k := k2) (by rw [hwh]; omega))] at cs
    refine ⟨P, Q + 1, cl, ⟨h.good, h1, hfit, all (Nat.le_refl _) (by omega) h2, by show (l.set i k2).countP pushB = P; omega, by show (l.set i k2).countP shutB = _; omega, ends id (by rw [hwh]; omega)⟩, ⟨.inl rfl, .inr rfl, fun a => ⟨a, rfl⟩, by omega⟩, ⟨fun a => absurd a.2 h3, fun a => by rcases a with a | ⟨a, b⟩; omega; rw [a] at b; cases b⟩, by omega, fun a b => by rw [a] at b; cases b⟩
  | shut h0 hw h1 h2 h3 h4 h5 =>
    subst h0
    rw [if_neg (noP (by omega)), if_neg (noP (k := k2) (by rw [hwh]; omega))] at cp
    rw [if_neg (sb h4), if_pos ((shutB_iff _).2 h5)] at cs
    refine ⟨P, Q, true, ⟨h.good, h1, hfit, all (Nat.le_refl _) (Nat.le_refl _) h2, by show (l.set i k2).countP pushB = P; omega, by show (l.set i k2).countP shutB = _; simp at cs ⊢; omega, ends (by simp) fun _ _ => ⟨rfl, .inl h5.2.2⟩⟩, ⟨.inl rfl, .inl rfl, by simp, by omega⟩, ⟨fun _ => .inr ⟨rfl, rfl⟩, fun _ => ⟨hp, h3⟩⟩, by omega, fun _ _ => hw⟩
end Go.Proofs.Ytjnlkemdaffgbaa
/- The ring while a list of machines interleaves, plainly: how it begins, and that those who close and those who count come to an end. -/
namespace Go.Proofs.Ytjnlkemdaffgbaa
open Go.ChangeShapes Go.WideShapes Go.ChangeAt Go.RowKit
set_option maxRecDepth 100000

/-- a machine at its beginning -/
structure Fresh (c : ConfM) (k : MachM) : Prop where
  rg : rgK c k
  chan : k.chan = 0
  pl : k.pl = 1
theorem Li.start {c : ConfM} (hg : c.good) (hk : 1 ≤ c.caps.length) (hf : (newE c).fits) (l : List MachM) (hl : ∀ k ∈ l, Fresh c k) : Li c (c.st 0) (newE c, l) 0 0 false := by
  have h := ringSt_new hg hk (fun _ => 0)
  have h16 := hg.cap 0 (by omega)
  refine ⟨hg, ⟨h.two, h16, h.len, h.tail, h.head, ⟨Nat.le_refl _, by have := h16.1; omega⟩⟩, hf, fun k hk => ?_, ?_, ?_, fun k hk _ h0 => ?_⟩
  · have f := hl k hk
    exact ⟨f.rg, f.chan, fun _ h1 _ => by have := f.pl; omega, fun _ h1 _ => by have := f.pl; omega, fun _ h1 => by have := f.pl; omega⟩
  · show l.countP pushB = 0
    rw [List.countP_eq_zero]
    intro k hk h2
    have f := hl k hk
    have := ((pushB_iff k).1 h2).2
    have := f.pl
    omega
  · show l.countP shutB = 0
    rw [List.countP_eq_zero]
    intro k hk h2
    have f := hl k hk
    have := ((shutB_iff k).1 h2).2.1
    have := f.pl
    omega
  · have := (hl k hk).pl; omega
def curL (st : MemM × List MachM) : Int := st.1.words.getD 0 0
/-- how often Tail may change yet -/
def dL (st : MemM × List MachM) : Nat := (st.2.countP (isB 3) - st.2.countP pushB) + (if closedB (curL st) = true then 0 else 1)
def rkS (D : Nat) (cl same : Bool) (pl : Int) : Nat :=
  if pl = 0 then 0 else if cl = true then (if pl = 1 then 1 else 2) else if pl = 1 then 2 * D + 1 else if same = true then 2 * D else 2 * D + 2
def rkC (D : Nat) (same : Bool) (pl : Int) : Nat :=
  if pl = 0 then 0 else if pl = 1 then 2 * D + 3 else if pl = 2 then (if same = true then 2 * D + 2 else 2 * D + 4) else (if same = true then 2 * D + 1 else 2 * D + 3)
/-- how many accesses machine k makes at most yet -/
def rk (st : MemM × List MachM) (k : MachM) : Nat := if k.what = 5 then rkS (dL st) (closedB (curL st)) (decide (k.t = curL st)) k.pl else rkC (dL st) (decide (k.t = curL st)) k.pl
section
variable {c : ConfM} {s : Int} {st : MemM × List MachM} {P Q : Nat} {cl : Bool}
theorem Li.cur (h : Li c s st P Q cl) : curL st = packI (nextI s P) cl := h.rg.tail
theorem Li.closed (h : Li c s st P Q cl) : closedB (curL st) = cl := by rw [h.cur, packI_closed]
theorem Li.le (h : Li c s st P Q cl) : P ≤ st.2.countP (isB 3) := by
  rw [← h.pushes]; exact List.countP_mono_left fun k _ hk => pushB_is k hk
theorem Li.dEq (h : Li c s st P Q cl) : dL st = (st.2.countP (isB 3) - P) + (if cl = true then 0 else 1) := by unfold dL; rw [h.pushes, h.closed]
theorem stepL_is (c : ConfM) (st : MemM × List MachM) (i : Nat) (w : Int) : (stepL c st i).2.countP (isB w) = st.2.countP (isB w) := by
  by_cases hi : i < st.2.length
  · rw [stepL_at hi]
    have h := countP_set' (p := isB w) hi (step1 c (st.1, st.2[i])).2
    have e : isB w (step1 c (st.1, st.2[i])).2 = isB w st.2[i] := by unfold isB; rw [step1_what]
    rw [e] at h
    show (st.2.set i _).countP (isB w) = _
    omega
  · unfold stepL; rw [List.getElem?_eq_none (by omega)]
/-- Tail stays, or it may change once less -/
theorem Li.tailStep (h : Li c s st P Q cl) (hn : st.2.length ≤ 100000) (i : Nat) (hi : i < st.2.length) : (curL (stepL c st i) = curL st ∧ dL (stepL c st i) = dL st) ∨ (cl = false ∧ dL (stepL c st i) + 1 = dL st) := by
  obtain ⟨P2, Q2, cl2, h2, ha, -, -, -⟩ := h.step hn i hi
  have hN := stepL_is c st i 3
  have l1 := h.le
  have l2 := h2.le
  rw [h.cur, h2.cur, h.dEq, h2.dEq, hN]
  rw [hN] at l2
  cases cl with
  | true =>
    have := ha.shut rfl
    left
    rw [this.1, this.2]
    exact ⟨rfl, rfl⟩
  | false =>
    rcases ha.push with e | ⟨e, -, e2⟩
    · subst e
      cases cl2 with
      | false => exact .inl ⟨rfl, rfl⟩
      | true => exact .inr ⟨rfl, by simp⟩
    · subst e; subst e2
      exact .inr ⟨rfl, by simp; omega⟩
theorem Li.dOpen (h : Li c s st P Q cl) (hc : cl = false) : 1 ≤ dL st := by rw [h.dEq, hc]; simp
/-- the own access of one that closes, and of one that counts -/
theorem Li.own (h : Li c s st P Q cl) (hn : st.2.length ≤ 100000) (i : Nat) (hi : i < st.2.length) (hw : st.2[i].what = 5 ∨ st.2[i].what = 6) : rk (stepL c st i) (step1 c (st.1, st.2[i])).2 + 1 ≤ rk st st.2[i] ∨ rk (stepL c st i) (step1 c (st.1, st.2[i])).2 = 0 := by
  obtain ⟨k, hk⟩ : ∃ k, st.2[i] = k := ⟨_, rfl⟩
  have hmem : k ∈ st.2 := hk ▸ List.getElem_mem hi
  have hmi := h.mi k hmem
  have hl := h.rg.lens
  have hcl := h.closed
  have hT := h.tailStep hn i hi
  have hdo := h.dOpen
  rw [hk] at hw ⊢
  by_cases hp : k.pl = 0
  · right
    rw [step1_end c st.1 k hp]
    unfold rk rkS rkC
    simp [hp]
  have hch : k.chan.toNat = 0 := by rw [hmi.chan]; rfl
  have hpl := hmi.rg.pl
  have hsm : stepL c st i = ((step1 c (st.1, k)).1, st.2.set i (step1 c (st.1, k)).2) := by rw [stepL_at hi, hk]
  rcases hw with hw | hw
  · have eN : rgNE c k = shutNE c 0 k := by unfold rgNE; rw [if_neg hp, if_neg (by omega), if_neg (by omega), if_pos hw, hch]
    have eR : ∀ b, rgRE c k b = shutRE k b := fun b => by unfold rgRE; rw [if_neg hp, if_neg (by omega), if_neg (by omega), if_pos hw]
    have hps : k.pl = 1 ∨ k.pl = 2 := by have := hpl.2.2.1 hw; omega
    rcases hps with e | e
    · have a1 : rgNE c k = ⟨1, 0, 0, 0, 0⟩ := by rw [eN]; unfold shutNE; rw [if_pos e]; rfl
      have hs := step1_ans hp (a1 ▸ apply_load (m := st.1) (a := 0) (by omega) (by omega))
      rw [eR] at hs
      unfold shutRE at hs
      rw [if_pos e] at hs
      have hcw : (closedB (AnsM.val ⟨st.1.words.getD (Int.toNat 0) 0, false, false, []⟩)) = cl := hcl
      have hc0 : curL (stepL c st i) = curL st := by rw [hsm, hs]; rfl
      have hd0 : dL (stepL c st i) = dL st := by
        rcases hT with h1 | ⟨h1, h2⟩
        · exact h1.2
        · have hN := stepL_is c st i 3
          have hpu : (stepL c st i).2.countP pushB = st.2.countP pushB := by
            rw [hsm]
            have h3 := countP_set' (p := pushB) hi (step1 c (st.1, k)).2
            have h4 : pushB (step1 c (st.1, k)).2 = false := by have := step1_what c st.1 k; unfold pushB; rw [this, hw]; rfl
            have h5 : pushB st.2[i] = false := by rw [hk]; unfold pushB; rw [hw]; rfl
            rw [h4, h5] at h3
            simpa using h3
          unfold dL
          rw [hN, hpu, hc0]
      rw [hs]
      rw [hcw]
      cases hcb : cl with
      | true =>
        right
        unfold rk rkS
        simp [hw]
      | false =>
        left
        unfold rk
        rw [hc0, hd0, hcl, hcb]
        have hcu : curL st = st.1.words.getD (Int.toNat 0) 0 := rfl
        unfold rkS
        simp [hw, e, hcu]
    · have a1 : rgNE c k = ⟨3, 0, k.t, packI (k.t / 2) true, 0⟩ := by rw [eN]; unfold shutNE; rw [if_neg (by omega)]; rfl
      by_cases hc : st.1.words.getD 0 0 = k.t
      · have hs := step1_ans hp (a1 ▸ apply_cas (m := st.1) (a := 0) (o := k.t) (x := packI (k.t / 2) true) (by omega) (by omega) hc)
        rw [eR] at hs
        unfold shutRE at hs
        rw [if_neg (by omega), if_pos rfl] at hs
        right
        rw [hs]
        unfold rk rkS
        simp [hw]
      · have hs := step1_ans hp (a1 ▸ apply_cas_no (m := st.1) (a := 0) (o := k.t) (x := packI (k.t / 2) true) (by omega) (by omega) hc)
        rw [eR] at hs
        unfold shutRE at hs
        rw [if_neg (by omega), if_neg (by simp)] at hs
        have hc0 : curL (stepL c st i) = curL st := by rw [hsm, hs]; rfl
        have hd0 : dL (stepL c st i) = dL st := by
          have hN := stepL_is c st i 3
          have hpu : (stepL c st i).2.countP pushB = st.2.countP pushB := by
            rw [hsm]
            have h3 := countP_set' (p := pushB) hi (step1 c (st.1, k)).2
            have h4 : pushB (step1 c (st.1, k)).2 = false := by have := step1_what c st.1 k; unfold pushB; rw [this, hw]; rfl
            have h5 : pushB st.2[i] = false := by rw [hk]; unfold pushB; rw [hw]; rfl
            rw [h4, h5] at h3
            simpa using h3
          unfold dL
          rw [hN, hpu, hc0]
        left
        rw [hs]
        unfold rk
        rw [hc0, hd0, hcl]
        have hcu : ¬ k.t = curL st := fun e2 => hc e2.symm
        unfold rkS
        cases hcb : cl <;> simp [hw, e, hcu]
  · have eN : rgNE c k = countNE c 0 k := by unfold rgNE; rw [if_neg hp, if_neg (by omega), if_neg (by omega), if_neg (by omega), hch]
    have eR : ∀ b, rgRE c k b = countRE k b := fun b => by unfold rgRE; rw [if_neg hp, if_neg (by omega), if_neg (by omega), if_neg (by omega)]
    have hps : k.pl = 1 ∨ k.pl = 2 ∨ k.pl = 3 := by have := hpl.2.2.2 hw; omega
    have h65 : ¬ (6 : Int) = 5 := by decide
    have same : ∀ {k2 : MachM}, step1 c (st.1, k) = (st.1, k2) → curL (stepL c st i) = curL st ∧ dL (stepL c st i) = dL st := fun {k2} hs => by
      have hc0 : curL (stepL c st i) = curL st := by rw [hsm, hs]; rfl
      have hN := stepL_is c st i 3
      have hpu : (stepL c st i).2.countP pushB = st.2.countP pushB := by
        rw [hsm]
        have h3 := countP_set' (p := pushB) hi (step1 c (st.1, k)).2
        have h4 : pushB (step1 c (st.1, k)).2 = false := by have := step1_what c st.1 k; unfold pushB; rw [this, hw]; rfl
        have h5 : pushB st.2[i] = false := by rw [hk]; unfold pushB; rw [hw]; rfl
        rw [h4, h5] at h3
        simpa using h3
      refine ⟨hc0, ?_⟩
      unfold dL
      rw [hN, hpu, hc0]
    rcases hps with e | e | e
    · have a1 : rgNE c k = ⟨1, 0, 0, 0, 0⟩ := by rw [eN]; unfold countNE; rw [if_neg (by omega)]; rfl
      have hs := step1_ans hp (a1 ▸ apply_load (m := st.1) (a := 0) (by omega) (by omega))
      rw [eR] at hs
      unfold countRE at hs
      rw [if_pos e] at hs
      obtain ⟨hc0, hd0⟩ := same hs
      left
      rw [hs]
      have hcu : curL st = st.1.words.getD (Int.toNat 0) 0 := rfl
      unfold rk
      rw [hc0, hd0]
      unfold rkC
      simp [hw, e, hcu]
    · have a1 : rgNE c k = ⟨1, 1, 0, 0, 0⟩ := by rw [eN]; unfold countNE; rw [if_pos e]; rfl
      have hs := step1_ans hp (a1 ▸ apply_load (m := st.1) (a := 1) (by omega) (by omega))
      rw [eR] at hs
      unfold countRE at hs
      rw [if_neg (by omega), if_pos e] at hs
      obtain ⟨hc0, hd0⟩ := same hs
      left
      rw [hs]
      unfold rk
      rw [hc0, hd0]
      unfold rkC
      by_cases hcu : k.t = curL st <;> simp [hw, e, hcu]
    · have a1 : rgNE c k = ⟨1, 0, 0, 0, 0⟩ := by rw [eN]; unfold countNE; rw [if_neg (by omega)]; rfl
      have hs := step1_ans hp (a1 ▸ apply_load (m := st.1) (a := 0) (by omega) (by omega))
      rw [eR] at hs
      unfold countRE at hs
      rw [if_neg (by omega), if_neg (by omega)] at hs
      obtain ⟨hc0, hd0⟩ := same hs
      have hcu : curL st = st.1.words.getD (Int.toNat 0) 0 := rfl
      rw [hs]
      by_cases ht : st.1.words.getD (Int.toNat 0) 0 = k.t
      · right
        rw [if_pos (show AnsM.val ⟨st.1.words.getD (Int.toNat 0) 0, false, false, []⟩ = k.t from ht)]
        unfold rk rkC
        simp [hw]
      · left
        rw [if_neg (show ¬ AnsM.val ⟨st.1.words.getD (Int.toNat 0) 0, false, false, []⟩ = k.t from ht)]
        have hcu2 : ¬ k.t = curL st := fun e2 => ht (hcu.symm.trans e2.symm)
        unfold rk
        rw [hc0, hd0]
        unfold rkC
        simp only [hw, e, hcu2]
        simp [hcu]
/-- an access of another machine -/
theorem Li.other (h : Li c s st P Q cl) (hn : st.2.length ≤ 100000) (i : Nat) (hi : i < st.2.length) (k : MachM) (hk : k ∈ st.2) (hw : k.what = 5 ∨ k.what = 6) : rk (stepL c st i) k ≤ rk st k := by
  obtain ⟨P2, Q2, cl2, h2, -, -, -, -⟩ := h.step hn i hi
  have hpl := (h.mi k hk).rg.pl
  rcases h.tailStep hn i hi with ⟨h3, h4⟩ | ⟨h3, h4⟩
  · unfold rk
    rw [h3, h4]
    exact Nat.le_refl _
  · have hcl := h.closed
    rw [h3] at hcl
    unfold rk
    rw [hcl]
    rcases hw with hw | hw
    · rw [if_pos hw, if_pos hw]
      unfold rkS
      by_cases hp : k.pl = 0
      · simp [hp]
      · simp only [hp, if_false]
        repeat' split
        all_goals first | omega | contradiction
    · rw [if_neg (by omega), if_neg (by omega)]
      unfold rkC
      by_cases hp : k.pl = 0
      · simp [hp]
      · simp only [hp, if_false]
        repeat' split
        all_goals omega
end
end Go.Proofs.Ytjnlkemdaffgbaa
/- The ring while a list of machines interleaves, plainly: whole runs. -/
namespace Go.Proofs.Ytjnlkemdaffgbaa
open Go.ChangeShapes Go.WideShapes Go.ChangeAt Go.RowKit
set_option maxRecDepth 100000

theorem rkC_le (D : Nat) (same : Bool) (pl : Int) : rkC D same pl ≤ 2 * D + 4 := by
  unfold rkC
  repeat' split
  all_goals omega
theorem rkS_le (D : Nat) (cl same : Bool) (pl : Int) : rkS D cl same pl ≤ 2 * D + 4 := by
  unfold rkS
  repeat' split
  all_goals omega
theorem rk_le (st : MemM × List MachM) (k : MachM) : rk st k ≤ 2 * dL st + 4 := by
  unfold rk
  split
  · exact rkS_le _ _ _ _
  · exact rkC_le _ _ _
section
variable {c : ConfM} {s : Int} {st : MemM × List MachM} {P Q : Nat} {cl : Bool}
theorem Li.rk_zero (h : Li c s st P Q cl) {k : MachM} (hk : k ∈ st.2) (hw : k.what = 5 ∨ k.what = 6) (h0 : rk st k = 0) : k.pl = 0 := by
  have hpl := (h.mi k hk).rg.pl
  have hd := h.dOpen
  have hcl := h.closed
  by_cases hp : k.pl = 0
  · exact hp
  exfalso
  unfold rk at h0
  rcases hw with hw | hw
  · rw [if_pos hw, hcl] at h0
    unfold rkS at h0
    cases hcb : cl with
    | true => rw [hcb] at h0; simp only [hp, if_false, if_true] at h0; split at h0 <;> omega
    | false =>
      have h1 := hd hcb
      rw [hcb] at h0
      simp only [hp, if_false] at h0
      repeat' split at h0
      all_goals first | omega | contradiction
  · rw [if_neg (by omega)] at h0
    unfold rkC at h0
    simp only [hp, if_false] at h0
    repeat' split at h0
    all_goals omega
theorem Li.run (h : Li c s st P Q cl) (hn : st.2.length ≤ 100000) (is : List Nat) (hi : ∀ i ∈ is, i < st.2.length) : ∃ P2 Q2 cl2, Li c s (runL c st is) P2 Q2 cl2 ∧ P ≤ P2 ∧ Q ≤ Q2 ∧ (cl = true → cl2 = true ∧ P2 = P) := by
  induction is generalizing st P Q cl with
  | nil => exact ⟨P, Q, cl, h, Nat.le_refl _, Nat.le_refl _, fun h => ⟨h, rfl⟩⟩
  | cons i is ih =>
    obtain ⟨P1, Q1, cl1, h1, ha, -, -, -⟩ := h.step hn i (hi i (List.mem_cons_self ..))
    have hl := stepL_len c st i
    obtain ⟨P2, Q2, cl2, h2, h3, h4, h5⟩ := ih h1 (by omega) fun j hj => by rw [hl]; exact hi j (List.mem_cons_of_mem _ hj)
    refine ⟨P2, Q2, cl2, h2, ?_, ?_, fun e => ?_⟩
    · have := ha.push; omega
    · have := ha.pop; omega
    · have := ha.shut e; have := h5 this.1; exact ⟨this.1, by omega⟩
/-- a machine that closes or counts: how many accesses it may make yet, behind a run -/
theorem Li.rankRun (h : Li c s st P Q cl) (hn : st.2.length ≤ 100000) (is : List Nat) (hi : ∀ i ∈ is, i < st.2.length) (j : Nat) (k : MachM) (hj : st.2[j]? = some k) (hw : k.what = 5 ∨ k.what = 6) :
    ∃ k2, (runL c st is).2[j]? = some k2 ∧ k2.what = k.what ∧ (rk (runL c st is) k2 + is.count j ≤ rk st k ∨ rk (runL c st is) k2 = 0) := by
  induction is generalizing st P Q cl k with
  | nil => exact ⟨k, hj, rfl, .inl (by simp [runL])⟩
  | cons i is ih =>
    have hii := hi i (List.mem_cons_self ..)
    obtain ⟨P1, Q1, cl1, h1, -, -, -, -⟩ := h.step hn i hii
    have hl := stepL_len c st i
    have hi2 : ∀ j ∈ is, j < (stepL c st i).2.length := fun j hj => by rw [hl]; exact hi j (List.mem_cons_of_mem _ hj)
    obtain ⟨hjl, hjk⟩ := List.getElem?_eq_some_iff.1 hj
    by_cases hij : i = j
    · subst hij
      have hj2 : (stepL c st i).2[i]? = some (step1 c (st.1, k)).2 := by rw [stepL_at hii, hjk]; simp [hjl]
      have hw2 := step1_what c st.1 k
      have ho := h.own hn i hii (by rw [hjk]; exact hw)
      rw [hjk] at ho
      obtain ⟨k2, e1, e2, e3⟩ := ih h1 (by omega) hi2 _ hj2 (by rw [hw2]; exact hw)
      refine ⟨k2, e1, e2.trans hw2, ?_⟩
      rw [List.count_cons_self]
      rcases e3 with e3 | e3
      · rcases ho with ho | ho
        · left; show rk (runL c (stepL c st i) is) k2 + _ ≤ _; omega
        · right; show rk (runL c (stepL c st i) is) k2 = 0; omega
      · exact .inr e3
    · have hj2 : (stepL c st i).2[j]? = some k := by rw [stepL_at hii]; simp [List.getElem?_set, hij, hj]
      have ho := h.other hn i hii k (List.mem_of_getElem? hj) hw
      obtain ⟨k2, e1, e2, e3⟩ := ih h1 (by omega) hi2 _ hj2 hw
      refine ⟨k2, e1, e2, ?_⟩
      rw [List.count_cons_of_ne hij]
      rcases e3 with e3 | e3
      · left; show rk (runL c (stepL c st i) is) k2 + _ ≤ _; omega
      · exact .inr e3
/-- one that closes or counts has come to its end, if it made enough accesses -/
theorem Li.ended (h : Li c s st P Q cl) (hn : st.2.length ≤ 100000) (is : List Nat) (hi : ∀ i ∈ is, i < st.2.length) (j : Nat) (k : MachM) (hj : st.2[j]? = some k) (hw : k.what = 5 ∨ k.what = 6) (hc : 2 * dL st + 4 ≤ is.count j) :
    ∃ k2, (runL c st is).2[j]? = some k2 ∧ k2.what = k.what ∧ k2.pl = 0 := by
  obtain ⟨k2, e1, e2, e3⟩ := h.rankRun hn is hi j k hj hw
  obtain ⟨P2, Q2, cl2, h2, -, -, -⟩ := h.run hn is hi
  have h0 : rk (runL c st is) k2 = 0 := by have := rk_le st k; omega
  exact ⟨k2, e1, e2, h2.rk_zero (List.mem_of_getElem? e1) (by rw [e2]; exact hw) h0⟩
end
theorem count_range' (n j : Nat) : (List.range n).count j = if j < n then 1 else 0 := by
  induction n with
  | zero => simp
  | succ n ih =>
    rw [List.range_succ, List.count_append, ih, List.count_singleton]
    by_cases h : n = j
    · subst h; simp
    · have h2 : (n == j) = false := by simpa using h
      have h4 : (j < n + 1) = (j < n) := propext (by omega)
      simp only [h2, h4]
      simp
theorem count_turns (turns n j : Nat) (hj : j < n) : ((List.replicate turns (List.range n)).flatten).count j = turns := by
  induction turns with
  | zero => simp
  | succ t ih =>
    rw [List.replicate_succ, List.flatten_cons, List.count_append, ih]
    have := count_range' n j
    rw [if_pos hj] at this
    omega
/-- machines that only close: one of them did it -/
theorem shut_once {c : ConfM} (hg : c.good) (hk : 1 ≤ c.caps.length) (hf : (newE c).fits) (l : List MachM) (hl : ∀ k ∈ l, Fresh c k ∧ k.what = 5) (h1 : 1 ≤ l.length) (hn : l.length ≤ 1000) (is : List Nat) (hi : ∀ i ∈ is, i < l.length) (hc : ∀ j, j < l.length → 6 ≤ is.count j) :
    (∀ k ∈ (runL c (newE c, l) is).2, k.what = 5 ∧ k.pl = 0 ∧ (k.ok = 1 ∨ k.ok = 4)) ∧ (runL c (newE c, l) is).2.countP shutB = 1 ∧ (runL c (newE c, l) is).1.words.getD 0 0 = (newE c).words.getD 0 0 + 1 := by
  have h0 := Li.start hg hk hf l fun k hk => (hl k hk).1
  have hlen : (runL c (newE c, l) is).2.length = l.length := runL_len c (newE c, l) is
  have hN : l.countP (isB 3) = 0 := by
    rw [List.countP_eq_zero]
    intro k hk h2
    unfold isB at h2
    have := (hl k hk).2
    rw [this] at h2
    exact absurd h2 (by decide)
  have hd : dL (newE c, l) = 1 := by rw [h0.dEq]; show l.countP (isB 3) - 0 + _ = 1; rw [hN]; rfl
  obtain ⟨P2, Q2, cl2, h2, -, -, -⟩ := h0.run (by show l.length ≤ 100000; omega) is hi
  have all : ∀ j (hj : j < l.length), ∃ k2, (runL c (newE c, l) is).2[j]? = some k2 ∧ k2.what = 5 ∧ k2.pl = 0 := fun j hj => by
    obtain ⟨k2, e1, e2, e3⟩ := h0.ended (by show l.length ≤ 100000; omega) is hi j l[j] (List.getElem?_eq_getElem hj) (.inl (hl _ (List.getElem_mem hj)).2) (by rw [hd]; exact hc j hj)
    exact ⟨k2, e1, e2.trans (hl _ (List.getElem_mem hj)).2, e3⟩
  have each : ∀ k ∈ (runL c (newE c, l) is).2, k.what = 5 ∧ k.pl = 0 := fun k hk => by
    obtain ⟨j, hj, e⟩ := List.getElem_of_mem hk
    obtain ⟨k2, e1, e2, e3⟩ := all j (by omega)
    rw [List.getElem?_eq_getElem hj, e] at e1
    cases e1
    exact ⟨e2, e3⟩
  obtain ⟨k0, e1, e2, e3⟩ := all 0 h1
  have hm0 := List.mem_of_getElem? e1
  have hcl := (h2.ends k0 hm0 e2 e3).1
  have hP2 : P2 = 0 := by
    have := h2.le
    have e : (runL c (newE c, l) is).2.countP (isB 3) = 0 := by
      rw [List.countP_eq_zero]
      intro k hk h3
      unfold isB at h3
      rw [(each k hk).1] at h3
      exact absurd h3 (by decide)
    omega
  refine ⟨fun k hk => ⟨(each k hk).1, (each k hk).2, (h2.ends k hk (each k hk).1 (each k hk).2).2⟩, by rw [h2.shuts, if_pos hcl], ?_⟩
  have t0 := h0.rg.tail
  have t2 := h2.rg.tail
  rw [hP2, hcl] at t2
  show (runL c (newE c, l) is).1.words.getD 0 0 = _
  rw [t2, show (newE c).words.getD 0 0 = _ from t0]
  unfold packI
  simp
end Go.Proofs.Ytjnlkemdaffgbaa
