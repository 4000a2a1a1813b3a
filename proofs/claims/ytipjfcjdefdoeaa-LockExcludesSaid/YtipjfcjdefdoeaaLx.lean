/- Layer 7: who has the lock, plainly; a machine is put in the place of another. -/
import Derived.Test.YtipjfcjdefdoeaaWk
import Derived.Test.YtipjfcjdefdoeaaWp
import Derived.Test.YtipjfcjdefdoeaaWorld0
namespace Go.Proofs.Ytipjfcjdefdoeaa
open Go.ChangeShapes Go.WideShapes Go.ChangeAt Go.RowKit
set_option maxRecDepth 100000

/-- four machines that take one lock; h: the one that has it -/
structure ExI (m : MemM) (l : List MachM) (h : Option Nat) : Prop where
  len : l.length = 4
  ws : 2 < m.words.length
  chan : ∀ j (hj : j < l.length), l[j].chan = 0 ∧ l[j].what = 1
  has : ∀ j (hj : j < l.length), h = some j → l[j].pl = 0 ∧ l[j].ok = 1
  not : ∀ j (hj : j < l.length), h ≠ some j → l[j].pl = 1
  word : m.words.getD 2 0 = if h = none then 0 else 1
theorem base00 (c : ConfM) : c.base 0 = 0 := rfl
theorem getD_set0 (l : List Int) (i : Nat) (x : Int) (h : i < l.length) : (l.set i x).getD i 0 = x := by simp [List.getD_eq_getElem?_getD, h]
/-- one of the others tries to take the lock -/
theorem ExI.take {c : ConfM} {m : MemM} {l : List MachM} {h : Option Nat} (hx : ExI m l h) (k : Nat) (hk : k < l.length) (hne : h ≠ some k) :
    ExI (stepE lkNE lkRE c m l k).1 (stepE lkNE lkRE c m l k).2 (if h = none then some k else h) ∧ ∃ hk2 : k < (stepE lkNE lkRE c m l k).2.length, ((stepE lkNE lkRE c m l k).2[k].pl == 0) = decide (h = none) ∧ (h = none → (stepE lkNE lkRE c m l k).2[k].ok = 1) := by
  obtain ⟨hc, hw⟩ := hx.chan k hk
  have hp := hx.not k hk hne
  have hne0 : lkNE c l[k] = ⟨3, 2, 0, 1, 0⟩ := by unfold lkNE; rw [if_neg (by omega), if_pos hw, hc]; rfl
  have hhas : hasB m.words.length 2 = true := by have := hx.ws; simp [hasB]; omega
  cases h with
  | none =>
    have hword : m.words.getD 2 0 = 0 := hx.word
    have ha : applyE m (lkNE c l[k]) = (⟨m.words.set 2 1, m.lists, m.tick⟩, ⟨0, true, false, []⟩, true) := by
      rw [hne0]; simp only [applyE, grantB, wordE]; simp [hhas]; rw [List.getD_eq_getElem?_getD] at hword; simp [hword]
    have hs : stepE lkNE lkRE c m l k = (⟨m.words.set 2 1, m.lists, m.tick⟩, l.set k { l[k] with pl := 0, ok := 1, ov := 0 }) := by
      unfold stepE
      rw [List.getElem?_eq_getElem hk]
      simp only [hp, ha]
      simp [lkRE, hp]
    rw [hs]
    refine ⟨⟨by simpa using hx.len, by simpa using hx.ws, fun j hj => ?_, fun j hj he => ?_, fun j hj he => ?_, ?_⟩, by simpa using hk, by simp, fun _ => by simp⟩
    · by_cases hjk : k = j
      · subst hjk; simpa using ⟨hc, hw⟩
      · have := hx.chan j (by simpa using hj); simpa [List.getElem_set, hjk] using this
    · simp at he; subst he; simp
    · simp at he
      have := hx.not j (by simpa using hj) (by simp)
      simpa [List.getElem_set, he] using this
    · show (m.words.set 2 1).getD 2 0 = _; rw [getD_set0 _ _ _ hx.ws]; simp
  | some q =>
    have hword : m.words.getD 2 0 = 1 := by have := hx.word; simpa using this
    have ha : applyE m (lkNE c l[k]) = (m, ⟨1, false, false, []⟩, true) := by
      rw [hne0]; simp only [applyE, grantB, wordE]; simp [hhas]; rw [List.getD_eq_getElem?_getD] at hword; simp [hword]
    have hs : stepE lkNE lkRE c m l k = (m, l) := by
      unfold stepE
      rw [List.getElem?_eq_getElem hk]
      simp only [hp, ha]
      simp [lkRE, hw]
    rw [hs]
    refine ⟨?_, hk, by simp [hp], fun e => by simp at e⟩
    simpa using hx
/-- the one that has the lock releases it, and wants it again -/
theorem ExI.release {c : ConfM} {m : MemM} {l : List MachM} {k : Nat} (hx : ExI m l (some k)) (hk : k < l.length) (r : MachM) (hr : r.what = 2 ∧ r.pl = 1 ∧ r.chan = 0) (t : MachM) (ht : t.what = 1 ∧ t.pl = 1 ∧ t.chan = 0) :
    ExI (stepE lkNE lkRE c m (l.set k r) k).1 ((stepE lkNE lkRE c m (l.set k r) k).2.set k t) none := by
  have hk2 : k < (l.set k r).length := by simpa using hk
  have hne0 : lkNE c r = ⟨2, 2, 0, 0, 0⟩ := by unfold lkNE; rw [if_neg (by omega), if_neg (by omega), hr.2.2]; rfl
  have hhas : hasB m.words.length 2 = true := by have := hx.ws; simp [hasB]; omega
  have ha : applyE m (lkNE c r) = (⟨m.words.set 2 0, m.lists, m.tick⟩, ansZ, true) := by
    rw [hne0]; simp only [applyE, grantB, wordE]; simp [hhas]
  have hs : stepE lkNE lkRE c m (l.set k r) k = (⟨m.words.set 2 0, m.lists, m.tick⟩, (l.set k r).set k { r with pl := 0, ok := 1, ov := 0 }) := by
    unfold stepE
    rw [List.getElem?_eq_getElem hk2]
    simp only [List.getElem_set_self, hr.2.1, ha]
    simp [lkRE, hr.1, hr.2.1]
  rw [hs]
  refine ⟨by simpa using hx.len, by simpa using hx.ws, fun j hj => ?_, fun j hj he => by simp at he, fun j hj he => ?_, ?_⟩
  · by_cases hjk : k = j
    · subst hjk; simpa using ⟨ht.2.2, ht.1⟩
    · have := hx.chan j (by simpa using hj); simpa [List.getElem_set, hjk] using this
  · by_cases hjk : k = j
    · subst hjk; simpa using ht.2.1
    · have := hx.not j (by simpa using hj) (by simpa using hjk); simpa [List.getElem_set, hjk] using this
  · show (m.words.set 2 0).getD 2 0 = _; rw [getD_set0 _ _ _ hx.ws]; simp
/-- a new machine of a lock, beside its frame -/
theorem lkR_new {w w' : World} {c : ConfM} {what : Int} {k b : Nat} (hwh : what = 1 ∨ what = 2) (hk : k < c.caps.length) (h1 : w'.heap[b]? = some (.cells #[.int .i64 (c.base k + 2)] 3 (0, 0))) (h2 : w.heap.size ≤ b) : LkR (NewPart w w') c (lkL what (.slice (some ⟨b, 0, none⟩) 1 1)) ⟨what, 1, k, 0, 0, 0, 0, 0, 0, 0, 0⟩ :=
  ⟨⟨hwh, .inr rfl, k, hk, rfl⟩, .inr ⟨rfl, rfl, rfl, b, rfl, fun w2 hn => (hn.same b h2 (Array.getElem?_eq_some_iff.1 h1).1).trans h1⟩⟩
/-- a machine and its frame are put in the place of another -/
theorem FrI.put {NE : ConfM → MachM → AccM} {RE : ConfM → MachM → AnsM → MachM} {ownB : MachM → Bool} {R : (World → Prop) → ConfM → List Value → MachM → Prop} (hs : Sim NE RE ownB R) {G H : World → Prop} {y : WM} (hf : FrI R G y) (hin : ∀ w, H w → G w) (i : Nat) (m2 : MachM) (f2 : List Value) (hR : R H y.c f2 m2) : FrI R H { y with l := y.l.set i m2, f := y.f.set i f2 } := by
  refine ⟨by simpa using hf.1, fun j h1 h2 => ?_⟩
  have h3 : j < y.f.length := by simpa using h1
  have h4 : j < y.l.length := by simpa using h2
  by_cases hj : i = j
  · subst hj; simpa using hR
  · have := hs.sub (hf.2 j h3 h4) hin
    simpa [List.getElem_set, hj] using this
theorem SlI.offN {w w2 : World} {k : IntKind} {v : Value} {l : List Int} (h : SlI w k v l) (h2 : OffS [] w w2) : SlI w2 k v l := by
  have hb : Below w.heap.size w { w with heap := w2.heap } := ⟨rfl, rfl, rfl, h2.1, fun j hj => h2.2 j hj (by simp)⟩
  exact (h.below hb).heapEq (w := { w with heap := w2.heap }) rfl
end Go.Proofs.Ytipjfcjdefdoeaa
