/- Recorded accesses, plainly: what was recorded is made again, and in two parts; a list of records in which one is changed. -/
import Derived.Test.YtipjfcjdefdoeaaRp
namespace Go.Proofs.Ytipjfcjdefdoeaa
open Go.ChangeShapes Go.WideShapes Go.ChangeAt Go.RowKit
set_option maxRecDepth 100000

theorem replay_cons (m : MemM) (x : ItemM) (l : List ItemM) : replayE m (x :: l) = if okE m x = true then replayE (applyE m x.acc).1 l else (noMem, false) := rfl
theorem replay_nil (m : MemM) : replayE m [] = (m, true) := by cases m; rfl
theorem replay_append : ∀ (m : MemM) (l l2 : List ItemM), replayE m (l ++ l2) = if (replayE m l).2 = true then replayE (replayE m l).1 l2 else (noMem, false)
  | m, [], l2 => by rw [replay_nil]; simp
  | m, x :: l, l2 => by
    rw [List.cons_append, replay_cons, replay_cons]
    by_cases h : okE m x = true
    · rw [if_pos h, if_pos h]
      exact replay_append _ l l2
    · rw [if_neg h, if_neg h]
      simp
/-- the record of an access that was made is made again -/
theorem replay_snoc {m0 m : MemM} {l : List ItemM} {x : ItemM} (h : replayE m0 l = (m, true)) (hx : okE m x = true) : replayE m0 (l ++ [x]) = ((applyE m x.acc).1, true) := by
  rw [replay_append, h]
  simp only [if_true]
  rw [replay_cons, if_pos hx, replay_nil]
theorem ok_record {m : MemM} {a : AccM} {t : Int} (h : (applyE m a).2.2 = true) : okE m ⟨t, a, (applyE m a).2.1.val, (applyE m a).2.1.ok⟩ = true := by
  unfold okE
  simp [h]
theorem replay_parts {m0 m : MemM} {l : List ItemM} (h : replayE m0 l = (m, true)) (k : Nat) : ∃ mk, replayE m0 (l.take k) = (mk, true) ∧ replayE mk (l.drop k) = (m, true) := by
  have h2 := replay_append m0 (l.take k) (l.drop k)
  rw [List.take_append_drop, h] at h2
  by_cases hb : (replayE m0 (l.take k)).2 = true
  · rw [if_pos hb] at h2
    exact ⟨_, Prod.ext rfl hb, h2.symm⟩
  · rw [if_neg hb] at h2
    simp at h2
theorem replay_fits : ∀ (m : MemM) (l : List ItemM), m.fits → (∀ x ∈ l, x.good) → (replayE m l).1.fits
  | m, [], h, _ => by rw [replay_nil]; exact h
  | m, x :: l, h, hg => by
    rw [replay_cons]
    by_cases ho : okE m x = true
    · rw [if_pos ho]
      exact replay_fits _ l (fits_apply h (hg x (List.mem_cons_self ..)).acc) fun y hy => hg y (List.mem_cons_of_mem _ hy)
    · rw [if_neg ho]
      exact ⟨by simp [noMem], by simp [noMem], by simp [noMem], by simp [noMem], (by show (0 : Int) = IntKind.i64.wrap 0; decide)⟩
theorem flatT_set : ∀ (l : List ItemM) (n j : Nat) (x y : ItemM) (v : Value), n < l.length → l.getD n noItem = x → (itemCells x).set j v = itemCells y → j < 8 → (l.flatMap itemCells).set (n * 8 + j) v = (l.set n y).flatMap itemCells
  | [], n, j, x, y, v, h, _, _, _ => by simp at h
  | z :: l, 0, j, x, y, v, h, hx, hs, hj => by
    have e : z = x := by simpa using hx
    subst e
    rw [List.flatMap_cons, List.set_cons_zero, List.flatMap_cons, Nat.zero_mul, Nat.zero_add, List.set_append_left _ _ (by show j < 8; exact hj), hs]
  | z :: l, n + 1, j, x, y, v, h, hx, hs, hj => by
    have e8 : (itemCells z).length = 8 := rfl
    rw [List.flatMap_cons, List.set_cons_succ, List.flatMap_cons, List.set_append_right _ _ (by rw [e8]; omega), e8, show (n + 1) * 8 + j - 8 = n * 8 + j by omega]
    rw [flatT_set l n j x y v (by simpa using h) (by simpa using hx) hs hj]
/-- one cell of one record is written -/
theorem OwnT.setAt {w : World} {base g n cap : Nat} {l : List ItemM} (h : OwnT w base (.slice (some ⟨g, 0, none⟩) n cap) l) (i j : Nat) (x y : ItemM) (v : Value) (hi : i < l.length) (hx : l.getD i noItem = x) (hs : (itemCells x).set j v = itemCells y) (hj : j < 8) (hn : n = l.length) :
    OwnT (w.setCell ⟨g, i * 8 + j, none⟩ v) base (.slice (some ⟨g, 0, none⟩) n cap) (l.set i y) := by
  subst hn
  have h1 := (World.ownsRow.stored h (i * 8 + j) v).1
  unfold OwnT
  rw [List.length_set, ← flatT_set l i j x y v hi hx hs hj]
  exact h1
end Go.Proofs.Ytipjfcjdefdoeaa
