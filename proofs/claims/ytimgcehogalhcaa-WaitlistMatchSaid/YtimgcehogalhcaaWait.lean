/- Lists of waiting cases, plainly (chapter 13). -/
import Derived.Test.YtimgcehogalhcaaLib
namespace Go.Proofs.Ytimgcehogalhcaa
open Go.ChangeShapes Go.WideShapes Go.ChangeAt Go.RowKit
set_option maxRecDepth 100000

def threadE (r : Int) : Int := if r < 0 then -1 else r / 6
def caseE (r : Int) : Int := if r < 0 then -1 else r % 6
def recordE (t i : Int) : Int := if t < 0 ∨ 8 ≤ t ∨ i < 0 ∨ 6 ≤ i then -1 else t * 6 + i
theorem recordE_neg {t i : Int} (h : recordE t i < 0) : recordE t i = -1 := by
  unfold recordE at h ⊢
  split
  · rfl
  · rename_i h2
    rw [if_neg h2] at h
    omega
theorem recordE_parts {t i : Int} (h : 0 ≤ recordE t i) : threadE (recordE t i) = t ∧ caseE (recordE t i) = i := by
  unfold recordE at h ⊢
  split at h
  · omega
  · rename_i h2
    rw [if_neg h2]
    unfold threadE caseE
    rw [if_neg (by omega), if_neg (by omega)]
    omega
/-- the records of other threads -/
def withoutE (l : List Int) (t : Int) : List Int := l.filter fun r => threadE r != t
def firstE (l : List Int) (t : Int) : Option Int := l.find? fun r => threadE r != t
theorem firstE_none {l : List Int} {t : Int} : firstE l t = none ↔ withoutE l t = [] := by
  unfold firstE withoutE
  rw [List.find?_eq_none, List.filter_eq_nil_iff]
theorem firstE_head (l : List Int) (t : Int) : (withoutE l t).head? = firstE l t := by
  unfold firstE withoutE
  rw [List.head?_filter]
/-- the pairs of one receiver -/
def rowE (ss : List Int) (r : Int) : List (Int × Int) := (withoutE ss (threadE r)).map fun s => (r, s)
def pairsAll (rs ss : List Int) : List (Int × Int) := (rs.map (rowE ss)).flatten
def pairsE (rs ss : List Int) : List (Int × Int) := (pairsAll rs ss).take 1000
theorem rowE_ne {ss : List Int} {r : Int} {p : Int × Int} (h : p ∈ rowE ss r) : threadE p.1 ≠ threadE p.2 := by
  unfold rowE withoutE at h
  obtain ⟨s, hs, rfl⟩ := List.mem_map.1 h
  have := (List.mem_filter.1 hs).2
  simp at this
  exact fun e => this e.symm
theorem pairsE_ne {rs ss : List Int} {p : Int × Int} (h : p ∈ pairsE rs ss) : threadE p.1 ≠ threadE p.2 := by
  have h1 := List.mem_of_mem_take h
  unfold pairsAll at h1
  obtain ⟨l, hl, hp⟩ := List.mem_flatten.1 h1
  obtain ⟨r, -, rfl⟩ := List.mem_map.1 hl
  exact rowE_ne hp
theorem pairsAll_app (a b ss : List Int) : pairsAll (a ++ b) ss = pairsAll a ss ++ pairsAll b ss := by
  unfold pairsAll
  rw [List.map_append, List.flatten_append]
theorem pairsAll_cons (r : Int) (b ss : List Int) : pairsAll (r :: b) ss = rowE ss r ++ pairsAll b ss := rfl
theorem pairsAll_at {rs ss : List Int} {i : Nat} (hi : i < rs.length) : pairsAll rs ss = pairsAll (rs.take i) ss ++ (rowE ss rs[i] ++ pairsAll (rs.drop (i + 1)) ss) := by
  rw [← pairsAll_cons, ← pairsAll_app, List.getElem_cons_drop, List.take_append_drop]
theorem pairsE_mem {rs ss : List Int} {p : Int × Int} (h : p ∈ pairsE rs ss) : p.1 ∈ rs ∧ p.2 ∈ ss := by
  have h1 := List.mem_of_mem_take h
  unfold pairsAll at h1
  obtain ⟨l, hl, hp⟩ := List.mem_flatten.1 h1
  obtain ⟨r, hr, rfl⟩ := List.mem_map.1 hl
  unfold rowE withoutE at hp
  obtain ⟨s, hs, rfl⟩ := List.mem_map.1 hp
  exact ⟨hr, (List.mem_filter.1 hs).1⟩
/-- one more receiver, one more sender -/
theorem pairsAll_snoc (rs ss : List Int) (r : Int) : pairsAll (rs ++ [r]) ss = pairsAll rs ss ++ rowE ss r := by
  unfold pairsAll
  simp
theorem rowE_snoc (ss : List Int) (r s : Int) : rowE (ss ++ [s]) r = rowE ss r ++ (if threadE r = threadE s then [] else [(r, s)]) := by
  unfold rowE withoutE
  rw [List.filter_append, List.map_append]
  congr 1
  by_cases h : threadE r = threadE s
  · rw [if_pos h, List.filter_cons_of_neg (by simp [h])]; rfl
  · rw [if_neg h, List.filter_cons_of_pos (by simpa using fun e => h e.symm)]; rfl
/-- where the loops stand: i receivers, and k senders of the next one -/
def pairsAt (rs ss : List Int) (i k : Nat) : List (Int × Int) := pairsAll (rs.take i) ss ++ rowE (ss.take k) (rs.getD i 0)
theorem pairsAt_zero (rs ss : List Int) : pairsAt rs ss 0 0 = [] := rfl
theorem pairsAt_pre {rs ss : List Int} {i : Nat} (k : Nat) (hi : i < rs.length) : pairsAt rs ss i k <+: pairsAll rs ss := by
  have e2 := pairsAll_at (ss := ss) hi
  rw [e2]
  unfold pairsAt
  rw [List.getD_eq_getElem?_getD, List.getElem?_eq_getElem hi]
  refine List.prefix_append_right_inj _ |>.2 ?_
  have e3 : rowE ss rs[i] = rowE (ss.take k) rs[i] ++ rowE (ss.drop k) rs[i] := by
    unfold rowE withoutE
    rw [← List.map_append, ← List.filter_append, List.take_append_drop]
  rw [e3, List.append_assoc]
  exact List.prefix_append _ _
theorem pairsAt_step {rs ss : List Int} {i k : Nat} (hk : k < ss.length) : pairsAt rs ss i (k + 1) = pairsAt rs ss i k ++ (if threadE (rs.getD i 0) = threadE (ss.getD k 0) then [] else [(rs.getD i 0, ss.getD k 0)]) := by
  unfold pairsAt
  have e : ss.take (k + 1) = ss.take k ++ [ss.getD k 0] := by
    rw [List.take_add_one, List.getElem?_eq_getElem hk, List.getD_eq_getElem?_getD, List.getElem?_eq_getElem hk]; rfl
  rw [e, rowE_snoc, List.append_assoc]
theorem pairsAt_next {rs ss : List Int} {i : Nat} (hi : i < rs.length) : pairsAt rs ss i ss.length = pairsAt rs ss (i + 1) 0 := by
  unfold pairsAt
  have e : rs.take (i + 1) = rs.take i ++ [rs.getD i 0] := by
    rw [List.take_add_one, List.getElem?_eq_getElem hi, List.getD_eq_getElem?_getD, List.getElem?_eq_getElem hi]; rfl
  rw [e, pairsAll_snoc, List.take_length]
  show _ = _ ++ []
  rw [List.append_nil]
theorem pairsAt_end (rs ss : List Int) : pairsAt rs ss rs.length 0 = pairsAll rs ss := by
  unfold pairsAt
  rw [List.take_length]
  show _ ++ [] = _
  rw [List.append_nil]
/-- a full list is what is returned -/
theorem pairs_full {rs ss : List Int} {l : List (Int × Int)} (h : l <+: pairsAll rs ss) (hl : l.length = 1000) : l = pairsE rs ss := by
  obtain ⟨t, ht⟩ := h
  unfold pairsE
  rw [← ht, List.take_append_of_le_length (by omega), List.take_of_length_le (by omega)]
theorem pairs_few {rs ss : List Int} (hl : (pairsAll rs ss).length ≤ 1000) : pairsAll rs ss = pairsE rs ss := by
  unfold pairsE
  rw [List.take_of_length_le hl]
def lowerE (a b : Int) : Int × Int := if threadE b < threadE a then (b, a) else (a, b)
theorem lowerE_le (a b : Int) : threadE (lowerE a b).1 ≤ threadE (lowerE a b).2 := by
  unfold lowerE
  split
  · show threadE b ≤ threadE a; omega
  · show threadE a ≤ threadE b; omega
/-- the first receiver that has a sender of another thread -/
theorem match_none {rs ss : List Int} (h : ∀ r ∈ rs, firstE ss (threadE r) = none) : pairsE rs ss = [] := by
  have h1 : pairsAll rs ss = [] := by
    unfold pairsAll
    rw [List.flatten_eq_nil_iff]
    intro l hl
    obtain ⟨r, hr, rfl⟩ := List.mem_map.1 hl
    unfold rowE
    rw [firstE_none.1 (h r hr)]
    rfl
  unfold pairsE
  rw [h1]
  rfl
theorem match_some {rs ss : List Int} {i : Nat} {s : Int} (hi : i < rs.length) (h : ∀ j, j < i → firstE ss (threadE (rs.getD j 0)) = none) (hs : firstE ss (threadE (rs.getD i 0)) = some s) : (pairsE rs ss).head? = some (rs.getD i 0, s) := by
  have e0 : pairsAll (rs.take i) ss = [] := by
    unfold pairsAll
    rw [List.flatten_eq_nil_iff]
    intro l hl
    obtain ⟨r, hr, rfl⟩ := List.mem_map.1 hl
    obtain ⟨j, hj, rfl⟩ := List.mem_iff_getElem.1 hr
    have hj2 : j < i := by rw [List.length_take] at hj; omega
    have h2 := h j hj2
    rw [List.getD_eq_getElem?_getD, List.getElem?_eq_getElem (by omega)] at h2
    unfold rowE
    rw [List.getElem_take, firstE_none.1 (show firstE ss (threadE rs[j]) = none from h2)]
    rfl
  have e2 := pairsAll_at (ss := ss) hi
  rw [e0, List.nil_append] at e2
  rw [List.getD_eq_getElem?_getD, List.getElem?_eq_getElem hi] at hs ⊢
  have h3 := firstE_head ss (threadE rs[i])
  rw [show firstE ss (threadE rs[i]) = some s from hs] at h3
  obtain ⟨t, ht⟩ := List.head?_eq_some_iff.1 h3
  unfold pairsE
  rw [e2]
  unfold rowE
  rw [ht]
  rfl
end Go.Proofs.Ytimgcehogalhcaa
