/- Plain lists for layer 2: permutations and the way back from one to its draws; no Go in sight. -/
import Derived.Test.YtipjfcjdefdoeaaPlain2
namespace Go.Proofs.Ytipjfcjdefdoeaa
open Go.RowKit
set_option maxRecDepth 100000

theorem fd_le (x : Int) (l : List Int) : fd x l ≤ l.length := by
  induction l with
  | nil => exact Nat.le_refl _
  | cons y t ih => unfold fd; split <;> simp; exact ih
theorem fd_get (x : Int) (l : List Int) (h : fd x l < l.length) : l.getD (fd x l) 0 = x := by
  induction l with
  | nil => simp at h
  | cons y t ih =>
    unfold fd at h ⊢
    by_cases e : y = x
    · rw [if_pos e]; simpa using e
    · rw [if_neg e] at h ⊢
      simpa using ih (by simpa using h)
theorem fd_mem (x : Int) (l : List Int) : x ∈ l ↔ fd x l < l.length := by
  induction l with
  | nil => simp
  | cons y t ih =>
    unfold fd
    by_cases e : y = x
    · simp [e]
    · rw [if_neg e]
      simp only [List.mem_cons, List.length_cons]
      rw [ih]
      constructor
      · rintro (h | h)
        · exact absurd h.symm e
        · omega
      · intro h; right; omega
theorem fd_take (x : Int) (l : List Int) (m : Nat) (h : fd x l < m) : fd x (l.take m) = fd x l := by
  induction l generalizing m with
  | nil => simp
  | cons y t ih =>
    obtain ⟨m, rfl⟩ : ∃ m', m = m' + 1 := ⟨m - 1, by omega⟩
    rw [List.take_succ_cons]
    unfold fd at h ⊢
    by_cases e : y = x
    · rw [if_pos e, if_pos e]
    · rw [if_neg e] at h; rw [if_neg e, if_neg e, ih m (by omega)]
theorem fd_take_lt (x : Int) (l : List Int) (m : Nat) (h : fd x (l.take m) < (l.take m).length) : fd x (l.take m) = fd x l ∧ fd x l < m := by
  induction l generalizing m with
  | nil => simp at h
  | cons y t ih =>
    cases m with
    | zero => simp at h
    | succ m =>
      rw [List.take_succ_cons] at h ⊢
      unfold fd at h ⊢
      by_cases e : y = x
      · simp [e]
      · rw [if_neg e] at h; rw [if_neg e, if_neg e]
        obtain ⟨h1, h2⟩ := ih m (by simpa using h)
        exact ⟨by rw [h1], by omega⟩
/-- l has the length n and contains 0 to n - 1 -/
def Full (n : Nat) (l : List Int) : Prop := l.length = n ∧ ∀ i : Nat, i < n → (i : Int) ∈ l
theorem full_asc (n : Nat) : Full n (asc n) := ⟨asc_length n, fun i hi => by simp [asc]; exact ⟨i, hi, rfl⟩⟩
theorem asc_succ (n : Nat) : asc (n + 1) = asc n ++ [(n : Int)] := by simp [asc, List.range_succ]
theorem Full.perm {n : Nat} {l : List Int} (h : Full n l) : l.Perm (asc n) := by
  induction n generalizing l with
  | zero => obtain rfl := List.length_eq_zero_iff.1 h.1; exact List.Perm.refl _
  | succ n ih =>
    have hm := h.2 n (by omega)
    have p1 := List.perm_cons_erase hm
    have hf : Full n (l.erase (n : Int)) := by
      refine ⟨by rw [List.length_erase_of_mem hm, h.1]; rfl, fun i hi => ?_⟩
      exact (List.mem_erase_of_ne (by omega)).2 (h.2 i (by omega))
    refine p1.trans (((ih hf).cons _).trans ?_)
    rw [asc_succ]
    exact (List.perm_append_singleton _ _).symm
theorem asc_nodup (n : Nat) : (asc n).Nodup := by
  induction n with
  | zero => simp [asc]
  | succ n ih =>
    rw [asc_succ, List.nodup_append]
    refine ⟨ih, by simp, fun x hx y hy => ?_⟩
    simp at hy
    have := asc_mem n x hx
    omega
theorem Full.nodup {n : Nat} {l : List Int} (h : Full n l) : l.Nodup := h.perm.symm.nodup (asc_nodup n)
theorem Full.range {n : Nat} {l : List Int} (h : Full n l) (x : Int) (hx : x ∈ l) : 0 ≤ x ∧ x < n := asc_mem n x (h.perm.mem_iff.1 hx)
theorem getD_set (l : List Int) (i j : Nat) (x : Int) (hi : i < l.length) : (l.set i x).getD j 0 = if i = j then x else l.getD j 0 := by
  simp only [List.getD_eq_getElem?_getD, List.getElem?_set]
  by_cases e : i = j
  · subst e; simp [hi]
  · simp [e]
theorem swp_get (l : List Int) (i k j : Nat) (hi : i < l.length) (hk : k < l.length) :
    (swp l i k).getD j 0 = if j = k then l.getD i 0 else if j = i then l.getD k 0 else l.getD j 0 := by
  unfold swp
  rw [getD_set _ _ _ _ (by simpa using hk), getD_set _ _ _ _ hi]
  by_cases e1 : j = k
  · subst e1; simp
  · have e1' : ¬ k = j := fun h => e1 h.symm
    by_cases e2 : j = i
    · subst e2; simp [e1, e1']
    · have e2' : ¬ i = j := fun h => e2 h.symm
      simp [e1, e1', e2, e2']
theorem mem_of_getD (l : List Int) (j : Nat) (hj : j < l.length) : l.getD j 0 ∈ l := by simp [List.getD_eq_getElem?_getD, hj]
theorem getD_of_mem {l : List Int} {x : Int} (h : x ∈ l) : ∃ j, j < l.length ∧ l.getD j 0 = x :=
  ⟨fd x l, (fd_mem x l).1 h, fd_get x l ((fd_mem x l).1 h)⟩
theorem mem_swp (l : List Int) (i k : Nat) (hi : i < l.length) (hk : k < l.length) (x : Int) (h : x ∈ l) : x ∈ swp l i k := by
  obtain ⟨j, hj, rfl⟩ := getD_of_mem h
  by_cases e1 : j = i
  · have := mem_of_getD (swp l i k) k (by rw [swp_length]; exact hk)
    rw [swp_get l i k k hi hk, if_pos rfl] at this
    rw [e1]; exact this
  · by_cases e2 : j = k
    · have := mem_of_getD (swp l i k) i (by rw [swp_length]; exact hi)
      rw [swp_get l i k i hi hk] at this
      by_cases e3 : i = k
      · omega
      · rw [if_neg e3, if_pos rfl] at this
        rw [e2]; exact this
    · have := mem_of_getD (swp l i k) j (by rw [swp_length]; exact hj)
      rw [swp_get l i k j hi hk, if_neg e2, if_neg e1] at this
      exact this
theorem Full.swp {n : Nat} {l : List Int} (h : Full n l) (i k : Nat) (hi : i < n) (hk : k < n) : Full n (swp l i k) :=
  ⟨by rw [swp_length]; exact h.1, fun j hj => mem_swp l i k (by rw [h.1]; exact hi) (by rw [h.1]; exact hk) _ (h.2 j hj)⟩
theorem Full.inj {n : Nat} {l : List Int} (h : Full n l) (i j : Nat) (hi : i < n) (hj : j < n) (e : l.getD i 0 = l.getD j 0) : i = j := by
  have hn := h.nodup
  have hl := h.1
  have := (List.getElem_inj (i := i) (j := j) hn (h₀ := by omega) (h₁ := by omega)).1
  apply this
  simpa [List.getD_eq_getElem?_getD, show i < l.length by omega, show j < l.length by omega] using e
/-- the draws that lead to the permutation o, the rounds q - 1, .., 0 still to go -/
def un (o : List Int) : Nat → List Int → List Int
  | 0, _ => []
  | i + 1, rest => un o i (swp rest i (fd (o.getD i 0) rest)) ++ [((fd (o.getD i 0) rest : Nat) : Int)]
theorem un_length (o : List Int) (q : Nat) (rest : List Int) : (un o q rest).length = q := by
  induction q generalizing rest with
  | zero => rfl
  | succ q ih => simp [un, ih]
theorem un_step (o rest d r : List Int) (i k : Nat) (hd : i < d.length) (hk : fd (o.getD i 0) rest = k) (h : un o (i + 1) rest ++ d.drop (i + 1) = r) :
    un o i (swp rest i k) ++ (d.set i (k : Int)).drop i = r := by
  rw [set_drop _ _ _ hd, ← h, un, hk, List.append_assoc]; rfl
/-- behind the rounds n - 1, .., q: the rest is full, and agrees with o from q on -/
def Agree (n q : Nat) (o rest : List Int) : Prop := Full n rest ∧ ∀ j, q ≤ j → j < n → rest.getD j 0 = o.getD j 0
theorem Agree.start (n : Nat) (o : List Int) : Agree n n o (asc n) := ⟨full_asc n, fun j h1 h2 => by omega⟩
theorem Agree.step {n i k : Nat} {o rest : List Int} (h : Agree n (i + 1) o rest) (hi : i < n) (hk : k ≤ i) (hx : rest.getD k 0 = o.getD i 0) : Agree n i o (swp rest i k) := by
  have hl := h.1.1
  refine ⟨h.1.swp i k hi (by omega), fun j h1 h2 => ?_⟩
  rw [swp_get _ _ _ _ (by omega) (by omega)]
  by_cases e1 : j = k
  · have : i = k := by omega
    rw [if_pos e1, this, hx, e1, this]
  · rw [if_neg e1]
    by_cases e2 : j = i
    · rw [if_pos e2, hx, e2]
    · rw [if_neg e2]; exact h.2 j (by omega) h2
/-- where o is full, too, the next element is found, and not beyond its place -/
theorem Agree.found {n i : Nat} {o rest : List Int} (h : Agree n (i + 1) o rest) (ho : Full n o) (hi : i < n) : fd (o.getD i 0) rest ≤ i := by
  have hl := h.1.1
  have hm : o.getD i 0 ∈ rest := by
    have hr := ho.range _ (mem_of_getD o i (by rw [ho.1]; exact hi))
    have := h.1.2 (o.getD i 0).toNat (by omega)
    rwa [Int.toNat_of_nonneg hr.1] at this
  have hp := (fd_mem _ _).1 hm
  refine Classical.byContradiction fun hc => ?_
  have e := h.2 (fd (o.getD i 0) rest) (by omega) (by omega)
  rw [fd_get _ _ hp] at e
  have := ho.inj i _ hi (by omega) e
  omega
theorem Agree.fin {n : Nat} {o rest : List Int} (h : Agree n 0 o rest) (ho : o.length = n) : rest = o :=
  ext_same _ _ (by rw [h.1.1, ho]) fun j hj => h.2 j (by omega) (by rw [← h.1.1]; exact hj)
open Classical in
noncomputable def drwB (o : List Int) : Bool := decide (o.length ≤ 20 ∧ Full o.length o)
open Classical in
noncomputable def drwL (o : List Int) : List Int := if o.length ≤ 20 ∧ Full o.length o then un o o.length (asc o.length) else []
theorem drw_yes (o : List Int) (h1 : o.length ≤ 20) (h2 : Full o.length o) : drwB o = true ∧ drwL o = un o o.length (asc o.length) :=
  ⟨by unfold drwB; simp [h1, h2], by unfold drwL; rw [if_pos ⟨h1, h2⟩]⟩
theorem drw_no (o : List Int) (h : ¬ (o.length ≤ 20 ∧ Full o.length o)) : drwB o = false ∧ drwL o = [] :=
  ⟨by unfold drwB; simp only [decide_eq_false_iff_not]; exact h, by unfold drwL; rw [if_neg h]⟩
theorem un_mem (o : List Int) (n q : Nat) (rest : List Int) (h : Agree n q o rest) (ho : Full n o) (hq : q ≤ n) (x : Int) (hx : x ∈ un o q rest) : 0 ≤ x ∧ x < q := by
  induction q generalizing rest with
  | zero => simp [un] at hx
  | succ i ih =>
    have hf := h.found ho (by omega)
    rw [un, List.mem_append, List.mem_singleton] at hx
    rcases hx with hx | rfl
    · have := ih _ (h.step (by omega) hf (fd_get _ _ (by have := h.1.1; omega))) (by omega) hx
      omega
    · omega
theorem shuf_full (d : List Int) (n i : Nat) (l : List Int) (h : Full n l) (hi : i < n) : Full n (shuf d i l) := by
  induction i generalizing l with
  | zero => exact h
  | succ i ih =>
    unfold shuf
    have := drawI_le d (i + 1)
    exact ih _ (h.swp _ _ hi (by omega)) (by omega)
theorem shuf_get (d : List Int) (i j : Nat) (l : List Int) (hj : j < l.length) (hij : i < j) : (shuf d i l).getD j 0 = l.getD j 0 := by
  induction i generalizing l with
  | zero => rfl
  | succ i ih =>
    unfold shuf
    have := drawI_le d (i + 1)
    rw [ih _ (by rw [swp_length]; exact hj) (by omega), swp_get _ _ _ _ (by omega) (by omega), if_neg (by omega), if_neg (by omega)]
theorem fd_full {n : Nat} {l : List Int} (h : Full n l) (k : Nat) (hk : k < n) : fd (l.getD k 0) l = k := by
  have hm := (fd_mem _ _).1 (mem_of_getD l k (by rw [h.1]; exact hk))
  exact (h.inj k _ hk (by rw [← h.1]; exact hm) (fd_get _ _ hm).symm).symm
/-- a list of draws: element i is from 0 to i -/
def OkDraws (d : List Int) : Prop := ∀ i : Nat, i < d.length → 0 ≤ d.getD i 0 ∧ d.getD i 0 ≤ i
theorem drawI_ok (d : List Int) (h : OkDraws d) (i : Nat) (hi : i < d.length) : (drawI d i : Int) = d.getD i 0 := by
  have := h i hi
  unfold drawI
  rw [Int.emod_eq_of_lt (by omega) (by omega)]
  omega
theorem take_snoc (l : List Int) (i : Nat) (h : i < l.length) : l.take (i + 1) = l.take i ++ [l.getD i 0] := by
  rw [List.take_succ_eq_append_getElem h]; simp [List.getD_eq_getElem?_getD, h]
theorem un_shuf (d : List Int) (n i : Nat) (rest : List Int) (hd : OkDraws d) (hdl : d.length = n) (h : Full n rest) (hi : i < n) :
    un (shuf d i rest) (i + 1) rest = d.take (i + 1) := by
  induction i generalizing rest with
  | zero =>
    have h0 := hd 0 (by omega)
    have e0 : d.getD 0 0 = 0 := by omega
    rw [un, un, shuf, fd_full h 0 hi, take_snoc _ _ (by omega), e0]
    rfl
  | succ i ih =>
    have hk := drawI_le d (i + 1)
    have hl := h.1
    have e : (shuf d (i + 1) rest).getD (i + 1) 0 = rest.getD (drawI d (i + 1)) 0 := by
      rw [shuf, shuf_get _ _ _ _ (by rw [swp_length]; omega) (by omega), swp_get _ _ _ _ (by omega) (by omega)]
      by_cases e : i + 1 = drawI d (i + 1)
      · rw [if_pos e, ← e]
      · rw [if_neg e, if_pos rfl]
    rw [un, e, fd_full h _ (by omega), shuf, ih _ (h.swp _ _ hi (by omega)) (by omega), drawI_ok d hd _ (by omega), ← take_snoc _ _ (by omega)]
/-- draws lead to a permutation and back -/
theorem un_back (d : List Int) (n : Nat) (hn : 1 ≤ n) (hd : OkDraws d) (hdl : d.length = n) : un (shuf d (n - 1) (asc n)) n (asc n) = d := by
  have := un_shuf d n (n - 1) (asc n) hd hdl (full_asc n) (by omega)
  rw [show n - 1 + 1 = n by omega] at this
  rw [this, ← hdl, List.take_length]
/-- what has been seen behind k rounds over o -/
def seenL (n : Nat) (o : List Int) (k : Nat) : List Bool := (List.range n).map fun (i : Nat) => decide ((i : Int) ∈ o.take k)
theorem seenL_length (n : Nat) (o : List Int) (k : Nat) : (seenL n o k).length = n := by simp [seenL]
theorem seenL_zero (n : Nat) (o : List Int) : seenL n o 0 = List.replicate n false := by
  apply List.ext_getElem (by simp [seenL])
  intro i h1 h2
  simp [seenL]
theorem seenL_get (n : Nat) (o : List Int) (k i : Nat) (hi : i < n) : (seenL n o k).getD i false = decide ((i : Int) ∈ o.take k) := by
  simp [seenL, List.getD_eq_getElem?_getD, hi]
theorem seenL_step (n : Nat) (o : List Int) (k i : Nat) (hk : k < o.length) (hi : o.getD k 0 = i) (hin : i < n) : (seenL n o k).set i true = seenL n o (k + 1) := by
  apply List.ext_getElem (by simp [seenL])
  intro j h1 h2
  have e := take_snoc o k hk
  have hj : j < n := by simpa [seenL] using h2
  rw [List.getElem_set]
  simp only [seenL, List.getElem_map, List.getElem_range, e, List.mem_append, List.mem_singleton, hi]
  by_cases c : i = j
  · simp [c]
  · rw [if_neg c]
    have : ¬ (j : Int) = (i : Int) := by omega
    simp [this]
theorem seen_no (n : Nat) (o : List Int) (h : Full n o) (k : Nat) (hk : k < n) : o.getD k 0 ∉ o.take k := by
  intro hm
  obtain ⟨j, hj, e⟩ := List.getElem_of_mem hm
  have hj' : j < k := by simp at hj; omega
  have : k = j := by
    refine h.inj k j hk (by omega) ?_
    rw [← e]
    have h1 := h.1
    simp [List.getD_eq_getElem?_getD, show j < o.length by omega]
  omega
theorem okD_snoc (l : List Int) (i : Nat) (x : Int) : okD i (l ++ [x]) = (okD i l && decide (0 ≤ x ∧ x ≤ (i + l.length : Nat))) := by
  induction l generalizing i with
  | nil => simp [okD]
  | cons y t ih =>
    rw [List.cons_append, okD, ih, okD, Bool.and_assoc, List.length_cons, show i + 1 + t.length = i + (t.length + 1) by omega]
theorem idxR_snoc (l : List Int) (i a : Nat) (x : Int) : idxR i a (l ++ [x]) = idxR i a l * (i + l.length + 1) + x.toNat := by
  induction l generalizing i a with
  | nil => simp [idxR]
  | cons y t ih =>
    rw [List.cons_append, idxR, ih, idxR]
    simp only [List.length_cons]
    rw [show i + 1 + t.length + 1 = i + (t.length + 1) + 1 by omega]
theorem idx_nth (n k : Nat) (h : k < fact n) : okD 0 (nthR n k) = true ∧ idxR 0 0 (nthR n k) = k := by
  induction n generalizing k with
  | zero => simp [fact] at h; subst h; exact ⟨rfl, rfl⟩
  | succ n ih =>
    have hm := Nat.mod_lt k (show 0 < n + 1 by omega)
    have hd : k / (n + 1) < fact n := by
      rw [Nat.div_lt_iff_lt_mul (by omega), Nat.mul_comm]
      exact h
    obtain ⟨h1, h2⟩ := ih _ hd
    have hl := nthR_length n (k / (n + 1))
    refine ⟨?_, ?_⟩
    · rw [nthR, okD_snoc, h1, hl, decide_eq_true (by omega)]; rfl
    · rw [nthR, idxR_snoc, h2, hl, Int.toNat_natCast, Nat.zero_add]
      have := Nat.div_add_mod k (n + 1)
      rw [Nat.mul_comm] at this
      exact this
/-- the number of the list of draws with a number -/
theorem index_nth (n k : Int) (h : nthB n k = true) : idxB (nthL n k) = true ∧ idxI (nthL n k) = k := by
  have h : 0 ≤ k ∧ k < cntI n := by simpa [nthB] using h
  obtain ⟨n0, n20, _, hl⟩ := nth_yes n k h
  obtain ⟨m, rfl⟩ : ∃ m : Nat, n = m := ⟨n.toNat, by omega⟩
  obtain ⟨j, rfl⟩ : ∃ j : Nat, k = j := ⟨k.toNat, by omega⟩
  rw [cntI_in m (by omega)] at h
  have hm : m ≤ 20 := by omega
  obtain ⟨h1, h2⟩ := idx_nth m j (by omega)
  rw [hl, Int.toNat_natCast, Int.toNat_natCast]
  have hb : idxB (nthR m j) = true := by
    unfold idxB
    rw [nthR_length, decide_eq_true hm, h1]
    rfl
  refine ⟨hb, ?_⟩
  unfold idxI
  rw [if_pos hb, h2]
end Go.Proofs.Ytipjfcjdefdoeaa
