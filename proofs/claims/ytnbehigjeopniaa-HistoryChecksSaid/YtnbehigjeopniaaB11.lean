import Derived.Deep.DeepCutAuto
import Derived.Test.YtnbehigjeopniaaB01
import Derived.Test.YtnbehigjeopniaaB10
set_option linter.unusedVariables false
set_option linter.unusedSimpArgs false
/- Plain lists for layer 2: permutations and the way back from one to its draws; no Go in sight. -/
namespace Go.Proofs.Ytnbehigjeopniaa
open Go.RowKit
set_option maxRecDepth 100000

theorem fd_le (x : Int) (l : List Int) : fd x l ≤ l.length := by
  induction l with
  | nil => exact Nat.le_refl _
  | cons y t ih => unfold fd; split <;> simp; exact ih
theorem fd_get (x : Int) (l : List Int) (h : fd x l < l.length) : l.getD (fd x l) 0 = x := by
  induction l with
  | nil => simp at h
  | cons y t ih =>
    unfold fd at h ⊢
    by_cases e : y = x
    · rw [if_pos e]; simpa using e
    · rw [if_neg e] at h ⊢
      simpa using ih (by simpa using h)
theorem fd_mem (x : Int) (l : List Int) : x ∈ l ↔ fd x l < l.length := by
  induction l with
  | nil => simp
  | cons y t ih =>
    unfold fd
    by_cases e : y = x
    · simp [e]
    · rw [if_neg e]
      simp only [List.mem_cons, List.length_cons]
      rw [ih]
      constructor
      · rintro (h | h)
        · exact absurd h.symm e
        · omega
      · intro h; right; omega
theorem fd_take (x : Int) (l : List Int) (m : Nat) (h : fd x l < m) : fd x (l.take m) = fd x l := by
  induction l generalizing m with
  | nil => simp
  | cons y t ih =>
    obtain ⟨m, rfl⟩ : ∃ m', m = m' + 1 := ⟨m - 1, by omega⟩
    rw [List.take_succ_cons]
    unfold fd at h ⊢
    by_cases e : y = x
    · rw [if_pos e, if_pos e]
    · rw [if_neg e] at h; rw [if_neg e, if_neg e, ih m (by omega)]
theorem fd_take_lt (x : Int) (l : List Int) (m : Nat) (h : fd x (l.take m) < (l.take m).length) : fd x (l.take m) = fd x l ∧ fd x l < m := by
  induction l generalizing m with
  | nil => simp at h
  | cons y t ih =>
    cases m with
    | zero => simp at h
    | succ m =>
      rw [List.take_succ_cons] at h ⊢
      unfold fd at h ⊢
      by_cases e : y = x
      · simp [e]
      · rw [if_neg e] at h; rw [if_neg e, if_neg e]
        obtain ⟨h1, h2⟩ := ih m (by simpa using h)
        exact ⟨by rw [h1], by omega⟩
/-- l has the length n and contains 0 to n - 1 -/
def Full (n : Nat) (l : List Int) : Prop := l.length = n ∧ ∀ i : Nat, i < n → (i : Int) ∈ l
theorem full_asc (n : Nat) : Full n (asc n) := ⟨asc_length n, fun i hi => by simp [asc]; exact ⟨i, hi, rfl⟩⟩
theorem asc_succ (n : Nat) : asc (n + 1) = asc n ++ [(n : Int)] := by simp [asc, List.range_succ]
theorem Full.perm {n : Nat} {l : List Int} (h : Full n l) : l.Perm (asc n) := by
  induction n generalizing l with
  | zero => obtain rfl := List.length_eq_zero_iff.1 h.1; exact List.Perm.refl _
  | succ n ih =>
    have hm := h.2 n (by omega)
    have p1 := List.perm_cons_erase hm
    have hf : Full n (l.erase (n : Int)) := by
      refine ⟨by rw [List.length_erase_of_mem hm, h.1]; rfl, fun i hi => ?_⟩
      exact (List.mem_erase_of_ne (by omega)).2 (h.2 i (by omega))
    refine p1.trans (((ih hf).cons _).trans ?_)
    rw [asc_succ]
    exact (List.perm_append_singleton _ _).symm
theorem asc_nodup (n : Nat) : (asc n).Nodup := by
  induction n with
  | zero => simp [asc]
  | succ n ih =>
    rw [asc_succ, List.nodup_append]
    refine ⟨ih, by simp, fun x hx y hy => ?_⟩
    simp at hy
    have := asc_mem n x hx
    omega
theorem Full.nodup {n : Nat} {l : List Int} (h : Full n l) : l.Nodup := h.perm.symm.nodup (asc_nodup n)
theorem Full.range {n : Nat} {l : List Int} (h : Full n l) (x : Int) (hx : x ∈ l) : 0 ≤ x ∧ x < n := asc_mem n x (h.perm.mem_iff.1 hx)
theorem getD_set (l : List Int) (i j : Nat) (x : Int) (hi : i < l.length) : (l.set i x).getD j 0 = if i = j then x else l.getD j 0 := by
  simp only [List.getD_eq_getElem?_getD, List.getElem?_set]
  by_cases e : i = j
  · subst e; simp [hi]
  · simp [e]
theorem swp_get (l : List Int) (i k j : Nat) (hi : i < l.length) (hk : k < l.length) :
    (swp l i k).getD j 0 = if j = k then l.getD i 0 else if j = i then l.getD k 0 else l.getD j 0 := by
  unfold swp
  rw [getD_set _ _ _ _ (by simpa using hk), getD_set _ _ _ _ hi]
  by_cases e1 : j = k
  · subst e1; simp
  · have e1' : ¬ k = j := fun h => e1 h.symm
    by_cases e2 : j = i
    · subst e2; simp [e1, e1']
    · have e2' : ¬ i = j := fun h => e2 h.symm
      simp [e1, e1', e2, e2']
theorem mem_of_getD (l : List Int) (j : Nat) (hj : j < l.length) : l.getD j 0 ∈ l := by simp [List.getD_eq_getElem?_getD, hj]
theorem getD_of_mem {l : List Int} {x : Int} (h : x ∈ l) : ∃ j, j < l.length ∧ l.getD j 0 = x :=
  ⟨fd x l, (fd_mem x l).1 h, fd_get x l ((fd_mem x l).1 h)⟩
theorem mem_swp (l : List Int) (i k : Nat) (hi : i < l.length) (hk : k < l.length) (x : Int) (h : x ∈ l) : x ∈ swp l i k := by
  obtain ⟨j, hj, rfl⟩ := getD_of_mem h
  by_cases e1 : j = i
  · have := mem_of_getD (swp l i k) k (by rw [swp_length]; exact hk)
    rw [swp_get l i k k hi hk, if_pos rfl] at this
    rw [e1]; exact this
  · by_cases e2 : j = k
    · have := mem_of_getD (swp l i k) i (by rw [swp_length]; exact hi)
      rw [swp_get l i k i hi hk] at this
      by_cases e3 : i = k
      · omega
      · rw [if_neg e3, if_pos rfl] at this
        rw [e2]; exact this
    · have := mem_of_getD (swp l i k) j (by rw [swp_length]; exact hj)
      rw [swp_get l i k j hi hk, if_neg e2, if_neg e1] at this
      exact this
theorem Full.swp {n : Nat} {l : List Int} (h : Full n l) (i k : Nat) (hi : i < n) (hk : k < n) : Full n (swp l i k) :=
  ⟨by rw [swp_length]; exact h.1, fun j hj => mem_swp l i k (by rw [h.1]; exact hi) (by rw [h.1]; exact hk) _ (h.2 j hj)⟩
theorem Full.inj {n : Nat} {l : List Int} (h : Full n l) (i j : Nat) (hi : i < n) (hj : j < n) (e : l.getD i 0 = l.getD j 0) : i = j := by
  have hn := h.nodup
  have hl := h.1
  have := (List.getElem_inj (i := i) (j := j) hn (h₀ := by omega) (h₁ := by omega)).1
  apply this
  simpa [List.getD_eq_getElem?_getD, show i < l.length by omega, show j < l.length by omega] using e
/-- the draws that lead to the permutation o, the rounds q - 1, .., 0 still to go -/
def un (o : List Int) : Nat → List Int → List Int
  | 0, _ => []
  | i + 1, rest => un o i (swp rest i (fd (o.getD i 0) rest)) ++ [((fd (o.getD i 0) rest : Nat) : Int)]
theorem un_length (o : List Int) (q : Nat) (rest : List Int) : (un o q rest).length = q := by
  induction q generalizing rest with
  | zero => rfl
  | succ q ih => simp [un, ih]
theorem un_step (o rest d r : List Int) (i k : Nat) (hd : i < d.length) (hk : fd (o.getD i 0) rest = k) (h : un o (i + 1) rest ++ d.drop (i + 1) = r) :
    un o i (swp rest i k) ++ (d.set i (k : Int)).drop i = r := by
  rw [set_drop _ _ _ hd, ← h, un, hk, List.append_assoc]; rfl
/-- behind the rounds n - 1, .., q: the rest is full, and agrees with o from q on -/
def Agree (n q : Nat) (o rest : List Int) : Prop := Full n rest ∧ ∀ j, q ≤ j → j < n → rest.getD j 0 = o.getD j 0
theorem Agree.start (n : Nat) (o : List Int) : Agree n n o (asc n) := ⟨full_asc n, fun j h1 h2 => by omega⟩
theorem Agree.step {n i k : Nat} {o rest : List Int} (h : Agree n (i + 1) o rest) (hi : i < n) (hk : k ≤ i) (hx : rest.getD k 0 = o.getD i 0) : Agree n i o (swp rest i k) := by
  have hl := h.1.1
  refine ⟨h.1.swp i k hi (by omega), fun j h1 h2 => ?_⟩
  rw [swp_get _ _ _ _ (by omega) (by omega)]
  by_cases e1 : j = k
  · have : i = k := by omega
    rw [if_pos e1, this, hx, e1, this]
  · rw [if_neg e1]
    by_cases e2 : j = i
    · rw [if_pos e2, hx, e2]
    · rw [if_neg e2]; exact h.2 j (by omega) h2
/-- where o is full, too, the next element is found, and not beyond its place -/
theorem Agree.found {n i : Nat} {o rest : List Int} (h : Agree n (i + 1) o rest) (ho : Full n o) (hi : i < n) : fd (o.getD i 0) rest ≤ i := by
  have hl := h.1.1
  have hm : o.getD i 0 ∈ rest := by
    have hr := ho.range _ (mem_of_getD o i (by rw [ho.1]; exact hi))
    have := h.1.2 (o.getD i 0).toNat (by omega)
    rwa [Int.toNat_of_nonneg hr.1] at this
  have hp := (fd_mem _ _).1 hm
  refine Classical.byContradiction fun hc => ?_
  have e := h.2 (fd (o.getD i 0) rest) (by omega) (by omega)
  rw [fd_get _ _ hp] at e
  have := ho.inj i _ hi (by omega) e
  omega
theorem Agree.fin {n : Nat} {o rest : List Int} (h : Agree n 0 o rest) (ho : o.length = n) : rest = o :=
  ext_same _ _ (by rw [h.1.1, ho]) fun j hj => h.2 j (by omega) (by rw [← h.1.1]; exact hj)
open Classical in
noncomputable def drwB (o : List Int) : Bool := decide (o.length ≤ 20 ∧ Full o.length o)
open Classical in
noncomputable def drwL (o : List Int) : List Int := if o.length ≤ 20 ∧ Full o.length o then un o o.length (asc o.length) else []
theorem drw_yes (o : List Int) (h1 : o.length ≤ 20) (h2 : Full o.length o) : drwB o = true ∧ drwL o = un o o.length (asc o.length) :=
  ⟨by unfold drwB; simp [h1, h2], by unfold drwL; rw [if_pos ⟨h1, h2⟩]⟩
theorem drw_no (o : List Int) (h : ¬ (o.length ≤ 20 ∧ Full o.length o)) : drwB o = false ∧ drwL o = [] :=
  ⟨by unfold drwB; simp only [decide_eq_false_iff_not]; exact h, by unfold drwL; rw [if_neg h]⟩
theorem un_mem (o : List Int) (n q : Nat) (rest : List Int) (h : Agree n q o rest) (ho : Full n o) (hq : q ≤ n) (x : Int) (hx : x ∈ un o q rest) : 0 ≤ x ∧ x < q := by
  induction q generalizing rest with
  | zero => simp [un] at hx
  | succ i ih =>
    have hf := h.found ho (by omega)
    rw [un, List.mem_append, List.mem_singleton] at hx
    rcases hx with hx | rfl
    · have := ih _ (h.step (by omega) hf (fd_get _ _ (by have := h.1.1; omega))) (by omega) hx
      omega
    · omega
theorem shuf_full (d : List Int) (n i : Nat) (l : List Int) (h : Full n l) (hi : i < n) : Full n (shuf d i l) := by
  induction i generalizing l with
  | zero => exact h
  | succ i ih =>
    unfold shuf
    have := drawI_le d (i + 1)
    exact ih _ (h.swp _ _ hi (by omega)) (by omega)
theorem shuf_get (d : List Int) (i j : Nat) (l : List Int) (hj : j < l.length) (hij : i < j) : (shuf d i l).getD j 0 = l.getD j 0 := by
  induction i generalizing l with
  | zero => rfl
  | succ i ih =>
    unfold shuf
    have := drawI_le d (i + 1)
    rw [ih _ (by rw [swp_length]; exact hj) (by omega), swp_get _ _ _ _ (by omega) (by omega), if_neg (by omega), if_neg (by omega)]
theorem fd_full {n : Nat} {l : List Int} (h : Full n l) (k : Nat) (hk : k < n) : fd (l.getD k 0) l = k := by
  have hm := (fd_mem _ _).1 (mem_of_getD l k (by rw [h.1]; exact hk))
  exact (h.inj k _ hk (by rw [← h.1]; exact hm) (fd_get _ _ hm).symm).symm
/-- a list of draws: element i is from 0 to i -/
def OkDraws (d : List Int) : Prop := ∀ i : Nat, i < d.length → 0 ≤ d.getD i 0 ∧ d.getD i 0 ≤ i
theorem drawI_ok (d : List Int) (h : OkDraws d) (i : Nat) (hi : i < d.length) : (drawI d i : Int) = d.getD i 0 := by
  have := h i hi
  unfold drawI
  rw [Int.emod_eq_of_lt (by omega) (by omega)]
  omega
theorem take_snoc (l : List Int) (i : Nat) (h : i < l.length) : l.take (i + 1) = l.take i ++ [l.getD i 0] := by
  rw [List.take_succ_eq_append_getElem h]; simp [List.getD_eq_getElem?_getD, h]
theorem un_shuf (d : List Int) (n i : Nat) (rest : List Int) (hd : OkDraws d) (hdl : d.length = n) (h : Full n rest) (hi : i < n) :
    un (shuf d i rest) (i + 1) rest = d.take (i + 1) := by
  induction i generalizing rest with
  | zero =>
    have h0 := hd 0 (by omega)
    have e0 : d.getD 0 0 = 0 := by omega
    rw [un, un, shuf, fd_full h 0 hi, take_snoc _ _ (by omega), e0]
    rfl
  | succ i ih =>
    have hk := drawI_le d (i + 1)
    have hl := h.1
    have e : (shuf d (i + 1) rest).getD (i + 1) 0 = rest.getD (drawI d (i + 1)) 0 := by
      rw [shuf, shuf_get _ _ _ _ (by rw [swp_length]; omega) (by omega), swp_get _ _ _ _ (by omega) (by omega)]
      by_cases e : i + 1 = drawI d (i + 1)
      · rw [if_pos e, ← e]
      · rw [if_neg e, if_pos rfl]
    rw [un, e, fd_full h _ (by omega), shuf, ih _ (h.swp _ _ hi (by omega)) (by omega), drawI_ok d hd _ (by omega), ← take_snoc _ _ (by omega)]
/-- draws lead to a permutation and back -/
theorem un_back (d : List Int) (n : Nat) (hn : 1 ≤ n) (hd : OkDraws d) (hdl : d.length = n) : un (shuf d (n - 1) (asc n)) n (asc n) = d := by
  have := un_shuf d n (n - 1) (asc n) hd hdl (full_asc n) (by omega)
  rw [show n - 1 + 1 = n by omega] at this
  rw [this, ← hdl, List.take_length]
/-- what has been seen behind k rounds over o -/
def seenL (n : Nat) (o : List Int) (k : Nat) : List Bool := (List.range n).map fun (i : Nat) => decide ((i : Int) ∈ o.take k)
theorem seenL_length (n : Nat) (o : List Int) (k : Nat) : (seenL n o k).length = n := by simp [seenL]
theorem seenL_zero (n : Nat) (o : List Int) : seenL n o 0 = List.replicate n false := by
  apply List.ext_getElem (by simp [seenL])
  intro i h1 h2
  simp [seenL]
theorem seenL_get (n : Nat) (o : List Int) (k i : Nat) (hi : i < n) : (seenL n o k).getD i false = decide ((i : Int) ∈ o.take k) := by
  simp [seenL, List.getD_eq_getElem?_getD, hi]
theorem seenL_step (n : Nat) (o : List Int) (k i : Nat) (hk : k < o.length) (hi : o.getD k 0 = i) (hin : i < n) : (seenL n o k).set i true = seenL n o (k + 1) := by
  apply List.ext_getElem (by simp [seenL])
  intro j h1 h2
  have e := take_snoc o k hk
  have hj : j < n := by simpa [seenL] using h2
  rw [List.getElem_set]
  simp only [seenL, List.getElem_map, List.getElem_range, e, List.mem_append, List.mem_singleton, hi]
  by_cases c : i = j
  · simp [c]
  · rw [if_neg c]
    have : ¬ (j : Int) = (i : Int) := by omega
    simp [this]
theorem seen_no (n : Nat) (o : List Int) (h : Full n o) (k : Nat) (hk : k < n) : o.getD k 0 ∉ o.take k := by
  intro hm
  obtain ⟨j, hj, e⟩ := List.getElem_of_mem hm
  have hj' : j < k := by simp at hj; omega
  have : k = j := by
    refine h.inj k j hk (by omega) ?_
    rw [← e]
    have h1 := h.1
    simp [List.getD_eq_getElem?_getD, show j < o.length by omega]
  omega
theorem okD_snoc (l : List Int) (i : Nat) (x : Int) : okD i (l ++ [x]) = (okD i l && decide (0 ≤ x ∧ x ≤ (i + l.length : Nat))) := by
  induction l generalizing i with
  | nil => simp [okD]
  | cons y t ih =>
    rw [List.cons_append, okD, ih, okD, Bool.and_assoc, List.length_cons, show i + 1 + t.length = i + (t.length + 1) by omega]
theorem idxR_snoc (l : List Int) (i a : Nat) (x : Int) : idxR i a (l ++ [x]) = idxR i a l * (i + l.length + 1) + x.toNat := by
  induction l generalizing i a with
  | nil => simp [idxR]
  | cons y t ih =>
    rw [List.cons_append, idxR, ih, idxR]
    simp only [List.length_cons]
    rw [show i + 1 + t.length + 1 = i + (t.length + 1) + 1 by omega]
theorem idx_nth (n k : Nat) (h : k < fact n) : okD 0 (nthR n k) = true ∧ idxR 0 0 (nthR n k) = k := by
  induction n generalizing k with
  | zero => simp [fact] at h; subst h; exact ⟨rfl, rfl⟩
  | succ n ih =>
    have hm := Nat.mod_lt k (show 0 < n + 1 by omega)
    have hd : k / (n + 1) < fact n := by
      rw [Nat.div_lt_iff_lt_mul (by omega), Nat.mul_comm]
      exact h
    obtain ⟨h1, h2⟩ := ih _ hd
    have hl := nthR_length n (k / (n + 1))
    refine ⟨?_, ?_⟩
    · rw [nthR, okD_snoc, h1, hl, decide_eq_true (by omega)]; rfl
    · rw [nthR, idxR_snoc, h2, hl, Int.toNat_natCast, Nat.zero_add]
      have := Nat.div_add_mod k (n + 1)
      rw [Nat.mul_comm] at this
      exact this
/-- the number of the list of draws with a number -/
theorem index_nth (n k : Int) (h : nthB n k = true) : idxB (nthL n k) = true ∧ idxI (nthL n k) = k := by
  have h : 0 ≤ k ∧ k < cntI n := by simpa [nthB] using h
  obtain ⟨n0, n20, _, hl⟩ := nth_yes n k h
  obtain ⟨m, rfl⟩ : ∃ m : Nat, n = m := ⟨n.toNat, by omega⟩
  obtain ⟨j, rfl⟩ : ∃ j : Nat, k = j := ⟨k.toNat, by omega⟩
  rw [cntI_in m (by omega)] at h
  have hm : m ≤ 20 := by omega
  obtain ⟨h1, h2⟩ := idx_nth m j (by omega)
  rw [hl, Int.toNat_natCast, Int.toNat_natCast]
  have hb : idxB (nthR m j) = true := by
    unfold idxB
    rw [nthR_length, decide_eq_true hm, h1]
    rfl
  refine ⟨hb, ?_⟩
  unfold idxI
  rw [if_pos hb, h2]
end Go.Proofs.Ytnbehigjeopniaa
/- The reader of choices: a select. -/
namespace Go.Proofs.Ytnbehigjeopniaa
open Go.ChangeShapes Go.WideShapes Go.ChangeAt Go.RowKit
set_option maxRecDepth 100000

/-- the cases and the draws that were made -/
structure SelOk (cs : List CaseM) (ds : List Int) (k : Nat) : Prop where
  nc : cs.length = k
  nd : ds.length = k
  good : ∀ c ∈ cs, c.ok ∧ (-1 ≤ c.chan ∧ c.chan < 8) ∧ (c.send = true ∨ c.val = 0)
  dok : okD 0 ds = true
  dsm : ∀ x ∈ ds, 0 ≤ x ∧ x < 100
theorem SelOk.snoc {cs : List CaseM} {ds : List Int} {k : Nat} (h : SelOk cs ds k) (hk : k < 50) (c : CaseM) (d : Int) (h1 : c.ok) (h2 : -1 ≤ c.chan ∧ c.chan < 8) (h3 : c.send = true ∨ c.val = 0) (h4 : 0 ≤ d ∧ d ≤ k) : SelOk (cs ++ [c]) (ds ++ [d]) (k + 1) := by
  refine ⟨by simp [h.nc], by simp [h.nd], ?_, ?_, ?_⟩
  · intro x hx
    rw [List.mem_append, List.mem_singleton] at hx
    rcases hx with hx | rfl
    · exact h.good x hx
    · exact ⟨h1, h2, h3⟩
  · rw [okD_snoc, h.dok, h.nd]; simp; omega
  · intro x hx
    rw [List.mem_append, List.mem_singleton] at hx
    rcases hx with hx | rfl
    · exact h.dsm x hx
    · omega
theorem SelOk.goodOp {cs : List CaseM} {ds : List Int} {k : Nat} (h : SelOk cs ds k) (hk : k ≤ 6) (m d : Int) (hm : (m = 0 ∧ d = 0) ∨ (m = 1 ∧ d = 0) ∨ (m = 2 ∧ 0 ≤ d ∧ d < 5)) : OpM.good ⟨4, m, 0, 0, d, cs, ds⟩ := by
  have hm2 : 0 ≤ m ∧ m ≤ 2 := by omega
  have hd2 : 0 ≤ d ∧ d < 5 := by omega
  refine ⟨?_, ⟨i64_small _ (by simp only; omega) (by simp only; omega), i64_small _ (by simp only; omega) (by simp only; omega), i64_small _ (by simp only; omega) (by simp only; omega), u64_ok _ (by simp only; omega) (by simp only; omega), i64_small _ (by simp only; omega) (by simp only; omega)⟩, by simp only; rw [h.nc]; omega, by simp only; rw [h.nd]; omega, fun c hc => (h.good c hc).1⟩
  have k1 : kindB ⟨4, m, 0, 0, d, cs, ds⟩ = true := by simp [kindB]; omega
  have k2 : rangesB ⟨4, m, 0, 0, d, cs, ds⟩ = true := by
    simp only [rangesB, Bool.and_eq_true, decide_eq_true_eq, List.all_eq_true]
    refine ⟨⟨⟨by decide, by omega⟩, by omega⟩, fun c hc => ?_⟩
    have := (h.good c hc).2.1
    simp [namedB]; omega
  have k3 : shapeB ⟨4, m, 0, 0, d, cs, ds⟩ = true := by
    unfold shapeB
    have a3 : (((4 : Int) == 3 || (4 : Int) == 5 || (4 : Int) == 6) && m != 0 || (d != 0 && m != 2)) = false := by
      rcases hm with ⟨rfl, rfl⟩ | ⟨rfl, rfl⟩ | ⟨rfl, _⟩ <;> simp
    simp only [a3, Bool.false_eq_true, if_false]
    have a4 : ((4 : Int) != 4) = false := by decide
    have a5 : decide (ds.length ≠ cs.length) = false := by simp [h.nc, h.nd]
    simp only [a4, a5, Bool.false_eq_true, if_false]
    simp only [bne_self_eq_false, Bool.or_false, Bool.false_eq_true, if_false, List.all_eq_true, Bool.or_eq_true, beq_iff_eq]
    exact fun c hc => (h.good c hc).2.2
  have k4 : ¬ (6 < cs.length ∨ 6 < ds.length) := by rw [h.nc, h.nd]; omega
  show checkE ⟨4, m, 0, 0, d, cs, ds⟩ = 0
  unfold checkE
  rw [if_neg (by rw [k1]; simp), if_neg (by rw [k2]; simp), if_neg k4, if_neg (by rw [show okD 0 ds = true from h.dok]; simp), if_neg (by rw [k3]; simp)]
theorem SelInv.start {w : World} {g : Nat} (cc : Array Value) (h : CodesE w g) :
    SelInv w (((w.alloc (.cells cc 60)).alloc (.cells zeroOp 54)).alloc (.cells #[.int .i64 4, .int .i64 0, .int .i64 0, .int .u64 0, .int .i64 0, .slice none 0 0, .slice none 0 0] 54)) g cc (.slice none 0 0) (.slice none 0 0) [] [] := by
  have hb := below_new (below_new (below_new (Below.refl w.heap.size w) (.cells cc 60)) (.cells zeroOp 54)) (.cells #[.int .i64 4, .int .i64 0, .int .i64 0, .int .u64 0, .int .i64 0, .slice none 0 0, .slice none 0 0] 54)
  refine ⟨h.lt, by simp, h.kept h.lt hb, grown_of_below hb, ?_, ?_, ?_, OwnC.nil _ _, OwnI.nil _ _ _ _⟩
  · rw [heap_alloc_old _ _ (by simp; omega)]; exact heap_alloc2_old _ _ _
  · rw [heap_alloc_old _ _ (by simp)]; exact heap_alloc2_new _ _ _
  · have := heap_alloc_new ((w.alloc (.cells cc 60)).alloc (.cells zeroOp 54)) (.cells #[.int .i64 4, .int .i64 0, .int .i64 0, .int .u64 0, .int .i64 0, .slice none 0 0, .slice none 0 0] 54)
    simpa using this
set_option maxRecDepth 100000 in
set_option maxHeartbeats 8000000 in
theorem selectE (g most : Nat) (v : Value) (c : ConfM) (w : World) (h : CodesE w g) (hv : ConfX w g v c) (hc : c.caps.length ≤ 8) (hm : most ≤ 6) :
    Calls Try.prog 42 #[.pointer (some ⟨g, 0, none⟩), v, .int .i64 most] w fun e w' => ∃ u op, e = .returned u ∧ OpN w' w.heap.size u op ∧ op.good ∧ CodesE w' g ∧ w.grownBy w' (some g) := by
  have HX := Lib.hid hv
  obtain ⟨vc, vs, rfl, h1, h2, -⟩ := hv
  have ST := Lib.hid (SelInv.start #[vc, vs, .int .i64 c.threads] h)
  have HOK : Hid (SelOk [] [] 0) := ⟨rfl, rfl, by simp, rfl, by simp⟩
  obtain ⟨a, cap, rfl, -⟩ := h1.len
  obtain ⟨a2, cap2, rfl, -⟩ := h2.len
  have hlt := h.lt
  clear h1 h2 h
  obtain ⟨W, hW⟩ : ∃ W, (((w.alloc (.cells #[.slice a c.caps.length cap, .slice a2 c.starts.length cap2, .int .i64 c.threads] 60)).alloc (.cells zeroOp 54)).alloc (.cells #[.int .i64 4, .int .i64 0, .int .i64 0, .int .u64 0, .int .i64 0, .slice none 0 0, .slice none 0 0] 54)) = W := ⟨_, rfl⟩
  rw [hW] at ST
  have HW := Lib.hid hW
  clear hW
  go_enter Try.func42, Try.ntmps42
  go_wp2_with fail
  rw [show (#[.int .i64 0, .int .i64 0, .int .i64 0, .int .u64 0, .int .i64 0, .slice none 0 0, .slice none 0 0] : Array Value) = zeroOp from rfl, HW.out, show w.heap.size + 1 + 1 = w.heap.size + 2 from rfl]
  clear HW
  go_loopw [8, 9] (fun i _ wr => ∃ k : Nat, ∃ vcs vds cs ds, k ≤ most ∧ i = .int .i64 k ∧ Hid (SelInv w wr g #[.slice a c.caps.length cap, .slice a2 c.starts.length cap2, .int .i64 c.threads] vcs vds cs ds) ∧ Hid (SelOk cs ds k)) (fun i _ _ => most + 1 - (intOf i).toNat)
  case atStart => exact ⟨0, _, _, _, _, by omega, rfl, ST, HOK⟩
  case round =>
    obtain ⟨k, vcs, vds, cs, ds, hk, rfl, hI, hO⟩ := hrel
    obtain ⟨wo, rfl⟩ : ∃ wo : World, wo = wr := ⟨_, rfl⟩
    go_wp2_with fail
    refine (nextE g _ _ hI.out.codes (by omega) (by omega)).mono ?_; rintro e w1 ⟨x, rfl, hx0, hx1, hc1, hg1⟩
    have hI1 := Lib.hid (hI.out.next hc1 hg1)
    clear hI hc1 hg1
    by_cases hlt : (k : Int) < x
    · go_upto_region 5 with fail
      go_cut [9] (fun s9 wx => ∃ (Y : Nat) (sd : Bool) (z : Int), s9 = .pointer (some ⟨Y, 0, none⟩) ∧ -1 ≤ z ∧ z < 8 ∧ Hid (YInv w wx g #[.slice a c.caps.length cap, .slice a2 c.starts.length cap2, .int .i64 c.threads] vcs vds cs ds Y #[.bool sd, .int .i64 z, .int .u64 0]))
      case first =>
        obtain ⟨b0, b1, b2⟩ := row3 hI1.out.box
        have q1 : w.heap.size < w1.heap.size := by have := hI1.out.size; omega
        go_region_law (first
          | (go_simp; go_at_call 40; refine (channelE g _ c _ (by exact hY2.out.inv.codes) (by exact HX.out.grown hY2.out.inv.grown) hc).mono ?_; rintro e w3 ⟨z, rfl, hz0, hz1, hc3, hg3⟩; have hY3 := Lib.hid (hY2.out.next hc3 hg3); obtain ⟨y0, y1, y2⟩ := row3 hY3.out.row; obtain ⟨z0, z1, z2⟩ := hY3.out.frozen)
          | (go_simp; go_at_call 40; refine (channelE g _ c _ (by exact hI2.out.codes) (by exact HX.out.grown hI2.out.grown) hc).mono ?_; rintro e w3 ⟨z, rfl, hz0, hz1, hc3, hg3⟩; have hI3 := Lib.hid (hI2.out.next hc3 hg3))
          | (go_simp; go_at_call 40; refine (channelE g _ c _ (by exact (YInv.new hI2.out).inv.codes) (by exact HX.out.grown (YInv.new hI2.out).inv.grown) hc).mono ?_; rintro e w3 ⟨z, rfl, hz0, hz1, hc3, hg3⟩; have hY3 := Lib.hid ((YInv.new hI2.out).next hc3 hg3); obtain ⟨y0, y1, y2⟩ := row3 hY3.out.row; obtain ⟨z0, z1, z2⟩ := hY3.out.frozen)
          | (go_simp; go_at_call 31; refine (nextE g 2 _ (by exact hI1.out.codes) (by omega) (by omega)).mono ?_; rintro e w2 ⟨y, rfl, hy0, hy1, hc2, hg2⟩; have hI2 := Lib.hid (hI1.out.next hc2 (undrewG hg2)); obtain ⟨b0, b1, b2⟩ := row3 hI2.out.box; have q2 : w.heap.size < w2.heap.size := (by have := hI2.out.size; omega))
          | (go_simp; go_at_call 31; refine (nextE g 2 _ (by exact (YInv.new hI1.out).inv.codes) (by omega) (by omega)).mono ?_; rintro e w2 ⟨y, rfl, hy0, hy1, hc2, hg2⟩; have hY2 := Lib.hid ((YInv.new hI1.out).next hc2 (undrewG hg2)); obtain ⟨b0, b1, b2⟩ := row3 hY2.out.inv.box))
        all_goals
          go_wp2_with fail
          go_meet
          exact ⟨_, _, _, rfl, hz0, hz1, by first | exact hY3.out.set3 _ _ _ | exact YInv.lit hI3.out _⟩
      case rest =>
        obtain ⟨Y, sd, z, rfl, hz0, hz1, hY⟩ := hcut
        obtain ⟨y0, y1, y2⟩ := row3 hY.out.row
        clear hI1
        cases sd with
        | true =>
          go_wp2_with fail
          refine (valueE g _ hY.out.inv.codes).mono ?_; rintro e w4 ⟨val, rfl, hval, hc4, hg4⟩
          have hY4 := Lib.hid (hY.out.next hc4 hg4)
          obtain ⟨z0, z1, z2⟩ := hY4.out.frozen
          obtain ⟨y0, y1, y2⟩ := row3 hY4.out.row
          have hY5' := hY4.out.set 2 (.int .u64 val)
          simp at hY5'
          have hY5 := Lib.hid hY5'
          have HCS : Hid ((⟨true, z, val⟩ : CaseM).ok) := ⟨i64_small _ (by simp only; omega) (by simp only; omega), hval⟩
          clear hval hc4 hg4 hY5' hY4
          obtain ⟨y0, y1, y2⟩ := row3 hY5.out.row
          obtain ⟨v0, v1, v2, v3, v4, v5, v6⟩ := row7 hY5.out.inv.var
          go_upto_region 9 with (at_builtin; refine wp_append_case _ rfl _ _ rfl (w.heap.size + 3) vcs cs rfl (hY5.out.inv.oc.alloc _) ⟨true, z, val⟩ _ rfl ?_ ?_ ?_ ?_; exact ⟨World.cell?_alloc_at _ _ _ _ (by simp), World.cell?_alloc_at _ _ _ _ (by simp), World.cell?_alloc_at _ _ _ _ (by simp)⟩; (rw [hO.out.nc]; omega); (have := hY5.out.inv.size; simp at this ⊢; omega); (intro vcs2 w6 ho6 hg6; obtain ⟨g6, cap6, e6⟩ := OwnC.shape_ne ho6; subst e6; have hV6 := row7 (SelInv.varAt (hY5.out.inv.below (below_new (Below.refl _ _) _)) hg6 hY5.out.inv.oc.own_ge); have hF6 := frozen_of_row _ _ 5 _ _ (SelInv.varAt (hY5.out.inv.below (below_new (Below.refl _ _) _)) hg6 hY5.out.inv.oc.own_ge); obtain ⟨x0, x1, x2, x3, x4, x5, x6⟩ := hV6))
          have hI6 := Lib.hid (SelInv.addCase (hY5.out.inv.below (below_new (Below.refl _ _) _)) ho6 hg6)
          generalize (Value.slice (some ⟨g6, 0, none⟩) (cs.length + 1) cap6) = vcs2 at *
          clear ho6 hg6 hY5 hY
          generalize w6.setCell ⟨w.heap.size + 2, 5, none⟩ vcs2 = W6 at *
          clear x0 x1 x2 x3 x4 x5 x6 hF6
          obtain ⟨x0, x1, x2, x3, x4, x5, x6⟩ := row7 hI6.out.var
          have q9a : (0 : Int) ≤ (k : Int) + 1 := by omega
          have q9b : (1 : Int) ≤ (k : Int) + 1 := by omega
          have q9c : (k : Int) + 1 ≤ 256 := by omega
          have e9 : IntKind.i64.wrap ((k : Int) + 1) = (k : Int) + 1 := (i64_small _ (by omega) (by omega)).symm
          go_region_law (first
            | (refine step_append_i64 (by rfl) _ _ (by rfl) (w.heap.size + 3) vds ds (by rfl) (hI7.out.od.alloc _) d _ (by rfl) (by exact World.cell?_alloc_at _ _ _ _ rfl) (by rw [hO.out.nd]; omega) (by have := hI7.out.size; simp; omega) ?_; intro vds2 w8 ho8 hg8; obtain ⟨g8, cap8, e8⟩ := OwnI.shape_ne ho8; subst e8; have hr8 := SelInv.varAt (hI7.out.below (below_new (Below.refl _ _) _)) hg8 hI7.out.od.own_ge; have hF8 := frozen_of_row _ _ 6 _ _ hr8; obtain ⟨x0, x1, x2, x3, x4, x5, x6⟩ := row7 hr8; clear hr8)
            | (go_simp; go_at_call 31; refine (nextE g ((k : Int) + 1) _ (by exact hI6.out.codes) q9b q9c).mono ?_; rintro e w7 ⟨d, rfl, hd0, hd1, hc7, hg7⟩; have hI7 := Lib.hid (hI6.out.next hc7 (undrewG hg7)); obtain ⟨x0, x1, x2, x3, x4, x5, x6⟩ := row7 hI7.out.var; have q7 : w.heap.size + 2 < w7.heap.size := (by have := hI7.out.size; omega)))
          all_goals
            have hI8 := Lib.hid (SelInv.addDraw (hI7.out.below (below_new (Below.refl _ _) _)) ho8 hg8)
            clear e9 q7 ho8 hg8 hc7 hg7 x0 x1 x2 x3 x4 x5 x6
            have hO8 := Lib.hid (hO.out.snoc (by omega) ⟨true, z, val⟩ d HCS.out ⟨hz0, hz1⟩ (.inl rfl) ⟨hd0, by omega⟩)
            go_wp2
            go_roundw
            case rel => exact ⟨k + 1, vcs2, _, _, _, by omega, by go_num, hI8, hO8⟩
            case measure => simp [intOf]; omega
        | false =>
          have hY5 := hY
          obtain ⟨val, hv0⟩ : ∃ val : Int, val = 0 := ⟨0, rfl⟩
          rw [← hv0] at hY5 y2
          have HCS : Hid ((⟨false, z, val⟩ : CaseM).ok) := ⟨i64_small _ (by simp only; omega) (by simp only; omega), u64_ok _ (by simp only; omega) (by simp only; omega)⟩
          have HV0 := Lib.hid hv0
          clear hv0
          obtain ⟨v0, v1, v2, v3, v4, v5, v6⟩ := row7 hY5.out.inv.var
          go_upto_region 9 with (at_builtin; refine wp_append_case _ rfl _ _ rfl (w.heap.size + 3) vcs cs rfl (hY5.out.inv.oc.alloc _) ⟨false, z, val⟩ _ rfl ?_ ?_ ?_ ?_; exact ⟨World.cell?_alloc_at _ _ _ _ rfl, World.cell?_alloc_at _ _ _ _ rfl, World.cell?_alloc_at _ _ _ _ rfl⟩; (rw [hO.out.nc]; omega); (have := hY5.out.inv.size; simp at this ⊢; omega); (intro vcs2 w6 ho6 hg6; obtain ⟨g6, cap6, e6⟩ := OwnC.shape_ne ho6; subst e6; have hV6 := row7 (SelInv.varAt (hY5.out.inv.below (below_new (Below.refl _ _) _)) hg6 hY5.out.inv.oc.own_ge); have hF6 := frozen_of_row _ _ 5 _ _ (SelInv.varAt (hY5.out.inv.below (below_new (Below.refl _ _) _)) hg6 hY5.out.inv.oc.own_ge); obtain ⟨x0, x1, x2, x3, x4, x5, x6⟩ := hV6))
          have hI6 := Lib.hid (SelInv.addCase (hY5.out.inv.below (below_new (Below.refl _ _) _)) ho6 hg6)
          generalize (Value.slice (some ⟨g6, 0, none⟩) (cs.length + 1) cap6) = vcs2 at *
          clear ho6 hg6 hY5 hY
          generalize w6.setCell ⟨w.heap.size + 2, 5, none⟩ vcs2 = W6 at *
          clear x0 x1 x2 x3 x4 x5 x6 hF6
          obtain ⟨x0, x1, x2, x3, x4, x5, x6⟩ := row7 hI6.out.var
          have q9a : (0 : Int) ≤ (k : Int) + 1 := by omega
          have q9b : (1 : Int) ≤ (k : Int) + 1 := by omega
          have q9c : (k : Int) + 1 ≤ 256 := by omega
          have e9 : IntKind.i64.wrap ((k : Int) + 1) = (k : Int) + 1 := (i64_small _ (by omega) (by omega)).symm
          go_region_law (first
            | (refine step_append_i64 (by rfl) _ _ (by rfl) (w.heap.size + 3) vds ds (by rfl) (hI7.out.od.alloc _) d _ (by rfl) (by exact World.cell?_alloc_at _ _ _ _ rfl) (by rw [hO.out.nd]; omega) (by have := hI7.out.size; simp; omega) ?_; intro vds2 w8 ho8 hg8; obtain ⟨g8, cap8, e8⟩ := OwnI.shape_ne ho8; subst e8; have hr8 := SelInv.varAt (hI7.out.below (below_new (Below.refl _ _) _)) hg8 hI7.out.od.own_ge; have hF8 := frozen_of_row _ _ 6 _ _ hr8; obtain ⟨x0, x1, x2, x3, x4, x5, x6⟩ := row7 hr8; clear hr8)
            | (go_simp; go_at_call 31; refine (nextE g ((k : Int) + 1) _ (by exact hI6.out.codes) q9b q9c).mono ?_; rintro e w7 ⟨d, rfl, hd0, hd1, hc7, hg7⟩; have hI7 := Lib.hid (hI6.out.next hc7 (undrewG hg7)); obtain ⟨x0, x1, x2, x3, x4, x5, x6⟩ := row7 hI7.out.var; have q7 : w.heap.size + 2 < w7.heap.size := (by have := hI7.out.size; omega)))
          all_goals
            have hI8 := Lib.hid (SelInv.addDraw (hI7.out.below (below_new (Below.refl _ _) _)) ho8 hg8)
            clear e9 q7 ho8 hg8 hc7 hg7 x0 x1 x2 x3 x4 x5 x6
            have hO8 := Lib.hid (hO.out.snoc (by omega) ⟨false, z, val⟩ d HCS.out ⟨hz0, hz1⟩ (.inr HV0.out) ⟨hd0, by omega⟩)
            go_wp2
            go_roundw
            case rel => exact ⟨k + 1, vcs2, _, _, _, by omega, by go_num, hI8, hO8⟩
            case measure => simp [intOf]; omega
    · obtain ⟨v0, v1, v2, v3, v4, v5, v6⟩ := row7 hI1.out.var
      have hdr : ∀ x ∈ ds, x = IntKind.i64.wrap x := fun x hx => i64_ok x (by have := hO.out.dsm x hx; omega) (by have := hO.out.dsm x hx; omega)
      have HDR := Lib.hid hdr
      have HSC := Lib.hid (hI1.out.oc.read (by rw [hO.out.nc]; omega) fun x hx => (hO.out.good x hx).1)
      have HSD := Lib.hid (hI1.out.od.read (by rw [hO.out.nd]; omega) hdr)
      have one5 := hI1.out.oc.one
      have one6 := hI1.out.od.one
      clear hdr
      go_wp2_with fail
      refine (modeE g 4 0 0 0 0 vcs vds cs ds _ hI1.out.codes HSC.out HSD.out).mono ?_; rintro e w2 ⟨m, d, rfl, hmd, hc2, hg2⟩
      have hI2 := Lib.hid (hI1.out.next hc2 hg2)
      have HMD := Lib.hid hmd
      clear hmd hc2 hg2
      go_wp2_with (refine wpList_store_row rfl 54 _ _ rfl (w.heap.size + 1) _ rfl rfl 54 zeroOp hI2.out.res (by kernel_rfl) rfl (all7 one5 one6) ?_)
      refine bodyPost_ret (v := .agg #[.int .i64 4, .int .i64 m, .int .i64 0, .int .u64 0, .int .i64 d, vcs, vds]) (results_cell_row Try.results42 _ _ (w.heap.size + 1) 54 _ (0, 0) _ rfl (setRow_heap _ _ _ _ 54 (0, 0) hI2.out.res) Try.underlying54 rfl (by kernel_rfl)) rfl ?_
      obtain ⟨f1, f2, f3⟩ := hI2.out.fin (by rw [hO.out.nc]; omega) (fun x hx => (hO.out.good x hx).1) (by rw [hO.out.nd]; omega) HDR.out #[.int .i64 4, .int .i64 m, .int .i64 0, .int .u64 0, .int .i64 d, vcs, vds] 4 m 0 0 d
      exact ⟨_, _, rfl, f1, hO.out.goodOp (by omega) m d HMD.out, f2, f3⟩
end Go.Proofs.Ytnbehigjeopniaa
