import Derived.Deep.DeepCutAuto
import Derived.Test.YtckjdlphilpgfaaB16
import Derived.Test.YtckjdlphilpgfaaB22
import Derived.Test.YtckjdlphilpgfaaB08
set_option linter.unusedVariables false
set_option linter.unusedSimpArgs false
/- Plain lists for layer 2: permutations and the way back from one to its draws; no Go in sight. -/
namespace Go.Proofs.Ytckjdlphilpgfaa
open Go.RowKit
set_option maxRecDepth 100000

theorem fd_le (x : Int) (l : List Int) : fd x l ≤ l.length := by
  induction l with
  | nil => exact Nat.le_refl _
  | cons y t ih => unfold fd; split <;> simp; exact ih
theorem fd_get (x : Int) (l : List Int) (h : fd x l < l.length) : l.getD (fd x l) 0 = x := by
  induction l with
  | nil => simp at h
  | cons y t ih =>
    unfold fd at h ⊢
    by_cases e : y = x
    · rw [if_pos e]; simpa using e
    · rw [if_neg e] at h ⊢
      simpa using ih (by simpa using h)
theorem fd_mem (x : Int) (l : List Int) : x ∈ l ↔ fd x l < l.length := by
  induction l with
  | nil => simp
  | cons y t ih =>
    unfold fd
    by_cases e : y = x
    · simp [e]
    · rw [if_neg e]
      simp only [List.mem_cons, List.length_cons]
      rw [ih]
      constructor
      · rintro (h | h)
        · exact absurd h.symm e
        · omega
      · intro h; right; omega
theorem fd_take (x : Int) (l : List Int) (m : Nat) (h : fd x l < m) : fd x (l.take m) = fd x l := by
  induction l generalizing m with
  | nil => simp
  | cons y t ih =>
    obtain ⟨m, rfl⟩ : ∃ m', m = m' + 1 := ⟨m - 1, by omega⟩
    rw [List.take_succ_cons]
    unfold fd at h ⊢
    by_cases e : y = x
    · rw [if_pos e, if_pos e]
    · rw [if_neg e] at h; rw [if_neg e, if_neg e, ih m (by omega)]
theorem fd_take_lt (x : Int) (l : List Int) (m : Nat) (h : fd x (l.take m) < (l.take m).length) : fd x (l.take m) = fd x l ∧ fd x l < m := by
  induction l generalizing m with
  | nil => simp at h
  | cons y t ih =>
    cases m with
    | zero => simp at h
    | succ m =>
      rw [List.take_succ_cons] at h ⊢
      unfold fd at h ⊢
      by_cases e : y = x
      · simp [e]
      · rw [if_neg e] at h; rw [if_neg e, if_neg e]
        obtain ⟨h1, h2⟩ := ih m (by simpa using h)
        exact ⟨by rw [h1], by omega⟩
/-- l has the length n and contains 0 to n - 1 -/
def Full (n : Nat) (l : List Int) : Prop := l.length = n ∧ ∀ i : Nat, i < n → (i : Int) ∈ l
theorem full_asc (n : Nat) : Full n (asc n) := ⟨asc_length n, fun i hi => by simp [asc]; exact ⟨i, hi, rfl⟩⟩
theorem asc_succ (n : Nat) : asc (n + 1) = asc n ++ [(n : Int)] := by simp [asc, List.range_succ]
theorem Full.perm {n : Nat} {l : List Int} (h : Full n l) : l.Perm (asc n) := by
  induction n generalizing l with
  | zero => obtain rfl := List.length_eq_zero_iff.1 h.1; exact List.Perm.refl _
  | succ n ih =>
    have hm := h.2 n (by omega)
    have p1 := List.perm_cons_erase hm
    have hf : Full n (l.erase (n : Int)) := by
      refine ⟨by rw [List.length_erase_of_mem hm, h.1]; rfl, fun i hi => ?_⟩
      exact (List.mem_erase_of_ne (by omega)).2 (h.2 i (by omega))
    refine p1.trans (((ih hf).cons _).trans ?_)
    rw [asc_succ]
    exact (List.perm_append_singleton _ _).symm
theorem asc_nodup (n : Nat) : (asc n).Nodup := by
  induction n with
  | zero => simp [asc]
  | succ n ih =>
    rw [asc_succ, List.nodup_append]
    refine ⟨ih, by simp, fun x hx y hy => ?_⟩
    simp at hy
    have := asc_mem n x hx
    omega
theorem Full.nodup {n : Nat} {l : List Int} (h : Full n l) : l.Nodup := h.perm.symm.nodup (asc_nodup n)
theorem Full.range {n : Nat} {l : List Int} (h : Full n l) (x : Int) (hx : x ∈ l) : 0 ≤ x ∧ x < n := asc_mem n x (h.perm.mem_iff.1 hx)
theorem getD_set (l : List Int) (i j : Nat) (x : Int) (hi : i < l.length) : (l.set i x).getD j 0 = if i = j then x else l.getD j 0 := by
  simp only [List.getD_eq_getElem?_getD, List.getElem?_set]
  by_cases e : i = j
  · subst e; simp [hi]
  · simp [e]
theorem swp_get (l : List Int) (i k j : Nat) (hi : i < l.length) (hk : k < l.length) :
    (swp l i k).getD j 0 = if j = k then l.getD i 0 else if j = i then l.getD k 0 else l.getD j 0 := by
  unfold swp
  rw [getD_set _ _ _ _ (by simpa using hk), getD_set _ _ _ _ hi]
  by_cases e1 : j = k
  · subst e1; simp
  · have e1' : ¬ k = j := fun h => e1 h.symm
    by_cases e2 : j = i
    · subst e2; simp [e1, e1']
    · have e2' : ¬ i = j := fun h => e2 h.symm
      simp [e1, e1', e2, e2']
theorem mem_of_getD (l : List Int) (j : Nat) (hj : j < l.length) : l.getD j 0 ∈ l := by simp [List.getD_eq_getElem?_getD, hj]
theorem getD_of_mem {l : List Int} {x : Int} (h : x ∈ l) : ∃ j, j < l.length ∧ l.getD j 0 = x :=
  ⟨fd x l, (fd_mem x l).1 h, fd_get x l ((fd_mem x l).1 h)⟩
theorem mem_swp (l : List Int) (i k : Nat) (hi : i < l.length) (hk : k < l.length) (x : Int) (h : x ∈ l) : x ∈ swp l i k := by
  obtain ⟨j, hj, rfl⟩ := getD_of_mem h
  by_cases e1 : j = i
  · have := mem_of_getD (swp l i k) k (by rw [swp_length]; exact hk)
    rw [swp_get l i k k hi hk, if_pos rfl] at this
    rw [e1]; exact this
  · by_cases e2 : j = k
    · have := mem_of_getD (swp l i k) i (by rw [swp_length]; exact hi)
      rw [swp_get l i k i hi hk] at this
      by_cases e3 : i = k
      · omega
      · rw [if_neg e3, if_pos rfl] at this
        rw [e2]; exact this
    · have := mem_of_getD (swp l i k) j (by rw [swp_length]; exact hj)
      rw [swp_get l i k j hi hk, if_neg e2, if_neg e1] at this
      exact this
theorem Full.swp {n : Nat} {l : List Int} (h : Full n l) (i k : Nat) (hi : i < n) (hk : k < n) : Full n (swp l i k) :=
  ⟨by rw [swp_length]; exact h.1, fun j hj => mem_swp l i k (by rw [h.1]; exact hi) (by rw [h.1]; exact hk) _ (h.2 j hj)⟩
theorem Full.inj {n : Nat} {l : List Int} (h : Full n l) (i j : Nat) (hi : i < n) (hj : j < n) (e : l.getD i 0 = l.getD j 0) : i = j := by
  have hn := h.nodup
  have hl := h.1
  have := (List.getElem_inj (i := i) (j := j) hn (h₀ := by omega) (h₁ := by omega)).1
  apply this
  simpa [List.getD_eq_getElem?_getD, show i < l.length by omega, show j < l.length by omega] using e
/-- the draws that lead to the permutation o, the rounds q - 1, .., 0 still to go -/
def un (o : List Int) : Nat → List Int → List Int
  | 0, _ => []
  | i + 1, rest => un o i (swp rest i (fd (o.getD i 0) rest)) ++ [((fd (o.getD i 0) rest : Nat) : Int)]
theorem un_length (o : List Int) (q : Nat) (rest : List Int) : (un o q rest).length = q := by
  induction q generalizing rest with
  | zero => rfl
  | succ q ih => simp [un, ih]
theorem un_step (o rest d r : List Int) (i k : Nat) (hd : i < d.length) (hk : fd (o.getD i 0) rest = k) (h : un o (i + 1) rest ++ d.drop (i + 1) = r) :
    un o i (swp rest i k) ++ (d.set i (k : Int)).drop i = r := by
  rw [set_drop _ _ _ hd, ← h, un, hk, List.append_assoc]; rfl
/-- behind the rounds n - 1, .., q: the rest is full, and agrees with o from q on -/
def Agree (n q : Nat) (o rest : List Int) : Prop := Full n rest ∧ ∀ j, q ≤ j → j < n → rest.getD j 0 = o.getD j 0
theorem Agree.start (n : Nat) (o : List Int) : Agree n n o (asc n) := ⟨full_asc n, fun j h1 h2 => by omega⟩
theorem Agree.step {n i k : Nat} {o rest : List Int} (h : Agree n (i + 1) o rest) (hi : i < n) (hk : k ≤ i) (hx : rest.getD k 0 = o.getD i 0) : Agree n i o (swp rest i k) := by
  have hl := h.1.1
  refine ⟨h.1.swp i k hi (by omega), fun j h1 h2 => ?_⟩
  rw [swp_get _ _ _ _ (by omega) (by omega)]
  by_cases e1 : j = k
  · have : i = k := by omega
    rw [if_pos e1, this, hx, e1, this]
  · rw [if_neg e1]
    by_cases e2 : j = i
    · rw [if_pos e2, hx, e2]
    · rw [if_neg e2]; exact h.2 j (by omega) h2
/-- where o is full, too, the next element is found, and not beyond its place -/
theorem Agree.found {n i : Nat} {o rest : List Int} (h : Agree n (i + 1) o rest) (ho : Full n o) (hi : i < n) : fd (o.getD i 0) rest ≤ i := by
  have hl := h.1.1
  have hm : o.getD i 0 ∈ rest := by
    have hr := ho.range _ (mem_of_getD o i (by rw [ho.1]; exact hi))
    have := h.1.2 (o.getD i 0).toNat (by omega)
    rwa [Int.toNat_of_nonneg hr.1] at this
  have hp := (fd_mem _ _).1 hm
  refine Classical.byContradiction fun hc => ?_
  have e := h.2 (fd (o.getD i 0) rest) (by omega) (by omega)
  rw [fd_get _ _ hp] at e
  have := ho.inj i _ hi (by omega) e
  omega
theorem Agree.fin {n : Nat} {o rest : List Int} (h : Agree n 0 o rest) (ho : o.length = n) : rest = o :=
  ext_same _ _ (by rw [h.1.1, ho]) fun j hj => h.2 j (by omega) (by rw [← h.1.1]; exact hj)
open Classical in
noncomputable def drwB (o : List Int) : Bool := decide (o.length ≤ 20 ∧ Full o.length o)
open Classical in
noncomputable def drwL (o : List Int) : List Int := if o.length ≤ 20 ∧ Full o.length o then un o o.length (asc o.length) else []
theorem drw_yes (o : List Int) (h1 : o.length ≤ 20) (h2 : Full o.length o) : drwB o = true ∧ drwL o = un o o.length (asc o.length) :=
  ⟨by unfold drwB; simp [h1, h2], by unfold drwL; rw [if_pos ⟨h1, h2⟩]⟩
theorem drw_no (o : List Int) (h : ¬ (o.length ≤ 20 ∧ Full o.length o)) : drwB o = false ∧ drwL o = [] :=
  ⟨by unfold drwB; simp only [decide_eq_false_iff_not]; exact h, by unfold drwL; rw [if_neg h]⟩
theorem un_mem (o : List Int) (n q : Nat) (rest : List Int) (h : Agree n q o rest) (ho : Full n o) (hq : q ≤ n) (x : Int) (hx : x ∈ un o q rest) : 0 ≤ x ∧ x < q := by
  induction q generalizing rest with
  | zero => simp [un] at hx
  | succ i ih =>
    have hf := h.found ho (by omega)
    rw [un, List.mem_append, List.mem_singleton] at hx
    rcases hx with hx | rfl
    · have := ih _ (h.step (by omega) hf (fd_get _ _ (by have := h.1.1; omega))) (by omega) hx
      omega
    · omega
theorem shuf_full (d : List Int) (n i : Nat) (l : List Int) (h : Full n l) (hi : i < n) : Full n (shuf d i l) := by
  induction i generalizing l with
  | zero => exact h
  | succ i ih =>
    unfold shuf
    have := drawI_le d (i + 1)
    exact ih _ (h.swp _ _ hi (by omega)) (by omega)
theorem shuf_get (d : List Int) (i j : Nat) (l : List Int) (hj : j < l.length) (hij : i < j) : (shuf d i l).getD j 0 = l.getD j 0 := by
  induction i generalizing l with
  | zero => rfl
  | succ i ih =>
    unfold shuf
    have := drawI_le d (i + 1)
    rw [ih _ (by rw [swp_length]; exact hj) (by omega), swp_get _ _ _ _ (by omega) (by omega), if_neg (by omega), if_neg (by omega)]
theorem fd_full {n : Nat} {l : List Int} (h : Full n l) (k : Nat) (hk : k < n) : fd (l.getD k 0) l = k := by
  have hm := (fd_mem _ _).1 (mem_of_getD l k (by rw [h.1]; exact hk))
  exact (h.inj k _ hk (by rw [← h.1]; exact hm) (fd_get _ _ hm).symm).symm
/-- a list of draws: element i is from 0 to i -/
def OkDraws (d : List Int) : Prop := ∀ i : Nat, i < d.length → 0 ≤ d.getD i 0 ∧ d.getD i 0 ≤ i
theorem drawI_ok (d : List Int) (h : OkDraws d) (i : Nat) (hi : i < d.length) : (drawI d i : Int) = d.getD i 0 := by
  have := h i hi
  unfold drawI
  rw [Int.emod_eq_of_lt (by omega) (by omega)]
  omega
theorem take_snoc (l : List Int) (i : Nat) (h : i < l.length) : l.take (i + 1) = l.take i ++ [l.getD i 0] := by
  rw [List.take_succ_eq_append_getElem h]; simp [List.getD_eq_getElem?_getD, h]
theorem un_shuf (d : List Int) (n i : Nat) (rest : List Int) (hd : OkDraws d) (hdl : d.length = n) (h : Full n rest) (hi : i < n) :
    un (shuf d i rest) (i + 1) rest = d.take (i + 1) := by
  induction i generalizing rest with
  | zero =>
    have h0 := hd 0 (by omega)
    have e0 : d.getD 0 0 = 0 := by omega
    rw [un, un, shuf, fd_full h 0 hi, take_snoc _ _ (by omega), e0]
    rfl
  | succ i ih =>
    have hk := drawI_le d (i + 1)
    have hl := h.1
    have e : (shuf d (i + 1) rest).getD (i + 1) 0 = rest.getD (drawI d (i + 1)) 0 := by
      rw [shuf, shuf_get _ _ _ _ (by rw [swp_length]; omega) (by omega), swp_get _ _ _ _ (by omega) (by omega)]
      by_cases e : i + 1 = drawI d (i + 1)
      · rw [if_pos e, ← e]
      · rw [if_neg e, if_pos rfl]
    rw [un, e, fd_full h _ (by omega), shuf, ih _ (h.swp _ _ hi (by omega)) (by omega), drawI_ok d hd _ (by omega), ← take_snoc _ _ (by omega)]
/-- draws lead to a permutation and back -/
theorem un_back (d : List Int) (n : Nat) (hn : 1 ≤ n) (hd : OkDraws d) (hdl : d.length = n) : un (shuf d (n - 1) (asc n)) n (asc n) = d := by
  have := un_shuf d n (n - 1) (asc n) hd hdl (full_asc n) (by omega)
  rw [show n - 1 + 1 = n by omega] at this
  rw [this, ← hdl, List.take_length]
/-- what has been seen behind k rounds over o -/
def seenL (n : Nat) (o : List Int) (k : Nat) : List Bool := (List.range n).map fun (i : Nat) => decide ((i : Int) ∈ o.take k)
theorem seenL_length (n : Nat) (o : List Int) (k : Nat) : (seenL n o k).length = n := by simp [seenL]
theorem seenL_zero (n : Nat) (o : List Int) : seenL n o 0 = List.replicate n false := by
  apply List.ext_getElem (by simp [seenL])
  intro i h1 h2
  simp [seenL]
theorem seenL_get (n : Nat) (o : List Int) (k i : Nat) (hi : i < n) : (seenL n o k).getD i false = decide ((i : Int) ∈ o.take k) := by
  simp [seenL, List.getD_eq_getElem?_getD, hi]
theorem seenL_step (n : Nat) (o : List Int) (k i : Nat) (hk : k < o.length) (hi : o.getD k 0 = i) (hin : i < n) : (seenL n o k).set i true = seenL n o (k + 1) := by
  apply List.ext_getElem (by simp [seenL])
  intro j h1 h2
  have e := take_snoc o k hk
  have hj : j < n := by simpa [seenL] using h2
  rw [List.getElem_set]
  simp only [seenL, List.getElem_map, List.getElem_range, e, List.mem_append, List.mem_singleton, hi]
  by_cases c : i = j
  · simp [c]
  · rw [if_neg c]
    have : ¬ (j : Int) = (i : Int) := by omega
    simp [this]
theorem seen_no (n : Nat) (o : List Int) (h : Full n o) (k : Nat) (hk : k < n) : o.getD k 0 ∉ o.take k := by
  intro hm
  obtain ⟨j, hj, e⟩ := List.getElem_of_mem hm
  have hj' : j < k := by simp at hj; omega
  have : k = j := by
    refine h.inj k j hk (by omega) ?_
    rw [← e]
    have h1 := h.1
    simp [List.getD_eq_getElem?_getD, show j < o.length by omega]
  omega
theorem okD_snoc (l : List Int) (i : Nat) (x : Int) : okD i (l ++ [x]) = (okD i l && decide (0 ≤ x ∧ x ≤ (i + l.length : Nat))) := by
  induction l generalizing i with
  | nil => simp [okD]
  | cons y t ih =>
    rw [List.cons_append, okD, ih, okD, Bool.and_assoc, List.length_cons, show i + 1 + t.length = i + (t.length + 1) by omega]
theorem idxR_snoc (l : List Int) (i a : Nat) (x : Int) : idxR i a (l ++ [x]) = idxR i a l * (i + l.length + 1) + x.toNat := by
  induction l generalizing i a with
  | nil => simp [idxR]
  | cons y t ih =>
    rw [List.cons_append, idxR, ih, idxR]
    simp only [List.length_cons]
    rw [show i + 1 + t.length + 1 = i + (t.length + 1) + 1 by omega]
theorem idx_nth (n k : Nat) (h : k < fact n) : okD 0 (nthR n k) = true ∧ idxR 0 0 (nthR n k) = k := by
  induction n generalizing k with
  | zero => simp [fact] at h; subst h; exact ⟨rfl, rfl⟩
  | succ n ih =>
    have hm := Nat.mod_lt k (show 0 < n + 1 by omega)
    have hd : k / (n + 1) < fact n := by
      rw [Nat.div_lt_iff_lt_mul (by omega), Nat.mul_comm]
      exact h
    obtain ⟨h1, h2⟩ := ih _ hd
    have hl := nthR_length n (k / (n + 1))
    refine ⟨?_, ?_⟩
    · rw [nthR, okD_snoc, h1, hl, decide_eq_true (by omega)]; rfl
    · rw [nthR, idxR_snoc, h2, hl, Int.toNat_natCast, Nat.zero_add]
      have := Nat.div_add_mod k (n + 1)
      rw [Nat.mul_comm] at this
      exact this
/-- the number of the list of draws with a number -/
theorem index_nth (n k : Int) (h : nthB n k = true) : idxB (nthL n k) = true ∧ idxI (nthL n k) = k := by
  have h : 0 ≤ k ∧ k < cntI n := by simpa [nthB] using h
  obtain ⟨n0, n20, _, hl⟩ := nth_yes n k h
  obtain ⟨m, rfl⟩ : ∃ m : Nat, n = m := ⟨n.toNat, by omega⟩
  obtain ⟨j, rfl⟩ : ∃ j : Nat, k = j := ⟨k.toNat, by omega⟩
  rw [cntI_in m (by omega)] at h
  have hm : m ≤ 20 := by omega
  obtain ⟨h1, h2⟩ := idx_nth m j (by omega)
  rw [hl, Int.toNat_natCast, Int.toNat_natCast]
  have hb : idxB (nthR m j) = true := by
    unfold idxB
    rw [nthR_length, decide_eq_true hm, h1]
    rfl
  refine ⟨hb, ?_⟩
  unfold idxI
  rw [if_pos hb, h2]
end Go.Proofs.Ytckjdlphilpgfaa
/- The reader of choices: configurations of any size. -/
namespace Go.Proofs.Ytckjdlphilpgfaa
open Go.ChangeShapes Go.WideShapes Go.ChangeAt Go.RowKit
set_option maxRecDepth 100000

def zeroConf : Array Value := #[.slice none 0 0, .slice none 0 0, .int .i64 0]
/-- while a configuration is made: the reader, the result's block, the variable with its two lists -/
structure WideInv (w0 w : World) (g : Nat) (vc vs : Value) (caps starts : List Int) : Prop where
  lt : g < w0.heap.size
  size : w0.heap.size + 2 ≤ w.heap.size
  codes : CodesE w g
  grown : w0.grownBy w (some g)
  res : w.heap[w0.heap.size]? = some (.cells zeroConf 34 (0, 0))
  var : w.heap[w0.heap.size + 1]? = some (.cells #[vc, vs, .int .i64 0] 34 (0, 0))
  oc : OwnI w (w0.heap.size + 2) 3 .i64 vc caps
  os : OwnI w (w0.heap.size + 2) 23 .u64 vs starts
theorem WideInv.start {w : World} {g : Nat} (h : CodesE w g) : WideInv w ((w.alloc (.cells zeroConf 34)).alloc (.cells zeroConf 34)) g (.slice none 0 0) (.slice none 0 0) [] [] := by
  have hb := below_new (below_new (Below.refl w.heap.size w) (.cells zeroConf 34)) (.cells zeroConf 34)
  exact ⟨h.lt, by simp, h.kept h.lt hb, grown_of_below hb, heap_alloc2_old _ _ _, heap_alloc2_new _ _ _, OwnI.nil _ _ _ _, OwnI.nil _ _ _ _⟩
theorem WideInv.next {w0 w w' : World} {g : Nat} {vc vs : Value} {caps starts : List Int} (h : WideInv w0 w g vc vs caps starts) (hc : CodesE w' g) (hg : w.grownBy w' (some g)) : WideInv w0 w' g vc vs caps starts := by
  have hs := h.size
  have hl := h.lt
  exact ⟨hl, Nat.le_trans hs hg.size, hc, grownBy_trans h.grown hg, (hg.block _ (by omega) (by simp; omega)).trans h.res, (hg.block _ (by omega) (by simp; omega)).trans h.var, h.oc.kept hg (h.oc.ne (by omega)), h.os.kept hg (h.os.ne (by omega))⟩
theorem WideInv.below {w0 w w' : World} {g : Nat} {vc vs : Value} {caps starts : List Int} (h : WideInv w0 w g vc vs caps starts) (hb : Below w.heap.size w w') : WideInv w0 w' g vc vs caps starts :=
  h.next (h.codes.kept h.codes.lt hb) (grown_of_below hb)
theorem WideInv.varAt {w0 w w1 : World} {g : Nat} {vc vs : Value} {caps starts : List Int} {row : Option Nat} (h : WideInv w0 w g vc vs caps starts) (hg : w.grownBy w1 row) (hr : ∀ j, row = some j → w0.heap.size + 2 ≤ j) :
    w1.heap[w0.heap.size + 1]? = some (.cells #[vc, vs, .int .i64 0] 34 (0, 0)) :=
  (hg.block _ (by have := h.size; omega) (fun e => by have := hr _ e.symm; omega)).trans h.var
theorem WideInv.addCap {w0 w w1 : World} {g : Nat} {vc vs vc' : Value} {caps caps' starts : List Int} (h : WideInv w0 w g vc vs caps starts) (ho : OwnI w1 (w0.heap.size + 2) 3 .i64 vc' caps') (hg : w.grownBy w1 vc.ownBlock) :
    WideInv w0 (w1.setCell ⟨w0.heap.size + 1, 0, none⟩ vc') g vc' vs caps' starts := by
  have hs := h.size
  have hl := h.lt
  have hge := h.oc.own_ge
  have b : ∀ j, j < w0.heap.size + 2 → w1.heap[j]? = w.heap[j]? := fun j hj => hg.block j (by omega) (fun e => by have := hge j e.symm; omega)
  have b2 : ∀ j, j ≠ w0.heap.size + 1 → (w1.setCell ⟨w0.heap.size + 1, 0, none⟩ vc').heap[j]? = w1.heap[j]? := fun j hj => heap_setCell_other w1 ⟨w0.heap.size + 1, 0, none⟩ j _ hj
  have hb : Below (w0.heap.size + 1) w (w1.setCell ⟨w0.heap.size + 1, 0, none⟩ vc') := by
    refine ⟨hg.os, hg.tape, hg.output, by simpa using hg.size, fun k hk => (b2 k (by omega)).trans (b k (by omega))⟩
  have hv := heap_setCell_same w1 (w0.heap.size + 1) 0 _ _ vc' ((b _ (by omega)).trans h.var)
  have h1 := h.os.kept hg (rows_apart h.os h.oc (by decide))
  refine ⟨hl, by simpa using Nat.le_trans hs hg.size, h.codes.kept (by omega) hb, ?_, (b2 _ (by omega)).trans ((b _ (by omega)).trans h.res), by simpa using hv, ?_, ?_⟩
  · exact grownBy_of_new (grownBy_of_new h.grown hg (fun k hk => by have := hge k hk; omega)) (grownBy_setCell w1 ⟨w0.heap.size + 1, 0, none⟩ vc') (fun k hk => by cases hk; simp)
  · exact ho.kept (grownBy_setCell w1 ⟨w0.heap.size + 1, 0, none⟩ vc') (ho.ne (Nat.lt_succ_self _))
  · exact h1.kept (grownBy_setCell w1 ⟨w0.heap.size + 1, 0, none⟩ vc') (h1.ne (Nat.lt_succ_self _))
theorem WideInv.addStart {w0 w w1 : World} {g : Nat} {vc vs vs' : Value} {caps starts starts' : List Int} (h : WideInv w0 w g vc vs caps starts) (ho : OwnI w1 (w0.heap.size + 2) 23 .u64 vs' starts') (hg : w.grownBy w1 vs.ownBlock) :
    WideInv w0 (w1.setCell ⟨w0.heap.size + 1, 1, none⟩ vs') g vc vs' caps starts' := by
  have hs := h.size
  have hl := h.lt
  have hge := h.os.own_ge
  have b : ∀ j, j < w0.heap.size + 2 → w1.heap[j]? = w.heap[j]? := fun j hj => hg.block j (by omega) (fun e => by have := hge j e.symm; omega)
  have b2 : ∀ j, j ≠ w0.heap.size + 1 → (w1.setCell ⟨w0.heap.size + 1, 1, none⟩ vs').heap[j]? = w1.heap[j]? := fun j hj => heap_setCell_other w1 ⟨w0.heap.size + 1, 1, none⟩ j _ hj
  have hb : Below (w0.heap.size + 1) w (w1.setCell ⟨w0.heap.size + 1, 1, none⟩ vs') := by
    refine ⟨hg.os, hg.tape, hg.output, by simpa using hg.size, fun k hk => (b2 k (by omega)).trans (b k (by omega))⟩
  have hv := heap_setCell_same w1 (w0.heap.size + 1) 1 _ _ vs' ((b _ (by omega)).trans h.var)
  have h1 := h.oc.kept hg (rows_apart h.oc h.os (by decide))
  refine ⟨hl, by simpa using Nat.le_trans hs hg.size, h.codes.kept (by omega) hb, ?_, (b2 _ (by omega)).trans ((b _ (by omega)).trans h.res), by simpa using hv, ?_, ?_⟩
  · exact grownBy_of_new (grownBy_of_new h.grown hg (fun k hk => by have := hge k hk; omega)) (grownBy_setCell w1 ⟨w0.heap.size + 1, 1, none⟩ vs') (fun k hk => by cases hk; simp)
  · exact h1.kept (grownBy_setCell w1 ⟨w0.heap.size + 1, 1, none⟩ vs') (h1.ne (Nat.lt_succ_self _))
  · exact ho.kept (grownBy_setCell w1 ⟨w0.heap.size + 1, 1, none⟩ vs') (ho.ne (Nat.lt_succ_self _))
/-- the lists that were made -/
structure WideOk (caps starts : List Int) (k : Nat) : Prop where
  nc : caps.length = k
  ns : starts.length = k
  rc : ∀ x ∈ caps, 0 ≤ x ∧ x ≤ 16
  rs : ∀ x ∈ starts, 0 ≤ x ∧ x < 9223372036854775808
theorem WideOk.snoc {caps starts : List Int} {k : Nat} (h : WideOk caps starts k) (x y : Int) (hx : 0 ≤ x ∧ x < 17) (hy : 0 ≤ y ∧ y < 9223372036854775808) : WideOk (caps ++ [x]) (starts ++ [y]) (k + 1) := by
  refine ⟨by simp [h.nc], by simp [h.ns], fun z hz => ?_, fun z hz => ?_⟩
  · rw [List.mem_append, List.mem_singleton] at hz
    rcases hz with hz | rfl
    · exact h.rc z hz
    · omega
  · rw [List.mem_append, List.mem_singleton] at hz
    rcases hz with hz | rfl
    · exact h.rs z hz
    · exact hy
theorem WideInv.fin {w0 w : World} {g k : Nat} {vc vs : Value} {caps starts : List Int} (h : WideInv w0 w g vc vs caps starts) (hk : WideOk caps starts k) (hk8 : k ≤ 8) (a : Value) (cells : Array Value) (t : Int) :
    ConfX ((w.setCell ⟨w0.heap.size + 1, 2, none⟩ a).setRow w0.heap.size cells) g (.agg #[vc, vs, .int .i64 t]) ⟨caps, starts, t⟩ ∧ CodesE ((w.setCell ⟨w0.heap.size + 1, 2, none⟩ a).setRow w0.heap.size cells) g ∧ w0.grownBy ((w.setCell ⟨w0.heap.size + 1, 2, none⟩ a).setRow w0.heap.size cells) (some g) := by
  have hl := h.lt
  have g1 := grownBy_setCell w ⟨w0.heap.size + 1, 2, none⟩ a
  have g2 := grownBy_setRow (w.setCell ⟨w0.heap.size + 1, 2, none⟩ a) w0.heap.size cells
  have o1 := h.oc.kept g1 (h.oc.ne (Nat.lt_succ_self _))
  have o2 := o1.kept g2 (o1.ne (by omega))
  have p1 := h.os.kept g1 (h.os.ne (Nat.lt_succ_self _))
  have p2 := p1.kept g2 (p1.ne (by omega))
  refine ⟨⟨vc, vs, rfl, o2.read (by show caps.length ≤ _; rw [hk.nc]; omega) fun x hx => i64_ok x (by have := hk.rc x hx; omega) (by have := hk.rc x hx; omega), p2.read (by show starts.length ≤ _; rw [hk.ns]; omega) (fun x hx => u64_ok x (by have := hk.rs x hx; omega) (by have := hk.rs x hx; omega)), o2.off (by omega), p2.off (by omega)⟩, ?_, ?_⟩
  · exact h.codes.kept (B := w0.heap.size) hl (below_setRow ((Below.refl _ w).setCell (p := ⟨w0.heap.size + 1, 2, none⟩) (by simp) a) (Nat.le_refl _) cells)
  · exact grownBy_of_new (grownBy_of_new h.grown g1 (fun k hk => by cases hk; simp)) g2 (fun k hk => by cases hk; omega)
theorem all3 {k : IntKind} {n : Int} {u v : Value} (hu : u.oneCell' = true) (hv : v.oneCell' = true) : (#[u, v, .int k n] : Array Value).all (·.oneCell') = true := by
  have hi : ∀ k n, (Value.int k n).oneCell' = true := fun _ _ => rfl
  simp [hi, hu, hv]
/-- a start that is drawn -/
def wideV (a b : Int) : Int := (IntKind.u64.wrap (IntKind.u64.wrap (IntKind.u64.wrap a * 36028797018963968) + IntKind.u64.wrap b)).tmod 9223372036854775808
theorem wideV_ok (a b : Int) : 0 ≤ wideV a b ∧ wideV a b < 9223372036854775808 := by
  have hz : 0 ≤ IntKind.u64.wrap (IntKind.u64.wrap (IntKind.u64.wrap a * 36028797018963968) + IntKind.u64.wrap b) := by
    rw [IntKind.wrap_u64]; exact Int.emod_nonneg _ (by omega)
  unfold wideV
  rw [Int.tmod_eq_emod_of_nonneg hz]
  generalize IntKind.u64.wrap (IntKind.u64.wrap (IntKind.u64.wrap a * 36028797018963968) + IntKind.u64.wrap b) = z at *
  omega
theorem WideOk.good {caps starts : List Int} {k : Nat} (h : WideOk caps starts k) (hk : k ≤ 8) (t : Int) (h0 : 0 ≤ t) (h1 : t < 8) : ConfM.good ⟨caps, starts, 1 + t⟩ :=
  ⟨by show caps.length ≤ 8; rw [h.nc]; exact hk, by show starts.length = caps.length; rw [h.nc, h.ns], h.rc, h.rs, by show 1 ≤ 1 + t ∧ 1 + t ≤ 8; omega⟩
set_option maxRecDepth 100000 in
set_option maxHeartbeats 8000000 in
theorem wideE2 (g : Nat) (w : World) (h : CodesE w g) :
    Calls Try.prog 28 #[.pointer (some ⟨g, 0, none⟩)] w fun e w' => ∃ u c, e = .returned u ∧ ConfX w' g u c ∧ c.good ∧ CodesE w' g ∧ w.grownBy w' (some g) := by
  have ST := Lib.hid (WideInv.start h)
  have HOK : Hid (WideOk [] [] 0) := ⟨rfl, rfl, by simp, by simp⟩
  obtain ⟨W, hW⟩ : ∃ W, (w.alloc (.cells zeroConf 34)).alloc (.cells zeroConf 34) = W := ⟨_, rfl⟩
  rw [hW] at ST
  have HW := Lib.hid hW
  clear hW h
  go_enter Try.func28, Try.ntmps28
  go_wp2_with fail
  rw [show (#[.slice none 0 0, .slice none 0 0, .int .i64 0] : Array Value) = zeroConf from rfl, HW.out]
  clear HW
  go_loopw [4] (fun i wr => ∃ k : Nat, ∃ vc vs caps starts, k ≤ 8 ∧ i = .int .i64 k ∧ Hid (WideInv w wr g vc vs caps starts) ∧ Hid (WideOk caps starts k)) (fun i _ => 9 - (intOf i).toNat)
  case atStart => exact ⟨0, _, _, _, _, by omega, rfl, ST, HOK⟩
  case round =>
    clear ST HOK
    obtain ⟨k, vc, vs, caps, starts, hk, rfl, hI, hO⟩ := hrel
    obtain ⟨wo, rfl⟩ : ∃ wo : World, wo = wr := ⟨_, rfl⟩
    go_wp2_with fail
    refine (nextE g 9 _ hI.out.codes (by omega) (by omega)).mono ?_; rintro e w1 ⟨x, rfl, hx0, hx1, hc1, hg1⟩
    have hI1 := Lib.hid (hI.out.next hc1 hg1)
    clear hI hc1 hg1
    by_cases hlt : (k : Int) < x
    · go_upto_region 5 with fail
      go_cut [] (fun wx => ∃ (vc' : Value) (y : Int), 0 ≤ y ∧ y < 17 ∧ Hid (WideInv w wx g vc' vs (caps ++ [y]) starts))
      case first =>
        obtain ⟨v0, v1, v2⟩ := row3 hI1.out.var
        have q1 : w.heap.size + 1 < w1.heap.size := by have := hI1.out.size; omega
        go_region_law (first
          | (refine step_append_i64 (by rfl) _ _ (by rfl) (w.heap.size + 2) vc caps (by rfl) (hI2.out.oc.alloc _) y _ (by rfl) (by exact World.cell?_alloc_at _ _ _ _ rfl) (by rw [hO.out.nc]; omega) (by have := hI2.out.size; simp; omega) ?_; intro vc8 w8 ho8 hg8; obtain ⟨g8, cap8, e8⟩ := OwnI.shape_ne ho8; subst e8; have hr8 := WideInv.varAt (hI2.out.below (below_new (Below.refl _ _) _)) hg8 hI2.out.oc.own_ge; have hF8 := frozen_of_row _ _ 0 _ _ hr8; obtain ⟨v0, v1, v2⟩ := row3 hr8; clear hr8)
          | (go_simp; go_at_call 23; refine (nextE g 17 _ (by exact hI1.out.codes) (by omega) (by omega)).mono ?_; rintro e w2 ⟨y, rfl, hy0, hy1, hc2, hg2⟩; have hI2 := Lib.hid (hI1.out.next hc2 (undrewG hg2)); obtain ⟨v0, v1, v2⟩ := row3 hI2.out.var; have q2 : w.heap.size + 1 < w2.heap.size := (by have := hI2.out.size; omega); clear hc2 hg2))
        all_goals
          have hI3 := Lib.hid (WideInv.addCap (hI2.out.below (below_new (Below.refl _ _) _)) ho8 hg8)
          clear v0 v1 v2 ho8 hg8 hF8
          go_wp2_with fail
          go_meet
          exact ⟨_, _, hy0, hy1, hI3⟩
      case rest =>
        obtain ⟨vc', y, hy0, hy1, hI3⟩ := hcut
        clear hI1
        obtain ⟨v0, v1, v2⟩ := row3 hI3.out.var
        have q3 : w.heap.size + 1 < wc.heap.size := by have := hI3.out.size; omega
        have HY := Lib.hid (And.intro hy0 hy1)
        clear hy0 hy1
        go_upto_region 6 with fail
        go_region_law (first
          | (refine step_append_u64 (by rfl) _ _ (by rfl) (w.heap.size + 2) vs starts (by rfl) (hI5.out.os.alloc _) (wideV a b) _ (by rfl) (by exact World.cell?_alloc_at _ _ _ _ rfl) (by rw [hO.out.ns]; omega) (by have := hI5.out.size; simp; omega) ?_; intro vs8 w8 ho8 hg8; obtain ⟨g8, cap8, e8⟩ := OwnI.shape_ne ho8; subst e8; have hr8 := WideInv.varAt (hI5.out.below (below_new (Below.refl _ _) _)) hg8 hI5.out.os.own_ge; have hF8 := frozen_of_row _ _ 1 _ _ hr8; obtain ⟨v0, v1, v2⟩ := row3 hr8; clear hr8)
          | (go_simp; go_at_call 23; refine (nextE g 256 _ (by exact hI4.out.codes) (by omega) (by omega)).mono ?_; rintro e w5 ⟨b, rfl, hb0, hb1, hc5, hg5⟩; have hI5 := Lib.hid (hI4.out.next hc5 hg5); obtain ⟨v0, v1, v2⟩ := row3 hI5.out.var; have q5 : w.heap.size + 1 < w5.heap.size := (by have := hI5.out.size; omega); clear hc5 hg5)
          | (go_simp; go_at_call 23; refine (nextE g 256 _ (by exact hI3.out.codes) (by omega) (by omega)).mono ?_; rintro e w4 ⟨a, rfl, ha0, ha1, hc4, hg4⟩; have hI4 := Lib.hid (hI3.out.next hc4 (undrewG hg4)); obtain ⟨v0, v1, v2⟩ := row3 hI4.out.var; have q4 : w.heap.size + 1 < w4.heap.size := (by have := hI4.out.size; omega); clear hc4 hg4))
        all_goals
          have hI6 := Lib.hid (WideInv.addStart (hI5.out.below (below_new (Below.refl _ _) _)) ho8 hg8)
          have hO6 := Lib.hid (hO.out.snoc y (wideV a b) HY.out (wideV_ok a b))
          clear v0 v1 v2 ho8 hg8 hF8
          go_wp2
          go_roundw
          case rel => exact ⟨k + 1, _, _, _, _, by omega, by go_num, hI6, hO6⟩
          case measure => simp [intOf]; omega
    · go_wp2_with fail
      refine (nextE g 8 _ hI1.out.codes (by omega) (by omega)).mono ?_; rintro e w2 ⟨t, rfl, ht0, ht1, hc2, hg2⟩
      have hI2 := Lib.hid (hI1.out.next hc2 hg2)
      clear hc2 hg2 hI1
      obtain ⟨v0, v1, v2⟩ := row3 hI2.out.var
      have ff2 := frozen_of_row _ _ 2 _ _ hI2.out.var
      have R2 := heap_setCell_same w2 (w.heap.size + 1) 2 _ _ (.int .i64 (1 + t)) hI2.out.var
      simp at R2
      obtain ⟨u0, u1, u2⟩ := row3 R2
      clear R2
      have e1 := hI2.out.oc.one
      have e2 := hI2.out.os.one
      have RES := Lib.hid ((heap_setCell_other w2 ⟨w.heap.size + 1, 2, none⟩ w.heap.size (.int .i64 (1 + t)) (by simp)).trans hI2.out.res)
      go_wp2_with (refine wpList_store_row rfl 34 _ _ rfl (w.heap.size) _ rfl rfl 34 zeroConf RES.out (by kernel_rfl) rfl (all3 e1 e2) ?_)
      refine bodyPost_ret (v := .agg #[vc, vs, .int .i64 (1 + t)]) (results_cell_row Try.results28 _ _ (w.heap.size) 34 _ (0, 0) _ rfl (setRow_heap _ _ _ _ 34 (0, 0) RES.out) Try.underlying34 rfl (by kernel_rfl)) rfl ?_
      obtain ⟨f1, f2, f3⟩ := hI2.out.fin hO.out (by omega) (.int .i64 (1 + t)) #[vc, vs, .int .i64 (1 + t)] (1 + t)
      first
      | exact ⟨_, ⟨caps, starts, 1 + t⟩, rfl, f1, hO.out.good (by omega) t ht0 ht1, f2, f3⟩
      | exact ⟨_, rfl, ⟨caps, starts, 1 + t⟩, f1, hO.out.good (by omega) t ht0 ht1, f2, f3⟩
theorem wideE (g : Nat) (w : World) (h : CodesE w g) :
    Calls Try.prog 28 #[.pointer (some ⟨g, 0, none⟩)] w fun e w' => ∃ u c, e = .returned u ∧ ConfX w' g u c ∧ c.caps.length ≤ 8 ∧ CodesE w' g ∧ w.grownBy w' (some g) :=
  (wideE2 g w h).mono fun _ _ ⟨u, c, e1, e2, e3, e4⟩ => ⟨u, c, e1, e2, e3.len, e4⟩
end Go.Proofs.Ytckjdlphilpgfaa
