/- What the functions that make lists return (the ascending list, shuffles). -/
import Derived.Test.YtggnomnfcdibeaaReads
import Derived.Test.YtggnomnfcdibeaaDraw
import Derived.Test.YtggnomnfcdibeaaMem
import Derived.RegionTactic
import Derived.BigRegion
namespace Go.Proofs.Ytggnomnfcdibeaa
open Go.ChangeShapes Go.WideShapes Go.ChangeAt Go.RowKit

theorem ascending_any (n : Nat) (w : World) (hn : n ≤ 1000) :
    Calls Try.prog 54 #[.int .i64 n] w fun e w' => e = .returned (.slice (some ⟨w.heap.size, 0, none⟩) n n) ∧ OwnI w' w.heap.size 3 .i64 (.slice (some ⟨w.heap.size, 0, none⟩) n n) (asc n) ∧ Below w.heap.size w w' := by
  have HF := Lib.hid (fill_full n)
  go_enter Try.func54, Try.ntmps54
  go_wp2_with (at_make; refine wp_make_i64 w rfl _ _ rfl n _ _ rfl rfl rfl rfl ?_ ?_; omega; intro w1 hown hgrow)
  rw [← fill_zero] at hown
  go_loopw [4, 9] (fun _ c wr => ∃ k : Nat, k ≤ n ∧ c = .int .i64 k ∧ OwnI wr w.heap.size 3 .i64 (.slice (some ⟨w.heap.size, 0, none⟩) n n) (fill n k) ∧ Below w.heap.size w wr) (fun _ c _ => n - (intOf c).toNat)
  case atStart => exact ⟨0, by omega, rfl, hown, hgrow⟩
  case round =>
    clear hown hgrow
    obtain ⟨k, hk, rfl, hown, hbel⟩ := hrel
    by_cases hlt : k < n
    · have hlen := fill_length n k hk
      obtain ⟨c1, c2⟩ := hown.cell k (by omega)
      have S1 := hown.store k k (by omega)
      rw [fill_step n k hlt] at S1
      have S2 := hbel.setCell (p := ⟨w.heap.size, k, none⟩) (Nat.le_refl _) (.int .i64 k)
      have SS := Lib.hid (And.intro S1 S2)
      clear S1 S2 hown hbel hlen
      generalize (fill n k).getD k 0 = x0 at c1
      go_wp2
      go_roundw
      case rel => exact ⟨k + 1, by omega, by go_num, SS.out.1, SS.out.2⟩
      case measure => simp [intOf]; omega
    · obtain rfl : k = n := by omega
      have SS := Lib.hid (And.intro hown hbel)
      clear hown hbel
      go_wp2
      go_ret
      exact ⟨rfl, by rw [← HF.out]; exact SS.out.1, SS.out.2⟩
theorem order_any (n : Int) (v : Value) (d : List Int) (w : World) (hd : SlI w .i64 v d) (h1 : 1 ≤ n) (h2 : n ≤ 20) :
    Calls Try.prog 44 #[.int .i64 n, v] w fun e w' => e = .returned (.slice (some ⟨w.heap.size, 0, none⟩) n.toNat n.toNat) ∧ OwnI w' w.heap.size 3 .i64 (.slice (some ⟨w.heap.size, 0, none⟩) n.toNat n.toNat) (shuf d (n.toNat - 1) (asc n.toNat)) ∧ Below w.heap.size w w' := by
  obtain ⟨m, rfl⟩ : ∃ m : Nat, n = m := ⟨n.toNat, by omega⟩
  rw [Int.toNat_natCast]
  go_enter Try.func44, Try.ntmps44
  go_wp2_with (go_at_call 54; refine (ascending_any m w (by omega)).mono ?_; rintro e w1 ⟨rfl, hown, hbel⟩)
  go_loopw [6, 7] (fun c _ wr => ∃ k : Nat, ∃ l : List Int, k < m ∧ c = .int .i64 k ∧ l.length = m ∧ Hid (shuf d k l = shuf d (m - 1) (asc m)) ∧ OwnI wr w.heap.size 3 .i64 (.slice (some ⟨w.heap.size, 0, none⟩) m m) l ∧ Below w.heap.size w wr) (fun c _ _ => (intOf c).toNat)
  case atStart => exact ⟨m - 1, asc m, by omega, by go_num, asc_length m, Lib.hid rfl, hown, hbel⟩
  case round =>
    clear hown hbel
    obtain ⟨k, l, hk, rfl, hl, hsh, hown, hbel⟩ := hrel
    by_cases hlt : 0 < k
    · have V := Lib.hid (valid_any v d k wr (hd.below hbel) (by omega))
      have hj := drawI_le d k
      generalize hjj : drawI d k = j at *
      obtain ⟨c1, c2⟩ := hown.cell k (by omega)
      obtain ⟨c3, c4⟩ := hown.cell j (by omega)
      have HJ := Lib.hid hjj
      have HL := Lib.hid hl
      have HO := Lib.hid (And.intro hown hbel)
      have hjl : j < l.length := by omega
      clear hjj hl hown hbel
      generalize hx : l.getD k 0 = x at *
      generalize hy : l.getD j 0 = y at *
      have HX := Lib.hid hx
      have HY := Lib.hid hy
      clear hx hy
      go_wp2_with (go_at_call 55; refine V.out.mono ?_; rintro e w2 ⟨rfl, rfl⟩)
      obtain ⟨z, c5⟩ := cell?_setCell_some (w := wr) (p := ⟨w.heap.size, k, none⟩) (x := .int .i64 y) (q := ⟨w.heap.size, j, none⟩) (v := .int .i64 y) c3
      have R := Lib.hid (shuf_round d l k j hlt HJ.out)
      go_region
      go_wp2
      go_roundw
      case rel => exact ⟨k - 1, swp l k j, by omega, by go_num, by rw [swp_length]; exact HL.out, by rw [← R.out]; exact hsh, by
          have := (HO.out.1.store k y HL.out.symm).store j x (by simp; exact HL.out.symm)
          unfold swp; rw [HX.out, HY.out]; exact this, (HO.out.2.setCell (p := ⟨w.heap.size, k, none⟩) (Nat.le_refl _) _).setCell (p := ⟨w.heap.size, j, none⟩) (Nat.le_refl _) _ |>.drew⟩
      case measure => simp [intOf]; omega
    · obtain rfl : k = 0 := by omega
      have HO := Lib.hid (And.intro hown hbel)
      clear hown hbel
      go_wp2
      go_ret
      exact ⟨rfl, by rw [← hsh.out]; exact HO.out.1, HO.out.2⟩
theorem rorder_any (n : Int) (v : Value) (d : List Int) (w : World) (hd : SlI w .i64 v d) (h1 : 1 ≤ n) (h2 : n ≤ 20) :
    Calls Try.prog 45 #[.int .i64 n, v] w fun e w' => e = .returned (.slice (some ⟨w.heap.size, 0, none⟩) n.toNat n.toNat) ∧ OwnI w' w.heap.size 3 .i64 (.slice (some ⟨w.heap.size, 0, none⟩) n.toNat n.toNat) (shuf d (n.toNat - 1) (asc n.toNat)) ∧ Below w.heap.size w w' := by
  obtain ⟨m, rfl⟩ : ∃ m : Nat, n = m := ⟨n.toNat, by omega⟩
  rw [Int.toNat_natCast]
  have HF := Lib.hid (fill_full m)
  go_enter Try.func45, Try.ntmps45
  go_wp2_with (at_make; refine wp_make_i64 w rfl _ _ rfl m _ _ rfl rfl rfl rfl ?_ ?_; omega; intro w1 hown hgrow)
  rw [← fill_zero] at hown
  go_loopw [6] (fun c wr => ∃ k : Nat, k ≤ m ∧ c = .int .i64 k ∧ OwnI wr w.heap.size 3 .i64 (.slice (some ⟨w.heap.size, 0, none⟩) m m) (fill m k) ∧ Below w.heap.size w wr) (fun c _ => m - (intOf c).toNat)
  case atStart => exact ⟨0, by omega, rfl, hown, hgrow⟩
  case round =>
    clear hown hgrow
    obtain ⟨k, hk, rfl, hown, hbel⟩ := hrel
    by_cases hlt : k < m
    · have hlen := fill_length m k hk
      obtain ⟨c1, c2⟩ := hown.cell k (by omega)
      have S1 := hown.store k k (by omega)
      rw [fill_step m k hlt] at S1
      have S2 := hbel.setCell (p := ⟨w.heap.size, k, none⟩) (Nat.le_refl _) (.int .i64 k)
      have SS := Lib.hid (And.intro S1 S2)
      clear S1 S2 hown hbel hlen
      generalize (fill m k).getD k 0 = x0 at c1
      go_wp2
      go_roundw
      case rel => exact ⟨k + 1, by omega, by go_num, SS.out.1, SS.out.2⟩
      case measure => simp [intOf]; omega
    · obtain rfl : k = m := by omega
      rw [HF.out] at hown
      go_wp2
      go_loopw [7, 8, 9, 10] (fun c _ _ _ wr => ∃ q : Nat, ∃ l : List Int, q < k ∧ c = .int .i64 q ∧ l.length = k ∧ Hid (shuf d q l = shuf d (k - 1) (asc k)) ∧ OwnI wr w.heap.size 3 .i64 (.slice (some ⟨w.heap.size, 0, none⟩) k k) l ∧ Below w.heap.size w wr) (fun c _ _ _ _ => (intOf c).toNat)
      case atStart => exact ⟨k - 1, asc k, by omega, by go_num, asc_length k, Lib.hid rfl, hown, hbel⟩
      case round =>
        clear hown hbel
        obtain ⟨q, l, hq, rfl, hl, hsh, hown, hbel⟩ := hrel
        by_cases hlt : 0 < q
        · have V := Lib.hid fun wx => rdraw_any v d q wx
          have HD := Lib.hid (hd.below hbel)
          have hj := drawI_le d q
          generalize hjj : drawI d q = j at *
          obtain ⟨c1, c2⟩ := hown.cell q (by omega)
          obtain ⟨c3, c4⟩ := hown.cell j (by omega)
          have HJ := Lib.hid hjj
          have HL := Lib.hid hl
          have HO := Lib.hid (And.intro hown hbel)
          have hjl : j < l.length := by omega
          clear hjj hl hown hbel
          generalize hx : l.getD q 0 = x at *
          generalize hy : l.getD j 0 = y at *
          have HX := Lib.hid hx
          have HY := Lib.hid hy
          clear hx hy
          have hq20 : q ≤ 20 := by omega
          go_wp2_with (go_at_call 56; refine (V.out _ HD.out hq20).mono ?_; rintro e w2 ⟨rfl, rfl⟩)
          go_quiet (fail)
          obtain ⟨z, c5⟩ := cell?_setCell_some (w := wr.drewN nq) (p := ⟨w.heap.size, q, none⟩) (x := .int .i64 y) (q := ⟨w.heap.size, j, none⟩) (v := .int .i64 y) c3
          have R := Lib.hid (shuf_round d l q j hlt HJ.out)
          go_wp2
          go_roundw
          case rel => exact ⟨q - 1, swp l q j, by omega, by go_num, by rw [swp_length]; exact HL.out, by rw [← R.out]; exact hsh, by
              have := (HO.out.1.store q y HL.out.symm).store j x (by simp; exact HL.out.symm)
              unfold swp; rw [HX.out, HY.out]; exact this, (below_drewN HO.out.2 _).setCell (p := ⟨w.heap.size, q, none⟩) (Nat.le_refl _) _ |>.setCell (p := ⟨w.heap.size, j, none⟩) (Nat.le_refl _) _⟩
          case measure => simp [intOf]; omega
        · obtain rfl : q = 0 := by omega
          have HO := Lib.hid (And.intro hown hbel)
          clear hown hbel
          go_wp2
          go_ret
          exact ⟨rfl, by rw [← hsh.out]; exact HO.out.1, HO.out.2⟩
/-- the permutation that draws make, as a list; nothing beyond 20 -/
def ordL (n : Int) (d : List Int) : List Int := if 1 ≤ n ∧ n ≤ 20 then shuf d (n.toNat - 1) (asc n.toNat) else []
theorem ordL_mem (n : Int) (d : List Int) (x : Int) (h : x ∈ ordL n d) : 0 ≤ x ∧ x < n := by
  unfold ordL at h
  split at h
  · have := asc_mem _ _ (shuf_mem d _ _ (by rw [asc_length]; omega) x h); omega
  · simp at h
theorem ordL_length (n : Int) (d : List Int) : (ordL n d).length ≤ 20 := by
  unfold ordL
  split
  · rw [shuf_length, asc_length]; omega
  · simp
theorem order_read (n : Int) (v : Value) (d : List Int) (w : World) (hd : SlI w .i64 v d) :
    Calls Try.prog 44 #[.int .i64 n, v] w fun e w' => ∃ u, e = .returned u ∧ SlI w' .i64 u (ordL n d) ∧ Below w.heap.size w w' := by
  by_cases h : 1 ≤ n ∧ n ≤ 20
  · refine (order_any n v d w hd h.1 h.2).mono ?_
    rintro e w' ⟨rfl, ho, hb⟩
    refine ⟨_, rfl, ?_, hb⟩
    have e1 : ordL n d = shuf d (n.toNat - 1) (asc n.toNat) := by unfold ordL; rw [if_pos h]
    have hm := ordL_mem n d
    have hl := ordL_length n d
    rw [e1] at hm hl ⊢
    exact ho.read (by omega) fun x hx => i64_ok x (by have := hm x hx; omega) (by have := hm x hx; omega)
  · have e1 : ordL n d = [] := by unfold ordL; rw [if_neg h]
    have H := Lib.hid e1
    clear e1
    rcases (show n < 1 ∨ 20 < n by omega) with h | h
    · go_enter Try.func44, Try.ntmps44
      go_wp2
      go_ret
      exact ⟨_, rfl, by rw [H.out]; exact SlI.nil _ _, Below.refl _ _⟩
    · have h' : ¬ n < 1 := by omega
      go_enter Try.func44, Try.ntmps44
      go_wp2
      go_ret
      exact ⟨_, rfl, by rw [H.out]; exact SlI.nil _ _, Below.refl _ _⟩
theorem rorder_read (n : Int) (v : Value) (d : List Int) (w : World) (hd : SlI w .i64 v d) :
    Calls Try.prog 45 #[.int .i64 n, v] w fun e w' => ∃ u, e = .returned u ∧ SlI w' .i64 u (ordL n d) ∧ Below w.heap.size w w' := by
  by_cases h : 1 ≤ n ∧ n ≤ 20
  · refine (rorder_any n v d w hd h.1 h.2).mono ?_
    rintro e w' ⟨rfl, ho, hb⟩
    refine ⟨_, rfl, ?_, hb⟩
    have e1 : ordL n d = shuf d (n.toNat - 1) (asc n.toNat) := by unfold ordL; rw [if_pos h]
    have hm := ordL_mem n d
    have hl := ordL_length n d
    rw [e1] at hm hl ⊢
    exact ho.read (by omega) fun x hx => i64_ok x (by have := hm x hx; omega) (by have := hm x hx; omega)
  · have e1 : ordL n d = [] := by unfold ordL; rw [if_neg h]
    have H := Lib.hid e1
    clear e1
    rcases (show n < 1 ∨ 20 < n by omega) with h | h
    · go_enter Try.func45, Try.ntmps45
      go_wp2
      go_ret
      exact ⟨_, rfl, by rw [H.out]; exact SlI.nil _ _, Below.refl _ _⟩
    · have h' : ¬ n < 1 := by omega
      go_enter Try.func45, Try.ntmps45
      go_wp2
      go_ret
      exact ⟨_, rfl, by rw [H.out]; exact SlI.nil _ _, Below.refl _ _⟩
/-- a row of choices: element i is from 0 to i -/
def drawsL (r : List Int) : Nat → Nat → List Int
  | _, 0 => []
  | i, n + 1 => nxt r (i + 1) :: drawsL r.tail (i + 1) n
theorem drawsL_snoc (r : List Int) (i n : Nat) : drawsL r i (n + 1) = drawsL r i n ++ [nxt (r.drop n) (i + n + 1)] := by
  induction n generalizing r i with
  | zero => simp [drawsL]
  | succ n ih =>
    rw [drawsL, ih]
    conv => rhs; rw [drawsL]
    rw [List.cons_append, ← List.drop_one, List.drop_drop]
    congr 3
    rw [Nat.add_comm 1 n]
    congr 1
    push_cast
    omega
theorem drawsL_length (r : List Int) (i n : Nat) : (drawsL r i n).length = n := by
  induction n generalizing r i with
  | zero => rfl
  | succ n ih => simp [drawsL, ih]
theorem nxt_bd' (r : List Int) (n : Int) (h : 1 ≤ n) : 0 ≤ nxt r n ∧ nxt r n < n := nxt_bd r n h
theorem drawsL_mem (r : List Int) (i n : Nat) (x : Int) (h : x ∈ drawsL r i n) : 0 ≤ x ∧ x < i + n := by
  induction n generalizing r i with
  | zero => simp [drawsL] at h
  | succ n ih =>
    simp only [drawsL, List.mem_cons] at h
    rcases h with rfl | h
    · have := nxt_bd r ((i : Int) + 1) (by omega); omega
    · have := ih _ _ h; omega
theorem rnth_any (n k : Int) (w : World) :
    Calls Try.prog 28 #[.int .i64 n, .int .i64 k] w fun e w' => ∃ u, e = .returned (.tuple #[u, .bool (nthB n k)]) ∧ SlI w' .i64 u (nthL n k) ∧ Below w.heap.size w w' := by
  by_cases h : 0 ≤ k ∧ k < cntI n
  · obtain ⟨n0, n20, hb, hl⟩ := nth_yes n k h
    have H := Lib.hid (And.intro hb hl)
    clear hb hl
    obtain ⟨h0, h1⟩ := h
    obtain ⟨m, rfl⟩ : ∃ m : Nat, n = m := ⟨n.toNat, by omega⟩
    obtain ⟨k0, rfl⟩ : ∃ m : Nat, k = m := ⟨k.toNat, by omega⟩
    have hk9 : k0 ≤ 2432902008176640000 := by have := cntI_in m (by omega); have := fact_20 m (by omega); omega
    have HK := Lib.hid hk9
    clear hk9
    generalize hc : cntI m = c at h1
    have hd : decide (c ≤ (k0 : Int)) = false := by simpa using h1
    have HC := Lib.hid fun w => (hc ▸ rcount_any m w : Calls Try.prog 27 #[.int .i64 (m : Int)] w fun e w' => e = .returned (.int .i64 c) ∧ w = w')
    clear hc h1
    go_enter Try.func28, Try.ntmps28
    go_wp2_with (first
      | (go_at_call 27; refine (HC.out _).mono ?_; rintro e w' ⟨rfl, rfl⟩)
      | (at_make; refine wp_make_i64 w rfl _ _ rfl m _ _ rfl rfl rfl rfl ?_ ?_; omega; intro w1 hown hgrow))
    go_loopw [1, 7] (fun s c wr => ∃ k q : Nat, ∃ l : List Int, q ≤ m ∧ s = .int .i64 k ∧ c = .int .i64 (q : Int) ∧ l.length = m ∧ Hid (k ≤ 2432902008176640000) ∧ Hid (nthR q k ++ l.drop q = nthR m k0) ∧ OwnI wr w.heap.size 3 .i64 (.slice (some ⟨w.heap.size, 0, none⟩) m m) l ∧ Below w.heap.size w wr) (fun _ c _ => (intOf c).toNat)
    case atStart => exact ⟨k0, m, List.replicate m 0, by omega, rfl, rfl, by simp, HK, Lib.hid (by simp), hown, hgrow⟩
    case round =>
      clear hown hgrow HK
      obtain ⟨k, q, l, hq, rfl, rfl, hl, hk9, hsh, hown, hbel⟩ := hrel
      by_cases hlt : 0 < q
      · -- one round
        obtain ⟨i, rfl⟩ : ∃ i, q = i + 1 := ⟨q - 1, by omega⟩
        obtain ⟨c1, c2⟩ := hown.cell i (by omega)
        have S1 := hown.store i ((k % (i + 1) : Nat) : Int) hl.symm
        have S2 := hbel.setCell (p := ⟨w.heap.size, i, none⟩) (Nat.le_refl _) (.int .i64 ((k % (i + 1) : Nat) : Int))
        have S3 := nthR_step m k0 i k l (by omega) hsh.out
        have S4 : (l.set i ((k % (i + 1) : Nat) : Int)).length = m := by simpa using hl
        have SS := Lib.hid (And.intro S4 (And.intro S3 (And.intro S1 S2)))
        have hkd : k / (i + 1) ≤ 2432902008176640000 := Nat.le_trans (Nat.div_le_self _ _) hk9.out
        have HK2 := Lib.hid hkd
        have E1 : ((k % (i + 1) : Nat) : Int) = (k : Int) % ((i : Int) + 1) := by push_cast; rfl
        have E2 : ((k / (i + 1) : Nat) : Int) = (k : Int) / ((i : Int) + 1) := by push_cast; rfl
        have B1 : 0 ≤ (k : Int) % ((i : Int) + 1) := Int.emod_nonneg _ (by omega)
        have B2 : (k : Int) % ((i : Int) + 1) < (i : Int) + 1 := Int.emod_lt_of_pos _ (by omega)
        have B3 : 0 ≤ (k : Int) / ((i : Int) + 1) := Int.ediv_nonneg (by omega) (by omega)
        have B4 : (k : Int) / ((i : Int) + 1) ≤ 2432902008176640000 := by rw [← E2]; omega
        have E3 := Int.tmod_eq_emod_of_nonneg (a := (k : Int)) (b := (i : Int) + 1) (by omega)
        have E4 := Int.tdiv_eq_ediv_of_nonneg (a := (k : Int)) (b := (i : Int) + 1) (by omega)
        have HE := Lib.hid (And.intro E1 (And.intro E2 (And.intro E3 E4)))
        have W4 : wrap64 ((k : Int) / ((i : Int) + 1)) = (k : Int) / ((i : Int) + 1) := by unfold wrap64; omega
        clear S1 S2 S3 S4 hkd E1 E2 E3 E4 hown hbel hl hsh B4
        rw [show ((i + 1 : Nat) : Int) = (i : Int) + 1 by omega]
        go_wp2
        go_roundw
        case rel => exact ⟨k / (i + 1), i, l.set i ((k % (i + 1) : Nat) : Int), by omega, by rw [HE.out.2.1, W4], by go_num, SS.out.1, HK2, SS.out.2.1, by have := SS.out.2.2.1; rw [HE.out.1] at this ⊢; exact this, by have := SS.out.2.2.2; rw [HE.out.1] at this; first | exact this | exact this.drew⟩
        case measure => simp [intOf]
      · obtain rfl : q = 0 := by omega
        have e : l = nthR m k0 := by simpa [nthR] using hsh.out
        have SS := Lib.hid (And.intro hown (And.intro hbel e))
        clear hown hbel e hl
        go_wp2
        go_ret2
        refine ⟨_, by rw [H.out.1]; rfl, ?_, SS.out.2.1⟩
        rw [H.out.2, Int.toNat_natCast, Int.toNat_natCast, ← SS.out.2.2]
        refine SS.out.1.read (by rw [SS.out.2.2, nthR_length]; omega) fun x hx => ?_
        rw [SS.out.2.2] at hx
        have := nthR_mem _ _ _ hx
        exact i64_ok x (by omega) (by omega)
  · obtain ⟨hb, hl⟩ := nth_no n k h
    have H := Lib.hid (And.intro hb hl)
    clear hb hl
    by_cases hn : n < 0
    · clear h
      go_enter Try.func28, Try.ntmps28
      go_wp2
      go_ret2
      exact ⟨_, by rw [H.out.1]; rfl, by rw [H.out.2]; exact SlI.nil _ _, Below.refl _ _⟩
    · by_cases hn2 : 20 < n
      · clear h
        go_enter Try.func28, Try.ntmps28
        go_wp2
        go_ret2
        exact ⟨_, by rw [H.out.1]; rfl, by rw [H.out.2]; exact SlI.nil _ _, Below.refl _ _⟩
      · by_cases hk : k < 0
        · clear h
          go_enter Try.func28, Try.ntmps28
          go_wp2
          go_ret2
          exact ⟨_, by rw [H.out.1]; rfl, by rw [H.out.2]; exact SlI.nil _ _, Below.refl _ _⟩
        · have hk' : 0 ≤ k := by omega
          have hge : cntI n ≤ k := by omega
          have HC := Lib.hid fun w => rcount_any n w
          generalize cntI n = c at *
          clear h
          have hd : decide (c ≤ k) = true := by simpa using hge
          go_enter Try.func28, Try.ntmps28
          go_wp2_with (go_at_call 27; refine (HC.out _).mono ?_; rintro e w' ⟨rfl, rfl⟩)
          go_ret2
          exact ⟨_, by rw [H.out.1]; rfl, by rw [H.out.2]; exact SlI.nil _ _, Below.refl _ _⟩
end Go.Proofs.Ytggnomnfcdibeaa
