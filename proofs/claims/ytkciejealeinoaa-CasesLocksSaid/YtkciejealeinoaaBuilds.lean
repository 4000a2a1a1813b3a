/- What the functions that make lists return (the ascending list, shuffles). -/
import Derived.Test.YtkciejealeinoaaReads
import Derived.Test.YtkciejealeinoaaDraw
import Derived.Test.YtkciejealeinoaaMem
import Derived.RegionTactic
import Derived.BigRegion
namespace Go.Proofs.Ytkciejealeinoaa
open Go.ChangeShapes Go.WideShapes Go.ChangeAt Go.RowKit
set_option maxRecDepth 100000

theorem ascending_any (n : Nat) (w : World) (hn : n ≤ 1000) :
    Calls Try.prog 78 #[.int .i64 n] w fun e w' => e = .returned (.slice (some ⟨w.heap.size, 0, none⟩) n n) ∧ OwnI w' w.heap.size 3 .i64 (.slice (some ⟨w.heap.size, 0, none⟩) n n) (asc n) ∧ Below w.heap.size w w' := by
  have HF := Lib.hid (fill_full n)
  go_enter Try.func78, Try.ntmps78
  go_wp2_with (at_make; refine wp_make_i64 w rfl _ _ rfl n _ _ rfl rfl rfl rfl ?_ ?_; omega; intro w1 hown hgrow)
  rw [← fill_zero] at hown
  go_loopw [4, 9] (fun _ c wr => ∃ k : Nat, k ≤ n ∧ c = .int .i64 k ∧ OwnI wr w.heap.size 3 .i64 (.slice (some ⟨w.heap.size, 0, none⟩) n n) (fill n k) ∧ Below w.heap.size w wr) (fun _ c _ => n - (intOf c).toNat)
  case atStart => exact ⟨0, by omega, rfl, hown, hgrow⟩
  case round =>
    clear hown hgrow
    obtain ⟨k, hk, rfl, hown, hbel⟩ := hrel
    by_cases hlt : k < n
    · have hlen := fill_length n k hk
      obtain ⟨c1, c2⟩ := hown.cell k (by omega)
      have S1 := hown.store k k (by omega)
      rw [fill_step n k hlt] at S1
      have S2 := hbel.setCell (p := ⟨w.heap.size, k, none⟩) (Nat.le_refl _) (.int .i64 k)
      have SS := Lib.hid (And.intro S1 S2)
      clear S1 S2 hown hbel hlen
      generalize (fill n k).getD k 0 = x0 at c1
      go_wp2
      go_roundw
      case rel => exact ⟨k + 1, by omega, by go_num, SS.out.1, SS.out.2⟩
      case measure => simp [intOf]; omega
    · obtain rfl : k = n := by omega
      have SS := Lib.hid (And.intro hown hbel)
      clear hown hbel
      go_wp2
      go_ret
      exact ⟨rfl, by rw [← HF.out]; exact SS.out.1, SS.out.2⟩
theorem order_any (n : Int) (v : Value) (d : List Int) (w : World) (hd : SlI w .i64 v d) (h1 : 1 ≤ n) (h2 : n ≤ 20) :
    Calls Try.prog 66 #[.int .i64 n, v] w fun e w' => e = .returned (.slice (some ⟨w.heap.size, 0, none⟩) n.toNat n.toNat) ∧ OwnI w' w.heap.size 3 .i64 (.slice (some ⟨w.heap.size, 0, none⟩) n.toNat n.toNat) (shuf d (n.toNat - 1) (asc n.toNat)) ∧ Below w.heap.size w w' := by
  obtain ⟨m, rfl⟩ : ∃ m : Nat, n = m := ⟨n.toNat, by omega⟩
  rw [Int.toNat_natCast]
  go_enter Try.func66, Try.ntmps66
  go_wp2_with (go_at_call 78; refine (ascending_any m w (by omega)).mono ?_; rintro e w1 ⟨rfl, hown, hbel⟩)
  go_loopw [6, 7] (fun c _ wr => ∃ k : Nat, ∃ l : List Int, k < m ∧ c = .int .i64 k ∧ l.length = m ∧ Hid (shuf d k l = shuf d (m - 1) (asc m)) ∧ OwnI wr w.heap.size 3 .i64 (.slice (some ⟨w.heap.size, 0, none⟩) m m) l ∧ Below w.heap.size w wr) (fun c _ _ => (intOf c).toNat)
  case atStart => exact ⟨m - 1, asc m, by omega, by go_num, asc_length m, Lib.hid rfl, hown, hbel⟩
  case round =>
    clear hown hbel
    obtain ⟨k, l, hk, rfl, hl, hsh, hown, hbel⟩ := hrel
    by_cases hlt : 0 < k
    · have V := Lib.hid (valid_any v d k wr (hd.below hbel) (by omega))
      have hj := drawI_le d k
      generalize hjj : drawI d k = j at *
      obtain ⟨c1, c2⟩ := hown.cell k (by omega)
      obtain ⟨c3, c4⟩ := hown.cell j (by omega)
      have HJ := Lib.hid hjj
      have HL := Lib.hid hl
      have HO := Lib.hid (And.intro hown hbel)
      have hjl : j < l.length := by omega
      clear hjj hl hown hbel
      generalize hx : l.getD k 0 = x at *
      generalize hy : l.getD j 0 = y at *
      have HX := Lib.hid hx
      have HY := Lib.hid hy
      clear hx hy
      go_wp2_with (go_at_call 79; refine V.out.mono ?_; rintro e w2 ⟨rfl, rfl⟩)
      obtain ⟨z, c5⟩ := cell?_setCell_some (w := wr) (p := ⟨w.heap.size, k, none⟩) (x := .int .i64 y) (q := ⟨w.heap.size, j, none⟩) (v := .int .i64 y) c3
      have R := Lib.hid (shuf_round d l k j hlt HJ.out)
      go_region
      go_wp2
      go_roundw
      case rel => exact ⟨k - 1, swp l k j, by omega, by go_num, by rw [swp_length]; exact HL.out, by rw [← R.out]; exact hsh, by
          have := (HO.out.1.store k y HL.out.symm).store j x (by simp; exact HL.out.symm)
          unfold swp; rw [HX.out, HY.out]; exact this, (HO.out.2.setCell (p := ⟨w.heap.size, k, none⟩) (Nat.le_refl _) _).setCell (p := ⟨w.heap.size, j, none⟩) (Nat.le_refl _) _ |>.drew⟩
      case measure => simp [intOf]; omega
    · obtain rfl : k = 0 := by omega
      have HO := Lib.hid (And.intro hown hbel)
      clear hown hbel
      go_wp2
      go_ret
      exact ⟨rfl, by rw [← hsh.out]; exact HO.out.1, HO.out.2⟩
/-- the permutation that draws make, as a list; nothing beyond 20 -/
def ordL (n : Int) (d : List Int) : List Int := if 1 ≤ n ∧ n ≤ 20 then shuf d (n.toNat - 1) (asc n.toNat) else []
theorem ordL_mem (n : Int) (d : List Int) (x : Int) (h : x ∈ ordL n d) : 0 ≤ x ∧ x < n := by
  unfold ordL at h
  split at h
  · have := asc_mem _ _ (shuf_mem d _ _ (by rw [asc_length]; omega) x h); omega
  · simp at h
theorem ordL_length (n : Int) (d : List Int) : (ordL n d).length ≤ 20 := by
  unfold ordL
  split
  · rw [shuf_length, asc_length]; omega
  · simp
theorem order_read (n : Int) (v : Value) (d : List Int) (w : World) (hd : SlI w .i64 v d) :
    Calls Try.prog 66 #[.int .i64 n, v] w fun e w' => ∃ u, e = .returned u ∧ SlI w' .i64 u (ordL n d) ∧ Below w.heap.size w w' := by
  by_cases h : 1 ≤ n ∧ n ≤ 20
  · refine (order_any n v d w hd h.1 h.2).mono ?_
    rintro e w' ⟨rfl, ho, hb⟩
    refine ⟨_, rfl, ?_, hb⟩
    have e1 : ordL n d = shuf d (n.toNat - 1) (asc n.toNat) := by unfold ordL; rw [if_pos h]
    have hm := ordL_mem n d
    have hl := ordL_length n d
    rw [e1] at hm hl ⊢
    exact ho.read (by omega) fun x hx => i64_ok x (by have := hm x hx; omega) (by have := hm x hx; omega)
  · have e1 : ordL n d = [] := by unfold ordL; rw [if_neg h]
    have H := Lib.hid e1
    clear e1
    rcases (show n < 1 ∨ 20 < n by omega) with h | h
    · go_enter Try.func66, Try.ntmps66
      go_wp2
      go_ret
      exact ⟨_, rfl, by rw [H.out]; exact SlI.nil _ _, Below.refl _ _⟩
    · have h' : ¬ n < 1 := by omega
      go_enter Try.func66, Try.ntmps66
      go_wp2
      go_ret
      exact ⟨_, rfl, by rw [H.out]; exact SlI.nil _ _, Below.refl _ _⟩
/-- a row of choices: element i is from 0 to i -/
def drawsL (r : List Int) : Nat → Nat → List Int
  | _, 0 => []
  | i, n + 1 => nxt r (i + 1) :: drawsL r.tail (i + 1) n
theorem drawsL_snoc (r : List Int) (i n : Nat) : drawsL r i (n + 1) = drawsL r i n ++ [nxt (r.drop n) (i + n + 1)] := by
  induction n generalizing r i with
  | zero => simp [drawsL]
  | succ n ih =>
    rw [drawsL, ih]
    conv => rhs; rw [drawsL]
    rw [List.cons_append, ← List.drop_one, List.drop_drop]
    congr 3
    rw [Nat.add_comm 1 n]
    congr 1
    push_cast
    omega
theorem drawsL_length (r : List Int) (i n : Nat) : (drawsL r i n).length = n := by
  induction n generalizing r i with
  | zero => rfl
  | succ n ih => simp [drawsL, ih]
theorem nxt_bd' (r : List Int) (n : Int) (h : 1 ≤ n) : 0 ≤ nxt r n ∧ nxt r n < n := nxt_bd r n h
theorem drawsL_mem (r : List Int) (i n : Nat) (x : Int) (h : x ∈ drawsL r i n) : 0 ≤ x ∧ x < i + n := by
  induction n generalizing r i with
  | zero => simp [drawsL] at h
  | succ n ih =>
    simp only [drawsL, List.mem_cons] at h
    rcases h with rfl | h
    · have := nxt_bd r ((i : Int) + 1) (by omega); omega
    · have := ih _ _ h; omega
end Go.Proofs.Ytkciejealeinoaa
