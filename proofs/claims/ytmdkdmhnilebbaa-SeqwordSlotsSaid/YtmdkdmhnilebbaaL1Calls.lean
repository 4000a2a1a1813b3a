/- What each function of package seqword, and each of the document's answers for chapter 1, returns: the contracts that the walks of layer 1 use. -/
import Derived.Test.YtmdkdmhnilebbaaL1Plain
import Derived.Test.YtmdkdmhnilebbaaRows
import Derived.WalkKit
import Derived.WalkLawsBesides
import Derived.WalkSpells
import Derived.ProofKit
import Derived.Lib.Hide
namespace Go.Proofs.Ytmdkdmhnilebbaa
open Go.ChangeShapes Go.WideShapes Go.ChangeAt Go.RowKit

theorem ret_u64 {a b : Int} (h : a = b) : Ending.returned (.int .u64 a) = .returned (.int .u64 b) := by rw [h]
theorem ret_i64 {a b : Int} (h : a = b) : Ending.returned (.int .i64 a) = .returned (.int .i64 b) := by rw [h]
theorem ret_bool {a b : Bool} (h : a = b) : Ending.returned (.bool a) = .returned (.bool b) := by rw [h]

theorem next_any (a n : Int) (w : World) :
    Calls Try.prog 10 #[.int .u64 a, .int .i64 n] w fun e w' => e = .returned (.int .u64 (nextI a n)) ∧ w = w' := by
  go_enter Try.func10, Try.ntmps10
  go_wp2
  go_ret
  exact ⟨ret_u64 (nextI_eq a n), rfl⟩
theorem rnext_any (a n : Int) (w : World) :
    Calls Try.prog 11 #[.int .u64 a, .int .i64 n] w fun e w' => e = .returned (.int .u64 (nextI a n)) ∧ w = w' := by
  go_enter Try.func11, Try.ntmps11
  go_wp2
  go_ret
  exact ⟨ret_u64 (nextI_eq a n), rfl⟩
theorem diff_any (a n : Int) (w : World) :
    Calls Try.prog 12 #[.int .u64 a, .int .u64 n] w fun e w' => e = .returned (.int .i64 (diffI a n)) ∧ w = w' := by
  go_enter Try.func12, Try.ntmps12
  go_wp2
  go_ret
  exact ⟨ret_i64 (diffI_eq a n), rfl⟩
theorem rdiff_any (a n : Int) (w : World) :
    Calls Try.prog 13 #[.int .u64 a, .int .u64 n] w fun e w' => e = .returned (.int .i64 (diffI a n)) ∧ w = w' := by
  obtain ⟨x, hx⟩ : ∃ x, bits BinOp.and IntKind.u64 (IntKind.u64.wrap (a - n)) 9223372036854775807 = x := ⟨_, rfl⟩
  by_cases h : 4611686018427387904 ≤ x
  · have E := diffI_hi a n x hx h
    have E' := Lib.hid E
    clear E
    have hd : decide (4611686018427387904 ≤ x) = true := by simpa using h
    clear h
    go_enter Try.func13, Try.ntmps13
    go_wp2
    go_ret
    exact ⟨ret_i64 E'.out, rfl⟩
  · have E := diffI_lo a n x hx h
    have E' := Lib.hid E
    clear E
    have hd : decide (4611686018427387904 ≤ x) = false := by simpa using h
    clear h
    go_enter Try.func13, Try.ntmps13
    go_wp2
    go_ret
    exact ⟨ret_i64 E'.out, rfl⟩
theorem before_any (a n : Int) (w : World) :
    Calls Try.prog 14 #[.int .u64 a, .int .u64 n] w fun e w' => e = .returned (.bool (decide (diffI a n < 0))) ∧ w = w' := by
  go_enter Try.func14, Try.ntmps14
  go_wp2_with (go_at_call 12; refine (diff_any _ _ _).mono ?_; rintro e w' ⟨rfl, rfl⟩)
  go_ret
  exact ⟨rfl, rfl⟩
theorem rbefore_any (a n : Int) (w : World) :
    Calls Try.prog 15 #[.int .u64 a, .int .u64 n] w fun e w' => e = .returned (.bool (decide (diffI a n < 0))) ∧ w = w' := by
  go_enter Try.func15, Try.ntmps15
  go_wp2_with (go_at_call 13; refine (rdiff_any _ _ _).mono ?_; rintro e w' ⟨rfl, rfl⟩)
  go_ret
  exact ⟨rfl, rfl⟩
theorem pack_any (a : Int) (c : Bool) (w : World) :
    Calls Try.prog 16 #[.int .u64 a, .bool c] w fun e w' => e = .returned (.int .u64 (packI a c)) ∧ w = w' := by
  cases c
  · go_enter Try.func16, Try.ntmps16
    go_wp2
    go_ret
    exact ⟨ret_u64 (packI_false a), rfl⟩
  · go_enter Try.func16, Try.ntmps16
    go_wp2
    go_ret
    exact ⟨ret_u64 (packI_true a), rfl⟩
theorem seq_any (a : Int) (w : World) :
    Calls Try.prog 17 #[.int .u64 a] w fun e w' => e = .returned (.int .u64 (a / 2)) ∧ w = w' := by
  go_enter Try.func17, Try.ntmps17
  go_wp2
  go_ret
  exact ⟨rfl, rfl⟩
theorem closed_any (a : Int) (w : World) (h0 : 0 ≤ a) (h1 : a < 18446744073709551616) :
    Calls Try.prog 18 #[.int .u64 a] w fun e w' => e = .returned (.bool (closedB a)) ∧ w = w' := by
  have E' := Lib.hid (closedB_eq a h0 h1)
  clear h0 h1
  go_enter Try.func18, Try.ntmps18
  go_wp2
  go_ret
  exact ⟨ret_bool E'.out, rfl⟩
theorem slot_any (a n : Int) (w : World) (h0 : 0 ≤ a) (h1 : a < 18446744073709551616) (h2 : -9223372036854775808 ≤ n) (h3 : n ≤ 9223372036854775807) :
    Calls Try.prog 21 #[.int .u64 a, .int .i64 n] w fun e w' => e = .returned (.int .i64 (slotI a n)) ∧ w = w' := by
  by_cases h : n < 1
  · have E' := Lib.hid (slotI_small a n h)
    go_enter Try.func21, Try.ntmps21
    go_wp2
    go_ret
    exact ⟨ret_i64 E'.out, rfl⟩
  · have E' := Lib.hid (slotI_eq a n h0 h1 (by omega))
    go_enter Try.func21, Try.ntmps21
    go_wp2
    go_ret
    exact ⟨ret_i64 E'.out, rfl⟩
theorem rslot_any (a n : Int) (w : World) (h0 : 0 ≤ a) (h1 : a < 18446744073709551616) (h2 : -9223372036854775808 ≤ n) (h3 : n ≤ 9223372036854775807) :
    Calls Try.prog 22 #[.int .u64 a, .int .i64 n] w fun e w' => e = .returned (.int .i64 (slotI a n)) ∧ w = w' := by
  by_cases h : n < 1
  · have E' := Lib.hid (slotI_small a n h)
    go_enter Try.func22, Try.ntmps22
    go_wp2
    go_ret
    exact ⟨ret_i64 E'.out, rfl⟩
  · have E' := Lib.hid (slotI_eq a n h0 h1 (by omega))
    go_enter Try.func22, Try.ntmps22
    go_wp2
    go_ret
    exact ⟨ret_i64 E'.out, rfl⟩

theorem size_any (k : Int) (w : World) (h2 : -9223372036854775808 ≤ k) (h3 : k ≤ 9223372036854775807) :
    Calls Try.prog 19 #[.int .i64 k] w fun e w' => e = .returned (.int .i64 (sizeI k)) ∧ w = w' := by
  by_cases h : k < 1
  · have E' := Lib.hid (sizeI_low k h)
    go_enter Try.func19, Try.ntmps19
    go_wp2
    go_ret
    exact ⟨ret_i64 E'.out.symm, rfl⟩
  · by_cases h1 : k = 1
    · subst h1
      go_enter Try.func19, Try.ntmps19
      go_wp2
      go_ret
      exact ⟨ret_i64 sizeI_one.symm, rfl⟩
    · by_cases h4 : 1073741824 < k
      · have E' := Lib.hid (sizeI_high k h4)
        go_enter Try.func19, Try.ntmps19
        go_wp2
        go_ret
        exact ⟨ret_i64 E'.out.symm, rfl⟩
      · have g1 : 2 ≤ k := by omega
        have g2 : k ≤ 1073741824 := by omega
        clear h h1 h4 h2 h3
        go_enter Try.func19, Try.ntmps19
        go_wp2
        go_loop [3] (fun t => ∃ p : Int, ∃ j : Nat, Hid (p = 2 ^ j) ∧ 1 ≤ p ∧ p < k ∧ t = .int .i64 (p * 2)) (fun t => (2147483648 - intOf t).toNat)
        case atStart => exact ⟨1, 0, Lib.hid (by simp), by omega, by omega, rfl⟩
        case round =>
          obtain ⟨p, j, hp, p1, p2, rfl⟩ := hrel
          by_cases hlt : p * 2 < k
          · go_wp2
            go_round
            case rel => exact ⟨p * 2, j + 1, Lib.hid (by rw [Int.pow_succ, hp.out]), by omega, by omega, rfl⟩
            case measure => simp [intOf]; omega
          · have E' := Lib.hid (sizeI_of k j g1 g2 (by rw [← hp.out]; exact p2) (by rw [← hp.out]; omega))
            go_wp2
            go_ret
            exact ⟨ret_i64 (by rw [E'.out, hp.out, Int.mul_comm]), rfl⟩
theorem rsize_any (k : Int) (w : World) (h2 : -9223372036854775808 ≤ k) (h3 : k ≤ 9223372036854775807) :
    Calls Try.prog 20 #[.int .i64 k] w fun e w' => e = .returned (.int .i64 (sizeI k)) ∧ w = w' := by
  by_cases h4 : 1073741824 < k
  · have E' := Lib.hid (sizeI_high k h4)
    go_enter Try.func20, Try.ntmps20
    go_wp2
    go_ret
    exact ⟨ret_i64 E'.out.symm, rfl⟩
  · by_cases h1 : k = 1
    · subst h1
      go_enter Try.func20, Try.ntmps20
      go_wp2
      go_ret
      exact ⟨ret_i64 sizeI_one.symm, rfl⟩
    · by_cases h : k < 1
      · have E' := Lib.hid (sizeI_low k h)
        go_enter Try.func20, Try.ntmps20
        go_wp2
        go_loop [3] (fun t => t = .int .i64 1) (fun _ => 0)
        case atStart => rfl
        case round =>
          subst hrel
          go_wp2
          go_ret
          exact ⟨ret_i64 E'.out.symm, rfl⟩
      · have g1 : 2 ≤ k := by omega
        have g2 : k ≤ 1073741824 := by omega
        have hn : (k == 1) = false := by simpa using h1
        clear h h1 h4 h2 h3
        go_enter Try.func20, Try.ntmps20
        go_wp2
        go_loop [3] (fun t => ∃ p : Int, ∃ j : Nat, Hid (p = 2 ^ j) ∧ 1 ≤ p ∧ p ≤ 2 * (k - 1) ∧ t = .int .i64 p) (fun t => (2147483648 - intOf t).toNat)
        case atStart => exact ⟨1, 0, Lib.hid (by simp), by omega, by omega, rfl⟩
        case round =>
          obtain ⟨p, j, hp, p1, p2, rfl⟩ := hrel
          by_cases hlt : p < k
          · go_wp2
            go_round
            case rel => exact ⟨p * 2, j + 1, Lib.hid (by rw [Int.pow_succ, hp.out]), by omega, by omega, rfl⟩
            case measure => simp [intOf]; omega
          · have E' : Hid (sizeI k = p) := Lib.hid (by
              cases j with
              | zero => have := hp.out; simp at this; omega
              | succ i =>
                have e := hp.out
                rw [Int.pow_succ] at e
                rw [sizeI_of k i g1 g2 (by omega) (by omega), e, Int.mul_comm])
            go_wp2
            go_ret
            exact ⟨ret_i64 E'.out.symm, rfl⟩

theorem awake_any (w : World) :
    Calls Try.prog 9 #[] w fun e w' => e = .returned (.bool true) ∧ w = w' := by
  have e1 : (nextI 9223372036854775807 1 == 0) = true := by decide
  have e2 : (diffI 0 9223372036854775807 == 1) = true := by decide
  have e3 : (packI 3 true == 7) = true := by decide
  have e4 : (sizeI 5 == 8) = true := by decide
  have e5 : (sizeI 1 == 2) = true := by decide
  go_enter Try.func9, Try.ntmps9
  go_wp2_with (first | (go_at_call 10; refine (next_any _ _ _).mono ?_; rintro e w' ⟨rfl, rfl⟩) | (go_at_call 12; refine (diff_any _ _ _).mono ?_; rintro e w' ⟨rfl, rfl⟩) | (go_at_call 16; refine (pack_any _ _ _).mono ?_; rintro e w' ⟨rfl, rfl⟩) | (go_at_call 19; refine (size_any _ _ (by omega) (by omega)).mono ?_; rintro e w' ⟨rfl, rfl⟩))
  go_ret
  exact ⟨rfl, rfl⟩
end Go.Proofs.Ytmdkdmhnilebbaa
