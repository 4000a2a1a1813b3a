/- Sequence numbers, slots and sizes: plain arithmetic, and what package seqword and the document's answers for chapter 1 return. -/
import Derived.Test.YtipjfcjdefdoeaaLib
import Derived.Test.YtipjfcjdefdoeaaRows
import Derived.Laws.BitsAllLaws
namespace Go.Proofs.Ytipjfcjdefdoeaa
open Go.ChangeShapes Go.WideShapes Go.ChangeAt Go.RowKit
set_option maxRecDepth 100000

theorem and63 (x : Int) (h0 : 0 ≤ x) (h1 : x < 18446744073709551616) : bits BinOp.and IntKind.u64 x 9223372036854775807 = x % 9223372036854775808 := by
  rw [u64_and x 9223372036854775807 h0 h1 (by omega) (by omega)]
  have := Nat.and_two_pow_sub_one_eq_mod x.toNat 63
  rw [show (9223372036854775807 : Int).toNat = 2 ^ 63 - 1 from rfl, this]
  omega
theorem and1 (x : Int) (h0 : 0 ≤ x) (h1 : x < 18446744073709551616) : bits BinOp.and IntKind.u64 x 1 = x % 2 := by
  rw [u64_and x 1 h0 h1 (by omega) (by omega)]
  have := Nat.and_two_pow_sub_one_eq_mod x.toNat 1
  rw [show (1 : Int).toNat = 2 ^ 1 - 1 from rfl, this]
  omega
theorem or1 (x : Int) (h0 : 0 ≤ x) (h1 : x < 18446744073709551616) (h2 : x % 2 = 0) : bits BinOp.or IntKind.u64 x 1 = x + 1 := by
  rw [u64_or x 1 h0 h1 (by omega) (by omega)]
  have := nat_join 1 x.toNat 1 (by omega) (by omega)
  rw [show (1 : Int).toNat = 1 from rfl, this]
  omega

def nextI (a n : Int) : Int := (a + n) % 9223372036854775808
theorem nextI_eq (a n : Int) : bits BinOp.and IntKind.u64 (IntKind.u64.wrap (a + IntKind.u64.wrap n)) 9223372036854775807 = nextI a n := by
  unfold nextI
  rw [IntKind.wrap_u64, IntKind.wrap_u64, and63 _ (by omega) (by omega)]
  omega
def diffI (a b : Int) : Int := (a - b + 4611686018427387904) % 9223372036854775808 - 4611686018427387904
theorem diffI_eq (a b : Int) : wrap64 (IntKind.u64.wrap (IntKind.u64.wrap (a - b) * 2)) / 2 = diffI a b := by
  unfold diffI wrap64
  rw [IntKind.wrap_u64, IntKind.wrap_u64]
  omega
theorem diffI_hi (a b x : Int) (hx : bits BinOp.and IntKind.u64 (IntKind.u64.wrap (a - b)) 9223372036854775807 = x) (h : 4611686018427387904 ≤ x) :
    wrap64 (wrap64 (wrap64 x - 4611686018427387904) - 4611686018427387904) = diffI a b := by
  rw [IntKind.wrap_u64, and63 _ (by omega) (by omega)] at hx
  unfold diffI wrap64
  omega
theorem diffI_lo (a b x : Int) (hx : bits BinOp.and IntKind.u64 (IntKind.u64.wrap (a - b)) 9223372036854775807 = x) (h : ¬ 4611686018427387904 ≤ x) :
    wrap64 x = diffI a b := by
  rw [IntKind.wrap_u64, and63 _ (by omega) (by omega)] at hx
  unfold diffI wrap64
  omega
def packI (s : Int) (c : Bool) : Int := (s * 2) % 18446744073709551616 + if c then 1 else 0
theorem packI_true (s : Int) : bits BinOp.or IntKind.u64 (IntKind.u64.wrap (s * 2)) 1 = packI s true := by
  unfold packI
  rw [IntKind.wrap_u64, or1 _ (by omega) (by omega) (by omega)]
  simp
theorem packI_false (s : Int) : IntKind.u64.wrap (s * 2) = packI s false := by
  unfold packI
  rw [IntKind.wrap_u64]
  simp
def closedB (a : Int) : Bool := decide (a % 2 = 1)
theorem closedB_eq (a : Int) (h0 : 0 ≤ a) (h1 : a < 18446744073709551616) : (bits BinOp.and IntKind.u64 a 1 != 0) = closedB a := by
  unfold closedB
  rw [and1 a h0 h1]
  by_cases h : a % 2 = 1
  · simp [h]
  · have : a % 2 = 0 := by omega
    simp [this]
def slotI (a n : Int) : Int := if n < 1 then 0 else a % 9223372036854775808 % n
theorem slotI_small (a n : Int) (h : n < 1) : 0 = slotI a n := by unfold slotI; rw [if_pos h]
theorem slotI_eq (a n : Int) (h0 : 0 ≤ a) (h1 : a < 18446744073709551616) (h : 1 ≤ n) :
    wrap64 ((bits BinOp.and IntKind.u64 a 9223372036854775807).tmod n) = slotI a n := by
  unfold slotI
  rw [if_neg (by omega), and63 a h0 h1, Int.tmod_eq_emod_of_nonneg (by omega)]
  have h2 := Int.emod_nonneg (a % 9223372036854775808) (show n ≠ 0 by omega)
  have h3 : a % 9223372036854775808 % n ≤ a % 9223372036854775808 := by
    have := Int.emod_add_mul_ediv (a % 9223372036854775808) n
    have h4 : 0 ≤ n * (a % 9223372036854775808 / n) := Int.mul_nonneg (by omega) (Int.ediv_nonneg (by omega) (by omega))
    omega
  unfold wrap64
  omega
/-- the slots of a ring for a capacity -/
def sizeI (k : Int) : Int := if k < 1 then 1 else if k = 1 then 2 else if 1073741824 < k then 0 else 2 * 2 ^ Nat.log2 (k.toNat - 1)
theorem sizeI_low (k : Int) (h : k < 1) : sizeI k = 1 := by unfold sizeI; rw [if_pos h]
theorem sizeI_one : sizeI 1 = 2 := by unfold sizeI; rw [if_neg (by omega), if_pos rfl]
theorem sizeI_high (k : Int) (h : 1073741824 < k) : sizeI k = 0 := by
  unfold sizeI; rw [if_neg (by omega), if_neg (by omega), if_pos h]
theorem sizeI_of (k : Int) (j : Nat) (h2 : 2 ≤ k) (h3 : k ≤ 1073741824) (h4 : (2 : Int) ^ j < k) (h5 : k ≤ 2 * 2 ^ j) : sizeI k = 2 * 2 ^ j := by
  unfold sizeI
  rw [if_neg (by omega), if_neg (by omega), if_neg (by omega)]
  have e : ((2 ^ j : Nat) : Int) = (2 : Int) ^ j := by simp
  have e1 : (k.toNat - 1).log2 = j := by
    rw [Nat.log2_eq_iff (by omega), Nat.pow_succ]
    omega
  rw [e1]
theorem sizeI_mid (k : Int) (h2 : 2 ≤ k) (h3 : k ≤ 1073741824) : ∃ j : Nat, sizeI k = 2 * 2 ^ j ∧ (2 : Int) ^ j < k ∧ k ≤ 2 * 2 ^ j := by
  have h := (Nat.log2_eq_iff (n := k.toNat - 1) (k := (k.toNat - 1).log2) (by omega)).1 rfl
  refine ⟨(k.toNat - 1).log2, ?_⟩
  have e : ((2 ^ (k.toNat - 1).log2 : Nat) : Int) = (2 : Int) ^ (k.toNat - 1).log2 := by simp
  rw [Nat.pow_succ] at h
  have h4 : (2 : Int) ^ (k.toNat - 1).log2 < k := by omega
  have h5 : k ≤ 2 * 2 ^ (k.toNat - 1).log2 := by omega
  exact ⟨sizeI_of k _ h2 h3 h4 h5, h4, h5⟩

theorem rqnext_any (a n : Int) (w : World) :
    Calls Try.prog 60 #[.int .u64 a, .int .i64 n] w fun e w' => e = .returned (.int .u64 (nextI a n)) ∧ w = w' := by
  go_enter Try.func60, Try.ntmps60
  go_wp2
  go_ret
  exact ⟨ret_u64 (nextI_eq a n), rfl⟩
theorem rpack_any (a : Int) (c : Bool) (w : World) :
    Calls Try.prog 56 #[.int .u64 a, .bool c] w fun e w' => e = .returned (.int .u64 (packI a c)) ∧ w = w' := by
  cases c
  · go_enter Try.func56, Try.ntmps56
    go_wp2
    go_ret
    exact ⟨ret_u64 (packI_false a), rfl⟩
  · go_enter Try.func56, Try.ntmps56
    go_wp2
    go_ret
    exact ⟨ret_u64 (packI_true a), rfl⟩
theorem rslot_any (a n : Int) (w : World) (h0 : 0 ≤ a) (h1 : a < 18446744073709551616) (h2 : -9223372036854775808 ≤ n) (h3 : n ≤ 9223372036854775807) :
    Calls Try.prog 75 #[.int .u64 a, .int .i64 n] w fun e w' => e = .returned (.int .i64 (slotI a n)) ∧ w = w' := by
  by_cases h : n < 1
  · have E' := Lib.hid (slotI_small a n h)
    go_enter Try.func75, Try.ntmps75
    go_wp2
    go_ret
    exact ⟨ret_i64 E'.out, rfl⟩
  · have E' := Lib.hid (slotI_eq a n h0 h1 (by omega))
    go_enter Try.func75, Try.ntmps75
    go_wp2
    go_ret
    exact ⟨ret_i64 E'.out, rfl⟩

theorem size_any (k : Int) (w : World) (h2 : -9223372036854775808 ≤ k) (h3 : k ≤ 9223372036854775807) :
    Calls Try.prog 94 #[.int .i64 k] w fun e w' => e = .returned (.int .i64 (sizeI k)) ∧ w = w' := by
  by_cases h : k < 1
  · have E' := Lib.hid (sizeI_low k h)
    go_enter Try.func94, Try.ntmps94
    go_wp2
    go_ret
    exact ⟨ret_i64 E'.out.symm, rfl⟩
  · by_cases h1 : k = 1
    · subst h1
      go_enter Try.func94, Try.ntmps94
      go_wp2
      go_ret
      exact ⟨ret_i64 sizeI_one.symm, rfl⟩
    · by_cases h4 : 1073741824 < k
      · have E' := Lib.hid (sizeI_high k h4)
        go_enter Try.func94, Try.ntmps94
        go_wp2
        go_ret
        exact ⟨ret_i64 E'.out.symm, rfl⟩
      · have g1 : 2 ≤ k := by omega
        have g2 : k ≤ 1073741824 := by omega
        clear h h1 h4 h2 h3
        go_enter Try.func94, Try.ntmps94
        go_wp2
        go_loop [3] (fun t => ∃ p : Int, ∃ j : Nat, Hid (p = 2 ^ j) ∧ 1 ≤ p ∧ p < k ∧ t = .int .i64 (p * 2)) (fun t => (2147483648 - intOf t).toNat)
        case atStart => exact ⟨1, 0, Lib.hid (by simp), by omega, by omega, rfl⟩
        case round =>
          obtain ⟨p, j, hp, p1, p2, rfl⟩ := hrel
          by_cases hlt : p * 2 < k
          · go_wp2
            go_round
            case rel => exact ⟨p * 2, j + 1, Lib.hid (by rw [Int.pow_succ, hp.out]), by omega, by omega, rfl⟩
            case measure => simp [intOf]; omega
          · have E' := Lib.hid (sizeI_of k j g1 g2 (by rw [← hp.out]; exact p2) (by rw [← hp.out]; omega))
            go_wp2
            go_ret
            exact ⟨ret_i64 (by rw [E'.out, hp.out, Int.mul_comm]), rfl⟩
theorem rsize_any (k : Int) (w : World) (h2 : -9223372036854775808 ≤ k) (h3 : k ≤ 9223372036854775807) :
    Calls Try.prog 74 #[.int .i64 k] w fun e w' => e = .returned (.int .i64 (sizeI k)) ∧ w = w' := by
  by_cases h4 : 1073741824 < k
  · have E' := Lib.hid (sizeI_high k h4)
    go_enter Try.func74, Try.ntmps74
    go_wp2
    go_ret
    exact ⟨ret_i64 E'.out.symm, rfl⟩
  · by_cases h1 : k = 1
    · subst h1
      go_enter Try.func74, Try.ntmps74
      go_wp2
      go_ret
      exact ⟨ret_i64 sizeI_one.symm, rfl⟩
    · by_cases h : k < 1
      · have E' := Lib.hid (sizeI_low k h)
        go_enter Try.func74, Try.ntmps74
        go_wp2
        go_loop [3] (fun t => t = .int .i64 1) (fun _ => 0)
        case atStart => rfl
        case round =>
          subst hrel
          go_wp2
          go_ret
          exact ⟨ret_i64 E'.out.symm, rfl⟩
      · have g1 : 2 ≤ k := by omega
        have g2 : k ≤ 1073741824 := by omega
        have hn : (k == 1) = false := by simpa using h1
        clear h h1 h4 h2 h3
        go_enter Try.func74, Try.ntmps74
        go_wp2
        go_loop [3] (fun t => ∃ p : Int, ∃ j : Nat, Hid (p = 2 ^ j) ∧ 1 ≤ p ∧ p ≤ 2 * (k - 1) ∧ t = .int .i64 p) (fun t => (2147483648 - intOf t).toNat)
        case atStart => exact ⟨1, 0, Lib.hid (by simp), by omega, by omega, rfl⟩
        case round =>
          obtain ⟨p, j, hp, p1, p2, rfl⟩ := hrel
          by_cases hlt : p < k
          · go_wp2
            go_round
            case rel => exact ⟨p * 2, j + 1, Lib.hid (by rw [Int.pow_succ, hp.out]), by omega, by omega, rfl⟩
            case measure => simp [intOf]; omega
          · have E' : Hid (sizeI k = p) := Lib.hid (by
              cases j with
              | zero => have := hp.out; simp at this; omega
              | succ i =>
                have e := hp.out
                rw [Int.pow_succ] at e
                rw [sizeI_of k i g1 g2 (by omega) (by omega), e, Int.mul_comm])
            go_wp2
            go_ret
            exact ⟨ret_i64 E'.out.symm, rfl⟩

theorem sizeI_16 (x : Int) (h0 : 0 ≤ x) (h1 : x ≤ 16) : 1 ≤ sizeI x ∧ sizeI x ≤ 16 := by
  rcases (show x = 0 ∨ x = 1 ∨ x = 2 ∨ x = 3 ∨ x = 4 ∨ x = 5 ∨ x = 6 ∨ x = 7 ∨ x = 8 ∨ x = 9 ∨ x = 10 ∨ x = 11 ∨ x = 12 ∨ x = 13 ∨ x = 14 ∨ x = 15 ∨ x = 16 by omega) with rfl | rfl | rfl | rfl | rfl | rfl | rfl | rfl | rfl | rfl | rfl | rfl | rfl | rfl | rfl | rfl | rfl <;> decide +kernel
theorem slotI_lt (a n : Int) (h0 : 0 ≤ a) (hn : 1 ≤ n) : 0 ≤ slotI a n ∧ slotI a n < n := by
  unfold slotI
  rw [if_neg (by omega)]
  exact ⟨Int.emod_nonneg _ (by omega), Int.emod_lt_of_pos _ (by omega)⟩
end Go.Proofs.Ytipjfcjdefdoeaa
