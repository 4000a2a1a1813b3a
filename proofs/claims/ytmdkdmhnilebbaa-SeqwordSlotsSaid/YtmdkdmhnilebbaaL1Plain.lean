/- Plain arithmetic for layer 1 (sequence numbers modulo 2^63, tail words, sizes, slots); no Go in sight. -/
import Derived.Laws.BitsAllLaws
import Derived.RowKit
namespace Go.Proofs.Ytmdkdmhnilebbaa
open Go.RowKit

theorem and63 (x : Int) (h0 : 0 ≤ x) (h1 : x < 18446744073709551616) : bits BinOp.and IntKind.u64 x 9223372036854775807 = x % 9223372036854775808 := by
  rw [u64_and x 9223372036854775807 h0 h1 (by omega) (by omega)]
  have := Nat.and_two_pow_sub_one_eq_mod x.toNat 63
  rw [show (9223372036854775807 : Int).toNat = 2 ^ 63 - 1 from rfl, this]
  omega
theorem and1 (x : Int) (h0 : 0 ≤ x) (h1 : x < 18446744073709551616) : bits BinOp.and IntKind.u64 x 1 = x % 2 := by
  rw [u64_and x 1 h0 h1 (by omega) (by omega)]
  have := Nat.and_two_pow_sub_one_eq_mod x.toNat 1
  rw [show (1 : Int).toNat = 2 ^ 1 - 1 from rfl, this]
  omega
theorem or1 (x : Int) (h0 : 0 ≤ x) (h1 : x < 18446744073709551616) (h2 : x % 2 = 0) : bits BinOp.or IntKind.u64 x 1 = x + 1 := by
  rw [u64_or x 1 h0 h1 (by omega) (by omega)]
  have := nat_join 1 x.toNat 1 (by omega) (by omega)
  rw [show (1 : Int).toNat = 1 from rfl, this]
  omega

def nextI (a n : Int) : Int := (a + n) % 9223372036854775808
theorem nextI_eq (a n : Int) : bits BinOp.and IntKind.u64 (IntKind.u64.wrap (a + IntKind.u64.wrap n)) 9223372036854775807 = nextI a n := by
  unfold nextI
  rw [IntKind.wrap_u64, IntKind.wrap_u64, and63 _ (by omega) (by omega)]
  omega
def diffI (a b : Int) : Int := (a - b + 4611686018427387904) % 9223372036854775808 - 4611686018427387904
theorem diffI_eq (a b : Int) : wrap64 (IntKind.u64.wrap (IntKind.u64.wrap (a - b) * 2)) / 2 = diffI a b := by
  unfold diffI wrap64
  rw [IntKind.wrap_u64, IntKind.wrap_u64]
  omega
theorem diffI_hi (a b x : Int) (hx : bits BinOp.and IntKind.u64 (IntKind.u64.wrap (a - b)) 9223372036854775807 = x) (h : 4611686018427387904 ≤ x) :
    wrap64 (wrap64 (wrap64 x - 4611686018427387904) - 4611686018427387904) = diffI a b := by
  rw [IntKind.wrap_u64, and63 _ (by omega) (by omega)] at hx
  unfold diffI wrap64
  omega
theorem diffI_lo (a b x : Int) (hx : bits BinOp.and IntKind.u64 (IntKind.u64.wrap (a - b)) 9223372036854775807 = x) (h : ¬ 4611686018427387904 ≤ x) :
    wrap64 x = diffI a b := by
  rw [IntKind.wrap_u64, and63 _ (by omega) (by omega)] at hx
  unfold diffI wrap64
  omega
def packI (s : Int) (c : Bool) : Int := (s * 2) % 18446744073709551616 + if c then 1 else 0
theorem packI_true (s : Int) : bits BinOp.or IntKind.u64 (IntKind.u64.wrap (s * 2)) 1 = packI s true := by
  unfold packI
  rw [IntKind.wrap_u64, or1 _ (by omega) (by omega) (by omega)]
  simp
theorem packI_false (s : Int) : IntKind.u64.wrap (s * 2) = packI s false := by
  unfold packI
  rw [IntKind.wrap_u64]
  simp
def closedB (a : Int) : Bool := decide (a % 2 = 1)
theorem closedB_eq (a : Int) (h0 : 0 ≤ a) (h1 : a < 18446744073709551616) : (bits BinOp.and IntKind.u64 a 1 != 0) = closedB a := by
  unfold closedB
  rw [and1 a h0 h1]
  by_cases h : a % 2 = 1
  · simp [h]
  · have : a % 2 = 0 := by omega
    simp [this]
def slotI (a n : Int) : Int := if n < 1 then 0 else a % 9223372036854775808 % n
theorem slotI_small (a n : Int) (h : n < 1) : 0 = slotI a n := by unfold slotI; rw [if_pos h]
theorem slotI_eq (a n : Int) (h0 : 0 ≤ a) (h1 : a < 18446744073709551616) (h : 1 ≤ n) :
    wrap64 ((bits BinOp.and IntKind.u64 a 9223372036854775807).tmod n) = slotI a n := by
  unfold slotI
  rw [if_neg (by omega), and63 a h0 h1, Int.tmod_eq_emod_of_nonneg (by omega)]
  have h2 := Int.emod_nonneg (a % 9223372036854775808) (show n ≠ 0 by omega)
  have h3 : a % 9223372036854775808 % n ≤ a % 9223372036854775808 := by
    have := Int.emod_add_mul_ediv (a % 9223372036854775808) n
    have h4 : 0 ≤ n * (a % 9223372036854775808 / n) := Int.mul_nonneg (by omega) (Int.ediv_nonneg (by omega) (by omega))
    omega
  unfold wrap64
  omega
/-- the slots of a ring for a capacity -/
def sizeI (k : Int) : Int := if k < 1 then 1 else if k = 1 then 2 else if 1073741824 < k then 0 else 2 * 2 ^ Nat.log2 (k.toNat - 1)
theorem sizeI_low (k : Int) (h : k < 1) : sizeI k = 1 := by unfold sizeI; rw [if_pos h]
theorem sizeI_one : sizeI 1 = 2 := by unfold sizeI; rw [if_neg (by omega), if_pos rfl]
theorem sizeI_high (k : Int) (h : 1073741824 < k) : sizeI k = 0 := by
  unfold sizeI; rw [if_neg (by omega), if_neg (by omega), if_pos h]
theorem sizeI_of (k : Int) (j : Nat) (h2 : 2 ≤ k) (h3 : k ≤ 1073741824) (h4 : (2 : Int) ^ j < k) (h5 : k ≤ 2 * 2 ^ j) : sizeI k = 2 * 2 ^ j := by
  unfold sizeI
  rw [if_neg (by omega), if_neg (by omega), if_neg (by omega)]
  have e : ((2 ^ j : Nat) : Int) = (2 : Int) ^ j := by simp
  have e1 : (k.toNat - 1).log2 = j := by
    rw [Nat.log2_eq_iff (by omega), Nat.pow_succ]
    omega
  rw [e1]
theorem sizeI_mid (k : Int) (h2 : 2 ≤ k) (h3 : k ≤ 1073741824) : ∃ j : Nat, sizeI k = 2 * 2 ^ j ∧ (2 : Int) ^ j < k ∧ k ≤ 2 * 2 ^ j := by
  have h := (Nat.log2_eq_iff (n := k.toNat - 1) (k := (k.toNat - 1).log2) (by omega)).1 rfl
  refine ⟨(k.toNat - 1).log2, ?_⟩
  have e : ((2 ^ (k.toNat - 1).log2 : Nat) : Int) = (2 : Int) ^ (k.toNat - 1).log2 := by simp
  rw [Nat.pow_succ] at h
  have h4 : (2 : Int) ^ (k.toNat - 1).log2 < k := by omega
  have h5 : k ≤ 2 * 2 ^ (k.toNat - 1).log2 := by omega
  exact ⟨sizeI_of k _ h2 h3 h4 h5, h4, h5⟩
end Go.Proofs.Ytmdkdmhnilebbaa
