/- Layer 4: which kinds are atomic, which write. -/
import Derived.Test.YtkciejealeinoaaMmA
namespace Go.Proofs.Ytkciejealeinoaa
open Go.ChangeShapes Go.WideShapes Go.ChangeAt Go.RowKit
set_option maxRecDepth 100000

def atomicB (k : Int) : Bool := decide (1 ≤ k) && decide (k ≤ 4)
def writesB (k : Int) : Bool := k == 2 || k == 3 || k == 6 || k == 8 || k == 9
theorem atomic_any (k : Int) (w : World) : Calls Try.prog 24 #[.int .i64 k] w fun e w' => e = .returned (.bool (atomicB k)) ∧ w = w' := by
  rcases (show k = 1 ∨ k = 2 ∨ k = 3 ∨ k = 4 ∨ (k ≠ 1 ∧ k ≠ 2 ∧ k ≠ 3 ∧ k ≠ 4) by omega) with rfl | rfl | rfl | rfl | h
  · go_enter Try.func24, Try.ntmps24
    go_wp2
    go_ret
    exact ⟨rfl, rfl⟩
  · go_enter Try.func24, Try.ntmps24
    go_wp2
    go_ret
    exact ⟨rfl, rfl⟩
  · go_enter Try.func24, Try.ntmps24
    go_wp2
    go_ret
    exact ⟨rfl, rfl⟩
  · go_enter Try.func24, Try.ntmps24
    go_wp2
    go_ret
    exact ⟨rfl, rfl⟩
  · have hv : atomicB k = false := by simp [atomicB]; omega
    have k1 := ne_beq (show k ≠ 1 by omega)
    have k2 := ne_beq (show k ≠ 2 by omega)
    have k3 := ne_beq (show k ≠ 3 by omega)
    have k4 := ne_beq (show k ≠ 4 by omega)
    rw [hv]
    clear h hv
    go_enter Try.func24, Try.ntmps24
    go_wp2
    go_ret
    exact ⟨rfl, rfl⟩
theorem writes_any (k : Int) (w : World) : Calls Try.prog 26 #[.int .i64 k] w fun e w' => e = .returned (.bool (writesB k)) ∧ w = w' := by
  rcases (show k = 2 ∨ k = 3 ∨ k = 6 ∨ k = 8 ∨ k = 9 ∨ (k ≠ 2 ∧ k ≠ 3 ∧ k ≠ 6 ∧ k ≠ 8 ∧ k ≠ 9) by omega) with rfl | rfl | rfl | rfl | rfl | h
  · go_enter Try.func26, Try.ntmps26
    go_wp2
    go_ret
    exact ⟨rfl, rfl⟩
  · go_enter Try.func26, Try.ntmps26
    go_wp2
    go_ret
    exact ⟨rfl, rfl⟩
  · go_enter Try.func26, Try.ntmps26
    go_wp2
    go_ret
    exact ⟨rfl, rfl⟩
  · go_enter Try.func26, Try.ntmps26
    go_wp2
    go_ret
    exact ⟨rfl, rfl⟩
  · go_enter Try.func26, Try.ntmps26
    go_wp2
    go_ret
    exact ⟨rfl, rfl⟩
  · have hv : writesB k = false := by simp [writesB]; omega
    have k2 := ne_beq (show k ≠ 2 by omega)
    have k3 := ne_beq (show k ≠ 3 by omega)
    have k6 := ne_beq (show k ≠ 6 by omega)
    have k8 := ne_beq (show k ≠ 8 by omega)
    have k9 := ne_beq (show k ≠ 9 by omega)
    rw [hv]
    clear h hv
    go_enter Try.func26, Try.ntmps26
    go_wp2
    go_ret
    exact ⟨rfl, rfl⟩
theorem rwrites_any (k : Int) (w : World) : Calls Try.prog 27 #[.int .i64 k] w fun e w' => e = .returned (.bool (writesB k)) ∧ w = w' := by
  rcases (show k = 2 ∨ k = 3 ∨ k = 6 ∨ k = 8 ∨ k = 9 ∨ (k ≠ 2 ∧ k ≠ 3 ∧ k ≠ 6 ∧ k ≠ 8 ∧ k ≠ 9) by omega) with rfl | rfl | rfl | rfl | rfl | h
  · go_enter Try.func27, Try.ntmps27
    go_wp2
    go_ret
    exact ⟨rfl, rfl⟩
  · go_enter Try.func27, Try.ntmps27
    go_wp2
    go_ret
    exact ⟨rfl, rfl⟩
  · go_enter Try.func27, Try.ntmps27
    go_wp2
    go_ret
    exact ⟨rfl, rfl⟩
  · go_enter Try.func27, Try.ntmps27
    go_wp2
    go_ret
    exact ⟨rfl, rfl⟩
  · go_enter Try.func27, Try.ntmps27
    go_wp2
    go_ret
    exact ⟨rfl, rfl⟩
  · have hv : writesB k = false := by simp [writesB]; omega
    have k2 := ne_beq (show k ≠ 2 by omega)
    have k3 := ne_beq (show k ≠ 3 by omega)
    have k6 := ne_beq (show k ≠ 6 by omega)
    have k8 := ne_beq (show k ≠ 8 by omega)
    have k9 := ne_beq (show k ≠ 9 by omega)
    rw [hv]
    clear h hv
    go_enter Try.func27, Try.ntmps27
    go_wp2
    go_ret
    exact ⟨rfl, rfl⟩
theorem ratomic_any (k : Int) (w : World) : Calls Try.prog 25 #[.int .i64 k] w fun e w' => e = .returned (.bool (atomicB k)) ∧ w = w' := by
  by_cases h : 1 ≤ k
  · have hd : decide (1 ≤ k) = true := by simpa using h
    go_enter Try.func25, Try.ntmps25
    go_wp2
    go_ret
    exact ⟨ret_bool (by simp [atomicB, h]), rfl⟩
  · have hd : decide (1 ≤ k) = false := by simpa using h
    go_enter Try.func25, Try.ntmps25
    go_wp2
    go_ret
    exact ⟨ret_bool (by simp only [atomicB, hd, Bool.false_and]), rfl⟩
end Go.Proofs.Ytkciejealeinoaa
