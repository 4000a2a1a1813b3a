/- Layer 4: which kinds are atomic, which write. -/
import Derived.Test.YtipjfcjdefdoeaaMmA
namespace Go.Proofs.Ytipjfcjdefdoeaa
open Go.ChangeShapes Go.WideShapes Go.ChangeAt Go.RowKit
set_option maxRecDepth 100000

def atomicB (k : Int) : Bool := decide (1 ≤ k) && decide (k ≤ 4)
def writesB (k : Int) : Bool := k == 2 || k == 3 || k == 6 || k == 8 || k == 9
theorem writes_any (k : Int) (w : World) : Calls Try.prog 65 #[.int .i64 k] w fun e w' => e = .returned (.bool (writesB k)) ∧ w = w' := by
  rcases (show k = 2 ∨ k = 3 ∨ k = 6 ∨ k = 8 ∨ k = 9 ∨ (k ≠ 2 ∧ k ≠ 3 ∧ k ≠ 6 ∧ k ≠ 8 ∧ k ≠ 9) by omega) with rfl | rfl | rfl | rfl | rfl | h
  · go_enter Try.func65, Try.ntmps65
    go_wp2
    go_ret
    exact ⟨rfl, rfl⟩
  · go_enter Try.func65, Try.ntmps65
    go_wp2
    go_ret
    exact ⟨rfl, rfl⟩
  · go_enter Try.func65, Try.ntmps65
    go_wp2
    go_ret
    exact ⟨rfl, rfl⟩
  · go_enter Try.func65, Try.ntmps65
    go_wp2
    go_ret
    exact ⟨rfl, rfl⟩
  · go_enter Try.func65, Try.ntmps65
    go_wp2
    go_ret
    exact ⟨rfl, rfl⟩
  · have hv : writesB k = false := by simp [writesB]; omega
    have k2 := ne_beq (show k ≠ 2 by omega)
    have k3 := ne_beq (show k ≠ 3 by omega)
    have k6 := ne_beq (show k ≠ 6 by omega)
    have k8 := ne_beq (show k ≠ 8 by omega)
    have k9 := ne_beq (show k ≠ 9 by omega)
    rw [hv]
    clear h hv
    go_enter Try.func65, Try.ntmps65
    go_wp2
    go_ret
    exact ⟨rfl, rfl⟩
end Go.Proofs.Ytipjfcjdefdoeaa
