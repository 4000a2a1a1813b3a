/- Where everything lies: plain arithmetic. -/
import Derived.Test.YtipjfcjdefdoeaaSq
import Derived.Test.YtipjfcjdefdoeaaConf
namespace Go.Proofs.Ytipjfcjdefdoeaa
open Go.ChangeShapes Go.WideShapes Go.ChangeAt Go.RowKit
set_option maxRecDepth 100000

theorem ConfM.good.cap {c : ConfM} (h : c.good) (k : Nat) (hk : k < c.caps.length) : 0 ≤ c.caps.getD k 0 ∧ c.caps.getD k 0 ≤ 16 := by
  rw [List.getD_eq_getElem?_getD, List.getElem?_eq_getElem hk]
  exact h.caps _ (List.getElem_mem hk)
/-- the slots of the channel k -/
def ConfM.size (c : ConfM) (k : Nat) : Int := sizeI (c.caps.getD k 0)
theorem ConfM.good.size {c : ConfM} (h : c.good) (k : Nat) (hk : k < c.caps.length) : 1 ≤ c.size k ∧ c.size k ≤ 16 := sizeI_16 _ (h.cap k hk).1 (h.cap k hk).2
/-- the first word of channel k -/
def ConfM.base (c : ConfM) : Nat → Int
  | 0 => 0
  | k + 1 => c.base k + (5 + c.size k * 2)
theorem ConfM.good.base {c : ConfM} (h : c.good) (k : Nat) (hk : k ≤ c.caps.length) : 0 ≤ c.base k ∧ c.base k ≤ 37 * k := by
  induction k with
  | zero => exact ⟨Int.le_refl _, Int.le_refl _⟩
  | succ k ih =>
    have h1 := ih (by omega)
    have h2 := h.size k (by omega)
    show 0 ≤ c.base k + (5 + c.size k * 2) ∧ c.base k + (5 + c.size k * 2) ≤ _
    omega
theorem ConfM.good.base8 {c : ConfM} (h : c.good) (k : Nat) (hk : k ≤ c.caps.length) : 0 ≤ c.base k ∧ c.base k ≤ 296 := by
  have h1 := h.base k hk
  have h2 := h.len
  omega
/-- the slot's first word -/
def ConfM.slotW (c : ConfM) (k : Nat) (s : Int) : Int := c.base k + 5 + slotI s (c.size k) * 2
/-- the thread's first word -/
def ConfM.thrW (c : ConfM) (t : Int) : Int := c.base c.caps.length + t * 11
end Go.Proofs.Ytipjfcjdefdoeaa
