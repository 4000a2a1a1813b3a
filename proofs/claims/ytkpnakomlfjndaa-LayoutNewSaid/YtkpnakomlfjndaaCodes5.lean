/- The reader of choices: numbers at limits, operations. -/
import Derived.Test.YtkpnakomlfjndaaCodes4
namespace Go.Proofs.Ytkpnakomlfjndaa
open Go.ChangeShapes Go.WideShapes Go.ChangeAt Go.RowKit
set_option maxRecDepth 100000

def numList : List Int := [0, 1, -1, 2, 5, 6, 7, 8, 9, 16, 17, 1099511627776, 1099511627777, -1099511627777, 100, 3]
theorem num_all : ∀ p, p < 16 → -1099511627777 ≤ numList.getD p 0 ∧ numList.getD p 0 ≤ 1099511627777 := by decide
theorem num_at (p : Nat) (hp : p < 16) : ∃ q : Int, numList.getD p 0 = q ∧ Hid (-1099511627777 ≤ q ∧ q ≤ 1099511627777) := ⟨_, rfl, num_all p hp⟩
theorem numberE (g : Nat) (w : World) (h : CodesE w g) :
    Calls Try.prog 24 #[.pointer (some ⟨g, 0, none⟩)] w fun e w' => ∃ x : Int, e = .returned (.int .i64 x) ∧ -1099511627777 ≤ x ∧ x ≤ 1099511627777 ∧ CodesE w' g ∧ w.grownBy w' (some g) := by
  have hlt := h.lt
  obtain ⟨W, hW⟩ : ∃ W, w.alloc (.cells (numList.map (Value.int .i64)).toArray 3) = W := ⟨_, rfl⟩
  have HB : Hid (Below w.heap.size w W) := hW ▸ below_new (Below.refl w.heap.size w) _
  have R0 : Hid (W.heap[w.heap.size]? = some (.cells (numList.map (Value.int .i64)).toArray 3 (0, 0))) := by
    show _ = _
    rw [← hW]; exact heap_alloc_new _ _
  have hz : w.heap.size < W.heap.size := by rw [← hW]; simp
  have HC := Lib.hid (h.kept hlt HB.out)
  have HGW : Hid (w.grownBy W (some g)) := grown_of_below HB.out
  have HW := Lib.hid hW
  clear hW h
  go_enter Try.func24, Try.ntmps24
  go_wp2_with fail
  rw [show (#[.int .i64 0, .int .i64 1, .int .i64 (-1), .int .i64 2, .int .i64 5, .int .i64 6, .int .i64 7, .int .i64 8, .int .i64 9, .int .i64 16, .int .i64 17, .int .i64 1099511627776, .int .i64 1099511627777, .int .i64 (-1099511627777), .int .i64 100, .int .i64 3] : Array Value) = (numList.map (Value.int .i64)).toArray from rfl, HW.out]
  refine (nextE g 16 _ HC.out (by omega) (by omega)).mono ?_; rintro e w1 ⟨x, rfl, hx0, hx1, hc1, hg1⟩
  obtain ⟨p, rfl⟩ : ∃ p : Nat, x = p := ⟨x.toNat, by omega⟩
  have hp : p < 16 := by omega
  obtain ⟨q, hq, hqb⟩ := num_at p hp
  have row := (hg1.block w.heap.size (by omega) (by simp; omega)).trans R0.out
  have c0 : w1.cell? ⟨w.heap.size, p, none⟩ = some (.int .i64 q) := by
    rw [cell_of_row _ _ p _ _ _ row, ← hq]
    simp [List.getD_eq_getElem?_getD, show p < numList.length from hp]
  have HC1 := Lib.hid hc1
  have HG1 := Lib.hid (grownBy_trans HGW.out hg1)
  clear hc1 hg1 row hq
  go_wp2
  go_ret
  exact ⟨q, rfl, hqb.out.1, hqb.out.2, HC1.out, HG1.out⟩
end Go.Proofs.Ytkpnakomlfjndaa
