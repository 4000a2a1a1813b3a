/- The reader of choices: what Next returns, whatever the choices are. -/
import Derived.Test.YtimgcehogalhcaaDraw
namespace Go.Proofs.Ytimgcehogalhcaa
open Go.ChangeShapes Go.WideShapes Go.ChangeAt Go.RowKit
set_option maxRecDepth 100000

def CodesE (w : World) (g : Nat) : Prop := ∃ r val, CodesAt w g r val
theorem CodesE.lt {w : World} {g : Nat} (h : CodesE w g) : g < w.heap.size := by obtain ⟨r, val, h⟩ := h; exact h.lt
theorem CodesE.kept {w w' : World} {g B : Nat} (h : CodesE w g) (hB : g < B) (hb : Below B w w') : CodesE w' g := by
  obtain ⟨r, val, h⟩ := h; exact ⟨r, val, h.kept hB hb⟩
theorem nextE (g : Nat) (n : Int) (w : World) (h : CodesE w g) (h1 : 1 ≤ n) (h2 : n ≤ 256) :
    Calls Try.prog 28 #[.pointer (some ⟨g, 0, none⟩), .int .i64 n] w fun e w' => ∃ x : Int, e = .returned (.int .i64 x) ∧ 0 ≤ x ∧ x < n ∧ CodesE w' g ∧ w.grownBy w' (some g) := by
  obtain ⟨r, val, h⟩ := h
  refine (next_any g r val n w h h1 h2).mono ?_
  rintro e w' ⟨rfl, hc, hg⟩
  have := nxt_bd r n h1
  exact ⟨_, rfl, this.1, this.2, ⟨_, _, hc⟩, hg⟩
end Go.Proofs.Ytimgcehogalhcaa
