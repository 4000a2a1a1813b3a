/- The library's sort on a list of numbers that the call owns. -/
import Derived.Test.YtkciejealeinoaaLib
import Derived.Test.YtkciejealeinoaaShelf
import Derived.Sort.OwnSortedInts
namespace Go.Proofs.Ytkciejealeinoaa
open Go.ChangeShapes Go.WideShapes Go.ChangeAt Go.RowKit
set_option maxRecDepth 100000

def sorted (l : List Int) : List Int := l.mergeSort fun x y => decide (x ≤ y)
theorem sorted_length (l : List Int) : (sorted l).length = l.length := by simp [sorted]
theorem sorted_mem (l : List Int) (x : Int) : x ∈ sorted l ↔ x ∈ l := by simp [sorted]
theorem sorted_asc (l : List Int) : (sorted l).Pairwise (· ≤ ·) := by
  have := List.pairwise_mergeSort (le := fun x y : Int => decide (x ≤ y)) (fun a b c h1 h2 => by simp at *; omega) (fun a b => by simp; omega) l
  exact this.imp (by simp)
theorem sort_own (B g cap : Nat) (l : List Int) (w : World) (h : OwnI w B 3 .i64 (.slice (some ⟨g, 0, none⟩) l.length cap) l) (hl : l.length ≤ 1000000) :
    Calls Try.prog 48 #[.slice (some ⟨g, 0, none⟩) l.length cap] w fun e w' => e = .returned (.tuple #[]) ∧ OwnI w' B 3 .i64 (.slice (some ⟨g, 0, none⟩) l.length cap) (sorted l) ∧ w.grownBy w' (some g) := by
  rcases h.2 with ⟨h1, _⟩ | ⟨g', cap', cur, h1, hb, hg, hn, hcap, hcs, htk⟩
  · cases h1
  · cases h1
    have hgl : g < w.heap.size := (Array.getElem?_eq_some_iff.1 hg).1
    refine (Go.Proofs.Try.slices_Sort_int g 0 cap l w (holds_of_blockI hg (by simpa using htk)) hgl (by omega)).mono ?_
    rintro e w' ⟨rfl, n, os, rfl⟩
    refine ⟨rfl, ?_, grownBy_sortedI _⟩
    have h5 := ownsRow_sortedI (n := n) (os := os) (e := 3) (base := B) (ss := l) (ts := sorted l) (sorted_length l) hb hg hn hcap hcs
    unfold OwnI
    rw [sorted_length]
    exact h5
end Go.Proofs.Ytkciejealeinoaa
