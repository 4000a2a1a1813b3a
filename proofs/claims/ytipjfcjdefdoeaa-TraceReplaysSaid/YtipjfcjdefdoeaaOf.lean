/- The records of a thread; comparing lists of records. -/
import Derived.Test.YtipjfcjdefdoeaaItems
import Derived.Test.YtipjfcjdefdoeaaIe
import Derived.Deep.DeepCutAuto
namespace Go.Proofs.Ytipjfcjdefdoeaa
open Go.ChangeShapes Go.WideShapes Go.ChangeAt Go.RowKit
set_option maxRecDepth 100000

def ofE (l : List ItemM) (t : Int) : List ItemM := l.filter (fun x => x.thr == t)
theorem of_next {l : List ItemM} {k : Nat} {t : Int} {x : ItemM} (hk : k < l.length) (hx : l.getD k noItem = x) : ofE (l.take (k + 1)) t = ofE (l.take k) t ++ (if x.thr == t then [x] else []) := by
  have e : l[k] = x := by rw [← hx, List.getD_eq_getElem?_getD, List.getElem?_eq_getElem hk]; rfl
  unfold ofE
  rw [List.take_succ_eq_append_getElem hk, List.filter_append, e]
  by_cases h : (x.thr == t) = true
  · simp [h]
  · simp [h]
theorem of_len (l : List ItemM) (k : Nat) (t : Int) : (ofE (l.take k) t).length ≤ l.length := Nat.le_trans (List.length_filter_le _ _) (by simp; omega)
def OfR (l : List ItemM) (t : Int) (w : World) (e : Ending) (w' : World) : Prop := ∃ v', e = .returned v' ∧ OwnT w' w.heap.size v' (ofE l t) ∧ Below w.heap.size w w'
theorem OfR.start {w : World} {l : List ItemM} {t : Int} : OwnT w w.heap.size (.slice none 0 0) (ofE (l.take 0) t) := OwnT.nil _ _
end Go.Proofs.Ytipjfcjdefdoeaa
