/- Layer 3: the case that an operation is by itself, and the order of the cases. -/
import Derived.Test.YtkciejealeinoaaOp
import Derived.Test.YtkciejealeinoaaBuilds
namespace Go.Proofs.Ytkciejealeinoaa
open Go.ChangeShapes Go.WideShapes Go.ChangeAt Go.RowKit
set_option maxRecDepth 100000

def sgB (op : OpM) : Bool := op.kind == 1 || op.kind == 2
def sgC (op : OpM) : CaseM := if op.kind = 1 then ⟨true, op.chan, op.val⟩ else if op.kind = 2 then ⟨false, op.chan, op.val⟩ else noCase
def caseW (c : CaseM) : Value := .agg #[.bool c.send, .int .i64 c.chan, .int .u64 c.val]
theorem ownOrder_any (v : Value) (op : OpM) (w : World) (h : OpV w v op) :
    Calls Try.prog 41 #[v] w fun e w' => ∃ u, e = .returned u ∧ SlI w' .i64 u (ordL op.cases.length op.draws) ∧ Below w.heap.size w w' := by
  obtain ⟨kd, md, ch, vl, dl, cs, ds⟩ := op
  obtain ⟨vc, vd, rfl, hc, hd⟩ := h
  dsimp only at *
  have hl := hc.1
  obtain ⟨a3, cap3, rfl⟩ := hc.len
  have HD := Lib.hid hd
  obtain ⟨a4, cap4, rfl, -⟩ := hd.len
  clear hc hd
  have HB := Lib.hid (below_new (Below.refl w.heap.size w) (.cells #[.int .i64 kd, .int .i64 md, .int .i64 ch, .int .u64 vl, .int .i64 dl, .slice a3 cs.length cap3, .slice a4 ds.length cap4] 26))
  have OR := Lib.hid fun w' h => order_read cs.length (.slice a4 ds.length cap4) ds w' h
  generalize ordL cs.length ds = ol at *
  go_enter Try.func41, Try.ntmps41
  go_wp2_with (go_at_call 66; refine (OR.out _ (HD.out.below HB.out)).mono ?_; rintro e w1 ⟨u, rfl, hu, hb⟩)
  go_ret
  exact ⟨u, rfl, hu, below_then HB.out hb⟩
end Go.Proofs.Ytkciejealeinoaa
