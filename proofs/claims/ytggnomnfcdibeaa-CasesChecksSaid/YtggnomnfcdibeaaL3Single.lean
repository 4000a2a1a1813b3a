/- Layer 3: the case that an operation is by itself, and the order of the cases. -/
import Derived.Test.YtggnomnfcdibeaaOp
import Derived.Test.YtggnomnfcdibeaaBuilds
namespace Go.Proofs.Ytggnomnfcdibeaa
open Go.ChangeShapes Go.WideShapes Go.ChangeAt Go.RowKit

def sgB (op : OpM) : Bool := op.kind == 1 || op.kind == 2
def sgC (op : OpM) : CaseM := if op.kind = 1 then ⟨true, op.chan, op.val⟩ else if op.kind = 2 then ⟨false, op.chan, op.val⟩ else noCase
def caseW (c : CaseM) : Value := .agg #[.bool c.send, .int .i64 c.chan, .int .u64 c.val]
theorem single_any (v : Value) (op : OpM) (w : World) (h : OpV w v op) :
    Calls Try.prog 23 #[v] w fun e w' => e = .returned (.tuple #[caseW (sgC op), .bool (sgB op)]) ∧ Below w.heap.size w w' := by
  have HC : Hid (sgC op = if op.kind = 1 then ⟨true, op.chan, op.val⟩ else if op.kind = 2 then ⟨false, op.chan, op.val⟩ else noCase) := rfl
  have HS : Hid (sgB op = (op.kind == 1 || op.kind == 2)) := rfl
  generalize sgC op = sc at *
  generalize sgB op = sb at *
  obtain ⟨kd, md, ch, vl, dl, cs, ds⟩ := op
  obtain ⟨vc, vd, rfl, hc, hd⟩ := h
  dsimp only at *
  obtain ⟨a3, cap3, rfl⟩ := hc.len
  obtain ⟨a4, cap4, rfl, -⟩ := hd.len
  clear hc hd
  by_cases h1 : kd = 1
  · subst h1
    rw [if_pos rfl] at HC
    go_enter Try.func23, Try.ntmps23
    go_wp2
    refine bodyPost_ret (v := .tuple #[.agg #[.bool true, .int .i64 ch, .int .u64 vl], .bool true]) (by simp [results, Try.results23, go_sem]) rfl ?_
    exact ⟨by rw [HC.out, HS.out]; rfl, (((Below.refl w.heap.size w).alloc (Nat.le_refl _) _).alloc (by simp) _)⟩
  · rw [if_neg h1] at HC
    by_cases h2 : kd = 2
    · subst h2
      rw [if_pos rfl] at HC
      clear h1
      go_enter Try.func23, Try.ntmps23
      go_wp2
      refine bodyPost_ret (v := .tuple #[.agg #[.bool false, .int .i64 ch, .int .u64 vl], .bool true]) (by simp [results, Try.results23, go_sem]) rfl ?_
      exact ⟨by rw [HC.out, HS.out]; rfl, (((Below.refl w.heap.size w).alloc (Nat.le_refl _) _).alloc (by simp) _)⟩
    · rw [if_neg h2] at HC
      have b1 : (kd == 1) = false := by simpa using h1
      have b2 : (kd == 2) = false := by simpa using h2
      have b3 : (kd != 1) = true := by simpa using h1
      have b4 : (kd != 2) = true := by simpa using h2
      have HS2 : Hid (sb = false) := by have := HS.out; rw [b1, b2] at this; exact this
      clear h1 h2
      go_enter Try.func23, Try.ntmps23
      go_wp2
      refine bodyPost_ret (v := .tuple #[.agg #[.bool false, .int .i64 0, .int .u64 0], .bool false]) (by simp [results, Try.results23, go_sem]) rfl ?_
      exact ⟨by rw [HC.out, HS2.out]; rfl, (((Below.refl w.heap.size w).alloc (Nat.le_refl _) _).alloc (by simp) _)⟩
theorem rsingle_any (v : Value) (op : OpM) (w : World) (h : OpV w v op) :
    Calls Try.prog 24 #[v] w fun e w' => e = .returned (.tuple #[caseW (sgC op), .bool (sgB op)]) ∧ Below w.heap.size w w' := by
  have HC : Hid (sgC op = if op.kind = 1 then ⟨true, op.chan, op.val⟩ else if op.kind = 2 then ⟨false, op.chan, op.val⟩ else noCase) := rfl
  have HS : Hid (sgB op = (op.kind == 1 || op.kind == 2)) := rfl
  generalize sgC op = sc at *
  generalize sgB op = sb at *
  obtain ⟨kd, md, ch, vl, dl, cs, ds⟩ := op
  obtain ⟨vc, vd, rfl, hc, hd⟩ := h
  dsimp only at *
  obtain ⟨a3, cap3, rfl⟩ := hc.len
  obtain ⟨a4, cap4, rfl, -⟩ := hd.len
  clear hc hd
  by_cases h1 : kd = 1
  · subst h1
    rw [if_pos rfl] at HC
    go_enter Try.func24, Try.ntmps24
    go_wp2
    refine bodyPost_ret (v := .tuple #[.agg #[.bool true, .int .i64 ch, .int .u64 vl], .bool true]) (by simp [results, Try.results24, go_sem]) rfl ?_
    exact ⟨by rw [HC.out, HS.out]; rfl, (((Below.refl w.heap.size w).alloc (Nat.le_refl _) _).alloc (by simp) _)⟩
  · rw [if_neg h1] at HC
    by_cases h2 : kd = 2
    · subst h2
      rw [if_pos rfl] at HC
      clear h1
      go_enter Try.func24, Try.ntmps24
      go_wp2
      refine bodyPost_ret (v := .tuple #[.agg #[.bool false, .int .i64 ch, .int .u64 vl], .bool true]) (by simp [results, Try.results24, go_sem]) rfl ?_
      exact ⟨by rw [HC.out, HS.out]; rfl, (((Below.refl w.heap.size w).alloc (Nat.le_refl _) _).alloc (by simp) _)⟩
    · rw [if_neg h2] at HC
      have b1 : (kd == 1) = false := by simpa using h1
      have b2 : (kd == 2) = false := by simpa using h2
      have b3 : (kd != 1) = true := by simpa using h1
      have b4 : (kd != 2) = true := by simpa using h2
      have HS2 : Hid (sb = false) := by have := HS.out; rw [b1, b2] at this; exact this
      clear h1 h2
      go_enter Try.func24, Try.ntmps24
      go_wp2
      refine bodyPost_ret (v := .tuple #[.agg #[.bool false, .int .i64 0, .int .u64 0], .bool false]) (by simp [results, Try.results24, go_sem]) rfl ?_
      exact ⟨by rw [HC.out, HS2.out]; rfl, (((Below.refl w.heap.size w).alloc (Nat.le_refl _) _).alloc (by simp) _)⟩
theorem ownOrder_any (v : Value) (op : OpM) (w : World) (h : OpV w v op) :
    Calls Try.prog 25 #[v] w fun e w' => ∃ u, e = .returned u ∧ SlI w' .i64 u (ordL op.cases.length op.draws) ∧ Below w.heap.size w w' := by
  obtain ⟨kd, md, ch, vl, dl, cs, ds⟩ := op
  obtain ⟨vc, vd, rfl, hc, hd⟩ := h
  dsimp only at *
  have hl := hc.1
  obtain ⟨a3, cap3, rfl⟩ := hc.len
  have HD := Lib.hid hd
  obtain ⟨a4, cap4, rfl, -⟩ := hd.len
  clear hc hd
  have HB := Lib.hid (below_new (Below.refl w.heap.size w) (.cells #[.int .i64 kd, .int .i64 md, .int .i64 ch, .int .u64 vl, .int .i64 dl, .slice a3 cs.length cap3, .slice a4 ds.length cap4] 26))
  have OR := Lib.hid fun w' h => order_read cs.length (.slice a4 ds.length cap4) ds w' h
  generalize ordL cs.length ds = ol at *
  go_enter Try.func25, Try.ntmps25
  go_wp2_with (go_at_call 44; refine (OR.out _ (HD.out.below HB.out)).mono ?_; rintro e w1 ⟨u, rfl, hu, hb⟩)
  go_ret
  exact ⟨u, rfl, hu, below_then HB.out hb⟩
theorem refOrder_any (v : Value) (op : OpM) (w : World) (h : OpV w v op) :
    Calls Try.prog 26 #[v] w fun e w' => ∃ u, e = .returned u ∧ SlI w' .i64 u (ordL op.cases.length op.draws) ∧ Below w.heap.size w w' := by
  obtain ⟨kd, md, ch, vl, dl, cs, ds⟩ := op
  obtain ⟨vc, vd, rfl, hc, hd⟩ := h
  dsimp only at *
  have hl := hc.1
  obtain ⟨a3, cap3, rfl⟩ := hc.len
  have HD := Lib.hid hd
  obtain ⟨a4, cap4, rfl, -⟩ := hd.len
  clear hc hd
  have HB := Lib.hid (below_new (Below.refl w.heap.size w) (.cells #[.int .i64 kd, .int .i64 md, .int .i64 ch, .int .u64 vl, .int .i64 dl, .slice a3 cs.length cap3, .slice a4 ds.length cap4] 26))
  have OR := Lib.hid fun w' h => rorder_read cs.length (.slice a4 ds.length cap4) ds w' h
  generalize ordL cs.length ds = ol at *
  go_enter Try.func26, Try.ntmps26
  go_wp2_with (go_at_call 45; refine (OR.out _ (HD.out.below HB.out)).mono ?_; rintro e w1 ⟨u, rfl, hu, hb⟩)
  go_ret
  exact ⟨u, rfl, hu, below_then HB.out hb⟩
end Go.Proofs.Ytggnomnfcdibeaa
