/- Layer 3: package cases' shape of an operation is the document's. -/
import Derived.Test.YtkciejealeinoaaL3Own3
import Derived.Test.YtkciejealeinoaaL3Shape
namespace Go.Proofs.Ytkciejealeinoaa
open Go.ChangeShapes Go.WideShapes Go.ChangeAt Go.RowKit
set_option maxRecDepth 100000

def selB (op : OpM) : Bool := op.chan == 0 && op.val == 0 && decide (op.draws.length = op.cases.length) && op.cases.all fun c => c.send || c.val == 0
set_option maxRecDepth 100000 in
set_option maxHeartbeats 1000000 in
theorem fitsSelect_any (v : Value) (op : OpM) (w : World) (h : OpV w v op) :
    Calls Try.prog 77 #[v] w fun e w' => e = .returned (.bool (selB op)) ∧ Below w.heap.size w w' := by
  obtain ⟨kd, md, ch, vl, dl, cs, ds⟩ := op
  obtain ⟨vc, vd, rfl, hc, hd⟩ := h
  dsimp only at *
  have hcl := hc
  obtain ⟨hl, -, a, cap, rfl, -, -⟩ := hc
  have hl2 := hd.1
  obtain ⟨ad, cd, rfl, -⟩ := hd.len
  have HC := Lib.hid hcl
  have HB := Lib.hid (below_new (Below.refl w.heap.size w) (.cells #[.int .i64 kd, .int .i64 md, .int .i64 ch, .int .u64 vl, .int .i64 dl, .slice a cs.length cap, .slice ad ds.length cd] 26))
  have HC1 := Lib.hid (HC.out.below HB.out)
  have HS : Hid (selB ⟨kd, md, ch, vl, dl, cs, ds⟩ = (ch == 0 && vl == 0 && decide (ds.length = cs.length) && cs.all fun c => c.send || c.val == 0)) := rfl
  obtain ⟨q, hq⟩ : ∃ q, (cs.all fun c => c.send || c.val == 0) = q := ⟨_, rfl⟩
  have R := Lib.hid fun w' h => anyReceives (.slice a cs.length cap) cs w' h
  rw [hq] at HS R
  clear hcl hd hq
  by_cases e1 : ch = 0
  · by_cases e2 : vl = 0
    · by_cases e3 : ds.length = cs.length
      · subst e1 e2
        rw [e3] at HS HB HC1 ⊢
        clear e3
        go_enter Try.func77, Try.ntmps77
        go_wp2_with (go_at_call 94; refine (R.out _ HC1.out).mono ?_; rintro e w1 ⟨rfl, hb⟩)
        go_ret
        exact ⟨ret_bool (by rw [HS.out]; simp), below_then HB.out hb⟩
      · have hb1 : decide ((ds.length : Int) = (cs.length : Int)) = false := by simp; omega
        have hb2 : ((ds.length : Int) == (cs.length : Int)) = false := by simp; omega
        have hb3 : (ds.length == cs.length) = false := by simp; omega
        subst e1 e2
        have HE := Lib.hid e3
        clear e3
        go_enter Try.func77, Try.ntmps77
        go_wp2
        go_ret
        exact ⟨ret_bool (by rw [HS.out]; simp [HE.out]), HB.out⟩
    · subst e1
      have hb2 : (vl == 0) = false := by simpa using e2
      go_enter Try.func77, Try.ntmps77
      go_wp2
      go_ret
      exact ⟨ret_bool (by rw [HS.out]; simp [e2]), HB.out⟩
  · have hb2 : (ch == 0) = false := by simpa using e1
    go_enter Try.func77, Try.ntmps77
    go_wp2
    go_ret
    exact ⟨ret_bool (by rw [HS.out]; simp [e1]), HB.out⟩
theorem shapeB_sel (op : OpM) (hk : op.kind = 4) (hd : op.dl = 0 ∨ op.mode = 2) : shapeB op = selB op := by
  unfold shapeB selB
  rcases hd with h | h <;> by_cases e1 : op.chan = 0 <;> by_cases e2 : op.val = 0 <;> by_cases e3 : op.draws.length = op.cases.length <;> simp [hk, h, e1, e2, e3]
end Go.Proofs.Ytkciejealeinoaa
