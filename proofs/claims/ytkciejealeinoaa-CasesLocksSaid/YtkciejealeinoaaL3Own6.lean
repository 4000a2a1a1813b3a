/- Layer 3: package cases' check of an operation is the document's. -/
import Derived.Test.YtkciejealeinoaaL3Own5
import Derived.Test.YtkciejealeinoaaL3Check
namespace Go.Proofs.Ytkciejealeinoaa
open Go.ChangeShapes Go.WideShapes Go.ChangeAt Go.RowKit
set_option maxRecDepth 100000

theorem areDraws_any (v : Value) (l : List Int) (w : World) (hl : SlI w .i64 v l) :
    Calls Try.prog 64 #[v] w fun e w' => e = .returned (.bool (idxB l)) ∧ w = w' := by
  have IA := Lib.hid (index_any v l w hl)
  clear hl
  go_enter Try.func64, Try.ntmps64
  go_wp2_with (go_at_call 76; refine IA.out.mono ?_; rintro e w' ⟨rfl, rfl⟩)
  go_ret
  exact ⟨rfl, rfl⟩
theorem rangesB_eq (op : OpM) : rangesB op = ((op.cases.map (·.chan) ++ [op.chan]).all namedB && wiB op.dl 0 1099511627776) := by
  unfold rangesB wiB
  simp only [List.all_append, List.all_map, List.all_cons, List.all_nil, Bool.and_true]
  rw [show (namedB ∘ fun x : CaseM => x.chan) = fun c => namedB c.chan from rfl]
  cases namedB op.chan <;> cases decide (0 ≤ op.dl) <;> cases decide (op.dl ≤ 1099511627776) <;> simp
theorem kindB_eq (op : OpM) : kindB op = (wiB op.kind 1 6 && wiB op.mode 0 2) := by
  unfold kindB wiB; simp [Bool.and_assoc]
set_option maxRecDepth 100000 in
set_option maxHeartbeats 2000000 in
theorem ownCheck_any (v : Value) (op : OpM) (w : World) (h : OpV w v op) (hok : op.ok) (hs : op.cases.length ≤ 1000) :
    Calls Try.prog 40 #[v] w fun e w' => e = .returned (.int .i64 (checkE op)) ∧ Below w.heap.size w w' := by
  have MA := Lib.hid fun w' h => mentioned_any v op w' h hs hok.chan
  have FA := Lib.hid fun w' h => fits_any v op w' h
  have HV := Lib.hid h
  have HE : Hid (checkE op = if kindB op = false then 2 else if rangesB op = false then 2 else if 6 < op.cases.length ∨ 6 < op.draws.length then 3
    else if okD 0 op.draws = false then 2 else if shapeB op = false then 5 else 0) := rfl
  have RE := Lib.hid (rangesB_eq op)
  have KE := Lib.hid (kindB_eq op)
  have DE : Hid (idxB op.draws = (decide (op.draws.length ≤ 20) && okD 0 op.draws)) := rfl
  generalize rangesB op = rb at *
  generalize shapeB op = sb at *
  generalize hql : op.cases.map (·.chan) ++ [op.chan] = ql at *
  clear hql
  obtain ⟨kd, md, ch, vl, dl, cs, ds⟩ := op
  obtain ⟨vc, vd, rfl, hc, hd⟩ := h
  dsimp only at *
  obtain ⟨hl, -, a, cap, rfl, -⟩ := hc
  have hl2 := hd.1
  obtain ⟨ad, cd, rfl, -⟩ := hd.len
  have HD := Lib.hid hd
  clear hd
  have HB := Lib.hid (below_new (Below.refl w.heap.size w) (.cells #[.int .i64 kd, .int .i64 md, .int .i64 ch, .int .u64 vl, .int .i64 dl, .slice a cs.length cap, .slice ad ds.length cd] 26))
  have W1 := Lib.hid fun w' => within_any kd 1 6 w'
  have W2 := Lib.hid fun w' => within_any md 0 2 w'
  have W3 := Lib.hid fun w' => within_any dl 0 1099511627776 w'
  obtain ⟨q1, e1⟩ : ∃ q, wiB kd 1 6 = q := ⟨_, rfl⟩
  obtain ⟨q2, e2⟩ : ∃ q, wiB md 0 2 = q := ⟨_, rfl⟩
  obtain ⟨q3, e3⟩ : ∃ q, wiB dl 0 1099511627776 = q := ⟨_, rfl⟩
  rw [e1] at W1 KE
  rw [e2] at W2 KE
  rw [e3] at W3 RE
  have HQ1 := Lib.hid e1
  clear e1 e2 e3
  cases q1 with
  | false =>
    clear hok
    go_enter Try.func40, Try.ntmps40
    go_wp2_with (go_at_call 60; refine (W1.out _).mono ?_; rintro e w' ⟨rfl, rfl⟩)
    go_ret
    exact ⟨ret_i64 (by rw [HE.out, KE.out]; rfl), HB.out⟩
  | true =>
    cases q2 with
    | false =>
      clear hok
      go_enter Try.func40, Try.ntmps40
      go_wp2_with fail
      refine (W1.out _).mono ?_; rintro e w' ⟨rfl, rfl⟩
      go_wp2_with fail
      refine (W2.out _).mono ?_; rintro e w' ⟨rfl, rfl⟩
      go_wp2_with fail
      go_ret
      exact ⟨ret_i64 (by rw [HE.out, KE.out]; rfl), HB.out⟩
    | true =>
      have hk1 : 1 ≤ kd ∧ kd ≤ 6 := by have := HQ1.out; simp [wiB] at this; omega
      have HK := Lib.hid hk1
      have HE2 : Hid (checkE ⟨kd, md, ch, vl, dl, cs, ds⟩ = if rb = false then 2 else if 6 < cs.length ∨ 6 < ds.length then 3 else if okD 0 ds = false then 2 else if sb = false then 5 else 0) := by
        show _ = _
        rw [HE.out, KE.out]; rfl
      clear hk1 hok HE
      go_enter Try.func40, Try.ntmps40
      go_wp2_with fail
      refine (W1.out _).mono ?_; rintro e w' ⟨rfl, rfl⟩
      go_wp2_with fail
      refine (W2.out _).mono ?_; rintro e w' ⟨rfl, rfl⟩
      go_wp2_with fail
      refine (MA.out _ (HV.out.below HB.out)).mono ?_; rintro e w1 ⟨u, rfl, hu, hb1⟩
      obtain ⟨c0, c1, c2, c3, c4, c5, c6⟩ := box7 hb1
      have HB1 := Lib.hid (below_then HB.out hb1)
      have HV1 := Lib.hid ((HV.out.below HB.out).below hb1)
      have HD1 := Lib.hid ((HD.out.below HB.out).below hb1)
      have HU := Lib.hid hu
      clear hb1 hu
      go_wp2_with fail
      refine (anyNoNumber u ql w1 HU.out).mono ?_; rintro e w' ⟨rfl, rfl⟩
      cases hq : ql.all namedB with
      | false =>
        have HQ := Lib.hid hq
        clear hq
        go_wp2_with fail
        go_ret
        exact ⟨ret_i64 (by rw [HE2.out, RE.out, HQ.out]; rfl), HB1.out⟩
      | true =>
        have HQ := Lib.hid hq
        clear hq
        go_wp2_with fail
        refine (W3.out _).mono ?_; rintro e w' ⟨rfl, rfl⟩
        cases q3 with
        | false =>
          go_wp2_with fail
          go_ret
          exact ⟨ret_i64 (by rw [HE2.out, RE.out, HQ.out]; rfl), HB1.out⟩
        | true =>
          by_cases h6 : 6 < cs.length
          · go_wp2
            go_ret
            exact ⟨ret_i64 (by rw [HE2.out, RE.out, HQ.out]; simp [h6]), HB1.out⟩
          · by_cases h7 : 6 < ds.length
            · go_wp2
              go_ret
              exact ⟨ret_i64 (by rw [HE2.out, RE.out, HQ.out]; simp [h7]), HB1.out⟩
            · have HE3 : Hid (checkE ⟨kd, md, ch, vl, dl, cs, ds⟩ = if idxB ds = false then 2 else if sb = false then 5 else 0) := by
                show _ = _
                rw [HE2.out, RE.out, HQ.out, if_neg (by simp), if_neg (by omega), DE.out, decide_eq_true (show ds.length ≤ 20 by omega), Bool.true_and]
              go_wp2_with fail
              refine (areDraws_any _ ds _ HD1.out).mono ?_; rintro e w' ⟨rfl, rfl⟩
              cases hx : idxB ds with
              | false =>
                have HX := Lib.hid hx
                clear hx
                go_wp2_with fail
                go_ret
                exact ⟨ret_i64 (by rw [HE3.out, HX.out]; rfl), HB1.out⟩
              | true =>
                have HX := Lib.hid hx
                clear hx
                go_wp2_with fail
                refine (FA.out _ HV1.out HK.out.1 HK.out.2).mono ?_; rintro e w2 ⟨rfl, hb2⟩
                have HB2 := Lib.hid (below_then HB1.out hb2)
                clear hb2
                cases sb with
                | true =>
                  go_wp2
                  go_ret
                  exact ⟨ret_i64 (by rw [HE3.out, HX.out]; rfl), HB2.out⟩
                | false =>
                  go_wp2
                  go_ret
                  exact ⟨ret_i64 (by rw [HE3.out, HX.out]; rfl), HB2.out⟩
end Go.Proofs.Ytkciejealeinoaa
