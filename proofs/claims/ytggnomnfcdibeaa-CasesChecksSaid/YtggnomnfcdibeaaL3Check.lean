/- Layer 3: the document's check of an operation. -/
import Derived.Test.YtggnomnfcdibeaaL3Shape
import Derived.Test.YtggnomnfcdibeaaPlain2
namespace Go.Proofs.Ytggnomnfcdibeaa
open Go.ChangeShapes Go.WideShapes Go.ChangeAt Go.RowKit

theorem okD_step (l : List Int) (k : Nat) (hk : k < l.length) (x : Int) (hx : l.getD k 0 = x) : okD k (l.drop k) = (decide (0 ≤ x ∧ x ≤ k) && okD (k + 1) (l.drop (k + 1))) := by
  have e : l.drop k = x :: l.drop (k + 1) := by
    rw [List.drop_eq_getElem_cons hk]; congr 1
    simpa [List.getD_eq_getElem?_getD, hk] using hx
  rw [e]; rfl
set_option maxRecDepth 100000 in
set_option maxHeartbeats 1000000 in
theorem check_any (v : Value) (op : OpM) (w : World) (h : OpV w v op) :
    Calls Try.prog 14 #[v] w fun e w' => e = .returned (.int .i64 (checkE op)) ∧ Below w.heap.size w w' := by
  have RA := Lib.hid fun w' h => ranges_any v op w' h
  have SA := Lib.hid fun w' h => shape_any v op w' h
  have HV := Lib.hid h
  have HE : Hid (checkE op = if kindB op = false then 2 else if rangesB op = false then 2 else if 6 < op.cases.length ∨ 6 < op.draws.length then 3
    else if okD 0 op.draws = false then 2 else if shapeB op = false then 5 else 0) := rfl
  generalize rangesB op = rb at *
  generalize shapeB op = sb at *
  obtain ⟨kd, md, ch, vl, dl, cs, ds⟩ := op
  obtain ⟨vc, vd, rfl, hc, hd⟩ := h
  dsimp only at *
  obtain ⟨hl, -, a, cap, rfl, -⟩ := hc
  have hl2 := hd.1
  obtain ⟨ad, cd, rfl, -⟩ := hd.len
  have HD := Lib.hid hd
  clear hd
  by_cases hk : 1 ≤ kd ∧ kd ≤ 6 ∧ 0 ≤ md ∧ md ≤ 2
  · have hkb : kindB ⟨kd, md, ch, vl, dl, cs, ds⟩ = true := by simp [kindB, hk]
    rw [hkb] at HE
    obtain ⟨k1, k2, k3, k4⟩ := hk
    clear hkb
    have HB := Lib.hid (below_new (Below.refl w.heap.size w) (.cells #[.int .i64 kd, .int .i64 md, .int .i64 ch, .int .u64 vl, .int .i64 dl, .slice a cs.length cap, .slice ad ds.length cd] 26))
    go_enter Try.func14, Try.ntmps14
    go_wp2_with fail
    refine (RA.out _ (HV.out.below HB.out)).mono ?_; rintro e w1 ⟨rfl, hb1⟩
    obtain ⟨c0, c1, c2, c3, c4, c5, c6⟩ := box7 hb1
    have HB1 := Lib.hid (below_then HB.out hb1)
    have HV1 := Lib.hid ((HV.out.below HB.out).below hb1)
    have HD1 := Lib.hid ((HD.out.below HB.out).below hb1)
    clear hb1
    cases rb with
    | false =>
      go_wp2
      go_ret
      exact ⟨ret_i64 (by rw [HE.out]; rfl), HB1.out⟩
    | true =>
      by_cases h6 : 6 < cs.length
      · go_wp2
        go_ret
        exact ⟨ret_i64 (by rw [HE.out]; simp [h6]), HB1.out⟩
      · by_cases h7 : 6 < ds.length
        · go_wp2
          go_ret
          exact ⟨ret_i64 (by rw [HE.out]; simp [h7]), HB1.out⟩
        · have HE2 : Hid (checkE ⟨kd, md, ch, vl, dl, cs, ds⟩ = if okD 0 ds = false then 2 else if sb = false then 5 else 0) := by
            show _ = _
            rw [HE.out, if_neg (by simp), if_neg (by simp), if_neg (by omega)]
          have hd1 := HD1.out
          obtain ⟨_, hrg, _, _, e, _, h5⟩ := hd1
          simp only [Value.slice.injEq, true_and] at e
          obtain ⟨rfl, rfl⟩ := e
          have H5 := Lib.hid h5
          have HRG := Lib.hid hrg
          clear h5 hrg HE
          go_wp2_with fail
          go_loop [3] (fun c => ∃ k : Nat, k ≤ ds.length ∧ c = .int .i64 k ∧ Hid (okD 0 ds = okD k (ds.drop k))) (fun c => ds.length - (intOf c).toNat)
          case atStart => exact ⟨0, by omega, rfl, rfl⟩
          case round =>
            obtain ⟨k, hk, rfl, hok⟩ := hrel
            by_cases hlt : k < ds.length
            · obtain ⟨b, off, rfl, -, hc⟩ := H5.out k hlt
              have hm := HRG.out (ds.getD k 0) (by simp [List.getD_eq_getElem?_getD, hlt])
              obtain ⟨x, hx⟩ : ∃ x, ds.getD k 0 = x := ⟨_, rfl⟩
              have ST := Lib.hid (okD_step ds k hlt x hx)
              rw [hx] at hc hm
              clear hx
              rw [IntKind.wrap_i64] at hm
              have hmb : -9223372036854775808 ≤ x ∧ x ≤ 9223372036854775807 := by omega
              clear hm hmb
              by_cases x0 : x < 0
              · go_wp2
                go_ret
                exact ⟨ret_i64 (by rw [HE2.out, hok.out, ST.out, decide_eq_false (by omega)]; rfl), HB1.out⟩
              · have x0' : 0 ≤ x := by omega
                by_cases x1 : (k : Int) < x
                · clear x0
                  go_wp2
                  go_ret
                  exact ⟨ret_i64 (by rw [HE2.out, hok.out, ST.out, decide_eq_false (by omega)]; rfl), HB1.out⟩
                · have x1' : x ≤ k := by omega
                  clear x0
                  go_wp2
                  go_round
                  case rel => exact ⟨k + 1, by omega, by go_num, by rw [hok.out, ST.out, decide_eq_true ⟨x0', x1'⟩, Bool.true_and]; rfl⟩
                  case measure => simp [intOf]; omega
            · obtain rfl : k = ds.length := by omega
              have HE3 : Hid (checkE ⟨kd, md, ch, vl, dl, cs, ds⟩ = if sb = false then 5 else 0) := by
                show _ = _
                rw [HE2.out, hok.out, List.drop_length]; rfl
              go_wp2_with fail
              refine (SA.out _ HV1.out).mono ?_; rintro e w2 ⟨rfl, hb2⟩
              have HB2 := Lib.hid (below_then HB1.out hb2)
              clear hb2
              cases sb with
              | true =>
                go_wp2
                go_ret
                exact ⟨ret_i64 (by rw [HE3.out]; rfl), HB2.out⟩
              | false =>
                go_wp2
                go_ret
                exact ⟨ret_i64 (by rw [HE3.out]; rfl), HB2.out⟩
  · have hkb : kindB ⟨kd, md, ch, vl, dl, cs, ds⟩ = false := by simp [kindB]; omega
    rw [hkb] at HE
    clear hkb
    rcases (show kd < 1 ∨ 6 < kd ∨ (1 ≤ kd ∧ kd ≤ 6 ∧ md < 0) ∨ (1 ≤ kd ∧ kd ≤ 6 ∧ 2 < md) by omega) with h | h | ⟨h1, h2, h3⟩ | ⟨h1, h2, h3⟩
    all_goals
      clear hk
      try (have h4 : ¬ kd < 1 := by omega)
      try (have h5 : ¬ md < 0 := by omega)
      go_enter Try.func14, Try.ntmps14
      go_wp2
      go_ret
      exact ⟨ret_i64 (by rw [HE.out]; rfl), below_new (Below.refl _ _) _⟩
end Go.Proofs.Ytggnomnfcdibeaa
