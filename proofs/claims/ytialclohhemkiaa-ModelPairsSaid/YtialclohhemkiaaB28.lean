import Derived.Deep.DeepCutAuto
import Derived.Deep.CutBlock
import Derived.Test.YtialclohhemkiaaB12
import Derived.Test.YtialclohhemkiaaB24
import Derived.Test.YtialclohhemkiaaB16
import Derived.Test.YtialclohhemkiaaB23
import Derived.Test.YtialclohhemkiaaB27
import Derived.Test.YtialclohhemkiaaB20
import Derived.Test.YtialclohhemkiaaB26
set_option linter.unusedVariables false
set_option linter.unusedSimpArgs false
/- Layer 14: the program's Enabled. -/
namespace Go.Proofs.Ytialclohhemkiaa
open Go.ChangeShapes Go.WideShapes Go.ChangeAt Go.RowKit
set_option maxRecDepth 100000

def enP (l : List ChanM) (wl : List WaitM) (i k : Nat) : Bool := (wat wl i).thr != (wat wl k).thr && meetP l (wat wl i).op (wat wl k).op
def enabP (l : List ChanM) (wl : List WaitM) : Bool := (List.range wl.length).any fun i => decide (0 < (couldP l (wat wl i).op).length) || (List.range i).any fun k => enP l wl i k
theorem enabP_could {l : List ChanM} {wl : List WaitM} {i : Nat} (hi : i < wl.length) (h : 0 < (couldP l (wat wl i).op).length) : enabP l wl = true := by
  unfold enabP
  rw [List.any_eq_true]
  exact ⟨i, List.mem_range.2 hi, by simp [h]⟩
theorem enabP_meet {l : List ChanM} {wl : List WaitM} {i k : Nat} (hi : i < wl.length) (hk : k < i) (h : enP l wl i k = true) : enabP l wl = true := by
  unfold enabP
  rw [List.any_eq_true]
  refine ⟨i, List.mem_range.2 hi, ?_⟩
  rw [Bool.or_eq_true, List.any_eq_true]
  exact .inr ⟨k, List.mem_range.2 hk, h⟩
theorem enabP_no {l : List ChanM} {wl : List WaitM} (h1 : ∀ i, i < wl.length → (couldP l (wat wl i).op).length = 0) (h2 : ∀ i, i < wl.length → ∀ k, k < i → enP l wl i k = false) : enabP l wl = false := by
  unfold enabP
  rw [List.any_eq_false]
  intro i hi
  rw [List.mem_range] at hi
  rw [Bool.not_eq_true, Bool.or_eq_false_iff, List.any_eq_false]
  refine ⟨by rw [h1 i hi]; rfl, fun k hk => ?_⟩
  rw [List.mem_range] at hk
  rw [h2 i hi k hk]
  simp
end Go.Proofs.Ytialclohhemkiaa
/- Layer 14: the reference's Meets, Enabled. -/
namespace Go.Proofs.Ytialclohhemkiaa
open Go.ChangeShapes Go.WideShapes Go.ChangeAt Go.RowKit
set_option maxRecDepth 100000

set_option maxRecDepth 100000 in
set_option maxHeartbeats 16000000 in
theorem rmeets_any (v va vb : Value) (l : List ChanM) (a b : OpM) (w : World) (hv : SlH w v l) (ha : OpV w va a) (hb : OpV w vb b) (hfa : a.fine) (hfb : b.fine) (hla : (casesE a).length ≤ 100) (hlb : (casesE b).length ≤ 100) : Calls Try.prog 78 #[v, va, vb] w fun e w' => e = .returned (.bool (meetP l a b)) ∧ Below w.heap.size w w' := by
  have TM := Lib.hid fun w' (h : Below w.heap.size w w') => rmeeting_any v va vb l a b w' (hv.below h) (ha.below h) (hb.below h) hfa.ok hfb.ok hla hlb
  obtain ⟨me, hme⟩ : ∃ z, meetingE l a b (casesE a).length = z := ⟨_, rfl⟩
  have HMP : Hid (meetP l a b = decide (0 < me.length)) := by
    show _ = _
    rw [← meetsB_eq]
    unfold meetsB
    rw [hme]
    cases me <;> simp
  rw [hme] at TM
  obtain ⟨mb, hmb⟩ : ∃ z, meetP l a b = z := ⟨_, rfl⟩
  rw [hmb] at HMP ⊢
  clear hme hmb hla hlb hfa hfb
  obtain ⟨vc, vd, rfl, hc, hd⟩ := ha
  obtain ⟨kd, md, ch, vl, dl, cs, ds⟩ := a
  dsimp only at *
  obtain ⟨a3, cap3, rfl⟩ := hc.len
  obtain ⟨a4, cap4, rfl, -⟩ := hd.len
  obtain ⟨vc2, vd2, rfl, hc2, hd2⟩ := hb
  obtain ⟨kd2, md2, ch2, vl2, dl2, cs2, ds2⟩ := b
  dsimp only at *
  obtain ⟨a32, cap32, rfl⟩ := hc2.len
  obtain ⟨a42, cap42, rfl, -⟩ := hd2.len
  obtain ⟨aq, cap, hve, -⟩ := hv.len
  subst hve
  clear hv hc hd hc2 hd2
  obtain ⟨W, hW, HB, R0, R1, hz⟩ := two_new w (.cells #[.int .i64 kd, .int .i64 md, .int .i64 ch, .int .u64 vl, .int .i64 dl, .slice a3 cs.length cap3, .slice a4 ds.length cap4] 38) (.cells #[.int .i64 kd2, .int .i64 md2, .int .i64 ch2, .int .u64 vl2, .int .i64 dl2, .slice a32 cs2.length cap32, .slice a42 ds2.length cap42] 38)
  have HW := Lib.hid hW
  clear hW
  go_enter Try.func78, Try.ntmps78
  go_upto_region 1 with fail
  rw [HW.out]
  clear HW
  obtain ⟨x0_0, x0_1, x0_2, x0_3, x0_4, x0_5, x0_6⟩ := rowc7 R0.out
  obtain ⟨x1_0, x1_1, x1_2, x1_3, x1_4, x1_5, x1_6⟩ := rowc7 R1.out
  go_wp2_with fail
  refine (TM.out _ HB.out).mono ?_; rintro e w1 ⟨u, rfl, hs, hb1⟩
  obtain ⟨ua, uc, rfl, -⟩ := hs.len
  rw [pairRows_length] at hs ⊢
  have HB1 := Lib.hid (below_then HB.out hb1)
  obtain ⟨n, hn⟩ : ∃ n, me.length = n := ⟨_, rfl⟩
  rw [hn] at HMP ⊢
  clear hs hb1 hn x0_0 x0_1 x0_2 x0_3 x0_4 x0_5 x0_6 x1_0 x1_1 x1_2 x1_3 x1_4 x1_5 x1_6
  by_cases h0 : 0 < n
  · have h0I : (0 : Int) < (n : Int) := by omega
    have hr : mb = true := by rw [HMP.out]; exact decide_eq_true h0
    subst hr
    go_wp2
    go_ret
    exact ⟨rfl, HB1.out⟩
  · have h0I : ¬ (0 : Int) < (n : Int) := by omega
    have hr : mb = false := by rw [HMP.out]; exact decide_eq_false h0
    subst hr
    go_wp2
    go_ret
    exact ⟨rfl, HB1.out⟩
set_option maxRecDepth 100000 in
set_option maxHeartbeats 16000000 in
theorem renabled_any (v vw : Value) (l : List ChanM) (wl : List WaitM) (w : World) (hv : SlH w v l) (hl : l.length ≤ 1000000) (hbf : ∀ c ∈ l, c.buf.length ≤ 999999) (hw : SlW w vw wl) (hf : ∀ i, i < wl.length → (wat wl i).op.good) : Calls Try.prog 43 #[v, vw] w fun e w' => e = .returned (.bool (enabP l wl)) ∧ Below w.heap.size w w' := by
  have TC := Lib.hid fun vo op w' (hb : Below w.heap.size w w') (h : OpV w' vo op) (hf : op.good) => rcould_any v vo l op w' (hv.below hb) hl hbf h hf.fine.ok hf.fine.len
  have HCS : ∀ op : OpM, op.good → (casesE op).length ≤ 100 := fun op h => by
    unfold casesE
    have := h.cases
    split
    · omega
    · split <;> simp
  have TM := Lib.hid fun va vb a b w' (hb : Below w.heap.size w w') (h : OpV w' va a) (h2 : OpV w' vb b) (hf : a.good) (hf2 : b.good) => rmeets_any v va vb l a b w' (hv.below hb) h h2 hf.fine hf2.fine (HCS a hf) (HCS b hf2)
  have HYC := Lib.hid fun i (hi : i < wl.length) (h : 0 < (couldP l (wat wl i).op).length) => enabP_could hi h
  have HYM := Lib.hid fun i k (hi : i < wl.length) (hk : k < i) (h : enP l wl i k = true) => enabP_meet hi hk h
  have HNO := Lib.hid fun h1 h2 => enabP_no (l := l) (wl := wl) h1 h2
  have HF := Lib.hid hf
  obtain ⟨mb, hmb⟩ : ∃ z, enabP l wl = z := ⟨_, rfl⟩
  rw [hmb] at HYC HYM HNO
  rw [hmb]
  have HW := Lib.hid hw
  have hbd := hw.bound
  obtain ⟨aq, cap, hve, -⟩ := hv.len
  subst hve
  obtain ⟨aw, capw, hve, hcw⟩ := hw.len
  subst hve
  clear hv hmb hw hf HCS hl hbf
  go_enter Try.func43, Try.ntmps43
  go_wp2_with fail
  go_loopw [5] (fun u5 wr => ∃ i : Nat, u5 = .int .i64 i ∧ i ≤ wl.length ∧ Hid (∀ j, j < i → (couldP l (wat wl j).op).length = 0) ∧ Hid (∀ j, j < i → ∀ k, k < j → enP l wl j k = false) ∧ Hid (Below w.heap.size w wr)) (fun u5 _ => wl.length - (intOf u5).toNat)
  case atStart => exact ⟨0, rfl, by omega, fun j hj => by omega, fun j hj => by omega, Below.refl _ _⟩
  case round =>
    obtain ⟨i, rfl, hi, HN1, HN2, HBi⟩ := hrel
    obtain ⟨wo, rfl⟩ : ∃ wo : World, wo = wr := ⟨_, rfl⟩
    by_cases hlt : i < wl.length
    · have hltI : (i : Int) < (wl.length : Int) := by omega
      obtain ⟨b, off, capx, vc, vd, hve, hbb, c0, c1, c2, c3, c4, c5, c6, c7, hc, hd⟩ := (HW.out.below HBi.out).at i ‹_›
      simp only [Value.slice.injEq] at hve
      obtain ⟨rfl, -, rfl⟩ := hve
      obtain ⟨⟨th, ⟨kd, md, ch, vl, dl, cs, ds⟩⟩, hx⟩ : ∃ x, wat wl i = x := ⟨_, rfl⟩
      rw [hx] at c0 c1 c2 c3 c4 c5 hc hd
      dsimp only at c0 c1 c2 c3 c4 c5 hc hd
      obtain ⟨a3, cap3, rfl⟩ := hc.len
      obtain ⟨a4, cap4, rfl, -⟩ := hd.len
      have HX := Lib.hid hx
      have HSC := Lib.hid hc
      have HSD := Lib.hid hd
      clear hx
      have HOX : Hid (OpV wo (.agg #[.int .i64 kd, .int .i64 md, .int .i64 ch, .int .u64 vl, .int .i64 dl, .slice a3 cs.length cap3, .slice a4 ds.length cap4]) ⟨kd, md, ch, vl, dl, cs, ds⟩) := ⟨_, _, rfl, HSC.out, HSD.out⟩
      have HFI : Hid (OpM.good ⟨kd, md, ch, vl, dl, cs, ds⟩) := by have := HF.out i hlt; rw [HX.out] at this; exact this
      have T := Lib.hid (TC.out _ _ wo HBi.out HOX.out HFI.out)
      rw [← couldP_eq] at T
      obtain ⟨cl, hcl⟩ : ∃ c, couldP l ⟨kd, md, ch, vl, dl, cs, ds⟩ = c := ⟨_, rfl⟩
      rw [hcl] at T
      have HCL := Lib.hid hcl
      clear hd hc hcl
      go_wp2_with fail
      refine T.out.mono ?_; rintro e w3 ⟨u3, rfl, hs3, hb3⟩
      obtain ⟨au, cu, rfl, -⟩ := hs3.lenR
      have HBq := Lib.hid hb3
      have HB3 := Lib.hid (below_then HBi.out hb3)
      have HO3 := Lib.hid (HOX.out.below hb3)
      clear c0 c1 c2 c3 c4 c5 c6 c7 hs3 hb3 T hbb
      obtain ⟨nc, hnc⟩ : ∃ n, cl.length = n := ⟨_, rfl⟩
      rw [hnc]
      have HNC := Lib.hid hnc
      clear hnc
      by_cases hz : 0 < nc
      · have hzI : (0 : Int) < (nc : Int) := by omega
        have hr : mb = true := HYC.out i hlt (by rw [HX.out]; show 0 < (couldP l _).length; rw [HCL.out, HNC.out]; exact hz)
        subst hr
        go_wp2
        go_ret
        exact ⟨rfl, HB3.out⟩
      have hz0 : nc = 0 := by omega
      subst hz0
      have HZ : Hid ((couldP l (wat wl i).op).length = 0) := by show _ = 0; rw [HX.out]; show (couldP l _).length = 0; rw [HCL.out, HNC.out]
      clear hz
      go_wp2_with fail
      go_loopw [6] (fun u6 wr => ∃ k : Nat, u6 = .int .i64 k ∧ k ≤ i ∧ Hid (∀ j, j < k → enP l wl i j = false) ∧ Hid (Below w3.heap.size w3 wr)) (fun u6 _ => i - (intOf u6).toNat)
      case atStart => exact ⟨0, rfl, by omega, fun j hj => by omega, Below.refl _ _⟩
      case round =>
        obtain ⟨k, rfl, hk, HN3, HBk⟩ := hrel
        obtain ⟨wp, rfl⟩ : ∃ wp : World, wp = wr := ⟨_, rfl⟩
        by_cases hlk : k < i
        · have hlkI : (k : Int) < (i : Int) := by omega
          have hkw : k < wl.length := by omega
          have hkwI : (k : Int) < (wl.length : Int) := by omega
          have HBk2 := Lib.hid (below_then HB3.out HBk.out)
          obtain ⟨b2, off2, capx2, vc2, vd2, hve, hbb2, d0, d1, d2, d3, d4, d5, d6, d7, hc2, hd2⟩ := (HW.out.below HBk2.out).at k ‹_›
          simp only [Value.slice.injEq, Option.some.injEq, Addr.mk.injEq, and_true, true_and] at hve
          obtain ⟨⟨rfl, rfl⟩, rfl⟩ := hve
          obtain ⟨⟨th2, ⟨kd2, md2, ch2, vl2, dl2, cs2, ds2⟩⟩, hx2⟩ : ∃ x, wat wl k = x := ⟨_, rfl⟩
          rw [hx2] at d0 d1 d2 d3 d4 d5 hc2 hd2
          dsimp only at d0 d1 d2 d3 d4 d5 hc2 hd2
          obtain ⟨a32, cap32, rfl⟩ := hc2.len
          obtain ⟨a42, cap42, rfl, -⟩ := hd2.len
          have HX2 := Lib.hid hx2
          have HSC2 := Lib.hid hc2
          have HSD2 := Lib.hid hd2
          clear hx2
          obtain ⟨b7, off7, cap7, vc7, vd7, hve, hbb7, e0, e1, e2, e3, e4, e5, e6, e7, hc7, hd7⟩ := (HW.out.below HBk2.out).at i hlt
          simp only [Value.slice.injEq, Option.some.injEq, Addr.mk.injEq, and_true, true_and] at hve
          obtain ⟨⟨rfl, rfl⟩, rfl⟩ := hve
          rw [HX.out] at e0 e1 e2 e3 e4 e5 hc7 hd7
          dsimp only at e0 e1 e2 e3 e4 e5 hc7 hd7
          obtain ⟨a37, cap37, rfl⟩ := hc7.len
          obtain ⟨a47, cap47, rfl, -⟩ := hd7.len
          have HOI : Hid (OpV wp (.agg #[.int .i64 kd, .int .i64 md, .int .i64 ch, .int .u64 vl, .int .i64 dl, .slice a37 cs.length cap37, .slice a47 ds.length cap47]) ⟨kd, md, ch, vl, dl, cs, ds⟩) := ⟨_, _, rfl, hc7, hd7⟩
          have HOK : Hid (OpV wp (.agg #[.int .i64 kd2, .int .i64 md2, .int .i64 ch2, .int .u64 vl2, .int .i64 dl2, .slice a32 cs2.length cap32, .slice a42 ds2.length cap42]) ⟨kd2, md2, ch2, vl2, dl2, cs2, ds2⟩) := ⟨_, _, rfl, HSC2.out, HSD2.out⟩
          have HFK : Hid (OpM.good ⟨kd2, md2, ch2, vl2, dl2, cs2, ds2⟩) := by have := HF.out k hkw; rw [HX2.out] at this; exact this
          have T2 := Lib.hid fun w' (hb : Below wp.heap.size wp w') => TM.out _ _ _ _ w' (below_then HBk2.out hb) (HOK.out.below hb) (HOI.out.below hb) HFK.out HFI.out
          obtain ⟨q, hq⟩ : ∃ q, meetP l ⟨kd, md, ch, vl, dl, cs, ds⟩ ⟨kd2, md2, ch2, vl2, dl2, cs2, ds2⟩ = q := ⟨_, rfl⟩
          rw [meetP_symm, hq] at T2
          obtain ⟨bt, hbt⟩ : ∃ z, (th2 != th) = z := ⟨_, rfl⟩
          have HEN : Hid (enP l wl i k = (bt && q)) := by
            show _ = _
            unfold enP
            rw [HX.out, HX2.out, ← hq, ← hbt]
            dsimp only
            rw [bne_comm]
          clear hq hc7 hd7 hc2 hd2
          cases bt with
          | false =>
            go_upto_region 9 with fail
            have Xe0 := ext_cell _ _ (hbb2) _ e0
            have Xe1 := ext_cell _ _ (hbb2) _ e1
            have Xe2 := ext_cell _ _ (hbb2) _ e2
            have Xe3 := ext_cell _ _ (hbb2) _ e3
            have Xe4 := ext_cell _ _ (hbb2) _ e4
            have Xe5 := ext_cell _ _ (hbb2) _ e5
            have Xe6 := ext_cell _ _ (hbb2) _ e6
            have Xe7 := ext_cell _ _ (hbb2) _ e7
            have Xd0 := ext_cell _ _ (hbb2) _ d0
            have Xd1 := ext_cell _ _ (hbb2) _ d1
            have Xd2 := ext_cell _ _ (hbb2) _ d2
            have Xd3 := ext_cell _ _ (hbb2) _ d3
            have Xd4 := ext_cell _ _ (hbb2) _ d4
            have Xd5 := ext_cell _ _ (hbb2) _ d5
            have Xd6 := ext_cell _ _ (hbb2) _ d6
            have Xd7 := ext_cell _ _ (hbb2) _ d7
            clear e0 e1 e2 e3 e4 e5 e6 e7 d0 d1 d2 d3 d4 d5 d6 d7
            refine wp_region_ext wp (by kernel_rfl) (by kernel_rfl) (Below.refl _ _) ?_
            repeat (go_big_quiet_step (first | (go_at_call 78; with_reducible exact calls_ext (T2.out _ (Ext.below _)))))
            refine wpQuiet_nil ?_
            intro _ hw'
            obtain ⟨n9, rfl⟩ := hw'
            have HB9 := Lib.hid (below_then HBk.out n9.below)
            generalize n9.wd = w9 at *
            clear Xe0 Xe1 Xe2 Xe3 Xe4 Xe5 Xe6 Xe7 Xd0 Xd1 Xd2 Xd3 Xd4 Xd5 Xd6 Xd7 T2
            go_wp2_with fail
            go_roundw
            case rel => exact ⟨k + 1, by go_num, by omega, fun j hj => by
              by_cases e : j = k
              · rw [e, HEN.out]; rfl
              · exact HN3.out j (by omega), HB9⟩
            case measure => simp [intOf]; omega
          | true =>
            go_upto_region 9 with fail
            have Xe0 := ext_cell _ _ (hbb2) _ e0
            have Xe1 := ext_cell _ _ (hbb2) _ e1
            have Xe2 := ext_cell _ _ (hbb2) _ e2
            have Xe3 := ext_cell _ _ (hbb2) _ e3
            have Xe4 := ext_cell _ _ (hbb2) _ e4
            have Xe5 := ext_cell _ _ (hbb2) _ e5
            have Xe6 := ext_cell _ _ (hbb2) _ e6
            have Xe7 := ext_cell _ _ (hbb2) _ e7
            have Xd0 := ext_cell _ _ (hbb2) _ d0
            have Xd1 := ext_cell _ _ (hbb2) _ d1
            have Xd2 := ext_cell _ _ (hbb2) _ d2
            have Xd3 := ext_cell _ _ (hbb2) _ d3
            have Xd4 := ext_cell _ _ (hbb2) _ d4
            have Xd5 := ext_cell _ _ (hbb2) _ d5
            have Xd6 := ext_cell _ _ (hbb2) _ d6
            have Xd7 := ext_cell _ _ (hbb2) _ d7
            clear e0 e1 e2 e3 e4 e5 e6 e7 d0 d1 d2 d3 d4 d5 d6 d7
            refine wp_region_ext wp (by kernel_rfl) (by kernel_rfl) (Below.refl _ _) ?_
            repeat (go_big_quiet_step (first | (go_at_call 78; with_reducible exact calls_ext (T2.out _ (Ext.below _)))))
            refine wpQuiet_nil ?_
            intro _ hw'
            obtain ⟨n9, rfl⟩ := hw'
            have HB9 := Lib.hid (below_then HBk.out n9.below)
            generalize n9.wd = w9 at *
            clear Xe0 Xe1 Xe2 Xe3 Xe4 Xe5 Xe6 Xe7 Xd0 Xd1 Xd2 Xd3 Xd4 Xd5 Xd6 Xd7 T2
            cases q with
            | true =>
              have hr : mb = true := HYM.out i k hlt hlk HEN.out
              subst hr
              have HBF := Lib.hid (below_then HB3.out HB9.out)
              go_wp2
              go_ret
              exact ⟨rfl, HBF.out⟩
            | false =>
              go_wp2_with fail
              go_roundw
              case rel => exact ⟨k + 1, by go_num, by omega, fun j hj => by
                by_cases e : j = k
                · rw [e]; exact HEN.out
                · exact HN3.out j (by omega), HB9⟩
              case measure => simp [intOf]; omega
        · have hge : ¬ (k : Int) < (i : Int) := by omega
          go_wp2_with fail
          go_roundw
          case rel => exact ⟨i + 1, by go_num, by omega, fun j hj => by
            by_cases e : j = i
            · rw [e]; exact HZ.out
            · exact HN1.out j (by omega), fun j hj => by
            by_cases e : j = i
            · rw [e]; exact fun k2 hk2 => HN3.out k2 (by omega)
            · exact HN2.out j (by omega), below_then HB3.out HBk.out⟩
          case measure => simp [intOf]; omega
    · have hge : ¬ (i : Int) < (wl.length : Int) := by omega
      have hr : mb = false := HNO.out (fun j hj => HN1.out j (by omega)) (fun j hj => HN2.out j (by omega))
      subst hr
      go_wp2
      go_ret
      exact ⟨rfl, HBi.out⟩
end Go.Proofs.Ytialclohhemkiaa
/- Layer 14: the law's waiters. -/
namespace Go.Proofs.Ytialclohhemkiaa
open Go.ChangeShapes Go.WideShapes Go.ChangeAt Go.RowKit
set_option maxRecDepth 100000

/-- a row is appended to an owned list; its block is the old one or new -/
theorem step_append_sn {w : World} {base s : Nat} {e : TypeId} {v : Value} {rows : List (List Value)} (st : TypeId) {bytes : Nat} {z : Value} (hu : Try.prog.underlying st = some (.slice e)) (hinfo : (Try.prog.info? e).map (fun i => (i.zero, i.size, i.bytes)) = some (some z, s, bytes)) (hzs : z.cells.size = s) (hsz : 0 < s) (hby : bytes ≤ 200)
    {ops : Array Oper} {o : Oper} {a : Act} {K : Act → World → Prop} {Q : Exit → Act → World → Prop} {E : Prop}
    (hgd : o.guard = none) (sl x : Operand) (hop : o.op = Op.call { callee := Callee.builtin Builtin.append, args := #[sl, x], argTypes := #[st, st] })
    (hs : a.eval sl = v) (hown : OwnS w base e s v rows) (r : List Value) (hr : r.length = s) (hr1 : ∀ u ∈ r, u.oneCell' = true) (g : Nat)
    (hx : a.eval x = .slice (some ⟨g, 0, none⟩) 1 1) (hcell : w.heap[g]? = some (.cells r.toArray e (0, 0))) (hl : rows.length ≤ 1000000) (hb : base ≤ w.heap.size)
    (hK : ∀ v' w', OwnS w' base e s v' (rows ++ [r]) → w.grownBy w' v.ownBlock → (v'.ownBlock = v.ownBlock ∨ v'.ownBlock = some w.heap.size) → K (a.put o.dst v') w') :
    if Region.wanted o (yielded ops a.tmps) = true then Oper.wp Try.prog o a w K Q else E := by
  have hw : Region.wanted o (yielded ops a.tmps) = true := by simp [Region.wanted, hgd]
  rw [if_pos hw]
  obtain ⟨i0, hi, hz0, hz1, hz2⟩ := info_parts hinfo
  obtain ⟨v', w', hrun, h2, h3, -, h4⟩ := run_append_own_at (P := Try.prog) w base st o.type e i0 z s bytes hu hi hz0 hz1 hz2 hzs hsz v rows.length _ hown.2 ⟨g, 0, none⟩ 1 1 r (by omega) (fun j u hj => by
    have : w.cell? ⟨g, j, none⟩ = r.toArray[j]? := cell_of_row _ _ j _ _ _ hcell
    have e2 : ((⟨g, 0, none⟩ : Addr).add j) = ⟨g, j, none⟩ := by rw [Addr.add_mid, Nat.zero_add]
    rw [e2, this]
    simpa using hj) hr1 (by unfold maxLen; omega) (by have : (rows.length + 1) * bytes ≤ 1000001 * 200 := Nat.mul_le_mul (by omega) hby; omega) hb
  refine Lib.wp_append_run w sl x _ _ hop _ _ hs hx v' w' hrun (hK v' w' ⟨hown.1.snoc hr hr1, ?_⟩ h3 h4)
  rw [List.length_append, List.flatten_append]
  simpa using h2
theorem Try.info_wait : (Try.prog.info? 82).map (fun i => (i.zero, i.size, i.bytes)) = some (some (.agg #[.int .i64 0, .int .i64 0, .int .i64 0, .int .i64 0, .int .u64 0, .int .i64 0, .slice none 0 0, .slice none 0 0]), 8, 96) := by kernel_rfl
/-- the law's list of waiters, row by row -/
structure WtI (wr : World) (g B : Nat) (v : Value) (wl : List WaitM) (rows : List (List Value)) : Prop where
  len : rows.length = wl.length
  own : OwnS wr B 82 8 v rows
  row : ∀ i, i < wl.length → ∃ vc vd, rows.getD i [] = wtL (wat wl i) vc vd ∧ SlC wr vc (wat wl i).op.cases ∧ SlI wr .i64 vd (wat wl i).op.draws ∧ offB g vc ∧ offB g vd ∧ ∀ j, v.ownBlock = some j → offB j vc ∧ offB j vd
  good : ∀ i, i < wl.length → (wat wl i).op.good
  gB : g < B
  Bw : B ≤ wr.heap.size
theorem WtI.draw {wr w2 : World} {g B : Nat} {v : Value} {wl : List WaitM} {rows : List (List Value)} (h : WtI wr g B v wl rows) (hg : wr.grownBy w2 (some g)) : WtI w2 g B v wl rows :=
  ⟨h.len, h.own.kept hg (h.own.ne h.gB), fun i hi => by
    obtain ⟨vc, vd, e, h1, h2, h3, h4, h5⟩ := h.row i hi
    exact ⟨vc, vd, e, h1.grown hg h3, h2.grown hg h4, h3, h4, h5⟩, h.good, h.gB, Nat.le_trans h.Bw hg.size⟩
theorem WtI.below {wr w2 : World} {g B : Nat} {v : Value} {wl : List WaitM} {rows : List (List Value)} (h : WtI wr g B v wl rows) (hb : Below wr.heap.size wr w2) : WtI w2 g B v wl rows :=
  ⟨h.len, h.own.below hb, fun i hi => by
    obtain ⟨vc, vd, e, h1, h2, h3, h4, h5⟩ := h.row i hi
    exact ⟨vc, vd, e, h1.below hb, h2.below hb, h3, h4, h5⟩, h.good, h.gB, Nat.le_trans h.Bw hb.size⟩
theorem WtI.slW {wr : World} {g B : Nat} {v : Value} {wl : List WaitM} {rows : List (List Value)} (h : WtI wr g B v wl rows) (hl : wl.length ≤ 1000) : SlW wr v wl :=
  ⟨rows, h.len, h.own.sls (by rw [h.len]; omega), fun i hi => by
    obtain ⟨vc, vd, e, h1, h2, -⟩ := h.row i hi
    exact ⟨vc, vd, e, h1, h2⟩⟩
theorem wat_snoc_old (wl : List WaitM) (x : WaitM) (i : Nat) (hi : i < wl.length) : wat (wl ++ [x]) i = wat wl i := by
  unfold wat
  rw [List.getD_eq_getElem?_getD, List.getD_eq_getElem?_getD, List.getElem?_append_left hi]
theorem wat_snoc_new (wl : List WaitM) (x : WaitM) : wat (wl ++ [x]) wl.length = x := by
  unfold wat
  rw [List.getD_eq_getElem?_getD, List.getElem?_append_right (Nat.le_refl _)]
  simp
theorem WtI.push {wr u2 : World} {g B : Nat} {v v2 vc vd : Value} {wl : List WaitM} {rows : List (List Value)} {x : WaitM} (h : WtI wr g B v wl rows) (hg : wr.grownBy u2 v.ownBlock) (ho : OwnS u2 B 82 8 v2 (rows ++ [wtL x vc vd])) (hn : v2.ownBlock = v.ownBlock ∨ v2.ownBlock = some wr.heap.size)
    (hx : x.op.good) (hc : SlC wr vc x.op.cases) (hd : SlI wr .i64 vd x.op.draws) (h3 : offB g vc) (h4 : offB g vd) (h5 : ∀ j, v.ownBlock = some j → offB j vc ∧ offB j vd) : WtI u2 g B v2 (wl ++ [x]) (rows ++ [wtL x vc vd]) := by
  have hkc : ∀ (vc : Value) (l : List CaseM), SlC wr vc l → (∀ j, v.ownBlock = some j → offB j vc) → SlC u2 vc l := fun vc l hc hj => by
    cases hv : v.ownBlock with
    | none => rw [hv] at hg; exact hc.below ((Below.refl wr.heap.size wr).grown hg (Nat.le_refl _) (fun j hj => by cases hj))
    | some j => rw [hv] at hg; exact hc.grown hg (hj j hv)
  have hkd : ∀ (vd : Value) (l : List Int), SlI wr .i64 vd l → (∀ j, v.ownBlock = some j → offB j vd) → SlI u2 .i64 vd l := fun vd l hc hj => by
    cases hv : v.ownBlock with
    | none => rw [hv] at hg; exact hc.below ((Below.refl wr.heap.size wr).grown hg (Nat.le_refl _) (fun j hj => by cases hj))
    | some j => rw [hv] at hg; exact hc.grown hg (hj j hv)
  have hoff : ∀ (vc vd : Value) (lc : List CaseM) (ld : List Int), SlC wr vc lc → SlI wr .i64 vd ld → (∀ j, v.ownBlock = some j → offB j vc ∧ offB j vd) → ∀ j, v2.ownBlock = some j → offB j vc ∧ offB j vd := fun vc vd lc ld h1 h2 h6 j hj => by
    rcases hn with hn | hn
    · exact h6 j (hn.symm.trans hj)
    · rw [hn] at hj
      cases hj
      exact ⟨h1.offOf (Nat.le_refl _), h2.offOf (Nat.le_refl _)⟩
  refine ⟨by rw [List.length_append, List.length_append, h.len]; rfl, ho, fun i hi => ?_, fun i hi => ?_, h.gB, Nat.le_trans h.Bw hg.size⟩
  · rw [List.length_append] at hi
    have hi' : i < wl.length + 1 := hi
    by_cases hil : i < wl.length
    · rw [wat_snoc_old _ _ _ hil]
      obtain ⟨wc, wd, e, k1, k2, k3, k4, k5⟩ := h.row i hil
      refine ⟨wc, wd, ?_, hkc _ _ k1 (fun j hj => (k5 j hj).1), hkd _ _ k2 (fun j hj => (k5 j hj).2), k3, k4, hoff _ _ _ _ k1 k2 k5⟩
      rw [List.getD_eq_getElem?_getD, List.getElem?_append_left (by rw [h.len]; exact hil), ← List.getD_eq_getElem?_getD]
      exact e
    · have he : i = wl.length := by omega
      subst he
      rw [wat_snoc_new]
      refine ⟨vc, vd, ?_, hkc _ _ hc (fun j hj => (h5 j hj).1), hkd _ _ hd (fun j hj => (h5 j hj).2), h3, h4, hoff _ _ _ _ hc hd h5⟩
      rw [List.getD_eq_getElem?_getD, List.getElem?_append_right (by rw [h.len]; exact Nat.le_refl _), h.len]
      simp
  · rw [List.length_append] at hi
    have hi' : i < wl.length + 1 := hi
    by_cases hil : i < wl.length
    · rw [wat_snoc_old _ _ _ hil]; exact h.good i hil
    · have he : i = wl.length := by omega
      subst he
      rw [wat_snoc_new]; exact hx
end Go.Proofs.Ytialclohhemkiaa
