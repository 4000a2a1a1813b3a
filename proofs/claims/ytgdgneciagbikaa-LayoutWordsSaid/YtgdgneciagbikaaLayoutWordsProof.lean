/- Proved: LayoutWords returns true, and its arguments read afterwards as before, for every list of codes and every seq; no condition. -/
import Derived.Test.YtgdgneciagbikaaLaw
import Derived.Test.YtgdgneciagbikaaL5Awake
import Derived.Test.YtgdgneciagbikaaLawOp
import Derived.Test.YtgdgneciagbikaaStill
import Derived.Deep.DeepCutAuto
import Derived.LoopTactic
import Derived.WalkKit
import Derived.ProofKit
import Derived.OpenShut
import Derived.SizedLaws
namespace Go.Proofs.Ytgdgneciagbikaa.layoutWords
open Go.ChangeShapes Go.WideShapes Go.ChangeAt Go.RowKit
set_option linter.unusedVariables false
theorem startOk {c : ConfM} (h : c.good) (k : Nat) (hk : k < c.caps.length) : 0 ≤ c.starts.getD k 0 ∧ c.starts.getD k 0 < 9223372036854775808 := by
  have hk2 : k < c.starts.length := by rw [h.same]; exact hk
  rw [List.getD_eq_getElem?_getD, List.getElem?_eq_getElem hk2]
  exact h.starts _ (List.getElem_mem hk2)
theorem u64_of_wf {x : Int} (h : x = IntKind.u64.wrap x) : 0 ≤ x ∧ x < 18446744073709551616 := by
  rw [IntKind.wrap_u64] at h; omega
set_option maxRecDepth 100000 in
set_option maxHeartbeats 8000000 in
theorem walk (w : World) (v0 : Value) (l0 : List Int) (s0 : SlI w .u8 v0 l0) (a1 : Int) (w1 : (Lit.int .u64 a1).wf = true) :
    Calls Try.prog 6 #[v0, .int .u64 a1] w fun e w' => e = .returned (.bool true) ∧ Below w.heap.size w w' := by
  have AW := Lib.hid fun w' => awake5_any w'
  have HS0 := Lib.hid s0
  have HSQ := Lib.hid (u64_of_wf (wrap_of_wf w1))
  clear w1 s0
  go_enter Try.func6, Try.ntmps6
  go_wp2_with fail
  refine (AW.out _).mono ?_; rintro e wa ⟨rfl, hba⟩
  have HBA := Lib.hid hba
  clear hba AW
  go_wp2_with fail
  refine (new_any _ l0 60 _ (HS0.out.below HBA.out) (by omega)).mono ?_; rintro e wb ⟨rfl, hcb, hbb⟩
  have HBB := Lib.hid (below_then HBA.out hbb)
  have hgz := HBA.out.size
  have HCB : Hid (CodesE wb wa.heap.size) := ⟨_, _, hcb⟩
  clear hcb hbb HS0
  generalize wa.heap.size = g at *
  go_wp2_with fail
  refine (wideE2 g _ HCB.out).mono ?_; rintro e w3 ⟨v, c, rfl, hcx, hgood, hc3, hg3⟩
  have HB3 : Hid (Below w.heap.size w w3) := (HBB.out).grown hg3 HBB.out.size (fun k hk => by cases hk; exact hgz)
  have HC3 := Lib.hid hcx.conf
  obtain ⟨vc, vs, rfl, hs1, hs2, -, -⟩ := hcx
  obtain ⟨p1, cap1, rfl, -⟩ := hs1.len
  obtain ⟨p2, cap2, rfl, -⟩ := hs2.len
  have HG := Lib.hid hgood
  have hn8 := hgood.len
  clear hc3 hg3 HCB HBB HBA hs1 hs2 hgood
  have N7 : Hid ((w3.alloc (.cells zeroConf 49)).heap[w3.heap.size]? = some (.cells zeroConf 49 (0, 0))) := heap_alloc_new _ _
  obtain ⟨W, hW⟩ : ∃ W, (w3.alloc (.cells zeroConf 49)).setRow w3.heap.size #[.slice p1 c.caps.length cap1, .slice p2 c.starts.length cap2, .int .i64 c.threads] = W := ⟨_, rfl⟩
  have HB34 : Hid (Below w3.heap.size w3 W) := hW ▸ row_below (below_new (Below.refl _ _) _) (Nat.le_refl _) _
  have R7 : Hid (W.heap[w3.heap.size]? = some (.cells #[.slice p1 c.caps.length cap1, .slice p2 c.starts.length cap2, .int .i64 c.threads] 49 (0, 0))) := hW ▸ setRow_heap _ _ _ _ _ (0, 0) N7.out
  have hzW : w3.heap.size < W.heap.size := by rw [← hW]; simp
  have HBW := Lib.hid (below_then HB3.out HB34.out)
  have HV := Lib.hid (HC3.out.below HB34.out)
  have HW := Lib.hid hW
  clear hW HB34 HC3 HB3
  go_upto_region 4 with (refine wpList_store_row rfl 49 _ _ rfl (w3.heap.size) _ rfl rfl 49 zeroConf N7.out (by kernel_rfl) rfl (by simp [Value.oneCell']) ?_)
  rw [show (#[.slice none 0 0, .slice none 0 0, .int .i64 0] : Array Value) = zeroConf from rfl, HW.out]
  clear HW N7
  generalize w3.heap.size = B at *
  go_wp2_with fail
  go_loopw [6] (fun i wr => ∃ k : Nat, k ≤ c.caps.length ∧ i = .int .i64 k ∧ Hid (Below W.heap.size W wr)) (fun i _ => 9 - (intOf i).toNat)
  case atStart => exact ⟨0, by omega, rfl, Below.refl _ _⟩
  case round =>
    obtain ⟨k, hk, rfl, hb⟩ := hrel
    obtain ⟨wo, rfl⟩ : ∃ wo : World, wo = wr := ⟨_, rfl⟩
    have hzo := hb.out.size
    have SB := Lib.hid ((hb.out.block B hzW).trans R7.out)
    have HVo := Lib.hid (HV.out.below hb.out)
    obtain ⟨x0, x1, x2⟩ := rowc3 SB.out
    by_cases hlt : k < c.caps.length
    · have T0 := Lib.hid fun w' h => tailW_any (.agg #[.slice p1 c.caps.length cap1, .slice p2 c.starts.length cap2, .int .i64 c.threads]) c k hlt w' h HG.out
      have U0 := Lib.hid fun w' h => rtail_any (.agg #[.slice p1 c.caps.length cap1, .slice p2 c.starts.length cap2, .int .i64 c.threads]) c k w' h (Nat.le_of_lt hlt) HG.out
      have T1 := Lib.hid fun w' h => headW_any (.agg #[.slice p1 c.caps.length cap1, .slice p2 c.starts.length cap2, .int .i64 c.threads]) c k hlt w' h HG.out
      have U1 := Lib.hid fun w' h => rheadW_any (.agg #[.slice p1 c.caps.length cap1, .slice p2 c.starts.length cap2, .int .i64 c.threads]) c k hlt w' h HG.out
      have T2 := Lib.hid fun w' h => lockW_any (.agg #[.slice p1 c.caps.length cap1, .slice p2 c.starts.length cap2, .int .i64 c.threads]) c k hlt w' h HG.out
      have U2 := Lib.hid fun w' h => rlockW_any (.agg #[.slice p1 c.caps.length cap1, .slice p2 c.starts.length cap2, .int .i64 c.threads]) c k hlt w' h HG.out
      have T3 := Lib.hid fun w' h => receiversW_any (.agg #[.slice p1 c.caps.length cap1, .slice p2 c.starts.length cap2, .int .i64 c.threads]) c k hlt w' h HG.out
      have U3 := Lib.hid fun w' h => rreceiversW_any (.agg #[.slice p1 c.caps.length cap1, .slice p2 c.starts.length cap2, .int .i64 c.threads]) c k hlt w' h HG.out
      have T4 := Lib.hid fun w' h => sendersW_any (.agg #[.slice p1 c.caps.length cap1, .slice p2 c.starts.length cap2, .int .i64 c.threads]) c k hlt w' h HG.out
      have U4 := Lib.hid fun w' h => rsendersW_any (.agg #[.slice p1 c.caps.length cap1, .slice p2 c.starts.length cap2, .int .i64 c.threads]) c k hlt w' h HG.out
      rw [Int.add_zero] at T0
      have HKC := Lib.hid hlt
      have hbk := HG.out.base8 k hk
      generalize c.base k = bk at *
      go_upto_region 7 with fail
      have HVX := Lib.hid fun n : Ext wo => HVo.out.below n.below
      have X0x := ext_cell _ 0 (Nat.lt_of_lt_of_le hzW hzo) _ x0
      have X1x := ext_cell _ 1 (Nat.lt_of_lt_of_le hzW hzo) _ x1
      have X2x := ext_cell _ 2 (Nat.lt_of_lt_of_le hzW hzo) _ x2
      clear x0 x1 x2
      refine wp_region_ext wo (by kernel_rfl) (by kernel_rfl) (Below.refl _ _) ?_
      repeat (go_big_quiet_step (first
        | (go_at_call 27; with_reducible exact calls_ext (T0.out _ (HVX.out _)))
        | (go_at_call 29; with_reducible exact calls_ext (T1.out _ (HVX.out _)))
        | (go_at_call 31; with_reducible exact calls_ext (T2.out _ (HVX.out _)))
        | (go_at_call 33; with_reducible exact calls_ext (T3.out _ (HVX.out _)))
        | (go_at_call 35; with_reducible exact calls_ext (T4.out _ (HVX.out _)))
        | (go_at_call 28; with_reducible exact calls_ext (U0.out _ (HVX.out _)))
        | (go_at_call 30; with_reducible exact calls_ext (U1.out _ (HVX.out _)))
        | (go_at_call 32; with_reducible exact calls_ext (U2.out _ (HVX.out _)))
        | (go_at_call 34; with_reducible exact calls_ext (U3.out _ (HVX.out _)))
        | (go_at_call 36; with_reducible exact calls_ext (U4.out _ (HVX.out _)))))
      refine wpQuiet_nil ?_
      intro _ hw'
      obtain ⟨w2, rfl⟩ := hw'
      have HB2 := Lib.hid (below_then hb.out w2.below)
      have SB2 := Lib.hid ((HB2.out.block B hzW).trans R7.out)
      have HV2 := Lib.hid (HV.out.below HB2.out)
      have S2 := Lib.hid (HV2.out)
      generalize w2.wd = w4 at *
      clear X0x X1x X2x HVX T0 T1 T2 T3 T4 U0 U1 U2 U3 U4 hb SB HVo
      obtain ⟨x0, x1, x2⟩ := rowc3 SB2.out
      have hst := startOk HG.out k HKC.out
      obtain ⟨vc', vs', ev, hsc, hss⟩ := S2.out
      simp only [Value.agg.injEq, Array.mk.injEq, List.cons.injEq, and_true] at ev
      obtain ⟨rfl, rfl⟩ := ev
      obtain ⟨bs, off, rfl, hbs, hcs⟩ := hss.cellAt k (by rw [HG.out.same]; exact HKC.out)
      have hsl : k < c.starts.length := by rw [HG.out.same]; exact HKC.out
      obtain ⟨st, hste⟩ : ∃ st, c.starts.getD k 0 = st := ⟨_, rfl⟩
      rw [hste] at hst hcs
      clear hste hsc hss S2
      have HST := Lib.hid hst
      clear hst
      have hz4 := HB2.out.size
      obtain ⟨W5, hW5⟩ : ∃ W5, w4.alloc (.cells #[.int .u64 a1, .int .u64 st, .int .u64 9223372036854775807, .int .u64 0] 26) = W5 := ⟨_, rfl⟩
      have L5 : Hid (W5.heap[w4.heap.size]? = some (.cells #[.int .u64 a1, .int .u64 st, .int .u64 9223372036854775807, .int .u64 0] 26 (0, 0))) := hW5 ▸ heap_alloc_new _ _
      have HB5 : Hid (Below W.heap.size W W5) := hW5 ▸ below_new HB2.out _
      have hz5 : w4.heap.size < W5.heap.size := by rw [← hW5]; simp
      have HW5 := Lib.hid hW5
      clear hW5 HB2 SB2 HV2
      go_upto_region 10 with fail
      rw [HW5.out]
      clear HW5 x0 x1 x2 hcs
      generalize w4.heap.size = L at *
      go_loopw [74] (fun i wr => ∃ j : Nat, j ≤ 4 ∧ i = .int .i64 j ∧ Hid (Below W5.heap.size W5 wr)) (fun i _ => 5 - (intOf i).toNat)
      case atStart => exact ⟨0, by omega, rfl, Below.refl _ _⟩
      case round =>
        obtain ⟨j, hj, rfl, hb⟩ := hrel
        obtain ⟨wo, rfl⟩ : ∃ wo : World, wo = wr := ⟨_, rfl⟩
        have HBo := Lib.hid (below_then HB5.out hb.out)
        have hzo := HBo.out.size
        have SBo := Lib.hid ((HBo.out.block B hzW).trans R7.out)
        have SLo := Lib.hid ((hb.out.block L hz5).trans L5.out)
        have HVo := Lib.hid (HV.out.below HBo.out)
        obtain ⟨x0, x1, x2⟩ := rowc3 SBo.out
        by_cases hjl : j < 4
        · have hc : ∃ s : Int, Hid (0 ≤ s ∧ s < 18446744073709551616) ∧ wo.cell? ⟨L, j, none⟩ = some (.int .u64 s) := by
            have hr := cell_of_row _ _ j _ _ _ SLo.out
            obtain rfl | rfl | rfl | rfl : j = 0 ∨ j = 1 ∨ j = 2 ∨ j = 3 := by omega
            · exact ⟨_, HSQ, hr⟩
            · exact ⟨_, (by have := HST.out; omega : 0 ≤ st ∧ st < 18446744073709551616), hr⟩
            · exact ⟨_, (by omega : (0 : Int) ≤ 9223372036854775807 ∧ (9223372036854775807 : Int) < 18446744073709551616), hr⟩
            · exact ⟨_, (by omega : (0 : Int) ≤ 0 ∧ (0 : Int) < 18446744073709551616), hr⟩
          obtain ⟨s, HSS, hcell⟩ := hc
          have T0 := Lib.hid fun w' h => slotSeqW_any (.agg #[.slice p1 c.caps.length cap1, .slice (some ⟨bs, off, none⟩) c.starts.length cap2, .int .i64 c.threads]) c k s HKC.out HSS.out.1 HSS.out.2 w' h HG.out
          have U0 := Lib.hid fun w' h => rslotSeqW_any (.agg #[.slice p1 c.caps.length cap1, .slice (some ⟨bs, off, none⟩) c.starts.length cap2, .int .i64 c.threads]) c k s HKC.out HSS.out.1 HSS.out.2 w' h HG.out
          have T1 := Lib.hid fun w' h => slotValueW_any (.agg #[.slice p1 c.caps.length cap1, .slice (some ⟨bs, off, none⟩) c.starts.length cap2, .int .i64 c.threads]) c k s HKC.out HSS.out.1 HSS.out.2 w' h HG.out
          have U1 := Lib.hid fun w' h => rslotValueW_any (.agg #[.slice p1 c.caps.length cap1, .slice (some ⟨bs, off, none⟩) c.starts.length cap2, .int .i64 c.threads]) c k s HKC.out HSS.out.1 HSS.out.2 w' h HG.out
          generalize c.slotW k s = sw at *
          go_upto_region 12 with fail
          have HVX := Lib.hid fun n : Ext wo => HVo.out.below n.below
          have X0x := ext_cell _ 0 (Nat.lt_of_lt_of_le hzW hzo) _ x0
          have X1x := ext_cell _ 1 (Nat.lt_of_lt_of_le hzW hzo) _ x1
          have X2x := ext_cell _ 2 (Nat.lt_of_lt_of_le hzW hzo) _ x2
          clear x0 x1 x2
          refine wp_region_ext wo (by kernel_rfl) (by kernel_rfl) (Below.refl _ _) ?_
          repeat (go_big_quiet_step (first
            | (go_at_call 37; with_reducible exact calls_ext (T0.out _ (HVX.out _)))
            | (go_at_call 38; with_reducible exact calls_ext (U0.out _ (HVX.out _)))
            | (go_at_call 39; with_reducible exact calls_ext (T1.out _ (HVX.out _)))
            | (go_at_call 40; with_reducible exact calls_ext (U1.out _ (HVX.out _)))))
          refine wpQuiet_nil ?_
          intro _ hw'
          obtain ⟨w2, rfl⟩ := hw'
          have HB2 := Lib.hid (below_then hb.out w2.below)
          generalize w2.wd = w6 at *
          go_wp2
          go_roundw
          case rel => exact ⟨j + 1, by omega, by go_num, HB2⟩
          case measure => simp [intOf]; omega
        · have T0 := Lib.hid fun w' h => receiverList_any (.agg #[.slice p1 c.caps.length cap1, .slice (some ⟨bs, off, none⟩) c.starts.length cap2, .int .i64 c.threads]) c k HKC.out w' h HG.out
          have T1 := Lib.hid fun w' h => senderList_any (.agg #[.slice p1 c.caps.length cap1, .slice (some ⟨bs, off, none⟩) c.starts.length cap2, .int .i64 c.threads]) c k HKC.out w' h HG.out
          go_wp2_with fail
          refine (T0.out _ HVo.out).mono ?_; rintro e w6 ⟨rfl, hb6⟩
          have HB6 := Lib.hid (below_then HBo.out hb6)
          have SB6 := Lib.hid ((HB6.out.block B hzW).trans R7.out)
          have HV6 := Lib.hid (HV.out.below HB6.out)
          clear x0 x1 x2 hb6
          obtain ⟨x0, x1, x2⟩ := rowc3 SB6.out
          go_wp2_with fail
          refine (T1.out _ HV6.out).mono ?_; rintro e w7 ⟨rfl, hb7⟩
          have HB7 := Lib.hid (below_then HB6.out hb7)
          clear x0 x1 x2 hb7
          go_wp2
          go_roundw
          case rel => exact ⟨k + 1, by omega, by go_num, HB7⟩
          case measure => simp [intOf]; omega
    · obtain rfl : k = c.caps.length := by omega
      clear hk hlt
      have hthr := HG.out.thr
      generalize hthe : c.threads = thr at *
      have HTH := Lib.hid hthe
      clear hthe
      go_wp2_with fail
      go_loopw [9] (fun i wr => ∃ t : Nat, (t : Int) ≤ thr ∧ i = .int .i64 t ∧ Hid (Below W.heap.size W wr)) (fun i _ => 9 - (intOf i).toNat)
      case atStart => exact ⟨0, by omega, rfl, hb⟩
      case round =>
        clear x0 x1 x2 SB HVo hb hzo
        obtain ⟨t, ht, rfl, hb⟩ := hrel
        obtain ⟨wo, rfl⟩ : ∃ wo : World, wo = wr := ⟨_, rfl⟩
        have hzo := hb.out.size
        have SB := Lib.hid ((hb.out.block B hzW).trans R7.out)
        have HVo := Lib.hid (HV.out.below hb.out)
        obtain ⟨x0, x1, x2⟩ := rowc3 SB.out
        by_cases htl : (t : Int) < thr
        · have h0 : (0 : Int) ≤ t := by omega
          have h8 : (t : Int) ≤ 8 := by omega
          have T0 := Lib.hid fun w' h => claimW_any (.agg #[.slice p1 c.caps.length cap1, .slice p2 c.starts.length cap2, .int .i64 thr]) c t h0 h8 w' h HG.out
          have U0 := Lib.hid fun w' h => rclaimW_any (.agg #[.slice p1 c.caps.length cap1, .slice p2 c.starts.length cap2, .int .i64 thr]) c t h0 h8 w' h HG.out
          have T1 := Lib.hid fun w' h => flagW_any (.agg #[.slice p1 c.caps.length cap1, .slice p2 c.starts.length cap2, .int .i64 thr]) c t h0 h8 w' h HG.out
          have U1 := Lib.hid fun w' h => rflagW_any (.agg #[.slice p1 c.caps.length cap1, .slice p2 c.starts.length cap2, .int .i64 thr]) c t h0 h8 w' h HG.out
          have T2 := Lib.hid fun w' h => kindW_any (.agg #[.slice p1 c.caps.length cap1, .slice p2 c.starts.length cap2, .int .i64 thr]) c t h0 h8 w' h HG.out
          have U2 := Lib.hid fun w' h => rkindW_any (.agg #[.slice p1 c.caps.length cap1, .slice p2 c.starts.length cap2, .int .i64 thr]) c t h0 h8 w' h HG.out
          have T3 := Lib.hid fun w' h => caseW_any (.agg #[.slice p1 c.caps.length cap1, .slice p2 c.starts.length cap2, .int .i64 thr]) c t h0 h8 w' h HG.out
          have U3 := Lib.hid fun w' h => rcaseW_any (.agg #[.slice p1 c.caps.length cap1, .slice p2 c.starts.length cap2, .int .i64 thr]) c t h0 h8 w' h HG.out
          have T4 := Lib.hid fun w' h => valueW_any (.agg #[.slice p1 c.caps.length cap1, .slice p2 c.starts.length cap2, .int .i64 thr]) c t h0 h8 w' h HG.out
          have U4 := Lib.hid fun w' h => rvalueW_any (.agg #[.slice p1 c.caps.length cap1, .slice p2 c.starts.length cap2, .int .i64 thr]) c t h0 h8 w' h HG.out
          rw [Int.add_zero] at T0
          generalize c.thrW t = tw at *
          go_upto_region 20 with fail
          have HVX := Lib.hid fun n : Ext wo => HVo.out.below n.below
          have X0x := ext_cell _ 0 (Nat.lt_of_lt_of_le hzW hzo) _ x0
          have X1x := ext_cell _ 1 (Nat.lt_of_lt_of_le hzW hzo) _ x1
          have X2x := ext_cell _ 2 (Nat.lt_of_lt_of_le hzW hzo) _ x2
          clear x0 x1 x2
          refine wp_region_ext wo (by kernel_rfl) (by kernel_rfl) (Below.refl _ _) ?_
          repeat (go_big_quiet_step (first
            | (go_at_call 43; with_reducible exact calls_ext (T0.out _ (HVX.out _)))
            | (go_at_call 45; with_reducible exact calls_ext (T1.out _ (HVX.out _)))
            | (go_at_call 47; with_reducible exact calls_ext (T2.out _ (HVX.out _)))
            | (go_at_call 49; with_reducible exact calls_ext (T3.out _ (HVX.out _)))
            | (go_at_call 51; with_reducible exact calls_ext (T4.out _ (HVX.out _)))
            | (go_at_call 44; with_reducible exact calls_ext (U0.out _ (HVX.out _)))
            | (go_at_call 46; with_reducible exact calls_ext (U1.out _ (HVX.out _)))
            | (go_at_call 48; with_reducible exact calls_ext (U2.out _ (HVX.out _)))
            | (go_at_call 50; with_reducible exact calls_ext (U3.out _ (HVX.out _)))
            | (go_at_call 52; with_reducible exact calls_ext (U4.out _ (HVX.out _)))))
          refine wpQuiet_nil ?_
          intro _ hw'
          obtain ⟨w2, rfl⟩ := hw'
          have HB2 := Lib.hid (below_then hb.out w2.below)
          generalize w2.wd = w4 at *
          clear X0x X1x X2x HVX T0 T1 T2 T3 T4 U0 U1 U2 U3 U4 hb SB HVo
          go_wp2_with fail
          go_loopw [10] (fun i wr => ∃ j : Nat, j ≤ 6 ∧ i = .int .i64 j ∧ Hid (Below W.heap.size W wr)) (fun i _ => 7 - (intOf i).toNat)
          case atStart => exact ⟨0, by omega, rfl, HB2⟩
          case round =>
            clear HB2
            obtain ⟨j, hj, rfl, hb⟩ := hrel
            obtain ⟨wo, rfl⟩ : ∃ wo : World, wo = wr := ⟨_, rfl⟩
            have hzo := hb.out.size
            have SB := Lib.hid ((hb.out.block B hzW).trans R7.out)
            have HVo := Lib.hid (HV.out.below hb.out)
            obtain ⟨x0, x1, x2⟩ := rowc3 SB.out
            by_cases hjl : j < 6
            · have T0 := Lib.hid fun w' h => outW_any (.agg #[.slice p1 c.caps.length cap1, .slice p2 c.starts.length cap2, .int .i64 thr]) c t j h0 h8 (by omega) (by omega) w' h HG.out
              have U0 := Lib.hid fun w' h => routW_any (.agg #[.slice p1 c.caps.length cap1, .slice p2 c.starts.length cap2, .int .i64 thr]) c t j h0 h8 (by omega) (by omega) w' h HG.out
              generalize c.thrW t = tw at *
              go_upto_region 25 with fail
              have HVX := Lib.hid fun n : Ext wo => HVo.out.below n.below
              have X0x := ext_cell _ 0 (Nat.lt_of_lt_of_le hzW hzo) _ x0
              have X1x := ext_cell _ 1 (Nat.lt_of_lt_of_le hzW hzo) _ x1
              have X2x := ext_cell _ 2 (Nat.lt_of_lt_of_le hzW hzo) _ x2
              clear x0 x1 x2
              refine wp_region_ext wo (by kernel_rfl) (by kernel_rfl) (Below.refl _ _) ?_
              repeat (go_big_quiet_step (first
                | (go_at_call 53; with_reducible exact calls_ext (T0.out _ (HVX.out _)))
                | (go_at_call 54; with_reducible exact calls_ext (U0.out _ (HVX.out _)))))
              refine wpQuiet_nil ?_
              intro _ hw'
              obtain ⟨w2, rfl⟩ := hw'
              have HB2 := Lib.hid (below_then hb.out w2.below)
              generalize w2.wd = w6 at *
              go_wp2
              go_roundw
              case rel => exact ⟨j + 1, by omega, by go_num, HB2⟩
              case measure => simp [intOf]; omega
            · go_wp2
              go_roundw
              case rel => exact ⟨t + 1, by omega, by go_num, hb⟩
              case measure => simp [intOf]; omega
        · have T0 := Lib.hid fun w' h => words_any (.agg #[.slice p1 c.caps.length cap1, .slice p2 c.starts.length cap2, .int .i64 thr]) c w' h HG.out
          have U0 := Lib.hid fun w' h => rwords_any (.agg #[.slice p1 c.caps.length cap1, .slice p2 c.starts.length cap2, .int .i64 thr]) c w' h HG.out
          generalize c.thrW c.threads = tw at *
          go_upto_region 27 with fail
          have HVX := Lib.hid fun n : Ext wo => HVo.out.below n.below
          have X0x := ext_cell _ 0 (Nat.lt_of_lt_of_le hzW hzo) _ x0
          have X1x := ext_cell _ 1 (Nat.lt_of_lt_of_le hzW hzo) _ x1
          have X2x := ext_cell _ 2 (Nat.lt_of_lt_of_le hzW hzo) _ x2
          clear x0 x1 x2
          refine wp_region_ext wo (by kernel_rfl) (by kernel_rfl) (Below.refl _ _) ?_
          repeat (go_big_quiet_step (first
            | (go_at_call 55; with_reducible exact calls_ext (T0.out _ (HVX.out _)))
            | (go_at_call 56; with_reducible exact calls_ext (U0.out _ (HVX.out _)))))
          refine wpQuiet_nil ?_
          intro _ hw'
          obtain ⟨w2, rfl⟩ := hw'
          have HB2 := Lib.hid (below_then HBW.out (below_then hb.out w2.below))
          generalize w2.wd = w6 at *
          go_wp2
          go_ret
          exact ⟨rfl, HB2.out⟩
set_option maxRecDepth 100000 in
theorem lifted (os : Os) (started : os.Started) (H : Type) (enc : TypeId × Value → H) :
    ReturnsInHanded {} Try.checked os 6 .any (Rows.layoutWordsSpec.pre6 enc Try.prog Try.f6 Rows.layoutWordsRow.domain false) (Rows.layoutWordsSpec.post enc Try.prog Try.f6 false true false false) := by
  refine returnsInHanded_of_change_sized (C := Try.checked) own started (by kernel_rfl) Try.func6
    (ChangeSpec.witness6 (enc := enc) (C := Try.checked) false ⟨#[], #[.slice none 0 0, .int .u64 0], []⟩ 8 (by kernel_rfl) (by kernel_rfl) (by kernel_rfl) (by kernel_rfl)) ?_
  intro W base args ds gs before hval0 hW _ hsz0 _
  have hsz : (DataW.weightsEach Try.prog (Try.f6.params.toList ++ Rows.layoutWordsSpec.plain.varTypes Try.prog) (ds ++ gs)).all (· ≤ reachBytes) = true := hsz0
  clear hsz0
  have hval : ∀ (j : Nat) t v, Try.f6.params[j]? = some t → args[j]? = some v → Value.okWide Try.prog W .any base t v := hval0
  have hW' := hW
  obtain ⟨p, q, hA0, hV, rfl, _, _⟩ := hW
  have hA : DataW.TrodAll enc Try.prog W 0 (fun _ => true) true Try.f6.params.toList args.toList ds p := hA0
  rw [Try.params6] at hA hval hsz
  obtain ⟨v0, vs0, d0, ds0, p0, q0, hargs, rfl, rfl, h0, r0⟩ := trodAll_cons hA
  obtain ⟨v1, vs1, d1, ds1, p1, q1, rfl, rfl, rfl, h1, r1⟩ := trodAll_cons r0
  obtain ⟨rfl, rfl, rfl⟩ := trodAll_nil r1
  obtain rfl : args = #[v0, v1] := by cases args; simp_all
  obtain ⟨rfl, rfl⟩ := trodVars_none hV
  have k0 := h0
  have k1 := h1
  obtain ⟨l0, s0⟩ := view_sl (k := .u8) Try.underlying29 Try.underlying5 (by kernel_rfl) (fun elems sp hd => sized_slice hsz (j := 0) (t := 29) (e := 5) rfl (by rw [hd]; rfl) Try.underlying29) (of_decide_eq_true (by kernel_rfl)) (hval 0 29 v0 rfl rfl) h0
  obtain ⟨a1, rfl, -, -, w1⟩ := open_int Try.underlying26 (hval 1 26 v1 rfl rfl) h1
  clear hA0 hval0
  simp only [List.append_nil] at hW'
  have hlt := hW'.lt
  refine (walk W v0 l0 s0 a1 w1).mono fun e W' ⟨he, hb⟩ => ?_
  subst he
  exact ⟨_, rfl, _, _, _, [], _, [], hW', trodAll_cons_mk (shut_bool Try.underlying4 _) trodAll_mk0, (trodAll_cons_mk (Below.trod Try.laidOut (by kernel_rfl) (of_decide_eq_true (by kernel_rfl)) k0 hb (fun x hx => by simpa using hlt x (by simp [hx]))) (trodAll_cons_mk (Below.trod Try.laidOut (by kernel_rfl) (of_decide_eq_true (by kernel_rfl)) k1 hb (fun x hx => by simpa using hlt x (by simp [hx]))) trodAll_mk0)), rfl, hb.frame _, fun h => by cases h⟩
theorem over : Rows.layoutWordsRow.holds Try.pinned (OpenSpec.ofChange Rows.layoutWordsSpec) :=
  OpenClaim.holds_of_wide 6 Try.f6 rfl rfl rfl rfl rfl rfl rfl ⟨rfl, rfl, rfl, rfl, rfl⟩ rfl rfl rfl rfl rfl (by kernel_rfl) Try.func6 (by kernel_rfl)
    (of_decide_eq_true (by kernel_rfl)) (by unfold Func.isWrapper; first | (rw [if_pos (by decide +kernel)]; kernel_rfl) | (rw [if_neg (by decide +kernel)]; exact ⟨rfl, rfl⟩))
    (fun os started H enc _ => lifted os started H enc)
/-- THE STATEMENT -/
theorem proved : Rows.LayoutWordsSaid :=
  over
end Go.Proofs.Ytgdgneciagbikaa.layoutWords
