/- Proved: LayoutDistinct returns true, and its argument reads afterwards as before, for every list of codes; no condition. -/
import Derived.Test.YtgdgneciagbikaaLaw
import Derived.Test.YtgdgneciagbikaaL5Mark
import Derived.Test.YtgdgneciagbikaaLawOp
import Derived.Test.YtgdgneciagbikaaStill
import Derived.Deep.DeepCutAuto
import Derived.LoopTactic
import Derived.WalkKit
import Derived.ProofKit
import Derived.OpenShut
import Derived.SizedLaws
namespace Go.Proofs.Ytgdgneciagbikaa.layoutDistinct
open Go.ChangeShapes Go.WideShapes Go.ChangeAt Go.RowKit
set_option linter.unusedVariables false
set_option maxRecDepth 100000 in
set_option maxHeartbeats 8000000 in
theorem walk (w : World) (v0 : Value) (l0 : List Int) (s0 : SlI w .u8 v0 l0) :
    Calls Try.prog 7 #[v0] w fun e w' => e = .returned (.bool true) ∧ Below w.heap.size w w' := by
  have AW := Lib.hid fun w' => awake5_any w'
  have HS0 := Lib.hid s0
  clear s0
  go_enter Try.func7, Try.ntmps7
  go_wp2_with fail
  refine (AW.out _).mono ?_; rintro e wa ⟨rfl, hba⟩
  have HBA := Lib.hid hba
  clear hba AW
  go_wp2_with fail
  refine (new_any _ l0 60 _ (HS0.out.below HBA.out) (by omega)).mono ?_; rintro e wb ⟨rfl, hcb, hbb⟩
  have HBB := Lib.hid (below_then HBA.out hbb)
  have hgz := HBA.out.size
  have HCB : Hid (CodesE wb wa.heap.size) := ⟨_, _, hcb⟩
  clear hcb hbb HS0
  generalize wa.heap.size = g at *
  go_wp2_with fail
  refine (wideE2 g _ HCB.out).mono ?_; rintro e w3 ⟨v, c, rfl, hcx, hgood, hc3, hg3⟩
  have HB3 : Hid (Below w.heap.size w w3) := (HBB.out).grown hg3 HBB.out.size (fun k hk => by cases hk; exact hgz)
  have HC3 := Lib.hid hcx.conf
  obtain ⟨vc, vs, rfl, hs1, hs2, -, -⟩ := hcx
  obtain ⟨p1, cap1, rfl, -⟩ := hs1.len
  obtain ⟨p2, cap2, rfl, -⟩ := hs2.len
  have HG := Lib.hid hgood
  have hn8 := hgood.len
  clear hc3 hg3 HCB HBB HBA hs1 hs2 hgood
  have N7 : Hid ((w3.alloc (.cells zeroConf 49)).heap[w3.heap.size]? = some (.cells zeroConf 49 (0, 0))) := heap_alloc_new _ _
  obtain ⟨W, hW⟩ : ∃ W, (w3.alloc (.cells zeroConf 49)).setRow w3.heap.size #[.slice p1 c.caps.length cap1, .slice p2 c.starts.length cap2, .int .i64 c.threads] = W := ⟨_, rfl⟩
  have HB34 : Hid (Below w3.heap.size w3 W) := hW ▸ row_below (below_new (Below.refl _ _) _) (Nat.le_refl _) _
  have R7 : Hid (W.heap[w3.heap.size]? = some (.cells #[.slice p1 c.caps.length cap1, .slice p2 c.starts.length cap2, .int .i64 c.threads] 49 (0, 0))) := hW ▸ setRow_heap _ _ _ _ _ (0, 0) N7.out
  have hzW : w3.heap.size < W.heap.size := by rw [← hW]; simp
  have HBW := Lib.hid (below_then HB3.out HB34.out)
  have HV := Lib.hid (HC3.out.below HB34.out)
  have HW := Lib.hid hW
  clear hW HB34 HC3 HB3
  go_upto_region 4 with (refine wpList_store_row rfl 49 _ _ rfl (w3.heap.size) _ rfl rfl 49 zeroConf N7.out (by kernel_rfl) rfl (by simp [Value.oneCell']) ?_)
  rw [show (#[.slice none 0 0, .slice none 0 0, .int .i64 0] : Array Value) = zeroConf from rfl, HW.out]
  clear HW N7
  generalize w3.heap.size = B at *
  have TW := Lib.hid fun w' h => words_any (.agg #[.slice p1 c.caps.length cap1, .slice p2 c.starts.length cap2, .int .i64 c.threads]) c w' h HG.out
  obtain ⟨x0, x1, x2⟩ := rowc3 R7.out
  go_wp2_with fail
  refine (TW.out _ HV.out).mono ?_; rintro e w4 ⟨rfl, hb4⟩
  have htt := HG.out.thr8 c.threads (by have := HG.out.thr; omega) HG.out.thr.2
  obtain ⟨t, ht⟩ : ∃ t : Nat, c.thrW c.threads = t := ⟨(c.thrW c.threads).toNat, by omega⟩
  rw [ht] at htt
  rw [ht]
  have HT := Lib.hid ht
  clear ht TW
  have T0 : Hid ((w4.alloc (.cells #[.int .i64 t] 3)).heap[w4.heap.size]? = some (.cells #[.int .i64 t] 3 (0, 0))) := heap_alloc_new _ _
  go_wp2_with (at_make; refine wp_make_bool (w4.alloc (.cells #[.int .i64 t] 3)) rfl _ _ rfl t _ _ rfl rfl ?_ ?_ ?_ ?_; rfl; rfl; omega; intro w6 ho6 hb6)
  simp only [World.size_alloc] at ho6 hb6
  have MI := Lib.hid (MarkI.start hb4 hb6 ho6)
  have hbn := HG.out.base8 c.caps.length (Nat.le_refl _)
  have hth := HG.out.thr
  have hte : (t : Int) = c.base c.caps.length + c.threads * 11 := HT.out.symm
  obtain ⟨bn, hbne⟩ : ∃ bn : Nat, c.base c.caps.length = bn := ⟨(c.base c.caps.length).toNat, by omega⟩
  rw [hbne] at hbn hte
  have HBN := Lib.hid hbne
  have HTE := Lib.hid hte
  have htb : (bn : Int) + 11 ≤ t ∧ (t : Int) ≤ 384 := by omega
  clear hte hbne T0 hb4 hb6 ho6 x0 x1 x2 HT
  generalize (w6.alloc (.cells #[.slice (some ⟨w4.heap.size + 1, 0, none⟩) t t] 60)).alloc (.cells #[.int .i64 0] 3) = w8 at *
  generalize w6.heap.size + 1 = N at *
  generalize w6.heap.size = S at *
  generalize w4.heap.size + 1 = X at *
  generalize w4.heap.size = T at *
  go_loopw [8] (fun i wr => ∃ k m : Nat, k ≤ c.caps.length ∧ i = .int .i64 k ∧ Hid (c.base k = m) ∧ Hid (MarkI W wr W.heap.size T S N X t m)) (fun i _ => 9 - (intOf i).toNat)
  case atStart => exact ⟨0, 0, by omega, rfl, (rfl : c.base 0 = 0), MI⟩
  case round =>
    clear MI
    obtain ⟨k, m, hk, rfl, hm, MI⟩ := hrel
    obtain ⟨wo, rfl⟩ : ∃ wo : World, wo = wr := ⟨_, rfl⟩
    have SB := Lib.hid ((MI.out.below.block B hzW).trans R7.out)
    obtain ⟨x0, x1, x2⟩ := rowc3 SB.out
    by_cases hlt : k < c.caps.length
    · have hmono := HG.out.mono k hlt
      have hsz := HG.out.size k hlt
      obtain ⟨z, hz⟩ : ∃ z : Nat, c.size k = z := ⟨(c.size k).toNat, by omega⟩
      rw [HBN.out, hm.out, hz] at hmono
      rw [hz] at hsz
      have HZ := Lib.hid hz
      have HKC := Lib.hid hlt
      clear hz
      have T0 := Lib.hid fun w' h => tailW_any (.agg #[.slice p1 c.caps.length cap1, .slice p2 c.starts.length cap2, .int .i64 c.threads]) c k hlt w' h HG.out
      have T1 := Lib.hid fun w' h => headW_any (.agg #[.slice p1 c.caps.length cap1, .slice p2 c.starts.length cap2, .int .i64 c.threads]) c k hlt w' h HG.out
      have T2 := Lib.hid fun w' h => lockW_any (.agg #[.slice p1 c.caps.length cap1, .slice p2 c.starts.length cap2, .int .i64 c.threads]) c k hlt w' h HG.out
      have T3 := Lib.hid fun w' h => receiversW_any (.agg #[.slice p1 c.caps.length cap1, .slice p2 c.starts.length cap2, .int .i64 c.threads]) c k hlt w' h HG.out
      have T4 := Lib.hid fun w' h => sendersW_any (.agg #[.slice p1 c.caps.length cap1, .slice p2 c.starts.length cap2, .int .i64 c.threads]) c k hlt w' h HG.out
      rw [hm.out] at T0 T1 T2 T3 T4
      rw [Int.add_zero] at T0
      go_wp2_with fail
      refine (T0.out _ (HV.out.below MI.out.below)).mono ?_; rintro e wi ⟨rfl, hbi⟩
      have MI1 := Lib.hid (MI.out.next hbi)
      clear hbi MI SB x0 x1 x2
      go_wp2_with fail
      refine (mark_at W _ _ _ _ _ _ _ (m) _ MI1.out (by omega) (by omega) (by omega)).mono ?_; rintro e wj ⟨rfl, mij⟩
      have MI := Lib.hid mij
      have SB := Lib.hid ((MI.out.below.block B hzW).trans R7.out)
      obtain ⟨x0, x1, x2⟩ := rowc3 SB.out
      clear mij MI1 T0
      go_wp2_with fail
      refine (T1.out _ (HV.out.below MI.out.below)).mono ?_; rintro e wi ⟨rfl, hbi⟩
      have MI1 := Lib.hid (MI.out.next hbi)
      clear hbi MI SB x0 x1 x2
      go_wp2_with fail
      refine (mark_at W _ _ _ _ _ _ _ (m + 1) _ MI1.out (by omega) (by omega) (by omega)).mono ?_; rintro e wj ⟨rfl, mij⟩
      have MI := Lib.hid mij
      have SB := Lib.hid ((MI.out.below.block B hzW).trans R7.out)
      obtain ⟨x0, x1, x2⟩ := rowc3 SB.out
      clear mij MI1 T1
      go_wp2_with fail
      refine (T2.out _ (HV.out.below MI.out.below)).mono ?_; rintro e wi ⟨rfl, hbi⟩
      have MI1 := Lib.hid (MI.out.next hbi)
      clear hbi MI SB x0 x1 x2
      go_wp2_with fail
      refine (mark_at W _ _ _ _ _ _ _ (m + 1 + 1) _ MI1.out (by omega) (by omega) (by omega)).mono ?_; rintro e wj ⟨rfl, mij⟩
      have MI := Lib.hid mij
      have SB := Lib.hid ((MI.out.below.block B hzW).trans R7.out)
      obtain ⟨x0, x1, x2⟩ := rowc3 SB.out
      clear mij MI1 T2
      go_wp2_with fail
      refine (T3.out _ (HV.out.below MI.out.below)).mono ?_; rintro e wi ⟨rfl, hbi⟩
      have MI1 := Lib.hid (MI.out.next hbi)
      clear hbi MI SB x0 x1 x2
      go_wp2_with fail
      refine (mark_at W _ _ _ _ _ _ _ (m + 1 + 1 + 1) _ MI1.out (by omega) (by omega) (by omega)).mono ?_; rintro e wj ⟨rfl, mij⟩
      have MI := Lib.hid mij
      have SB := Lib.hid ((MI.out.below.block B hzW).trans R7.out)
      obtain ⟨x0, x1, x2⟩ := rowc3 SB.out
      clear mij MI1 T3
      go_wp2_with fail
      refine (T4.out _ (HV.out.below MI.out.below)).mono ?_; rintro e wi ⟨rfl, hbi⟩
      have MI1 := Lib.hid (MI.out.next hbi)
      clear hbi MI SB x0 x1 x2
      go_wp2_with fail
      refine (mark_at W _ _ _ _ _ _ _ (m + 1 + 1 + 1 + 1) _ MI1.out (by omega) (by omega) (by omega)).mono ?_; rintro e wj ⟨rfl, mij⟩
      have MI := Lib.hid mij
      have SB := Lib.hid ((MI.out.below.block B hzW).trans R7.out)
      obtain ⟨x0, x1, x2⟩ := rowc3 SB.out
      clear mij MI1 T4
      have MI5 : Hid (MarkI W wj W.heap.size T S N X t (m + 5 + 2 * 0)) := MI
      clear MI SB x0 x1 x2
      go_wp2_with fail
      go_loopw [9] (fun i wr => ∃ s : Nat, s ≤ z ∧ i = .int .i64 s ∧ Hid (MarkI W wr W.heap.size T S N X t (m + 5 + 2 * s))) (fun i _ => 17 - (intOf i).toNat)
      case atStart => exact ⟨0, by omega, rfl, MI5⟩
      case round =>
        clear MI5
        obtain ⟨s, hs, rfl, MI⟩ := hrel
        obtain ⟨wo, rfl⟩ : ∃ wo : World, wo = wr := ⟨_, rfl⟩
        have SB := Lib.hid ((MI.out.below.block B hzW).trans R7.out)
        obtain ⟨x0, x1, x2⟩ := rowc3 SB.out
        have HVo := HV.out.below MI.out.below
        obtain ⟨vc', vs', ev, hsc, hss⟩ := HVo
        simp only [Value.agg.injEq, Array.mk.injEq, List.cons.injEq, and_true] at ev
        obtain ⟨rfl, rfl⟩ := ev
        obtain ⟨bs, off, rfl, hbs, hcs⟩ := hsc.cellAt k HKC.out
        have hcb := HG.out.cap k HKC.out
        have TS := Lib.hid fun w' => rsize_any (c.caps.getD k 0) w' (by omega) (by omega)
        rw [show sizeI (c.caps.getD k 0) = (z : Int) from HZ.out] at TS
        obtain ⟨ck, hck⟩ : ∃ ck, c.caps.getD k 0 = ck := ⟨_, rfl⟩
        rw [hck] at TS hcs
        clear hsc hss hck hcb
        have hkl := HKC.out
        go_wp2_with fail
        refine (TS.out _).mono ?_; rintro e wi ⟨rfl, rfl⟩
        by_cases hsl : s < z
        · have T0 := Lib.hid fun w' h => slotSeqW_any (.agg #[.slice (some ⟨bs, off, none⟩) c.caps.length cap1, .slice p2 c.starts.length cap2, .int .i64 c.threads]) c k s HKC.out (by omega) (by omega) w' h HG.out
          have T1 := Lib.hid fun w' h => slotValueW_any (.agg #[.slice (some ⟨bs, off, none⟩) c.caps.length cap1, .slice p2 c.starts.length cap2, .int .i64 c.threads]) c k s HKC.out (by omega) (by omega) w' h HG.out
          rw [slotW_eq, hm.out, HZ.out, slotI_id _ _ (by omega) (by omega) (by omega)] at T0 T1
          go_wp2_with fail
          refine (T0.out _ (HV.out.below MI.out.below)).mono ?_; rintro e wi ⟨rfl, hbi⟩
          have MI1 := Lib.hid (MI.out.next hbi)
          clear hbi MI SB x0 x1 x2
          go_wp2_with fail
          refine (mark_at W _ _ _ _ _ _ _ (m + 5 + 2 * s) _ MI1.out (by omega) (by omega) (by omega)).mono ?_; rintro e wj ⟨rfl, mij⟩
          have MI := Lib.hid mij
          have SB := Lib.hid ((MI.out.below.block B hzW).trans R7.out)
          obtain ⟨x0, x1, x2⟩ := rowc3 SB.out
          clear mij MI1 T0
          go_wp2_with fail
          refine (T1.out _ (HV.out.below MI.out.below)).mono ?_; rintro e wi ⟨rfl, hbi⟩
          have MI1 := Lib.hid (MI.out.next hbi)
          clear hbi MI SB x0 x1 x2
          go_wp2_with fail
          refine (mark_at W _ _ _ _ _ _ _ (m + 5 + 2 * s + 1) _ MI1.out (by omega) (by omega) (by omega)).mono ?_; rintro e wj ⟨rfl, mij⟩
          have MI := Lib.hid mij
          have SB := Lib.hid ((MI.out.below.block B hzW).trans R7.out)
          obtain ⟨x0, x1, x2⟩ := rowc3 SB.out
          clear mij MI1 T1
          have MI2 : Hid (MarkI W wj W.heap.size T S N X t (m + 5 + 2 * (s + 1))) := MI
          clear x0 x1 x2 SB MI
          go_wp2
          go_roundw
          case rel => exact ⟨s + 1, by omega, by go_num, MI2⟩
          case measure => simp [intOf]; omega
        · obtain rfl : s = z := by omega
          have hb1 : c.base (k + 1) = ((m + 5 + 2 * s : Nat) : Int) := by
            show c.base k + (5 + c.size k * 2) = _
            rw [hm.out, HZ.out]; omega
          have HB1 := Lib.hid hb1
          clear hb1
          go_wp2
          go_roundw
          case rel => exact ⟨k + 1, m + 5 + 2 * s, by omega, by go_num, HB1, MI⟩
          case measure => simp [intOf]; omega
    · obtain rfl : k = c.caps.length := by omega
      obtain rfl : m = bn := by have := hm.out; have := HBN.out; omega
      clear hk hlt
      generalize hthe : c.threads = thr at *
      have HTH := Lib.hid hthe
      clear hthe
      go_wp2_with fail
      go_loopw [10] (fun i wr => ∃ q : Nat, (q : Int) ≤ thr ∧ i = .int .i64 q ∧ Hid (MarkI W wr W.heap.size T S N X t (m + 11 * q))) (fun i _ => 9 - (intOf i).toNat)
      case atStart => exact ⟨0, by omega, rfl, MI⟩
      case round =>
        clear x0 x1 x2 SB MI
        obtain ⟨q, hq, rfl, MI⟩ := hrel
        obtain ⟨wo, rfl⟩ : ∃ wo : World, wo = wr := ⟨_, rfl⟩
        have SB := Lib.hid ((MI.out.below.block B hzW).trans R7.out)
        obtain ⟨x0, x1, x2⟩ := rowc3 SB.out
        by_cases hql : (q : Int) < thr
        · have h0 : (0 : Int) ≤ q := by omega
          have h8 : (q : Int) ≤ 8 := by omega
          have hqt : (m : Int) + 11 * q + 11 ≤ t := by have := HTE.out; have := HTH.out; omega
          have HTQ : Hid (c.thrW q = (m : Int) + q * 11) := by
            show c.base c.caps.length + q * 11 = _
            rw [hm.out]
          have T0 := Lib.hid fun w' h => claimW_any (.agg #[.slice p1 c.caps.length cap1, .slice p2 c.starts.length cap2, .int .i64 thr]) c q h0 h8 w' h HG.out
          have T1 := Lib.hid fun w' h => flagW_any (.agg #[.slice p1 c.caps.length cap1, .slice p2 c.starts.length cap2, .int .i64 thr]) c q h0 h8 w' h HG.out
          have T2 := Lib.hid fun w' h => kindW_any (.agg #[.slice p1 c.caps.length cap1, .slice p2 c.starts.length cap2, .int .i64 thr]) c q h0 h8 w' h HG.out
          have T3 := Lib.hid fun w' h => caseW_any (.agg #[.slice p1 c.caps.length cap1, .slice p2 c.starts.length cap2, .int .i64 thr]) c q h0 h8 w' h HG.out
          have T4 := Lib.hid fun w' h => valueW_any (.agg #[.slice p1 c.caps.length cap1, .slice p2 c.starts.length cap2, .int .i64 thr]) c q h0 h8 w' h HG.out
          rw [HTQ.out] at T0 T1 T2 T3 T4
          rw [Int.add_zero] at T0
          go_wp2_with fail
          refine (T0.out _ (HV.out.below MI.out.below)).mono ?_; rintro e wi ⟨rfl, hbi⟩
          have MI1 := Lib.hid (MI.out.next hbi)
          clear hbi MI SB x0 x1 x2
          go_wp2_with fail
          refine (mark_at W _ _ _ _ _ _ _ (m + 11 * q) _ MI1.out (by omega) (by omega) (by omega)).mono ?_; rintro e wj ⟨rfl, mij⟩
          have MI := Lib.hid mij
          have SB := Lib.hid ((MI.out.below.block B hzW).trans R7.out)
          obtain ⟨x0, x1, x2⟩ := rowc3 SB.out
          clear mij MI1 T0
          go_wp2_with fail
          refine (T1.out _ (HV.out.below MI.out.below)).mono ?_; rintro e wi ⟨rfl, hbi⟩
          have MI1 := Lib.hid (MI.out.next hbi)
          clear hbi MI SB x0 x1 x2
          go_wp2_with fail
          refine (mark_at W _ _ _ _ _ _ _ (m + 11 * q + 1) _ MI1.out (by omega) (by omega) (by omega)).mono ?_; rintro e wj ⟨rfl, mij⟩
          have MI := Lib.hid mij
          have SB := Lib.hid ((MI.out.below.block B hzW).trans R7.out)
          obtain ⟨x0, x1, x2⟩ := rowc3 SB.out
          clear mij MI1 T1
          go_wp2_with fail
          refine (T2.out _ (HV.out.below MI.out.below)).mono ?_; rintro e wi ⟨rfl, hbi⟩
          have MI1 := Lib.hid (MI.out.next hbi)
          clear hbi MI SB x0 x1 x2
          go_wp2_with fail
          refine (mark_at W _ _ _ _ _ _ _ (m + 11 * q + 1 + 1) _ MI1.out (by omega) (by omega) (by omega)).mono ?_; rintro e wj ⟨rfl, mij⟩
          have MI := Lib.hid mij
          have SB := Lib.hid ((MI.out.below.block B hzW).trans R7.out)
          obtain ⟨x0, x1, x2⟩ := rowc3 SB.out
          clear mij MI1 T2
          go_wp2_with fail
          refine (T3.out _ (HV.out.below MI.out.below)).mono ?_; rintro e wi ⟨rfl, hbi⟩
          have MI1 := Lib.hid (MI.out.next hbi)
          clear hbi MI SB x0 x1 x2
          go_wp2_with fail
          refine (mark_at W _ _ _ _ _ _ _ (m + 11 * q + 1 + 1 + 1) _ MI1.out (by omega) (by omega) (by omega)).mono ?_; rintro e wj ⟨rfl, mij⟩
          have MI := Lib.hid mij
          have SB := Lib.hid ((MI.out.below.block B hzW).trans R7.out)
          obtain ⟨x0, x1, x2⟩ := rowc3 SB.out
          clear mij MI1 T3
          go_wp2_with fail
          refine (T4.out _ (HV.out.below MI.out.below)).mono ?_; rintro e wi ⟨rfl, hbi⟩
          have MI1 := Lib.hid (MI.out.next hbi)
          clear hbi MI SB x0 x1 x2
          go_wp2_with fail
          refine (mark_at W _ _ _ _ _ _ _ (m + 11 * q + 1 + 1 + 1 + 1) _ MI1.out (by omega) (by omega) (by omega)).mono ?_; rintro e wj ⟨rfl, mij⟩
          have MI := Lib.hid mij
          have SB := Lib.hid ((MI.out.below.block B hzW).trans R7.out)
          obtain ⟨x0, x1, x2⟩ := rowc3 SB.out
          clear mij MI1 T4
          have MI5 : Hid (MarkI W wj W.heap.size T S N X t (m + 11 * q + 5 + 0)) := MI
          clear MI SB x0 x1 x2
          go_wp2_with fail
          go_loopw [11] (fun i wr => ∃ j : Nat, j ≤ 6 ∧ i = .int .i64 j ∧ Hid (MarkI W wr W.heap.size T S N X t (m + 11 * q + 5 + j))) (fun i _ => 7 - (intOf i).toNat)
          case atStart => exact ⟨0, by omega, rfl, MI5⟩
          case round =>
            clear MI5
            obtain ⟨j, hj, rfl, MI⟩ := hrel
            obtain ⟨wo, rfl⟩ : ∃ wo : World, wo = wr := ⟨_, rfl⟩
            have SB := Lib.hid ((MI.out.below.block B hzW).trans R7.out)
            obtain ⟨x0, x1, x2⟩ := rowc3 SB.out
            by_cases hjl : j < 6
            · have T0 := Lib.hid fun w' h => outW_any (.agg #[.slice p1 c.caps.length cap1, .slice p2 c.starts.length cap2, .int .i64 thr]) c q j h0 h8 (by omega) (by omega) w' h HG.out
              rw [HTQ.out] at T0
              go_wp2_with fail
              refine (T0.out _ (HV.out.below MI.out.below)).mono ?_; rintro e wi ⟨rfl, hbi⟩
              have MI1 := Lib.hid (MI.out.next hbi)
              clear hbi MI SB x0 x1 x2
              go_wp2_with fail
              refine (mark_at W _ _ _ _ _ _ _ (m + 11 * q + 5 + j) _ MI1.out (by omega) (by omega) (by omega)).mono ?_; rintro e wj ⟨rfl, mij⟩
              have MI := Lib.hid mij
              have SB := Lib.hid ((MI.out.below.block B hzW).trans R7.out)
              obtain ⟨x0, x1, x2⟩ := rowc3 SB.out
              clear mij MI1 T0
              clear x0 x1 x2 SB
              go_wp2
              go_roundw
              case rel => exact ⟨j + 1, by omega, by go_num, MI⟩
              case measure => simp [intOf]; omega
            · obtain rfl : j = 6 := by omega
              have MI2 : Hid (MarkI W wo W.heap.size T S N X t (m + 11 * (q + 1))) := MI
              clear x0 x1 x2 SB MI
              go_wp2
              go_roundw
              case rel => exact ⟨q + 1, by omega, by go_num, MI2⟩
              case measure => simp [intOf]; omega
        · have hqe : m + 11 * q = t := by have := HTE.out; have := HTH.out; omega
          rw [hqe] at MI
          have y0 := cell_of_row _ _ 0 _ _ _ MI.out.tot
          have y1 := cell_of_row _ _ 0 _ _ _ MI.out.cnt
          have HFIN := Lib.hid (HBW.out.trans (MI.out.below.mono HBW.out.size))
          go_wp2
          go_ret
          exact ⟨rfl, HFIN.out⟩
set_option maxRecDepth 100000 in
theorem lifted (os : Os) (started : os.Started) (H : Type) (enc : TypeId × Value → H) :
    ReturnsInHanded {} Try.checked os 7 .any (Rows.layoutDistinctSpec.pre6 enc Try.prog Try.f7 Rows.layoutDistinctRow.domain false) (Rows.layoutDistinctSpec.post enc Try.prog Try.f7 false true false false) := by
  refine returnsInHanded_of_change_sized (C := Try.checked) own started (by kernel_rfl) Try.func7
    (ChangeSpec.witness6 (enc := enc) (C := Try.checked) false ⟨#[], #[.slice none 0 0], []⟩ 8 (by kernel_rfl) (by kernel_rfl) (by kernel_rfl) (by kernel_rfl)) ?_
  intro W base args ds gs before hval0 hW _ hsz0 _
  have hsz : (DataW.weightsEach Try.prog (Try.f7.params.toList ++ Rows.layoutDistinctSpec.plain.varTypes Try.prog) (ds ++ gs)).all (· ≤ reachBytes) = true := hsz0
  clear hsz0
  have hval : ∀ (j : Nat) t v, Try.f7.params[j]? = some t → args[j]? = some v → Value.okWide Try.prog W .any base t v := hval0
  have hW' := hW
  obtain ⟨p, q, hA0, hV, rfl, _, _⟩ := hW
  have hA : DataW.TrodAll enc Try.prog W 0 (fun _ => true) true Try.f7.params.toList args.toList ds p := hA0
  rw [Try.params7] at hA hval hsz
  obtain ⟨v0, vs0, d0, ds0, p0, q0, hargs, rfl, rfl, h0, r0⟩ := trodAll_cons hA
  obtain ⟨rfl, rfl, rfl⟩ := trodAll_nil r0
  obtain rfl : args = #[v0] := by cases args; simp_all
  obtain ⟨rfl, rfl⟩ := trodVars_none hV
  have k0 := h0
  obtain ⟨l0, s0⟩ := view_sl (k := .u8) Try.underlying29 Try.underlying5 (by kernel_rfl) (fun elems sp hd => sized_slice hsz (j := 0) (t := 29) (e := 5) rfl (by rw [hd]; rfl) Try.underlying29) (of_decide_eq_true (by kernel_rfl)) (hval 0 29 v0 rfl rfl) h0
  clear hA0 hval0
  simp only [List.append_nil] at hW'
  have hlt := hW'.lt
  refine (walk W v0 l0 s0).mono fun e W' ⟨he, hb⟩ => ?_
  subst he
  exact ⟨_, rfl, _, _, _, [], _, [], hW', trodAll_cons_mk (shut_bool Try.underlying4 _) trodAll_mk0, (trodAll_cons_mk (Below.trod Try.laidOut (by kernel_rfl) (of_decide_eq_true (by kernel_rfl)) k0 hb (fun x hx => by simpa using hlt x (by simp [hx]))) trodAll_mk0), rfl, hb.frame _, fun h => by cases h⟩
theorem over : Rows.layoutDistinctRow.holds Try.pinned (OpenSpec.ofChange Rows.layoutDistinctSpec) :=
  OpenClaim.holds_of_wide 7 Try.f7 rfl rfl rfl rfl rfl rfl rfl ⟨rfl, rfl, rfl, rfl, rfl⟩ rfl rfl rfl rfl rfl (by kernel_rfl) Try.func7 (by kernel_rfl)
    (of_decide_eq_true (by kernel_rfl)) (by unfold Func.isWrapper; first | (rw [if_pos (by decide +kernel)]; kernel_rfl) | (rw [if_neg (by decide +kernel)]; exact ⟨rfl, rfl⟩))
    (fun os started H enc _ => lifted os started H enc)
/-- THE STATEMENT -/
theorem proved : Rows.LayoutDistinctSaid :=
  over
end Go.Proofs.Ytgdgneciagbikaa.layoutDistinct
