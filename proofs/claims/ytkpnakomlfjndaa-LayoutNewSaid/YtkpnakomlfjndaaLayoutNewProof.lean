/- Proved: LayoutNew returns true, and its arguments read afterwards as before, for every configuration raw and every list of codes; no condition. -/
import Derived.Test.YtkpnakomlfjndaaLaw
import Derived.Test.YtkpnakomlfjndaaLawCf
import Derived.Test.YtkpnakomlfjndaaL5Chk
import Derived.Test.YtkpnakomlfjndaaLawCf
import Derived.Test.YtkpnakomlfjndaaStill
import Derived.Test.YtkpnakomlfjndaaLyR
import Derived.Test.YtkpnakomlfjndaaMmS
import Derived.Deep.DeepCutAuto
import Derived.Deep.CutBlock
import Derived.Deep.LoopGhost
import Derived.LoopTactic
import Derived.WalkKit
import Derived.ProofKit
import Derived.OpenShut
import Derived.SizedLaws
namespace Go.Proofs.Ytkpnakomlfjndaa.layoutNew
open Go.ChangeShapes Go.WideShapes Go.ChangeAt Go.RowKit
set_option linter.unusedVariables false
set_option maxRecDepth 100000 in
set_option maxHeartbeats 16000000 in
theorem walk (w : World) (v0 : Value) (c0 : ConfM) (s0 : ConfV w v0 c0) (o0 : c0.threads = IntKind.i64.wrap c0.threads) (v1 : Value) (l1 : List Int) (s1 : SlI w .u8 v1 l1) :
    Calls Try.prog 5 #[v0, v1] w fun e w' => e = .returned (.bool true) ∧ Below w.heap.size w w' := by
  have AW := Lib.hid fun w' => awake5_any w'
  have HS0 := Lib.hid s0
  have HS1 := Lib.hid s1
  have hw0 := s0
  obtain ⟨rc0, rs0, rfl, hr1, hr2⟩ := s0
  have hrl1 := hr1.1
  have hrl2 := hr2.1
  obtain ⟨pr, cr, rfl, -⟩ := hr1.len
  obtain ⟨ps, csr, rfl, -⟩ := hr2.len
  clear s1 o0 hr1 hr2
  obtain ⟨W, hW⟩ : ∃ W, w.alloc (.cells #[.slice pr c0.caps.length cr, .slice ps c0.starts.length csr, .int .i64 c0.threads] 46) = W := ⟨_, rfl⟩
  have HB : Hid (Below w.heap.size w W) := hW ▸ below_new (Below.refl w.heap.size w) _
  have R0 : Hid (W.heap[w.heap.size]? = some (.cells #[.slice pr c0.caps.length cr, .slice ps c0.starts.length csr, .int .i64 c0.threads] 46 (0, 0))) := hW ▸ heap_alloc_new _ _
  have hzW : w.heap.size < W.heap.size := by rw [← hW]; simp
  have HW := Lib.hid hW
  clear hW hw0
  go_enter Try.func5, Try.ntmps5
  go_upto_region 1 with fail
  rw [HW.out]
  clear HW
  go_wp2_with fail
  refine (AW.out _).mono ?_; rintro e wa ⟨rfl, hba⟩
  have HBA := Lib.hid (HB.out.trans (hba.mono (Nat.le_of_lt hzW)))
  have RA := Lib.hid ((hba.block w.heap.size hzW).trans R0.out)
  have hza : w.heap.size < wa.heap.size := Nat.lt_of_lt_of_le hzW hba.size
  clear hba AW HB R0 hzW
  obtain ⟨x0, x1, x2⟩ := rowc3 RA.out
  by_cases hn : 20 < c0.caps.length
  · go_wp2
    go_ret
    exact ⟨rfl, HBA.out⟩
  by_cases hm : 20 < c0.starts.length
  · go_wp2
    go_ret
    exact ⟨rfl, HBA.out⟩
  go_upto_region 5 with fail
  have KS : Hid (∀ w', Below wa.heap.size wa w' → (fun w' : World => w'.cell? ⟨w.heap.size, 0, none⟩ = some (.slice pr c0.caps.length cr) ∧ w'.cell? ⟨w.heap.size, 1, none⟩ = some (.slice ps c0.starts.length csr) ∧ w'.cell? ⟨w.heap.size, 2, none⟩ = some (.int .i64 c0.threads)) w') := fun w' hb => ⟨(hb.cell (p := ⟨w.heap.size, 0, none⟩) hza).trans x0, (hb.cell (p := ⟨w.heap.size, 1, none⟩) hza).trans x1, (hb.cell (p := ⟨w.heap.size, 2, none⟩) hza).trans x2⟩
  have HS1 := Lib.hid (HS1.out.below HBA.out)
  clear x0 x1 x2
  refine wp_region_until (fun w' : World => w'.cell? ⟨w.heap.size, 0, none⟩ = some (.slice pr c0.caps.length cr) ∧ w'.cell? ⟨w.heap.size, 1, none⟩ = some (.slice ps c0.starts.length csr) ∧ w'.cell? ⟨w.heap.size, 2, none⟩ = some (.int .i64 c0.threads)) 7 10 (by kernel_rfl) rfl ?_
  obtain ⟨u0, hu0, HU0⟩ := drew_pack wa
  rw [hu0]
  clear hu0
  have hSU0 : (fun w' : World => w'.cell? ⟨w.heap.size, 0, none⟩ = some (.slice pr c0.caps.length cr) ∧ w'.cell? ⟨w.heap.size, 1, none⟩ = some (.slice ps c0.starts.length csr) ∧ w'.cell? ⟨w.heap.size, 2, none⟩ = some (.int .i64 c0.threads)) (u0) := KS.out _ HU0.out
  refine wpAnyU_take (v := ?_) 0 ListAt.zero (by kernel_rfl) (by kernel_rfl) (by kernel_rfl) (by kernel_rfl) (by kernel_rfl) (fun _ _ _ h => h) hSU0 rfl ?_ ?_
  rotate_left
  · (intro w hSw; (try dsimp only at hSw); go_simp <;> with_reducible rfl)
  simp only [Act.put, List.setIfInBounds_toArray, List.set_cons_zero, List.set_cons_succ]
  refine wpAnyU_takeW (v := ?_) 1 (ListAt.succ ListAt.zero) (by kernel_rfl) (by kernel_rfl) (by kernel_rfl) (by kernel_rfl) (fun _ _ _ h => h) (fun _ => hSU0) rfl ?_ ?_
  rotate_left
  · (intro w; go_simp <;> with_reducible rfl)
  simp only [Act.put, List.setIfInBounds_toArray, List.set_cons_zero, List.set_cons_succ]
  refine wpAnyU_takeW (v := ?_) 4 (ListAt.succ (ListAt.succ (ListAt.succ (ListAt.succ ListAt.zero)))) (by kernel_rfl) (by kernel_rfl) (by kernel_rfl) (by kernel_rfl) (fun _ _ _ h => h) (fun _ => hSU0) rfl ?_ ?_
  rotate_left
  · (intro w; go_simp <;> with_reducible rfl)
  simp only [Act.put, List.setIfInBounds_toArray, List.set_cons_zero, List.set_cons_succ]
  refine wpAnyU_takeW (v := ?_) 9 (ListAt.succ (ListAt.succ (ListAt.succ (ListAt.succ (ListAt.succ (ListAt.succ (ListAt.succ (ListAt.succ (ListAt.succ ListAt.zero))))))))) (by kernel_rfl) (by kernel_rfl) (by kernel_rfl) (by kernel_rfl) (fun _ _ _ h => h) (fun _ => hSU0) rfl ?_ ?_
  rotate_left
  · (intro w; go_simp <;> with_reducible rfl)
  simp only [Act.put, List.setIfInBounds_toArray, List.set_cons_zero, List.set_cons_succ]
  refine wpAnyU_ready (rs := [2]) (by kernel_rfl) rfl ?_
  refine AllReadyU.cons (ListAt.succ (ListAt.succ ListAt.zero)) rfl (fun K hK => ?_) ?_
  · go_simp
    go_at_call 12
    refine (new_any _ l1 60 _ (HS1.out.below HU0.out) (by omega)).mono ?_
    rintro e u1 ⟨rfl, hc1, hb1⟩
    have HC1 : Hid (CodesE u1 u0.heap.size) := ⟨_, _, hc1⟩
    have HU1 := Lib.hid (below_then HU0.out hb1)
    have hg0 : Hid (wa.heap.size ≤ u0.heap.size) := HU0.out.size
    clear hc1 hb1
    refine hK.out _ _ ?_ (fun hSU1 => ?_)
    · exact KS.out _ HU1.out
    clear hK K hSU0
    try simp only [Act.put, List.setIfInBounds_toArray, List.set_cons_zero, List.set_cons_succ]
    refine wpAnyU_ready (rs := [3]) (by kernel_rfl) rfl ?_
    refine AllReadyU.cons (ListAt.succ (ListAt.succ (ListAt.succ ListAt.zero))) rfl (fun K hK => ?_) ?_
    · go_simp
      go_at_call 22
      refine (wideE2 _ _ HC1.out).mono ?_
      rintro e u2 ⟨x1, c1, rfl, hx1, -, -, hg2⟩
      have HV1 := Lib.hid hx1.conf
      have HU2 : Hid (Below wa.heap.size wa u2) := HU1.out.grown hg2 HU1.out.size (fun k hk => by cases hk; exact hg0.out)
      clear hx1 hg2 HC1 HU1 hg0
      refine hK.out _ _ ?_ (fun hSU2 => ?_)
      · exact KS.out _ HU2.out
      clear hK K hSU1
      try simp only [Act.put, List.setIfInBounds_toArray, List.set_cons_zero, List.set_cons_succ]
      refine wpAnyU_ready (rs := [5]) (by kernel_rfl) rfl ?_
      refine AllReadyU.cons (ListAt.succ (ListAt.succ (ListAt.succ (ListAt.succ (ListAt.succ ListAt.zero))))) rfl (fun K hK => ?_) ?_
      · go_simp
        go_at_call 12
        refine (new_any _ l1 60 _ (HS1.out.below HU2.out) (by omega)).mono ?_
        rintro e u3 ⟨rfl, hc3, hb3⟩
        have HC3 : Hid (CodesE u3 u2.heap.size) := ⟨_, _, hc3⟩
        have HU3 : Hid (Below u2.heap.size u2 u3) := hb3
        clear hc3 hb3
        refine hK.out _ _ ?_ (fun hSU3 => ?_)
        · exact KS.out _ (below_then HU2.out HU3.out)
        clear hK K hSU2
        try simp only [Act.put, List.setIfInBounds_toArray, List.set_cons_zero, List.set_cons_succ]
        refine wpAnyU_ready (rs := [6]) (by kernel_rfl) rfl ?_
        refine AllReadyU.cons (ListAt.succ (ListAt.succ (ListAt.succ (ListAt.succ (ListAt.succ (ListAt.succ ListAt.zero)))))) rfl (fun K hK => ?_) ?_
        · go_simp
          go_at_call 27
          refine (configE _ _ HC3.out).mono ?_
          rintro e u4 ⟨x2, c2, rfl, hx2, -, -, -, -, -, -, hg4⟩
          have HV2 := Lib.hid hx2.conf
          have HU4 : Hid (Below u2.heap.size u2 u4) := HU3.out.grown hg4 HU3.out.size (fun k hk => by cases hk; exact Nat.le_refl _)
          have HV1' := Lib.hid (HV1.out.below HU4.out)
          have HU5 := Lib.hid (below_then HU2.out HU4.out)
          have HV0 := Lib.hid (HS0.out.below (below_then HBA.out HU5.out))
          obtain ⟨vc1, vs1, rfl, h11, h12⟩ := HV1'.out
          obtain ⟨pc1, kc1, rfl, -⟩ := h11.len
          obtain ⟨ps1, ks1, rfl, -⟩ := h12.len
          obtain ⟨vc2, vs2, rfl, h21, h22⟩ := HV2.out
          obtain ⟨pc2, kc2, rfl, -⟩ := h21.len
          obtain ⟨ps2, ks2, rfl, -⟩ := h22.len
          clear hx2 hg4 HC3 HU3 h11 h12 h21 h22 HV1 HU2 HU4
          refine hK.out _ _ ?_ (fun hSU4 => ?_)
          · exact KS.out _ HU5.out
          clear hK K hSU3
          try simp only [Act.put, List.setIfInBounds_toArray, List.set_cons_zero, List.set_cons_succ]
          refine wpAnyU_ready (rs := [7]) (by kernel_rfl) rfl ?_
          refine AllReadyU.free (ListAt.succ (ListAt.succ (ListAt.succ (ListAt.succ (ListAt.succ (ListAt.succ (ListAt.succ ListAt.zero))))))) rfl (by kernel_rfl) (fun K hK => ?_) ?_
          · go_simp
            refine hK.out _ _ ?_
            clear hK K hSU4
            try simp only [Act.put, List.setIfInBounds_toArray, List.set_cons_zero, List.set_cons_succ]
            refine wpAnyU_takeW (v := ?_) 8 (ListAt.succ (ListAt.succ (ListAt.succ (ListAt.succ (ListAt.succ (ListAt.succ (ListAt.succ (ListAt.succ ListAt.zero)))))))) (by kernel_rfl) (by kernel_rfl) (by kernel_rfl) (by kernel_rfl) (fun _ _ _ h => h) (past_k (by kernel_rfl)) rfl ?_ ?_
            rotate_left
            · (intro w; go_simp <;> with_reducible rfl)
            simp only [Act.put, List.setIfInBounds_toArray, List.set_cons_zero, List.set_cons_succ]
            refine wpAnyU_done (by kernel_rfl) ?_ _
            obtain ⟨w6, B, hw6, hB6, RB, HB46, -⟩ := alloc_pack u4 (.cells #[.slice pr c0.caps.length cr, .slice ps c0.starts.length csr, .int .i64 c0.threads, .slice pc1 c1.caps.length kc1, .slice ps1 c1.starts.length ks1, .int .i64 c1.threads, .slice pc2 c2.caps.length kc2, .slice ps2 c2.starts.length ks2, .int .i64 c2.threads] 46)
            rw [hw6, hB6]
            clear hw6 hB6
            have HV0 := Lib.hid (HV0.out.below HB46.out)
            have HV1' := Lib.hid (HV1'.out.below HB46.out)
            have HV2 := Lib.hid (HV2.out.below HB46.out)
            have HB6 := Lib.hid (below_then HBA.out (below_then HU5.out HB46.out))
            have hBl : B < w6.heap.size := (Array.getElem?_eq_some_iff.1 RB.out).1
            clear HB46 HU5 KS HS0 HS1 HBA RA
            go_wp2_with fail
            go_loopw [32] (fun i wr => ∃ k : Nat, k ≤ 3 ∧ i = .int .i64 k ∧ Hid (Below w6.heap.size w6 wr)) (fun i _ => 4 - (intOf i).toNat)
            case atStart => exact ⟨0, by omega, rfl, Below.refl _ _⟩
            case round =>
              obtain ⟨k, hk, rfl, hI⟩ := hrel
              obtain ⟨wo, rfl⟩ : ∃ wo : World, wo = wr := ⟨_, rfl⟩
              have HBo := Lib.hid hI.out
              have RBo := Lib.hid ((hI.out.block B hBl).trans RB.out)
              clear hI
              rcases (show k = 0 ∨ k = 1 ∨ k = 2 ∨ k = 3 by omega) with rfl | rfl | rfl | rfl
              · have hcl0 := cell_of_row _ _ 0 _ _ _ RBo.out
                have hcl1 := cell_of_row _ _ 1 _ _ _ RBo.out
                have hcl2 := cell_of_row _ _ 2 _ _ _ RBo.out
                have HVI := Lib.hid (HV0.out.below HBo.out)
                have hu : ∀ x ∈ c0.starts, 0 ≤ x := fun x hx => by
                  obtain ⟨va, vb, -, -, h2⟩ := HVI.out
                  have h3 := h2.2.1 x hx
                  rw [IntKind.wrap_u64] at h3
                  omega
                have TO := Lib.hid fun w' h => newO_any (.agg #[.slice pr c0.caps.length cr, .slice ps c0.starts.length csr, .int .i64 c0.threads]) c0 w' h hu
                have TR := Lib.hid fun w' h => newR_any (.agg #[.slice pr c0.caps.length cr, .slice ps c0.starts.length csr, .int .i64 c0.threads]) c0 w' h hu
                clear hu
                obtain ⟨W4, hW4⟩ : ∃ W4, (wo.alloc (.cells zeroConf 46)).setRow wo.heap.size #[.slice pr c0.caps.length cr, .slice ps c0.starts.length csr, .int .i64 c0.threads] = W4 := ⟨_, rfl⟩
                have N4 : Hid ((wo.alloc (.cells zeroConf 46)).heap[wo.heap.size]? = some (.cells zeroConf 46 (0, 0))) := heap_alloc_new _ _
                have HB4 : Hid (Below wo.heap.size wo W4) := hW4 ▸ row_below (below_new (Below.refl _ _) _) (Nat.le_refl _) _
                have R4 : Hid (W4.heap[wo.heap.size]? = some (.cells #[.slice pr c0.caps.length cr, .slice ps c0.starts.length csr, .int .i64 c0.threads] 46 (0, 0))) := hW4 ▸ setRow_heap _ _ _ _ _ (0, 0) N4.out
                have HW4 := Lib.hid hW4
                clear hW4
                go_upto_region 8 with (refine wpList_store_row rfl 46 _ _ rfl (wo.heap.size) _ rfl rfl 46 zeroConf N4.out (by kernel_rfl) rfl (by simp [Value.oneCell']) ?_)
                rw [show (#[.slice none 0 0, .slice none 0 0, .int .i64 0] : Array Value) = zeroConf from rfl, HW4.out]
                clear HW4 N4 hcl0 hcl1 hcl2
                have HBW := Lib.hid (HB4.out)
                obtain ⟨x0, x1, x2⟩ := rowc3 R4.out
                have hX4 : wo.heap.size < W4.heap.size := (Array.getElem?_eq_some_iff.1 R4.out).1
                have HBO4 := Lib.hid (below_then HBo.out HB4.out)
                go_wp2_with fail
                refine (TO.out _ (HVI.out.below HB4.out)).mono ?_; rintro e w5 ⟨v5, rfl, hm5, hb5⟩
                obtain ⟨mm, hmm⟩ : ∃ mm, newE c0 = mm := ⟨_, rfl⟩
                rw [hmm] at hm5
                have HMM := Lib.hid hmm
                clear hmm
                have HM5 := Lib.hid hm5
                obtain ⟨vw5, vl5, us5, rfl, hm51, hm52⟩ := hm5
                obtain ⟨a5, k5, rfl, -⟩ := hm51.len
                obtain ⟨a6, k6, rfl, -⟩ := hm52.len
                have R5 := Lib.hid ((hb5.block wo.heap.size hX4).trans R4.out)
                have HB5 := Lib.hid (below_then HBO4.out hb5)
                have HVI5 := Lib.hid ((HVI.out.below HB4.out).below hb5)
                clear hm51 hm52 hb5 x0 x1 x2 R4 HB4 HBW HBO4 HVI TO
                obtain ⟨WM, hWM⟩ : ∃ WM, (w5.alloc (.cells zeroMem5 25)).setRow w5.heap.size #[.slice a5 mm.words.length k5, .slice a6 mm.lists.length k6, .int .i64 mm.tick] = WM := ⟨_, rfl⟩
                have N5 : Hid ((w5.alloc (.cells zeroMem5 25)).heap[w5.heap.size]? = some (.cells zeroMem5 25 (0, 0))) := heap_alloc_new _ _
                have HBM : Hid (Below w5.heap.size w5 WM) := hWM ▸ row_below (below_new (Below.refl _ _) _) (Nat.le_refl _) _
                have RM : Hid (WM.heap[w5.heap.size]? = some (.cells #[.slice a5 mm.words.length k5, .slice a6 mm.lists.length k6, .int .i64 mm.tick] 25 (0, 0))) := hWM ▸ setRow_heap _ _ _ _ _ (0, 0) N5.out
                have HWM := Lib.hid hWM
                clear hWM
                go_upto_region 9 with (refine wpList_store_row rfl 25 _ _ rfl (w5.heap.size) _ rfl rfl 25 zeroMem5 N5.out (by kernel_rfl) rfl (by simp [Value.oneCell']) ?_)
                rw [show (#[.slice none 0 0, .slice none 0 0, .int .i64 0] : Array Value) = zeroMem5 from rfl, HWM.out]
                clear HWM N5
                have hX5 : wo.heap.size < w5.heap.size := (Array.getElem?_eq_some_iff.1 R5.out).1
                have hXM : w5.heap.size < WM.heap.size := (Array.getElem?_eq_some_iff.1 RM.out).1
                obtain ⟨x0, x1, x2⟩ := rowc3 ((HBM.out.block wo.heap.size hX5).trans R5.out)
                have HB6 := Lib.hid (below_then HB5.out HBM.out)
                go_wp2_with fail
                refine (TR.out _ (HVI5.out.below HBM.out)).mono ?_; rintro e w7 ⟨v7, rfl, hm7, hb7⟩
                rw [HMM.out] at hm7
                have HM7 := Lib.hid hm7
                obtain ⟨vw7, vl7, us7, rfl, hm71, hm72⟩ := hm7
                obtain ⟨a7, k7, rfl, -⟩ := hm71.len
                obtain ⟨a8, k8, rfl, -⟩ := hm72.len
                have RM7 := Lib.hid ((hb7.block w5.heap.size hXM).trans RM.out)
                have HB7 := Lib.hid (below_then HB6.out hb7)
                have HM57 := Lib.hid ((HM5.out.below HBM.out).below hb7)
                clear hm71 hm72 hb7 x0 x1 x2 RM HBM R5 HM5 HB6 HB5 HVI5 TR
                obtain ⟨WN, hWN⟩ : ∃ WN, (w7.alloc (.cells zeroMem5 25)).setRow w7.heap.size #[.slice a7 mm.words.length k7, .slice a8 mm.lists.length k8, .int .i64 mm.tick] = WN := ⟨_, rfl⟩
                have N7 : Hid ((w7.alloc (.cells zeroMem5 25)).heap[w7.heap.size]? = some (.cells zeroMem5 25 (0, 0))) := heap_alloc_new _ _
                have HBN : Hid (Below w7.heap.size w7 WN) := hWN ▸ row_below (below_new (Below.refl _ _) _) (Nat.le_refl _) _
                have RN : Hid (WN.heap[w7.heap.size]? = some (.cells #[.slice a7 mm.words.length k7, .slice a8 mm.lists.length k8, .int .i64 mm.tick] 25 (0, 0))) := hWN ▸ setRow_heap _ _ _ _ _ (0, 0) N7.out
                have HWN := Lib.hid hWN
                clear hWN
                go_upto_region 10 with (refine wpList_store_row rfl 25 _ _ rfl (w7.heap.size) _ rfl rfl 25 zeroMem5 N7.out (by kernel_rfl) rfl (by simp [Value.oneCell']) ?_)
                rw [show (#[.slice none 0 0, .slice none 0 0, .int .i64 0] : Array Value) = zeroMem5 from rfl, HWN.out]
                clear HWN N7
                have hXM7 : w5.heap.size < w7.heap.size := (Array.getElem?_eq_some_iff.1 RM7.out).1
                obtain ⟨x0, x1, x2⟩ := rowc3 ((HBN.out.block w5.heap.size hXM7).trans RM7.out)
                obtain ⟨y0, y1, y2⟩ := rowc3 RN.out
                have TS := Lib.hid (sameMem_true _ _ mm WN (HM57.out.below HBN.out) (HM7.out.below HBN.out))
                have HB8 := Lib.hid (below_then HB7.out HBN.out)
                go_wp2_with fail
                refine TS.out.mono ?_; rintro e w9 ⟨rfl, hb9⟩
                have HB9 := Lib.hid (below_then HB8.out hb9)
                clear hb9 x0 x1 x2 y0 y1 y2
                go_wp2
                go_roundw
                case rel => exact ⟨1, by omega, by go_num, HB9⟩
                case measure => simp [intOf]
              · have hcl0 := cell_of_row _ _ 3 _ _ _ RBo.out
                have hcl1 := cell_of_row _ _ 4 _ _ _ RBo.out
                have hcl2 := cell_of_row _ _ 5 _ _ _ RBo.out
                have HVI := Lib.hid (HV1'.out.below HBo.out)
                have hu : ∀ x ∈ c1.starts, 0 ≤ x := fun x hx => by
                  obtain ⟨va, vb, -, -, h2⟩ := HVI.out
                  have h3 := h2.2.1 x hx
                  rw [IntKind.wrap_u64] at h3
                  omega
                have TO := Lib.hid fun w' h => newO_any (.agg #[.slice pc1 c1.caps.length kc1, .slice ps1 c1.starts.length ks1, .int .i64 c1.threads]) c1 w' h hu
                have TR := Lib.hid fun w' h => newR_any (.agg #[.slice pc1 c1.caps.length kc1, .slice ps1 c1.starts.length ks1, .int .i64 c1.threads]) c1 w' h hu
                clear hu
                obtain ⟨W4, hW4⟩ : ∃ W4, (wo.alloc (.cells zeroConf 46)).setRow wo.heap.size #[.slice pc1 c1.caps.length kc1, .slice ps1 c1.starts.length ks1, .int .i64 c1.threads] = W4 := ⟨_, rfl⟩
                have N4 : Hid ((wo.alloc (.cells zeroConf 46)).heap[wo.heap.size]? = some (.cells zeroConf 46 (0, 0))) := heap_alloc_new _ _
                have HB4 : Hid (Below wo.heap.size wo W4) := hW4 ▸ row_below (below_new (Below.refl _ _) _) (Nat.le_refl _) _
                have R4 : Hid (W4.heap[wo.heap.size]? = some (.cells #[.slice pc1 c1.caps.length kc1, .slice ps1 c1.starts.length ks1, .int .i64 c1.threads] 46 (0, 0))) := hW4 ▸ setRow_heap _ _ _ _ _ (0, 0) N4.out
                have HW4 := Lib.hid hW4
                clear hW4
                go_upto_region 8 with (refine wpList_store_row rfl 46 _ _ rfl (wo.heap.size) _ rfl rfl 46 zeroConf N4.out (by kernel_rfl) rfl (by simp [Value.oneCell']) ?_)
                rw [show (#[.slice none 0 0, .slice none 0 0, .int .i64 0] : Array Value) = zeroConf from rfl, HW4.out]
                clear HW4 N4 hcl0 hcl1 hcl2
                have HBW := Lib.hid (HB4.out)
                obtain ⟨x0, x1, x2⟩ := rowc3 R4.out
                have hX4 : wo.heap.size < W4.heap.size := (Array.getElem?_eq_some_iff.1 R4.out).1
                have HBO4 := Lib.hid (below_then HBo.out HB4.out)
                go_wp2_with fail
                refine (TO.out _ (HVI.out.below HB4.out)).mono ?_; rintro e w5 ⟨v5, rfl, hm5, hb5⟩
                obtain ⟨mm, hmm⟩ : ∃ mm, newE c1 = mm := ⟨_, rfl⟩
                rw [hmm] at hm5
                have HMM := Lib.hid hmm
                clear hmm
                have HM5 := Lib.hid hm5
                obtain ⟨vw5, vl5, us5, rfl, hm51, hm52⟩ := hm5
                obtain ⟨a5, k5, rfl, -⟩ := hm51.len
                obtain ⟨a6, k6, rfl, -⟩ := hm52.len
                have R5 := Lib.hid ((hb5.block wo.heap.size hX4).trans R4.out)
                have HB5 := Lib.hid (below_then HBO4.out hb5)
                have HVI5 := Lib.hid ((HVI.out.below HB4.out).below hb5)
                clear hm51 hm52 hb5 x0 x1 x2 R4 HB4 HBW HBO4 HVI TO
                obtain ⟨WM, hWM⟩ : ∃ WM, (w5.alloc (.cells zeroMem5 25)).setRow w5.heap.size #[.slice a5 mm.words.length k5, .slice a6 mm.lists.length k6, .int .i64 mm.tick] = WM := ⟨_, rfl⟩
                have N5 : Hid ((w5.alloc (.cells zeroMem5 25)).heap[w5.heap.size]? = some (.cells zeroMem5 25 (0, 0))) := heap_alloc_new _ _
                have HBM : Hid (Below w5.heap.size w5 WM) := hWM ▸ row_below (below_new (Below.refl _ _) _) (Nat.le_refl _) _
                have RM : Hid (WM.heap[w5.heap.size]? = some (.cells #[.slice a5 mm.words.length k5, .slice a6 mm.lists.length k6, .int .i64 mm.tick] 25 (0, 0))) := hWM ▸ setRow_heap _ _ _ _ _ (0, 0) N5.out
                have HWM := Lib.hid hWM
                clear hWM
                go_upto_region 9 with (refine wpList_store_row rfl 25 _ _ rfl (w5.heap.size) _ rfl rfl 25 zeroMem5 N5.out (by kernel_rfl) rfl (by simp [Value.oneCell']) ?_)
                rw [show (#[.slice none 0 0, .slice none 0 0, .int .i64 0] : Array Value) = zeroMem5 from rfl, HWM.out]
                clear HWM N5
                have hX5 : wo.heap.size < w5.heap.size := (Array.getElem?_eq_some_iff.1 R5.out).1
                have hXM : w5.heap.size < WM.heap.size := (Array.getElem?_eq_some_iff.1 RM.out).1
                obtain ⟨x0, x1, x2⟩ := rowc3 ((HBM.out.block wo.heap.size hX5).trans R5.out)
                have HB6 := Lib.hid (below_then HB5.out HBM.out)
                go_wp2_with fail
                refine (TR.out _ (HVI5.out.below HBM.out)).mono ?_; rintro e w7 ⟨v7, rfl, hm7, hb7⟩
                rw [HMM.out] at hm7
                have HM7 := Lib.hid hm7
                obtain ⟨vw7, vl7, us7, rfl, hm71, hm72⟩ := hm7
                obtain ⟨a7, k7, rfl, -⟩ := hm71.len
                obtain ⟨a8, k8, rfl, -⟩ := hm72.len
                have RM7 := Lib.hid ((hb7.block w5.heap.size hXM).trans RM.out)
                have HB7 := Lib.hid (below_then HB6.out hb7)
                have HM57 := Lib.hid ((HM5.out.below HBM.out).below hb7)
                clear hm71 hm72 hb7 x0 x1 x2 RM HBM R5 HM5 HB6 HB5 HVI5 TR
                obtain ⟨WN, hWN⟩ : ∃ WN, (w7.alloc (.cells zeroMem5 25)).setRow w7.heap.size #[.slice a7 mm.words.length k7, .slice a8 mm.lists.length k8, .int .i64 mm.tick] = WN := ⟨_, rfl⟩
                have N7 : Hid ((w7.alloc (.cells zeroMem5 25)).heap[w7.heap.size]? = some (.cells zeroMem5 25 (0, 0))) := heap_alloc_new _ _
                have HBN : Hid (Below w7.heap.size w7 WN) := hWN ▸ row_below (below_new (Below.refl _ _) _) (Nat.le_refl _) _
                have RN : Hid (WN.heap[w7.heap.size]? = some (.cells #[.slice a7 mm.words.length k7, .slice a8 mm.lists.length k8, .int .i64 mm.tick] 25 (0, 0))) := hWN ▸ setRow_heap _ _ _ _ _ (0, 0) N7.out
                have HWN := Lib.hid hWN
                clear hWN
                go_upto_region 10 with (refine wpList_store_row rfl 25 _ _ rfl (w7.heap.size) _ rfl rfl 25 zeroMem5 N7.out (by kernel_rfl) rfl (by simp [Value.oneCell']) ?_)
                rw [show (#[.slice none 0 0, .slice none 0 0, .int .i64 0] : Array Value) = zeroMem5 from rfl, HWN.out]
                clear HWN N7
                have hXM7 : w5.heap.size < w7.heap.size := (Array.getElem?_eq_some_iff.1 RM7.out).1
                obtain ⟨x0, x1, x2⟩ := rowc3 ((HBN.out.block w5.heap.size hXM7).trans RM7.out)
                obtain ⟨y0, y1, y2⟩ := rowc3 RN.out
                have TS := Lib.hid (sameMem_true _ _ mm WN (HM57.out.below HBN.out) (HM7.out.below HBN.out))
                have HB8 := Lib.hid (below_then HB7.out HBN.out)
                go_wp2_with fail
                refine TS.out.mono ?_; rintro e w9 ⟨rfl, hb9⟩
                have HB9 := Lib.hid (below_then HB8.out hb9)
                clear hb9 x0 x1 x2 y0 y1 y2
                go_wp2
                go_roundw
                case rel => exact ⟨2, by omega, by go_num, HB9⟩
                case measure => simp [intOf]
              · have hcl0 := cell_of_row _ _ 6 _ _ _ RBo.out
                have hcl1 := cell_of_row _ _ 7 _ _ _ RBo.out
                have hcl2 := cell_of_row _ _ 8 _ _ _ RBo.out
                have HVI := Lib.hid (HV2.out.below HBo.out)
                have hu : ∀ x ∈ c2.starts, 0 ≤ x := fun x hx => by
                  obtain ⟨va, vb, -, -, h2⟩ := HVI.out
                  have h3 := h2.2.1 x hx
                  rw [IntKind.wrap_u64] at h3
                  omega
                have TO := Lib.hid fun w' h => newO_any (.agg #[.slice pc2 c2.caps.length kc2, .slice ps2 c2.starts.length ks2, .int .i64 c2.threads]) c2 w' h hu
                have TR := Lib.hid fun w' h => newR_any (.agg #[.slice pc2 c2.caps.length kc2, .slice ps2 c2.starts.length ks2, .int .i64 c2.threads]) c2 w' h hu
                clear hu
                obtain ⟨W4, hW4⟩ : ∃ W4, (wo.alloc (.cells zeroConf 46)).setRow wo.heap.size #[.slice pc2 c2.caps.length kc2, .slice ps2 c2.starts.length ks2, .int .i64 c2.threads] = W4 := ⟨_, rfl⟩
                have N4 : Hid ((wo.alloc (.cells zeroConf 46)).heap[wo.heap.size]? = some (.cells zeroConf 46 (0, 0))) := heap_alloc_new _ _
                have HB4 : Hid (Below wo.heap.size wo W4) := hW4 ▸ row_below (below_new (Below.refl _ _) _) (Nat.le_refl _) _
                have R4 : Hid (W4.heap[wo.heap.size]? = some (.cells #[.slice pc2 c2.caps.length kc2, .slice ps2 c2.starts.length ks2, .int .i64 c2.threads] 46 (0, 0))) := hW4 ▸ setRow_heap _ _ _ _ _ (0, 0) N4.out
                have HW4 := Lib.hid hW4
                clear hW4
                go_upto_region 8 with (refine wpList_store_row rfl 46 _ _ rfl (wo.heap.size) _ rfl rfl 46 zeroConf N4.out (by kernel_rfl) rfl (by simp [Value.oneCell']) ?_)
                rw [show (#[.slice none 0 0, .slice none 0 0, .int .i64 0] : Array Value) = zeroConf from rfl, HW4.out]
                clear HW4 N4 hcl0 hcl1 hcl2
                have HBW := Lib.hid (HB4.out)
                obtain ⟨x0, x1, x2⟩ := rowc3 R4.out
                have hX4 : wo.heap.size < W4.heap.size := (Array.getElem?_eq_some_iff.1 R4.out).1
                have HBO4 := Lib.hid (below_then HBo.out HB4.out)
                go_wp2_with fail
                refine (TO.out _ (HVI.out.below HB4.out)).mono ?_; rintro e w5 ⟨v5, rfl, hm5, hb5⟩
                obtain ⟨mm, hmm⟩ : ∃ mm, newE c2 = mm := ⟨_, rfl⟩
                rw [hmm] at hm5
                have HMM := Lib.hid hmm
                clear hmm
                have HM5 := Lib.hid hm5
                obtain ⟨vw5, vl5, us5, rfl, hm51, hm52⟩ := hm5
                obtain ⟨a5, k5, rfl, -⟩ := hm51.len
                obtain ⟨a6, k6, rfl, -⟩ := hm52.len
                have R5 := Lib.hid ((hb5.block wo.heap.size hX4).trans R4.out)
                have HB5 := Lib.hid (below_then HBO4.out hb5)
                have HVI5 := Lib.hid ((HVI.out.below HB4.out).below hb5)
                clear hm51 hm52 hb5 x0 x1 x2 R4 HB4 HBW HBO4 HVI TO
                obtain ⟨WM, hWM⟩ : ∃ WM, (w5.alloc (.cells zeroMem5 25)).setRow w5.heap.size #[.slice a5 mm.words.length k5, .slice a6 mm.lists.length k6, .int .i64 mm.tick] = WM := ⟨_, rfl⟩
                have N5 : Hid ((w5.alloc (.cells zeroMem5 25)).heap[w5.heap.size]? = some (.cells zeroMem5 25 (0, 0))) := heap_alloc_new _ _
                have HBM : Hid (Below w5.heap.size w5 WM) := hWM ▸ row_below (below_new (Below.refl _ _) _) (Nat.le_refl _) _
                have RM : Hid (WM.heap[w5.heap.size]? = some (.cells #[.slice a5 mm.words.length k5, .slice a6 mm.lists.length k6, .int .i64 mm.tick] 25 (0, 0))) := hWM ▸ setRow_heap _ _ _ _ _ (0, 0) N5.out
                have HWM := Lib.hid hWM
                clear hWM
                go_upto_region 9 with (refine wpList_store_row rfl 25 _ _ rfl (w5.heap.size) _ rfl rfl 25 zeroMem5 N5.out (by kernel_rfl) rfl (by simp [Value.oneCell']) ?_)
                rw [show (#[.slice none 0 0, .slice none 0 0, .int .i64 0] : Array Value) = zeroMem5 from rfl, HWM.out]
                clear HWM N5
                have hX5 : wo.heap.size < w5.heap.size := (Array.getElem?_eq_some_iff.1 R5.out).1
                have hXM : w5.heap.size < WM.heap.size := (Array.getElem?_eq_some_iff.1 RM.out).1
                obtain ⟨x0, x1, x2⟩ := rowc3 ((HBM.out.block wo.heap.size hX5).trans R5.out)
                have HB6 := Lib.hid (below_then HB5.out HBM.out)
                go_wp2_with fail
                refine (TR.out _ (HVI5.out.below HBM.out)).mono ?_; rintro e w7 ⟨v7, rfl, hm7, hb7⟩
                rw [HMM.out] at hm7
                have HM7 := Lib.hid hm7
                obtain ⟨vw7, vl7, us7, rfl, hm71, hm72⟩ := hm7
                obtain ⟨a7, k7, rfl, -⟩ := hm71.len
                obtain ⟨a8, k8, rfl, -⟩ := hm72.len
                have RM7 := Lib.hid ((hb7.block w5.heap.size hXM).trans RM.out)
                have HB7 := Lib.hid (below_then HB6.out hb7)
                have HM57 := Lib.hid ((HM5.out.below HBM.out).below hb7)
                clear hm71 hm72 hb7 x0 x1 x2 RM HBM R5 HM5 HB6 HB5 HVI5 TR
                obtain ⟨WN, hWN⟩ : ∃ WN, (w7.alloc (.cells zeroMem5 25)).setRow w7.heap.size #[.slice a7 mm.words.length k7, .slice a8 mm.lists.length k8, .int .i64 mm.tick] = WN := ⟨_, rfl⟩
                have N7 : Hid ((w7.alloc (.cells zeroMem5 25)).heap[w7.heap.size]? = some (.cells zeroMem5 25 (0, 0))) := heap_alloc_new _ _
                have HBN : Hid (Below w7.heap.size w7 WN) := hWN ▸ row_below (below_new (Below.refl _ _) _) (Nat.le_refl _) _
                have RN : Hid (WN.heap[w7.heap.size]? = some (.cells #[.slice a7 mm.words.length k7, .slice a8 mm.lists.length k8, .int .i64 mm.tick] 25 (0, 0))) := hWN ▸ setRow_heap _ _ _ _ _ (0, 0) N7.out
                have HWN := Lib.hid hWN
                clear hWN
                go_upto_region 10 with (refine wpList_store_row rfl 25 _ _ rfl (w7.heap.size) _ rfl rfl 25 zeroMem5 N7.out (by kernel_rfl) rfl (by simp [Value.oneCell']) ?_)
                rw [show (#[.slice none 0 0, .slice none 0 0, .int .i64 0] : Array Value) = zeroMem5 from rfl, HWN.out]
                clear HWN N7
                have hXM7 : w5.heap.size < w7.heap.size := (Array.getElem?_eq_some_iff.1 RM7.out).1
                obtain ⟨x0, x1, x2⟩ := rowc3 ((HBN.out.block w5.heap.size hXM7).trans RM7.out)
                obtain ⟨y0, y1, y2⟩ := rowc3 RN.out
                have TS := Lib.hid (sameMem_true _ _ mm WN (HM57.out.below HBN.out) (HM7.out.below HBN.out))
                have HB8 := Lib.hid (below_then HB7.out HBN.out)
                go_wp2_with fail
                refine TS.out.mono ?_; rintro e w9 ⟨rfl, hb9⟩
                have HB9 := Lib.hid (below_then HB8.out hb9)
                clear hb9 x0 x1 x2 y0 y1 y2
                go_wp2
                go_roundw
                case rel => exact ⟨3, by omega, by go_num, HB9⟩
                case measure => simp [intOf]
              · have HFN := Lib.hid (below_then HB6.out HBo.out)
                go_wp2
                go_ret
                exact ⟨rfl, HFN.out⟩
          exact AllReadyU.nil
        exact AllReadyU.nil
      exact AllReadyU.nil
    exact AllReadyU.nil
  exact AllReadyU.nil
set_option maxRecDepth 100000 in
theorem lifted (os : Os) (started : os.Started) (H : Type) (enc : TypeId × Value → H) :
    ReturnsInHanded {} Try.checked os 5 .any (Rows.layoutNewSpec.pre6 enc Try.prog Try.f5 Rows.layoutNewRow.domain false) (Rows.layoutNewSpec.post enc Try.prog Try.f5 false true false false) := by
  refine returnsInHanded_of_change_sized (C := Try.checked) own started (by kernel_rfl) Try.func5
    (ChangeSpec.witness6 (enc := enc) (C := Try.checked) false ⟨#[], #[.agg #[.slice none 0 0, .slice none 0 0, .int .i64 0], .slice none 0 0], []⟩ 8 (by kernel_rfl) (by kernel_rfl) (by kernel_rfl) (by kernel_rfl)) ?_
  intro W base args ds gs before hval0 hW _ hsz0 _
  have hsz : (DataW.weightsEach Try.prog (Try.f5.params.toList ++ Rows.layoutNewSpec.plain.varTypes Try.prog) (ds ++ gs)).all (· ≤ reachBytes) = true := hsz0
  clear hsz0
  have hval : ∀ (j : Nat) t v, Try.f5.params[j]? = some t → args[j]? = some v → Value.okWide Try.prog W .any base t v := hval0
  have hW' := hW
  obtain ⟨p, q, hA0, hV, rfl, _, _⟩ := hW
  have hA : DataW.TrodAll enc Try.prog W 0 (fun _ => true) true Try.f5.params.toList args.toList ds p := hA0
  rw [Try.params5] at hA hval hsz
  obtain ⟨v0, vs0, d0, ds0, p0, q0, hargs, rfl, rfl, h0, r0⟩ := trodAll_cons hA
  obtain ⟨v1, vs1, d1, ds1, p1, q1, rfl, rfl, rfl, h1, r1⟩ := trodAll_cons r0
  obtain ⟨rfl, rfl, rfl⟩ := trodAll_nil r1
  obtain rfl : args = #[v0, v1] := by cases args; simp_all
  obtain ⟨rfl, rfl⟩ := trodVars_none hV
  have k0 := h0
  have k1 := h1
  obtain ⟨c0, s0, o0⟩ := view_conf (fun parts hd => sized_agg hsz (j := 0) (t := 46) rfl (by rw [hd]; rfl) Try.underlying46) (hval 0 46 v0 rfl rfl) h0
  obtain ⟨l1, s1⟩ := view_sl (k := .u8) Try.underlying29 Try.underlying5 (by kernel_rfl) (fun elems sp hd => sized_slice hsz (j := 1) (t := 29) (e := 5) rfl (by rw [hd]; rfl) Try.underlying29) (of_decide_eq_true (by kernel_rfl)) (hval 1 29 v1 rfl rfl) h1
  clear hA0 hval0
  simp only [List.append_nil] at hW'
  have hlt := hW'.lt
  refine (walk W v0 c0 s0 o0 v1 l1 s1).mono fun e W' ⟨he, hb⟩ => ?_
  subst he
  exact ⟨_, rfl, _, _, _, [], _, [], hW', trodAll_cons_mk (shut_bool Try.underlying4 _) trodAll_mk0, (trodAll_cons_mk (Below.trod Try.laidOut (by kernel_rfl) (of_decide_eq_true (by kernel_rfl)) k0 hb (fun x hx => by simpa using hlt x (by simp [hx]))) (trodAll_cons_mk (Below.trod Try.laidOut (by kernel_rfl) (of_decide_eq_true (by kernel_rfl)) k1 hb (fun x hx => by simpa using hlt x (by simp [hx]))) trodAll_mk0)), rfl, hb.frame _, fun h => by cases h⟩
theorem over : Rows.layoutNewRow.holds Try.pinned (OpenSpec.ofChange Rows.layoutNewSpec) :=
  OpenClaim.holds_of_wide 5 Try.f5 rfl rfl rfl rfl rfl rfl rfl ⟨rfl, rfl, rfl, rfl, rfl⟩ rfl rfl rfl rfl rfl (by kernel_rfl) Try.func5 (by kernel_rfl)
    (of_decide_eq_true (by kernel_rfl)) (by unfold Func.isWrapper; first | (rw [if_pos (by decide +kernel)]; kernel_rfl) | (rw [if_neg (by decide +kernel)]; exact ⟨rfl, rfl⟩))
    (fun os started H enc _ => lifted os started H enc)
/-- THE STATEMENT -/
theorem proved : Rows.LayoutNewSaid :=
  over
end Go.Proofs.Ytkpnakomlfjndaa.layoutNew
