/- Layer 13: the reference's Pairs. -/
import Derived.Test.YtimgcehogalhcaaRt
import Derived.Test.YtimgcehogalhcaaStill
import Derived.Test.YtimgcehogalhcaaRu
namespace Go.Proofs.Ytimgcehogalhcaa
open Go.ChangeShapes Go.WideShapes Go.ChangeAt Go.RowKit
set_option maxRecDepth 100000

/-- pairs as rows of cells -/
def prow (l : List (Int × Int)) : List (List Value) := l.map fun p => [.int .i64 p.1, .int .i64 p.2]
theorem prow_length (l : List (Int × Int)) : (prow l).length = l.length := by simp [prow]
theorem prow_snoc (l : List (Int × Int)) (a b : Int) : prow (l ++ [(a, b)]) = prow l ++ [[.int .i64 a, .int .i64 b]] := by simp [prow]
theorem Try.info_pair : (Try.prog.info? 23).map (fun i => (i.zero, i.size, i.bytes)) = some (some (.agg #[.int .i64 0, .int .i64 0]), 2, 16) := by kernel_rfl
set_option maxRecDepth 100000 in
set_option maxHeartbeats 4000000 in
theorem rpairs_any (v v2 : Value) (rs ss : List Int) (w : World) (hv : SlI w .i64 v rs) (hv2 : SlI w .i64 v2 ss) : Calls Try.prog 23 #[v, v2] w fun e w' => ∃ u, e = .returned u ∧ OwnS w' w.heap.size 23 2 u (prow (pairsE rs ss)) ∧ Below w.heap.size w w' := by
  have HV := Lib.hid hv
  have HV2 := Lib.hid hv2
  have hl1 := hv.1
  have hl2 := hv2.1
  obtain ⟨a1, cap1, rfl, -⟩ := hv.len
  obtain ⟨a2, cap2, rfl, -⟩ := hv2.len
  have H64 : Hid (∀ k, I64 (rs.getD k 0)) := fun k => hv.i64 k
  have H642 : Hid (∀ k, I64 (ss.getD k 0)) := fun k => hv2.i64 k
  clear hv hv2
  go_enter Try.func23, Try.ntmps23
  go_wp2_with fail
  go_loopw [5, 6] (fun u5 u6 wr => ∃ (i : Nat) (u : Value), u = u5 ∧ u6 = .int .i64 i ∧ i ≤ rs.length ∧ Hid (OwnS wr w.heap.size 23 2 u (prow (pairsAt rs ss i 0))) ∧ Hid ((pairsAt rs ss i 0).length ≤ 1000) ∧ Hid (Below w.heap.size w wr)) (fun _ u6 _ => rs.length - (intOf u6).toNat)
  case atStart => exact ⟨0, _, rfl, rfl, by omega, OwnS.nil _ _ _ _, by show (0 : Nat) ≤ 1000; omega, Below.refl _ _⟩
  case round =>
    obtain ⟨i, u, rfl, rfl, hi, HO, HL, HB⟩ := hrel
    obtain ⟨wo, rfl⟩ : ∃ wo : World, wo = wr := ⟨_, rfl⟩
    by_cases hlt : i < rs.length
    · have hltI : (i : Int) < (rs.length : Int) := by omega
      go_wp2_with fail
      go_loopw [5, 7] (fun u5 u7 wr => ∃ (k : Nat) (u : Value), u = u5 ∧ u7 = .int .i64 k ∧ k ≤ ss.length ∧ Hid (OwnS wr w.heap.size 23 2 u (prow (pairsAt rs ss i k))) ∧ Hid ((pairsAt rs ss i k).length ≤ 1000) ∧ Hid (Below w.heap.size w wr)) (fun _ u7 _ => ss.length - (intOf u7).toNat)
      case atStart => exact ⟨0, u, rfl, rfl, by omega, HO, HL, HB⟩
      case round =>
        clear HO HL HB
        obtain ⟨k, u, rfl, rfl, hk, HO, HL, HB⟩ := hrel
        obtain ⟨wo, rfl⟩ : ∃ wo : World, wo = wr := ⟨_, rfl⟩
        by_cases hlk : k < ss.length
        · have hlkI : (k : Int) < (ss.length : Int) := by omega
          obtain ⟨ua, uc, hue⟩ := HO.out.len
          rw [prow_length] at hue
          by_cases hfull : (pairsAt rs ss i k).length = 1000
          · rw [hfull] at hue
            have HE : Hid (pairsAt rs ss i k = pairsE rs ss) := pairs_full (pairsAt_pre k hlt) hfull
            have HO2 : Hid (OwnS wo w.heap.size 23 2 u (prow (pairsE rs ss))) := by have h := HO.out; rw [HE.out] at h; exact h
            clear HO HL hfull HE
            subst hue
            go_wp2
            go_ret
            exact ⟨_, rfl, HO2.out, HB.out⟩
          have HLW : Hid ((pairsAt rs ss i k).length < 1000) := by have := HL.out; show _ < _; omega
          obtain ⟨n, hn⟩ : ∃ n, (pairsAt rs ss i k).length = n := ⟨_, rfl⟩
          rw [hn] at hue hfull
          have hfI : ¬ (n : Int) = 1000 := by omega
          have hfq : ((n : Int) == 1000) = false := by simpa using hfI
          obtain ⟨b1, o1, c1, he1, -, hb1, hc1⟩ := (HV.out.below HB.out).open (by intro h0; rw [h0] at hlt; simp at hlt)
          obtain ⟨b2, o2, c2, he2, -, hb2, hc2⟩ := (HV2.out.below HB.out).open (by intro h0; rw [h0] at hlk; simp at hlk)
          simp only [Value.slice.injEq] at he1 he2
          obtain ⟨rfl, -, rfl⟩ := he1
          obtain ⟨rfl, -, rfl⟩ := he2
          have d1 := hc1 i hlt
          have d2 := hc2 k hlk
          obtain ⟨y1, hy1⟩ : ∃ y, rs.getD i 0 = y := ⟨_, rfl⟩
          obtain ⟨y2, hy2⟩ : ∃ y, ss.getD k 0 = y := ⟨_, rfl⟩
          rw [hy1] at d1
          rw [hy2] at d2
          have HSTEP := Lib.hid (pairsAt_step (rs := rs) (i := i) hlk)
          have T1 := Lib.hid fun w' => rthread_any y1 w' (hy1 ▸ H64.out i)
          have T2 := Lib.hid fun w' => rthread_any y2 w' (hy2 ▸ H642.out k)
          rw [hy1, hy2] at HSTEP
          obtain ⟨z1, hz1⟩ : ∃ z, threadE y1 = z := ⟨_, rfl⟩
          obtain ⟨z2, hz2⟩ : ∃ z, threadE y2 = z := ⟨_, rfl⟩
          rw [hz1] at T1 HSTEP
          rw [hz2] at T2 HSTEP
          have HY := Lib.hid (And.intro hb1 hb2)
          have D1 := Lib.hid d1
          have D2 := Lib.hid d2
          have HSZ := HB.out.size
          have HUE := Lib.hid hue
          clear hc1 hc2 hy1 hy2 hz1 hz2 hn hb1 hb2
          subst hue
          go_upto_region 10 with fail
          have X1 := ext_cell _ _ HY.out.1 _ d1
          have X2 := ext_cell _ _ HY.out.2 _ d2
          clear d1 d2
          refine wp_region_ext wo (by kernel_rfl) (by kernel_rfl) (Below.refl _ _) ?_
          repeat (go_big_quiet_step (first
            | (go_at_call 14; with_reducible exact calls_ext ((T1.out _).mono (fun e w' h => ⟨h.1, h.2 ▸ Below.refl _ _⟩)))
            | (go_at_call 14; with_reducible exact calls_ext ((T2.out _).mono (fun e w' h => ⟨h.1, h.2 ▸ Below.refl _ _⟩)))))
          refine wpQuiet_nil ?_
          intro _ hw'
          obtain ⟨n9, rfl⟩ := hw'
          have HN9 := Lib.hid n9.below
          generalize n9.wd = w2 at *
          clear X1 X2 T1 T2 hfI hfq hfull
          have HB2 := Lib.hid (below_then HB.out HN9.out)
          have HO2 := Lib.hid (HO.out.below HN9.out)
          by_cases h : z1 = z2
          · have hq : (z1 != z2) = false := by simpa using h
            have HS2 : Hid (pairsAt rs ss i (k + 1) = pairsAt rs ss i k) := by show _ = _; rw [HSTEP.out, if_pos h, List.append_nil]
            go_wp2_with fail
            go_roundw
            case rel => exact ⟨k + 1, _, rfl, by go_num, by omega, by rw [HS2.out]; exact HO2, by rw [HS2.out]; have := HLW.out; show _ ≤ _; omega, HB2⟩
            case measure => simp [intOf]; omega
          · have hq : (z1 != z2) = true := by simpa using h
            have HS2 : Hid (pairsAt rs ss i (k + 1) = pairsAt rs ss i k ++ [(y1, y2)]) := by show _ = _; rw [HSTEP.out, if_neg h]
            have KSa : Hid (∀ w', Below w2.heap.size w2 w' → (fun w' : World => w'.cell? ⟨b1, o1 + i, none⟩ = some (.int .i64 y1) ∧ w'.cell? ⟨b2, o2 + k, none⟩ = some (.int .i64 y2)) w') := fun w' hb => ⟨((below_then HN9.out hb).cell (p := ⟨b1, o1 + i, none⟩) HY.out.1).trans D1.out, ((below_then HN9.out hb).cell (p := ⟨b2, o2 + k, none⟩) HY.out.2).trans D2.out⟩
            go_upto_region 11 with fail
            refine untilK KSa 9 13 (by kernel_rfl) rfl ?_
            obtain ⟨u0, hu0, HU0⟩ := drew_pack w2
            rw [hu0]
            clear hu0
            have hSU0 := KSa.out _ HU0.out
            refine wpAnyU_takeW (v := ?_) 0 la0 (by kernel_rfl) (by kernel_rfl) (by kernel_rfl) (by kernel_rfl) (fun _ _ _ h => h) (fun _ => hSU0) rfl ?_ ?_
            rotate_left
            · (intro w; go_simp <;> with_reducible rfl)
            simp only [Act.put, List.setIfInBounds_toArray, List.set_cons_zero, List.set_cons_succ]
            refine wpAnyU_takeW (v := ?_) 1 la1 (by kernel_rfl) (by kernel_rfl) (by kernel_rfl) (by kernel_rfl) (fun _ _ _ h => h) (fun _ => hSU0) rfl ?_ ?_
            rotate_left
            · (intro w; go_simp <;> with_reducible rfl)
            simp only [Act.put, List.setIfInBounds_toArray, List.set_cons_zero, List.set_cons_succ]
            refine wpAnyU_takeW (v := ?_) 2 la2 (by kernel_rfl) (by kernel_rfl) (by kernel_rfl) (by kernel_rfl) (fun _ _ _ h => h) (fun _ => hSU0) rfl ?_ ?_
            rotate_left
            · (intro w; go_simp <;> with_reducible rfl)
            simp only [Act.put, List.setIfInBounds_toArray, List.set_cons_zero, List.set_cons_succ]
            refine wpAnyU_takeW (v := ?_) 3 la3 (by kernel_rfl) (by kernel_rfl) (by kernel_rfl) (by kernel_rfl) (fun _ _ _ h => h) (fun _ => hSU0) rfl ?_ ?_
            rotate_left
            · (intro w; go_simp <;> with_reducible rfl)
            simp only [Act.put, List.setIfInBounds_toArray, List.set_cons_zero, List.set_cons_succ]
            refine tkU (v := ?_) 4 la4 hSU0 (by kernel_rfl) (fun _ _ _ h => h) rfl ?_ ?_
            rotate_left
            · (intro w hSw; (try dsimp only at hSw); go_simp <;> with_reducible rfl)
            simp only [Act.put, List.setIfInBounds_toArray, List.set_cons_zero, List.set_cons_succ]
            refine wpAnyU_takeW (v := ?_) 5 la5 (by kernel_rfl) (by kernel_rfl) (by kernel_rfl) (by kernel_rfl) (fun _ _ _ h => h) (fun _ => hSU0) rfl ?_ ?_
            rotate_left
            · (intro w; go_simp <;> with_reducible rfl)
            simp only [Act.put, List.setIfInBounds_toArray, List.set_cons_zero, List.set_cons_succ]
            refine wpAnyU_takeW (v := ?_) 6 la6 (by kernel_rfl) (by kernel_rfl) (by kernel_rfl) (by kernel_rfl) (fun _ _ _ h => h) (fun _ => hSU0) rfl ?_ ?_
            rotate_left
            · (intro w; go_simp <;> with_reducible rfl)
            simp only [Act.put, List.setIfInBounds_toArray, List.set_cons_zero, List.set_cons_succ]
            refine wpAnyU_takeW (v := ?_) 7 la7 (by kernel_rfl) (by kernel_rfl) (by kernel_rfl) (by kernel_rfl) (fun _ _ _ h => h) (fun _ => hSU0) rfl ?_ ?_
            rotate_left
            · (intro w; go_simp <;> with_reducible rfl)
            simp only [Act.put, List.setIfInBounds_toArray, List.set_cons_zero, List.set_cons_succ]
            refine tkU (v := ?_) 8 la8 hSU0 (by kernel_rfl) (fun _ _ _ h => h) rfl ?_ ?_
            rotate_left
            · (intro w hSw; (try dsimp only at hSw); go_simp <;> with_reducible rfl)
            simp only [Act.put, List.setIfInBounds_toArray, List.set_cons_zero, List.set_cons_succ]
            refine wpAnyU_ready (rs := [9]) (by kernel_rfl) rfl ?_
            refine AllReadyU.free la9 rfl (by kernel_rfl) (fun K hK => ?_) ?_
            · go_simp
              refine hK.out _ _ ?_
              clear hK K hSU0
              try simp only [Act.put, List.setIfInBounds_toArray, List.set_cons_zero, List.set_cons_succ]
              refine wpAnyU_ready (rs := [10]) (by kernel_rfl) rfl ?_
              refine AllReadyU.free la10 rfl (by kernel_rfl) (fun K hK => ?_) ?_
              · go_simp
                obtain ⟨u1, nb, hv1, hX, RN, hbn, ltn⟩ := alloc_pack u0 (.cells #[.int .i64 y1, .int .i64 y2] 23)
                rw [hv1, hX]
                have HU1 := Lib.hid (below_then HU0.out hbn.out)
                clear hv1 hX hbn ltn
                refine hK.out _ _ ?_
                clear hK K
                try simp only [Act.put, List.setIfInBounds_toArray, List.set_cons_zero, List.set_cons_succ]
                refine wpAnyU_ready (rs := [11]) (by kernel_rfl) rfl ?_
                refine AllReadyU.free la11 rfl (by kernel_rfl) (fun K hK => ?_) ?_
                · refine step_append_s (w := u1) 24 (by kernel_rfl) Try.info_pair rfl (by decide) (by decide) (by rfl) _ _ (by rfl) (by rfl) (HO2.out.below HU1.out) [.int .i64 y1, .int .i64 y2] rfl (by intro u hu; simp only [List.mem_cons, List.not_mem_nil, or_false] at hu; rcases hu with rfl | rfl <;> rfl) nb (by rfl) RN.out (by have := HLW.out; rw [prow_length]; omega) (by have := HU1.out.size; have := HB2.out.size; omega) ?_
                  intro v2 w3 h1 h2 _
                  have H1 := Lib.hid h1
                  have H2 := Lib.hid h2
                  clear h1 h2
                  refine hK.out _ _ ?_
                  clear hK K
                  try simp only [Act.put, List.setIfInBounds_toArray, List.set_cons_zero, List.set_cons_succ]
                  refine wpAnyU_takeW (v := ?_) 12 la12 (by kernel_rfl) (by kernel_rfl) (by kernel_rfl) (by kernel_rfl) (fun _ _ _ h => h) (past_k (by kernel_rfl)) rfl ?_ ?_
                  rotate_left
                  · (intro w; go_simp <;> with_reducible rfl)
                  simp only [Act.put, List.setIfInBounds_toArray, List.set_cons_zero, List.set_cons_succ]
                  refine wpAnyU_done (by kernel_rfl) ?_ _
                  have HB3 : Hid (Below w.heap.size w w3) := (below_then HB2.out HU1.out).grown H2.out (below_then HB2.out HU1.out).size (fun j hj => (HO2.out.lt j hj).1)
                  go_wp2_with fail
                  go_roundw
                  case rel => exact ⟨k + 1, v2, rfl, by go_num, by omega, by rw [HS2.out, prow_snoc]; exact H1, by rw [HS2.out, List.length_append]; have := HLW.out; show _ + 1 ≤ 1000; omega, HB3⟩
                  case measure => simp [intOf]; omega
                exact AllReadyU.nil
              exact AllReadyU.nil
            exact AllReadyU.nil
        · have hge : ¬ (k : Int) < (ss.length : Int) := by omega
          have hkl : k = ss.length := by omega
          have HNX : Hid (pairsAt rs ss i k = pairsAt rs ss (i + 1) 0) := by show _ = _; rw [hkl]; exact pairsAt_next hlt
          have HO2 : Hid (OwnS wo w.heap.size 23 2 u (prow (pairsAt rs ss (i + 1) 0))) := by have h := HO.out; rw [HNX.out] at h; exact h
          have HL2 : Hid ((pairsAt rs ss (i + 1) 0).length ≤ 1000) := by have h := HL.out; rw [HNX.out] at h; exact h
          clear HO HL HNX hkl
          go_wp2_with fail
          go_roundw
          case rel => exact ⟨i + 1, u, rfl, by go_num, by omega, HO2, HL2, HB⟩
          case measure => simp [intOf]; omega
    · have hge : ¬ (i : Int) < (rs.length : Int) := by omega
      have hil : i = rs.length := by omega
      have HE : Hid (pairsAt rs ss i 0 = pairsE rs ss) := by
        have h := HL.out
        rw [hil, pairsAt_end] at h
        show _ = _
        rw [hil, pairsAt_end]
        exact pairs_few h
      have HO2 : Hid (OwnS wo w.heap.size 23 2 u (prow (pairsE rs ss))) := by have h := HO.out; rw [HE.out] at h; exact h
      clear HO HL HE hil
      go_wp2
      go_ret
      exact ⟨u, rfl, HO2.out, HB.out⟩
end Go.Proofs.Ytimgcehogalhcaa
