/- Proved: WaitlistRecords returns true for every thread, index, record, t and i; no condition. -/
import Derived.Test.YtimgcehogalhcaaLaw
import Derived.Test.YtimgcehogalhcaaAwk
import Derived.Deep.CutBlock
import Derived.LoopTactic
import Derived.WalkKit
import Derived.ProofKit
import Derived.OpenShut
import Derived.SizedLaws
namespace Go.Proofs.Ytimgcehogalhcaa.waitlistRecords
open Go.ChangeShapes Go.WideShapes Go.ChangeAt Go.RowKit
set_option linter.unusedVariables false
set_option linter.unusedSimpArgs false
set_option maxRecDepth 100000 in
set_option maxHeartbeats 16000000 in
theorem walk (w : World) (a0 : Int) (w0 : (Lit.int .i64 a0).wf = true) (a1 : Int) (w1 : (Lit.int .i64 a1).wf = true) (a2 : Int) (w2 : (Lit.int .i64 a2).wf = true) (a3 : Int) (w3 : (Lit.int .u8 a3).wf = true) (a4 : Int) (w4 : (Lit.int .u8 a4).wf = true) :
    Calls Try.prog 3 #[.int .i64 a0, .int .i64 a1, .int .i64 a2, .int .u8 a3, .int .u8 a4] w fun e w' => e = .returned (.bool true) ∧ Below w.heap.size w w' := by
  have hr : I64 a2 := I64.of (wrap_of_wf w2)
  have HR := Lib.hid hr
  have h3 : 0 ≤ a3 ∧ a3 ≤ 255 := by
    have h1 := wrap_of_wf w3
    rw [IntKind.wrap_u8] at h1
    omega
  have h4 : 0 ≤ a4 ∧ a4 ≤ 255 := by
    have h1 := wrap_of_wf w4
    rw [IntKind.wrap_u8] at h1
    omega
  have hc3 : IntKind.i64.wrap a3 = a3 := by rw [IntKind.wrap_i64]; omega
  have hc4 : IntKind.i64.wrap a4 = a4 := by rw [IntKind.wrap_i64]; omega
  obtain ⟨s, hs⟩ : ∃ s, a3.tmod 10 = s := ⟨_, rfl⟩
  obtain ⟨v, hv⟩ : ∃ s, a4.tmod 8 = s := ⟨_, rfl⟩
  have hs9 : 0 ≤ s ∧ s ≤ 9 := by rw [← hs, Int.tmod_eq_emod_of_nonneg h3.1]; omega
  have hv7 : 0 ≤ v ∧ v ≤ 7 := by rw [← hv, Int.tmod_eq_emod_of_nonneg h4.1]; omega
  have hse : a3 % 10 = s := by rw [← hs, Int.tmod_eq_emod_of_nonneg h3.1]
  have hve : a4 % 8 = v := by rw [← hv, Int.tmod_eq_emod_of_nonneg h4.1]
  have hs0 : IntKind.i64.wrap s = s := by rw [IntKind.wrap_i64]; omega
  have hv0 : IntKind.i64.wrap v = v := by rw [IntKind.wrap_i64]; omega
  have hs1 : IntKind.i64.wrap (s - 1) = s - 1 := by rw [IntKind.wrap_i64]; omega
  have hv1 : IntKind.i64.wrap (v - 1) = v - 1 := by rw [IntKind.wrap_i64]; omega
  have HSV : Hid ((IntKind.i64.wrap a3 = a3 ∧ IntKind.i64.wrap a4 = a4 ∧ a3.tmod 10 = s ∧ a4.tmod 8 = v) ∧ (a3 % 10 = s ∧ a4 % 8 = v) ∧ IntKind.i64.wrap s = s ∧ IntKind.i64.wrap v = v ∧ IntKind.i64.wrap (s - 1) = s - 1 ∧ IntKind.i64.wrap (v - 1) = v - 1) := ⟨⟨hc3, hc4, hs, hv⟩, ⟨hse, hve⟩, hs0, hv0, hs1, hv1⟩
  have M1 := Lib.hid fun w' => mod_any a2 60 w' (by omega) (by omega)
  obtain ⟨m0, hm0⟩ : ∃ m, a2 % 60 = m := ⟨_, rfl⟩
  have hm1 : 0 ≤ m0 ∧ m0 < 60 := by omega
  rw [hm0] at M1
  have hmw : IntKind.i64.wrap (m0 - 3) = m0 - 3 := by rw [IntKind.wrap_i64]; omega
  have HMW := Lib.hid hmw
  have HM0 : Hid (I64 (m0 - 3)) := by show I64 (m0 - 3); unfold I64; omega
  clear hm0 hm1 hr w0 w1 w2 w3 w4 h3 h4 hc3 hc4 hs hv hs9 hv7 hse hve hs0 hv0 hs1 hv1 hmw
  go_enter Try.func3, Try.ntmps3
  go_wp2_with fail
  refine (awake_any _).mono ?_; rintro e wa ⟨rfl, hba⟩
  have HB := Lib.hid hba
  clear hba
  obtain ⟨⟨hc3, hc4, hs, hv⟩, ⟨hse, hve⟩, hs0, hv0, hs1, hv1⟩ := HSV.out
  go_upto_region 4 with fail
  clear hc3 hc4 hs hv hse hve hs0 hv0 hs1 hv1
  obtain ⟨w1, K, hv1, hX, RK0, hbn, ltn⟩ := alloc_pack wa (.cells #[.int .i64 a0, .int .i64 a1, .int .i64 s, .int .i64 v, .int .i64 (s - 1), .int .i64 (v - 1)] 23)
  have HB1 := Lib.hid (below_then HB.out hbn.out)
  rw [hv1, hX]
  clear hv1 hX hbn ltn HB
  go_loopw [39] (fun u39 wr => ∃ i : Nat, u39 = .int .i64 i ∧ i ≤ 3 ∧ Hid (wr.heap[K]? = some (.cells #[.int .i64 a0, .int .i64 a1, .int .i64 s, .int .i64 v, .int .i64 (s - 1), .int .i64 (v - 1)] 23 (0, 0))) ∧ Hid (Below w.heap.size w wr)) (fun u39 _ => 4 - (intOf u39).toNat)
  case atStart => exact ⟨0, rfl, by omega, RK0, HB1⟩
  case round =>
    clear RK0 HB1
    obtain ⟨i, rfl, hi, RK, HB⟩ := hrel
    obtain ⟨wo, rfl⟩ : ∃ wo : World, wo = wr := ⟨_, rfl⟩
    by_cases hlt : i < 3
    · have hltI : (i : Int) < 3 := by omega
      have HPQ : ∃ p q, wo.cell? ⟨K, i * 2, none⟩ = some (.int .i64 p) ∧ wo.cell? ⟨K, i * 2 + 1, none⟩ = some (.int .i64 q) := by
        have hi3 : i = 0 ∨ i = 1 ∨ i = 2 := by omega
        rcases hi3 with rfl | rfl | rfl
        · exact ⟨a0, a1, cell_of_row _ _ 0 _ _ _ RK.out, cell_of_row _ _ 1 _ _ _ RK.out⟩
        · exact ⟨s, v, cell_of_row _ _ 2 _ _ _ RK.out, cell_of_row _ _ 3 _ _ _ RK.out⟩
        · exact ⟨s - 1, v - 1, cell_of_row _ _ 4 _ _ _ RK.out, cell_of_row _ _ 5 _ _ _ RK.out⟩
      obtain ⟨p, q, c0, c1⟩ := HPQ
      obtain ⟨r, hrr⟩ : ∃ r, recordE p q = r := ⟨_, rfl⟩
      have HRR : Hid (I64 r ∧ (0 ≤ r → threadE r = p ∧ caseE r = q)) := ⟨by rw [← hrr]; unfold recordE I64; split <;> omega, fun h => by rw [← hrr] at h ⊢; exact recordE_parts h⟩
      have T1 := Lib.hid fun w' => precord_any p q w'
      have T2 := Lib.hid fun w' => rrecord_any p q w'
      have T3 := Lib.hid fun w' => pthread_any r w' HRR.out.1
      have T4 := Lib.hid fun w' => pcase_any r w' HRR.out.1
      rw [hrr] at T1 T2
      clear hrr
      obtain ⟨Wx, hWx⟩ : ∃ Wx, (wo.alloc (.cells #[.int .i64 0, .int .i64 0] 23)).setRow wo.heap.size #[.int .i64 p, .int .i64 q] = Wx := ⟨_, rfl⟩
      have Nx : Hid ((wo.alloc (.cells #[.int .i64 0, .int .i64 0] 23)).heap[wo.heap.size]? = some (.cells #[.int .i64 0, .int .i64 0] 23 (0, 0))) := heap_alloc_new _ _
      have HBx : Hid (Below wo.heap.size wo Wx) := hWx ▸ row_below (below_new (Below.refl _ _) _) (Nat.le_refl _) _
      have Rx : Hid (Wx.heap[wo.heap.size]? = some (.cells #[.int .i64 p, .int .i64 q] 23 (0, 0))) := hWx ▸ setRow_heap _ _ _ _ _ (0, 0) Nx.out
      have HWx := Lib.hid hWx
      clear hWx
      go_upto_region 6 with (refine wpList_store_row rfl 23 _ _ rfl (wo.heap.size) _ rfl rfl 23 #[.int .i64 0, .int .i64 0] Nx.out (by kernel_rfl) rfl (by simp [Value.oneCell']) ?_)
      rw [HWx.out]
      try simp only [Act.put]
      clear HWx Nx
      obtain ⟨P, hP⟩ : ∃ P, wo.heap.size = P := ⟨_, rfl⟩
      rw [hP] at Rx
      rw [hP]
      clear hP
      have HBX := Lib.hid (below_then HB.out HBx.out)
      have RKx := Lib.hid ((HBx.out.block K (Array.getElem?_eq_some_iff.1 RK.out).1).trans RK.out)
      clear c0 c1 RK
      have x0 := cell_of_row _ _ 0 _ _ _ Rx.out
      have x1 := cell_of_row _ _ 1 _ _ _ Rx.out
      go_wp2_with fail
      refine (T1.out _).mono ?_; rintro e w3 ⟨rfl, hb3⟩
      have HB3 := Lib.hid (below_then HBX.out hb3)
      have R3 := Lib.hid ((hb3.block P (Array.getElem?_eq_some_iff.1 Rx.out).1).trans Rx.out)
      have RK3 := Lib.hid ((hb3.block K (Array.getElem?_eq_some_iff.1 RKx.out).1).trans RKx.out)
      clear x0 x1 hb3 T1
      have x0 := cell_of_row _ _ 0 _ _ _ R3.out
      have x1 := cell_of_row _ _ 1 _ _ _ R3.out
      go_wp2_with fail
      refine (T2.out _).mono ?_; rintro e w' ⟨rfl, rfl⟩
      by_cases hr0 : 0 ≤ r
      · obtain ⟨ht, hcs⟩ := HRR.out.2 hr0
        rw [ht] at T3
        rw [hcs] at T4
        clear ht hcs T2
        go_upto_region 9 with fail
        have X1 := ext_cell _ _ (Array.getElem?_eq_some_iff.1 R3.out).1 _ x0
        have X2 := ext_cell _ _ (Array.getElem?_eq_some_iff.1 R3.out).1 _ x1
        clear x0 x1
        refine wp_region_ext w3 (by kernel_rfl) (by kernel_rfl) (Below.refl _ _) ?_
        repeat (go_big_quiet_step (first
          | (go_at_call 11; with_reducible exact calls_ext (T3.out _))
          | (go_at_call 12; with_reducible exact calls_ext (T4.out _))))
        refine wpQuiet_nil ?_
        intro _ hw'
        obtain ⟨n9, rfl⟩ := hw'
        have HB9 := Lib.hid (below_then HB3.out n9.below)
        have RK9 := Lib.hid ((n9.below.block K (Array.getElem?_eq_some_iff.1 RK3.out).1).trans RK3.out)
        generalize n9.wd = w9 at *
        go_wp2_with fail
        go_roundw
        case rel => exact ⟨i + 1, by go_num, by omega, RK9, HB9⟩
        case measure => simp [intOf]; omega
      · have hq1 : decide (0 ≤ r) = false := decide_eq_false hr0
        have hq2 : decide (r ≥ 0) = false := decide_eq_false hr0
        clear hr0
        clear T2
        go_upto_region 9 with fail
        clear x0 x1
        refine wp_region_ext w3 (by kernel_rfl) (by kernel_rfl) (Below.refl _ _) ?_
        repeat (go_big_quiet_step (fail))
        refine wpQuiet_nil ?_
        intro _ hw'
        obtain ⟨n9, rfl⟩ := hw'
        have HB9 := Lib.hid (below_then HB3.out n9.below)
        have RK9 := Lib.hid ((n9.below.block K (Array.getElem?_eq_some_iff.1 RK3.out).1).trans RK3.out)
        generalize n9.wd = w9 at *
        go_wp2_with fail
        go_roundw
        case rel => exact ⟨i + 1, by go_num, by omega, RK9, HB9⟩
        case measure => simp [intOf]; omega
    · have hge : ¬ (i : Int) < 3 := by omega
      go_wp2_with fail
      refine (M1.out _).mono ?_; rintro e w' ⟨rfl, rfl⟩
      have hmw := HMW.out
      go_upto_region 13 with fail
      clear hmw hge hlt hi
      obtain ⟨w1, K2, hv1, hX, RK0, hbn, ltn⟩ := alloc_pack wo (.cells #[.int .i64 a2, .int .i64 (m0 - 3)] 3)
      have HB1 := Lib.hid (below_then HB.out hbn.out)
      rw [hv1, hX]
      clear hv1 hX hbn ltn HB RK
      go_loopw [78] (fun u78 wr => ∃ i : Nat, u78 = .int .i64 i ∧ i ≤ 2 ∧ Hid (wr.heap[K2]? = some (.cells #[.int .i64 a2, .int .i64 (m0 - 3)] 3 (0, 0))) ∧ Hid (Below w.heap.size w wr)) (fun u78 _ => 3 - (intOf u78).toNat)
      case atStart => exact ⟨0, rfl, by omega, RK0, HB1⟩
      case round =>
        clear RK0 HB1
        obtain ⟨i, rfl, hi, RK, HB⟩ := hrel
        obtain ⟨wo, rfl⟩ : ∃ wo : World, wo = wr := ⟨_, rfl⟩
        by_cases hlt : i < 2
        · have hltI : (i : Int) < 2 := by omega
          have HPQ : ∃ r, Hid (I64 r) ∧ wo.cell? ⟨K2, i, none⟩ = some (.int .i64 r) := by
            have hi3 : i = 0 ∨ i = 1 := by omega
            rcases hi3 with rfl | rfl
            · exact ⟨a2, HR, cell_of_row _ _ 0 _ _ _ RK.out⟩
            · exact ⟨m0 - 3, HM0, cell_of_row _ _ 1 _ _ _ RK.out⟩
          obtain ⟨r, HRR, c0⟩ := HPQ
          have T1 := Lib.hid fun w' => pthread_any r w' HRR.out
          have T2 := Lib.hid fun w' => rthread_any r w' HRR.out
          have T3 := Lib.hid fun w' => pcase_any r w' HRR.out
          have T4 := Lib.hid fun w' => rcase_any r w' HRR.out
          obtain ⟨x, hx⟩ : ∃ x, threadE r = x := ⟨_, rfl⟩
          obtain ⟨y, hy⟩ : ∃ x, caseE r = x := ⟨_, rfl⟩
          rw [hx] at T1 T2
          rw [hy] at T3 T4
          clear hx hy
          go_wp2_with fail
          refine (T1.out _).mono ?_; rintro e w3 ⟨rfl, hb3⟩
          have HB3 := Lib.hid (below_then HB.out hb3)
          have RK3 := Lib.hid ((hb3.block K2 (Array.getElem?_eq_some_iff.1 RK.out).1).trans RK.out)
          clear c0 hb3 T1
          go_wp2_with fail
          refine (T2.out _).mono ?_; rintro e w' ⟨rfl, rfl⟩
          clear T2
          go_wp2_with fail
          refine (T3.out _).mono ?_; rintro e w4 ⟨rfl, hb4⟩
          have HB4 := Lib.hid (below_then HB3.out hb4)
          have RK4 := Lib.hid ((hb4.block K2 (Array.getElem?_eq_some_iff.1 RK3.out).1).trans RK3.out)
          clear hb4 T3
          go_wp2_with fail
          refine (T4.out _).mono ?_; rintro e w' ⟨rfl, rfl⟩
          clear T4
          go_wp2_with fail
          go_roundw
          case rel => exact ⟨i + 1, by go_num, by omega, RK4, HB4⟩
          case measure => simp [intOf]; omega
        · have hge : ¬ (i : Int) < 2 := by omega
          go_wp2
          go_ret
          exact ⟨rfl, HB.out⟩
set_option maxRecDepth 100000 in
theorem lifted (os : Os) (started : os.Started) (H : Type) (enc : TypeId × Value → H) :
    ReturnsInHanded {} Try.checked os 3 .any (Rows.waitlistRecordsSpec.pre6 enc Try.prog Try.f3 Rows.waitlistRecordsRow.domain false) (Rows.waitlistRecordsSpec.post enc Try.prog Try.f3 false true false false) := by
  refine returnsInHanded_of_change_sized (C := Try.checked) own started (by kernel_rfl) Try.func3
    (ChangeSpec.witness6 (enc := enc) (C := Try.checked) false ⟨#[], #[.int .i64 0, .int .i64 0, .int .i64 0, .int .u8 0, .int .u8 0], []⟩ 8 (by kernel_rfl) (by kernel_rfl) (by kernel_rfl) (by kernel_rfl)) ?_
  intro W base args ds gs before hval0 hW _ hsz0 _
  have hsz : (DataW.weightsEach Try.prog (Try.f3.params.toList ++ Rows.waitlistRecordsSpec.plain.varTypes Try.prog) (ds ++ gs)).all (· ≤ reachBytes) = true := hsz0
  clear hsz0
  have hval : ∀ (j : Nat) t v, Try.f3.params[j]? = some t → args[j]? = some v → Value.okWide Try.prog W .any base t v := hval0
  have hW' := hW
  obtain ⟨p, q, hA0, hV, rfl, _, _⟩ := hW
  have hA : DataW.TrodAll enc Try.prog W 0 (fun _ => true) true Try.f3.params.toList args.toList ds p := hA0
  rw [Try.params3] at hA hval hsz
  obtain ⟨v0, vs0, d0, ds0, p0, q0, hargs, rfl, rfl, h0, r0⟩ := trodAll_cons hA
  obtain ⟨v1, vs1, d1, ds1, p1, q1, rfl, rfl, rfl, h1, r1⟩ := trodAll_cons r0
  obtain ⟨v2, vs2, d2, ds2, p2, q2, rfl, rfl, rfl, h2, r2⟩ := trodAll_cons r1
  obtain ⟨v3, vs3, d3, ds3, p3, q3, rfl, rfl, rfl, h3, r3⟩ := trodAll_cons r2
  obtain ⟨v4, vs4, d4, ds4, p4, q4, rfl, rfl, rfl, h4, r4⟩ := trodAll_cons r3
  obtain ⟨rfl, rfl, rfl⟩ := trodAll_nil r4
  obtain rfl : args = #[v0, v1, v2, v3, v4] := by cases args; simp_all
  obtain ⟨rfl, rfl⟩ := trodVars_none hV
  have k0 := h0
  have k1 := h1
  have k2 := h2
  have k3 := h3
  have k4 := h4
  obtain ⟨a0, rfl, -, -, w0⟩ := open_int Try.underlying3 (hval 0 3 v0 rfl rfl) h0
  obtain ⟨a1, rfl, -, -, w1⟩ := open_int Try.underlying3 (hval 1 3 v1 rfl rfl) h1
  obtain ⟨a2, rfl, -, -, w2⟩ := open_int Try.underlying3 (hval 2 3 v2 rfl rfl) h2
  obtain ⟨a3, rfl, -, -, w3⟩ := open_int Try.underlying5 (hval 3 5 v3 rfl rfl) h3
  obtain ⟨a4, rfl, -, -, w4⟩ := open_int Try.underlying5 (hval 4 5 v4 rfl rfl) h4
  clear hA0 hval0
  simp only [List.append_nil] at hW'
  have hlt := hW'.lt
  refine (walk W a0 w0 a1 w1 a2 w2 a3 w3 a4 w4).mono fun e W' ⟨he, hb⟩ => ?_
  subst he
  exact ⟨_, rfl, _, _, _, [], _, [], hW', trodAll_cons_mk (shut_bool Try.underlying4 _) trodAll_mk0, (trodAll_cons_mk (Below.trod Try.laidOut (by kernel_rfl) (of_decide_eq_true (by kernel_rfl)) k0 hb (fun x hx => by simpa using hlt x (by simp [hx]))) (trodAll_cons_mk (Below.trod Try.laidOut (by kernel_rfl) (of_decide_eq_true (by kernel_rfl)) k1 hb (fun x hx => by simpa using hlt x (by simp [hx]))) (trodAll_cons_mk (Below.trod Try.laidOut (by kernel_rfl) (of_decide_eq_true (by kernel_rfl)) k2 hb (fun x hx => by simpa using hlt x (by simp [hx]))) (trodAll_cons_mk (Below.trod Try.laidOut (by kernel_rfl) (of_decide_eq_true (by kernel_rfl)) k3 hb (fun x hx => by simpa using hlt x (by simp [hx]))) (trodAll_cons_mk (Below.trod Try.laidOut (by kernel_rfl) (of_decide_eq_true (by kernel_rfl)) k4 hb (fun x hx => by simpa using hlt x (by simp [hx]))) trodAll_mk0))))), rfl, hb.frame _, fun h => by cases h⟩
theorem over : Rows.waitlistRecordsRow.holds Try.pinned (OpenSpec.ofChange Rows.waitlistRecordsSpec) :=
  OpenClaim.holds_of_wide 3 Try.f3 rfl rfl rfl rfl rfl rfl rfl ⟨rfl, rfl, rfl, rfl, rfl⟩ rfl rfl rfl rfl rfl (by kernel_rfl) Try.func3 (by kernel_rfl)
    (of_decide_eq_true (by kernel_rfl)) (by unfold Func.isWrapper; first | (rw [if_pos (by decide +kernel)]; kernel_rfl) | (rw [if_neg (by decide +kernel)]; exact ⟨rfl, rfl⟩))
    (fun os started H enc _ => lifted os started H enc)
/-- THE STATEMENT -/
theorem proved : Rows.WaitlistRecordsSaid :=
  over
end Go.Proofs.Ytimgcehogalhcaa.waitlistRecords
