/- Proved: CountTruth returns true, and its arguments read afterwards as before, for every list of codes and every list of picks; no condition. -/
import Derived.LoopTactic
import Derived.WalkKit
import Derived.ProofKit
import Derived.OpenShut
import Derived.SizedLaws
import Derived.Test.YtjnlkemdaffgbaaB01
import Derived.Test.YtjnlkemdaffgbaaB29
import Derived.Test.YtjnlkemdaffgbaaB34
namespace Go.Proofs.Ytjnlkemdaffgbaa.countTruth
open Go.ChangeShapes Go.WideShapes Go.ChangeAt Go.RowKit
set_option linter.unusedVariables false
set_option linter.unusedSimpArgs false
set_option maxRecDepth 100000 in
set_option maxHeartbeats 32000000 in
theorem walk (w : World) (v0 : Value) (l0 : List Int) (s0 : SlI w .u8 v0 l0) (v1 : Value) (l1 : List Int) (s1 : SlI w .u8 v1 l1) :
    Calls Try.prog 5 #[v0, v1] w fun e w' => e = .returned (.bool true) ∧ Below w.heap.size w w' := by
  have HS0 := Lib.hid s0
  have HS1 := Lib.hid s1
  clear s0 s1
  go_enter Try.func5, Try.ntmps5
  go_wp2_with fail
  refine (awake8_any _).mono ?_; rintro e wa ⟨rfl, hba⟩
  have HBA := Lib.hid hba
  clear hba
  have HO := Lib.hid (others_any v0 l0 7 (by omega) wa (HS0.out.below HBA.out))
  go_wp2_with fail
  refine HO.out.mono ?_
  rintro e wb ⟨B, g, x, y, rfl, HI, HF, HK, HL, HC⟩
  clear HO HS0
  obtain ⟨c, hc⟩ : ∃ c, y.c = c := ⟨_, rfl⟩
  have HG : Hid c.good := hc ▸ HI.out.good
  have HC1 : Hid (1 ≤ c.caps.length ∧ 1 ≤ c.caps.getD 0 0 ∧ c.caps.getD 0 0 ≤ 4) := hc ▸ ⟨HC.out.2.2, HC.out.1, HC.out.2.1⟩
  have hym : y.m = newE c := by rw [HL.out.2.2.2, hc]
  have HFT : Hid (newE c).fits := hym ▸ HI.out.fits
  obtain ⟨n, hn⟩ : ∃ n, y.l.length = n := ⟨_, rfl⟩
  have hn7 : n ≤ 7 := by rw [← hn]; exact HL.out.1
  have HA0 : Hid (AL wa wb [some g] B x y c n 0) := ⟨HI.out, HF.out, hc, fun m hm => hc ▸ (HK.out m hm).1, hn, by rw [HL.out.2.1, HL.out.2.2.1]; exact ⟨Nat.le_refl _, Nat.le_refl _⟩, HC1.out.1⟩
  have HY0 : Hid (y.m = newE c ∧ ∀ k ∈ y.l, Fresh c k) := ⟨hym, fun k hk => by obtain ⟨h1, h2, h3⟩ := HK.out k hk; rw [hc] at h1; exact ⟨h1, h2, h3⟩⟩
  have HN : Hid (y.l.length = n) := hn
  clear hc hym HI HF HK HL HC hn
  have TA := Lib.hid (al_add HA0.out (by omega) 6 0 (.inr (.inr (.inr rfl))) U64.zero)
  clear HA0
  go_wp2_with fail
  refine TA.out.mono ?_
  rintro e wc ⟨x2, y2, rfl, HA2, hm2, hl2, -⟩
  have HY2 : Hid (y2.m = newE c ∧ y2.l = y.l ++ [⟨6, 1, 0, 0, 0 % 4, 0 % 8, 0, 0, 0, 0, 0⟩]) := ⟨hm2.trans HY0.out.1, hl2⟩
  clear hm2 hl2 TA
  have HP := Lib.hid (wplay_any pu_sim rg_doc HA2.out.wi HA2.out.fr (fun m hm => HA2.out.ce.symm ▸ HA2.out.ks m hm) (by rw [HA2.out.len]; omega) (by rw [HA2.out.len]; omega) (by have := HA2.out.small; omega) (by have := HA2.out.small; omega) v1 l1 (HS1.out.below HBA.out) 150 25 (by omega) (by omega))
  go_wp2_with fail
  refine HP.out.mono ?_
  rintro e we ⟨x4, y4, rfl, HI4, HF4, HR4⟩
  clear HP
  have htp := HR4.out.tp
  have ht0 : y2.t = [] := List.eq_nil_of_length_eq_zero (by have := HA2.out.small; omega)
  have hp0 : y2.p = [] := List.eq_nil_of_length_eq_zero (by have := HA2.out.small; omega)
  rw [HA2.out.ce, HA2.out.len, ht0, hp0, HY2.out.1] at htp
  have hl9 : y2.l.length = n + 1 := HA2.out.len
  have hfr : ∀ k ∈ y2.l, Fresh c k := fun k hk => by
    rw [HY2.out.2, List.mem_append, List.mem_singleton] at hk
    rcases hk with hk | rfl
    · exact HY0.out.2 k hk
    · exact ⟨rgK_new c 6 0 0 0 (by omega) HC1.out.1 U64.zero, rfl, rfl⟩
  have hlast : y2.l[n]'(by omega) = ⟨6, 1, 0, 0, 0 % 4, 0 % 8, 0, 0, 0, 0, 0⟩ := by
    have : y2.l[n]? = some ⟨6, 1, 0, 0, 0 % 4, 0 % 8, 0, 0, 0, 0, 0⟩ := by rw [HY2.out.2, List.getElem?_append_right (by rw [HN.out]; exact Nat.le_refl _), HN.out, Nat.sub_self]; rfl
    exact (List.getElem?_eq_some_iff.1 this).2
  have hpush : y2.l.countP (isB 3) ≤ n := by
    rw [HY2.out.2, List.countP_append]
    have h1 : y.l.countP (isB 3) ≤ n := HN.out ▸ List.countP_le_length
    have h2 : [⟨6, 1, 0, 0, 0 % 4, 0 % 8, 0, 0, 0, 0, 0⟩].countP (isB 3) = 0 := rfl
    omega
  have hTR := play_truth HG.out HC1.out.1 HFT.out y2.l hfr (by omega) (playL l1 150 25 (n + 1)) (fun j hj => by rw [hl9]; exact playL_lt _ _ _ _ (by omega) j hj) n (by omega) (by rw [hlast]) (by have := playL_count l1 150 25 (n + 1) n (by omega); omega) (y := y4) htp
  obtain ⟨m, hm, hmw, hmp, hmo, hv0, hv1, hlen, hall, hex⟩ := hTR
  have HA4 : Hid (AL wa we [some g] B x4 y4 c (n + 1) 1000) := ⟨HI4.out, HF4.out, HR4.out.c.trans HA2.out.ce, HR4.out.all, HR4.out.l.trans HA2.out.len, by have h1 := HR4.out.t; have h2 := HR4.out.p; have h3 := HA2.out.small; rw [HA2.out.len] at h1 h2; omega, HC1.out.1⟩
  have HT : Hid (y4.p.length = y4.t.length ∧ (∀ z ∈ y4.p, 2 ≤ z.2.words.length ∧ U64 (z.2.words.getD 0 0))) := ⟨hlen, hall⟩
  have HEX : Hid (∃ (i : Nat) (h1 : i < y4.t.length) (h2 : i < y4.p.length), y4.t[i].thr = n ∧ restI (y4.p[i].2.words.getD 0 0 / 2) (y4.p[i].2.words.getD 1 0) = m.ov) := hex
  obtain ⟨ov, hov⟩ : ∃ ov, m.ov = ov := ⟨_, rfl⟩
  obtain ⟨fl, fc, r0, r1, s2, k2, l2, s3, k3, l3, s4, k4, l4, hin, hfl, hBl, c9, f0, f1, f2, f3, f4, TE⟩ := HA4.out.ends n m hm (what_own hmw)
  rw [hmo, hmp, hov] at TE
  rw [hov] at HEX hv0 hv1
  have row0 := HA4.out.wi.row
  unfold WV.row at row0
  rw [HA4.out.len] at row0
  have c6 := (rowc10 row0).2.2.2.2.2.2.1
  have hnw : IntKind.i64.wrap (((n + 1 : Nat) : Int) - 1) = (n : Int) := by rw [IntKind.wrap_i64]; omega
  clear htp ht0 hp0 hl9 hfr hlast hpush hm hmw hmp hmo hlen hall hex hov row0 HI4 HF4 HR4 HA2 HY2 HY0 HN HS1 HFT
  go_upto_region 8 with fail
  try rw [hnw]
  clear c6 hnw
  go_wp2_with fail
  refine (TE.out _ (Below.refl _ _)).mono ?_; rintro e wf ⟨rfl, hbe⟩
  have HAf := Lib.hid (HA4.out.next hbe)
  clear hbe c9 f0 f1 f2 f3 f4 TE hfl hBl HA4 hin
  obtain ⟨W7, hW7⟩ : ∃ W7, (wf.alloc (.cells #[.int .i64 0, .int .u64 0] 56)).setRow wf.heap.size #[.int .i64 9, .int .u64 ov] = W7 := ⟨_, rfl⟩
  have N7 : Hid ((wf.alloc (.cells #[.int .i64 0, .int .u64 0] 56)).heap[wf.heap.size]? = some (.cells #[.int .i64 0, .int .u64 0] 56 (0, 0))) := heap_alloc_new _ _
  have HB7 : Hid (Below wf.heap.size wf W7) := hW7 ▸ row_below (below_new (Below.refl _ _) _) (Nat.le_refl _) _
  have R7 : Hid (W7.heap[wf.heap.size]? = some (.cells #[.int .i64 9, .int .u64 ov] 56 (0, 0))) := hW7 ▸ setRow_heap _ _ _ _ _ (0, 0) N7.out
  have HW7 := Lib.hid hW7
  clear hW7
  go_upto_region 9 with (refine wpList_store_row rfl 56 _ _ rfl (wf.heap.size) _ rfl rfl 56 #[.int .i64 0, .int .u64 0] N7.out (by kernel_rfl) rfl (by simp [Value.oneCell']) ?_)
  rw [HW7.out]
  try simp only [Act.put]
  clear HW7 N7
  obtain ⟨O, hO⟩ : ∃ O, wf.heap.size = O := ⟨_, rfl⟩
  rw [hO] at R7
  rw [hO]
  clear hO

  have HA7 := Lib.hid (HAf.out.next HB7.out)
  have hO : Hid (O < W7.heap.size) := (Array.getElem?_eq_some_iff.1 R7.out).1
  clear HAf HB7
  have hcv := (HA7.out.wi.conf W7 (OffS.self _ _)).1
  rw [HA7.out.ce] at hcv
  obtain ⟨kb, ko, kc, hke, -, hkb, hkc⟩ := hcv.open (by intro e; have := HC1.out.1; rw [e] at this; simp at this)
  have hk0 := hkc 0 (by have := HC1.out.1; omega)
  rw [Nat.add_zero] at hk0
  obtain ⟨cv, hcve⟩ : ∃ cv, c.caps.getD 0 0 = cv := ⟨_, rfl⟩
  have HCV : Hid (1 ≤ cv ∧ cv ≤ 4) := hcve ▸ HC1.out.2
  rw [hcve] at hk0 hv1
  have hkA : x4.cA = some ⟨kb, ko, none⟩ := by
    unfold WV.vc at hke
    simp only [Value.slice.injEq] at hke
    exact hke.1
  have row0 := HA7.out.wi.row
  unfold WV.row at row0
  rw [HA7.out.ce, hkA] at row0
  have c0 := (rowc10 row0).1
  obtain ⟨nk, hnk⟩ : ∃ nk, c.caps.length = nk := ⟨_, rfl⟩
  rw [hnk] at c0
  have hnk0 : (0 : Int) < (nk : Int) := by have := HC1.out.1; omega
  have hcw : IntKind.u64.wrap cv = cv := by have := HCV.out; rw [IntKind.wrap_u64]; omega
  have hle : ¬ cv < ov := by omega
  have X0 := ext_cell _ _ HA7.out.wi.lt _ c0
  have XK := ext_cell _ _ hkb _ hk0
  obtain ⟨o0, o1⟩ := rowc2 R7.out
  have Y0 := ext_cell _ _ hO.out _ o0
  have Y1 := ext_cell _ _ hO.out _ o1
  clear c0 hk0 o0 o1 row0 hkb hkc hke hkA hcv hcve hnk
  refine wp_region_ext W7 (by kernel_rfl) (by kernel_rfl) (Below.refl _ _) ?_
  repeat (go_big_quiet_step (fail))
  refine wpQuiet_nil ?_
  intro _ hw'
  obtain ⟨n9, rfl⟩ := hw'
  have HA8 := Lib.hid (HA7.out.next n9.below)
  have RO8 := Lib.hid ((n9.below.block O hO.out).trans R7.out)
  generalize n9.wd = w8 at *
  clear X0 XK Y0 Y1 HA7 R7 hO hnk0 hcw hle
  have row0 := HA8.out.wi.row
  unfold WV.row at row0
  have c7 := (rowc10 row0).2.2.2.2.2.2.2.1
  obtain ⟨T, hT⟩ : ∃ T, y4.t.length = T := ⟨_, rfl⟩
  have HTL : Hid (y4.t.length = T ∧ y4.p.length = T) := ⟨hT, by rw [← hT]; exact HT.out.1⟩
  have hT1 : T ≤ 1000 := by rw [← hT]; exact HA8.out.small.1
  rw [hT] at c7
  have HOV : Hid (0 ≤ ov ∧ ov ≤ cv) := ⟨hv0, hv1⟩
  clear row0 hT hv0 hv1
  go_upto_region 12 with fail
  clear c7
  go_wp2_with fail
  go_loopw [67] (fun u67 wr => ∃ (i : Nat), u67 = .int .i64 i ∧ i ≤ T ∧ Hid (∀ j, j < i → ∀ (h1 : j < y4.t.length) (h2 : j < y4.p.length), ¬ (y4.t[j].thr = n ∧ restI (y4.p[j].2.words.getD 0 0 / 2) (y4.p[j].2.words.getD 1 0) = ov)) ∧ Hid (AL wa wr [some g] B x4 y4 c (n + 1) 1000) ∧ Hid (wr.heap[O]? = some (.cells #[.int .i64 9, .int .u64 ov] 56 (0, 0)))) (fun u67 _ => 1001 - (intOf u67).toNat)
  case atStart => exact ⟨0, rfl, by omega, fun j hj => absurd hj (by omega), HA8, RO8⟩
  case round =>
    clear HA8 RO8
    obtain ⟨i, rfl, hi, HNO, HAi, ROi⟩ := hrel
    obtain ⟨wo, rfl⟩ : ∃ wo : World, wo = wr := ⟨_, rfl⟩
    by_cases hlt : i < T
    · have hltI : (i : Int) < (T : Int) := by omega
      obtain ⟨hTt, hTp⟩ := HTL.out
      have hi1 : i < y4.t.length := by omega
      have hi2 : i < y4.p.length := by omega
      obtain ⟨pl, pc, a, nn, k, a2, n2, k2, ti, hpA, hpc, hpl, q0, q1, q2, HST⟩ := HAi.out.wi.pastAt i hi2
      obtain ⟨th, hth⟩ : ∃ th, y4.t[i].thr = th := ⟨_, rfl⟩
      obtain ⟨un, hun⟩ : ∃ un, restI (y4.p[i].2.words.getD 0 0 / 2) (y4.p[i].2.words.getD 1 0) = un := ⟨_, rfl⟩
      have hun0 : 0 ≤ un ∧ un < 9223372036854775808 := by rw [← hun]; unfold restI; omega
      obtain ⟨hz1, hz2⟩ := HT.out.2 _ (List.getElem_mem hi2)
      have TU := Lib.hid fun w' (hb : Below wo.heap.size wo w') (vc vs : Value) (hv : ConfV w' (.agg #[vc, vs, .int .i64 c.threads]) c) => used_any HG.out HC1.out.1 hz2 hz1 w' hv HST.out (OffS.below hb)
      rw [hun] at TU
      have HKEY : Hid (¬ (th = n ∧ un = ov) → ∀ (h1 : i < y4.t.length) (h2 : i < y4.p.length), ¬ (y4.t[i].thr = n ∧ restI (y4.p[i].2.words.getD 0 0 / 2) (y4.p[i].2.words.getD 1 0) = ov)) := fun h1 _ _ h2 => h1 ⟨hth ▸ h2.1, hun ▸ h2.2⟩
      obtain ⟨cl, hcl⟩ : ∃ cl, closedB (y4.p[i].2.words.getD 0 0) = cl := ⟨_, rfl⟩
      rw [hcl] at TU
      have HCV2 := Lib.hid HAi.out.wi.confV
      rw [HAi.out.ce] at HCV2
      unfold WV.vc WV.vs at HCV2
      have row0 := HAi.out.wi.row
      unfold WV.row at row0
      rw [hpA, hpc, hTp, HAi.out.ce] at row0
      obtain ⟨c0, c1, c2, c3, c4, c5, c6, c7, c8, c9⟩ := rowc10 row0
      have hBl := HAi.out.wi.lt
      have X0 := ext_cell _ _ hBl _ c0
      have X1 := ext_cell _ _ hBl _ c1
      have X2 := ext_cell _ _ hBl _ c2
      have X8 := ext_cell _ _ hBl _ c8
      have Q0 := ext_cell _ _ hpl _ q0
      have Q1 := ext_cell _ _ hpl _ q1
      have Q2 := ext_cell _ _ hpl _ q2
      clear c0 c1 c2 c3 c4 c5 c6 c7 c8 c9 q0 q1 q2 row0 hz1 hz2 hcl hpA hpc
      have TUc := Lib.hid fun w' (hb : Below wo.heap.size wo w') => TU.out w' hb _ _ (HCV2.out.below hb)
      clear TU
      go_upto_region 14 with fail
      refine wp_region_ext wo (by kernel_rfl) (by kernel_rfl) (Below.refl _ _) ?_
      repeat (go_big_quiet_step (first
        | (go_at_call 19; with_reducible exact calls_ext (TUc.out _ (Ext.below _)))))
      refine wpQuiet_nil ?_
      intro _ hw'
      obtain ⟨n9, rfl⟩ := hw'
      have HA9 := Lib.hid (HAi.out.next n9.below)
      have RO9 := Lib.hid ((n9.below.block O (Array.getElem?_eq_some_iff.1 ROi.out).1).trans ROi.out)
      generalize n9.wd = w9 at *
      clear X0 X1 X2 X8 Q0 Q1 Q2 HAi ROi HST TUc hBl hpl HCV2
      obtain ⟨tl, tc, htA, htc, htl, t0⟩ := HA9.out.wi.traceAt i hi1
      rw [hth] at t0
      have row0 := HA9.out.wi.row
      unfold WV.row at row0
      rw [htA, htc, hTt] at row0
      have c7 := (rowc10 row0).2.2.2.2.2.2.2.1
      obtain ⟨o0, o1⟩ := rowc2 RO9.out
      have hunw : IntKind.u64.wrap un = un := by rw [IntKind.wrap_u64]; omega
      clear row0 htA htc hth hun hTt hTp hi1 hi2
      have HBF := Lib.hid (below_then HBA.out HA9.out.wi.below)
      by_cases hth : th = (n : Int)
      · subst hth
        by_cases hun : un = ov
        · subst hun
          go_wp2_with fail
          go_ret
          exact ⟨rfl, HBF.out⟩
        · have HNX := Lib.hid (HKEY.out fun h => hun h.2)
          clear HKEY
          go_wp2_with fail
          go_roundw
          case rel =>
            refine ⟨i + 1, by go_num, by omega, Lib.hid (fun j hj h1 h2 => ?_), HA9, RO9⟩
            by_cases hji : j < i
            · exact HNO.out j hji h1 h2
            · have : j = i := by omega
              subst this
              exact HNX.out h1 h2
          case measure => simp [intOf]; omega
      · have HNX := Lib.hid (HKEY.out fun h => hth h.1)
        clear HKEY
        go_wp2_with fail
        go_roundw
        case rel =>
          refine ⟨i + 1, by go_num, by omega, Lib.hid (fun j hj h1 h2 => ?_), HA9, RO9⟩
          by_cases hji : j < i
          · exact HNO.out j hji h1 h2
          · have : j = i := by omega
            subst this
            exact HNX.out h1 h2
        case measure => simp [intOf]; omega
    · exfalso
      obtain ⟨q, h1, h2, h3, h4⟩ := HEX.out
      exact HNO.out q (by have := HTL.out.1; omega) h1 h2 ⟨h3, h4⟩
set_option maxRecDepth 100000 in
theorem lifted (os : Os) (started : os.Started) (H : Type) (enc : TypeId × Value → H) :
    ReturnsInHanded {} Try.checked os 5 .any (Rows.countTruthSpec.pre6 enc Try.prog Try.f5 Rows.countTruthRow.domain false) (Rows.countTruthSpec.post enc Try.prog Try.f5 false true false false) := by
  refine returnsInHanded_of_change_sized (C := Try.checked) own started (by kernel_rfl) Try.func5
    (ChangeSpec.witness6 (enc := enc) (C := Try.checked) false ⟨#[], #[.slice none 0 0, .slice none 0 0], []⟩ 8 (by kernel_rfl) (by kernel_rfl) (by kernel_rfl) (by kernel_rfl)) ?_
  intro W base args ds gs before hval0 hW _ hsz0 _
  have hsz : (DataW.weightsEach Try.prog (Try.f5.params.toList ++ Rows.countTruthSpec.plain.varTypes Try.prog) (ds ++ gs)).all (· ≤ reachBytes) = true := hsz0
  clear hsz0
  have hval : ∀ (j : Nat) t v, Try.f5.params[j]? = some t → args[j]? = some v → Value.okWide Try.prog W .any base t v := hval0
  have hW' := hW
  obtain ⟨p, q, hA0, hV, rfl, _, _⟩ := hW
  have hA : DataW.TrodAll enc Try.prog W 0 (fun _ => true) true Try.f5.params.toList args.toList ds p := hA0
  rw [Try.params5] at hA hval hsz
  obtain ⟨v0, vs0, d0, ds0, p0, q0, hargs, rfl, rfl, h0, r0⟩ := trodAll_cons hA
  obtain ⟨v1, vs1, d1, ds1, p1, q1, rfl, rfl, rfl, h1, r1⟩ := trodAll_cons r0
  obtain ⟨rfl, rfl, rfl⟩ := trodAll_nil r1
  obtain rfl : args = #[v0, v1] := by cases args; simp_all
  obtain ⟨rfl, rfl⟩ := trodVars_none hV
  have k0 := h0
  have k1 := h1
  obtain ⟨l0, s0⟩ := view_sl (k := .u8) Try.underlying22 Try.underlying5 (by kernel_rfl) (fun elems sp hd => sized_slice hsz (j := 0) (t := 22) (e := 5) rfl (by rw [hd]; rfl) Try.underlying22) (of_decide_eq_true (by kernel_rfl)) (hval 0 22 v0 rfl rfl) h0
  obtain ⟨l1, s1⟩ := view_sl (k := .u8) Try.underlying22 Try.underlying5 (by kernel_rfl) (fun elems sp hd => sized_slice hsz (j := 1) (t := 22) (e := 5) rfl (by rw [hd]; rfl) Try.underlying22) (of_decide_eq_true (by kernel_rfl)) (hval 1 22 v1 rfl rfl) h1
  clear hA0 hval0
  simp only [List.append_nil] at hW'
  have hlt := hW'.lt
  refine (walk W v0 l0 s0 v1 l1 s1).mono fun e W' ⟨he, hb⟩ => ?_
  subst he
  exact ⟨_, rfl, _, _, _, [], _, [], hW', trodAll_cons_mk (shut_bool Try.underlying4 _) trodAll_mk0, (trodAll_cons_mk (Below.trod Try.laidOut (by kernel_rfl) (of_decide_eq_true (by kernel_rfl)) k0 hb (fun x hx => by simpa using hlt x (by simp [hx]))) (trodAll_cons_mk (Below.trod Try.laidOut (by kernel_rfl) (of_decide_eq_true (by kernel_rfl)) k1 hb (fun x hx => by simpa using hlt x (by simp [hx]))) trodAll_mk0)), rfl, hb.frame _, fun h => by cases h⟩
theorem over : Rows.countTruthRow.holds Try.pinned (OpenSpec.ofChange Rows.countTruthSpec) :=
  OpenClaim.holds_of_wide 5 Try.f5 rfl rfl rfl rfl rfl rfl rfl ⟨rfl, rfl, rfl, rfl, rfl⟩ rfl rfl rfl rfl rfl (by kernel_rfl) Try.func5 (by kernel_rfl)
    (of_decide_eq_true (by kernel_rfl)) (by unfold Func.isWrapper; first | (rw [if_pos (by decide +kernel)]; kernel_rfl) | (rw [if_neg (by decide +kernel)]; exact ⟨rfl, rfl⟩))
    (fun os started H enc _ => lifted os started H enc)
/-- THE STATEMENT -/
theorem proved : Rows.CountTruthSaid :=
  over
end Go.Proofs.Ytjnlkemdaffgbaa.countTruth
