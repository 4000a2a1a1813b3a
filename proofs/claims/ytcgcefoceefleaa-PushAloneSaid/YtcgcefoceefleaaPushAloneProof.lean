/- Proved: PushAlone returns true, and its arguments read afterwards as before, for every list of codes, every value, every choice of closed and every n; no condition. -/
import Derived.LoopTactic
import Derived.WalkKit
import Derived.ProofKit
import Derived.OpenShut
import Derived.SizedLaws
import Derived.Test.YtcgcefoceefleaaB01
import Derived.Test.YtcgcefoceefleaaB31
import Derived.Test.YtcgcefoceefleaaB30
import Derived.Test.YtcgcefoceefleaaB33
namespace Go.Proofs.Ytcgcefoceefleaa.pushAlone
open Go.ChangeShapes Go.WideShapes Go.ChangeAt Go.RowKit
set_option linter.unusedVariables false
set_option linter.unusedSimpArgs false
set_option maxRecDepth 100000 in
set_option maxHeartbeats 32000000 in
theorem walk (w : World) (v0 : Value) (l0 : List Int) (s0 : SlI w .u8 v0 l0) (a1 : Int) (w1 : (Lit.int .u64 a1).wf = true) (a2 : Bool) (a3 : Int) (w3 : (Lit.int .u8 a3).wf = true) :
    Calls Try.prog 5 #[v0, .int .u64 a1, .bool a2, .int .u8 a3] w fun e w' => e = .returned (.bool true) ∧ Below w.heap.size w w' := by
  have HS := Lib.hid s0
  have hv1 : U64 a1 := by
    have h1 := wrap_of_wf w1
    rw [IntKind.wrap_u64] at h1
    exact ⟨by omega, by omega⟩
  have HUV := Lib.hid hv1
  have h3 : 0 ≤ a3 ∧ a3 ≤ 255 := by
    have h1 := wrap_of_wf w3
    rw [IntKind.wrap_u8] at h1
    omega
  clear s0 w1 w3 hv1
  go_enter Try.func5, Try.ntmps5
  go_wp2_with fail
  refine (awake8_any _).mono ?_; rintro e wa ⟨rfl, hba⟩
  have HBA := Lib.hid hba
  clear hba
  have HO := Lib.hid (others_any v0 l0 0 (by omega) wa (HS.out.below HBA.out))
  go_wp2_with fail
  refine HO.out.mono ?_
  rintro e wb ⟨B, g, x, y, rfl, HI, HF, HK, HL, HC⟩
  have hyl : y.l = [] := List.eq_nil_of_length_eq_zero (by have := HL.out.1; omega)
  have hAL : AL wa wb g B x y y.c 0 0 := ⟨HI.out, HF.out, rfl, HK.out, by rw [hyl]; rfl, ⟨by rw [HL.out.2.1]; exact Nat.le_refl _, by rw [HL.out.2.2.1]; exact Nat.le_refl _⟩, HC.out.2.2⟩
  have HA := Lib.hid hAL
  have HR : Hid (RingSt y.c y.m (y.c.st 0) 0 0 false (fun _ => 0)) := by rw [HL.out.2.2.2]; exact ringSt_new HI.out.good HC.out.2.2 _
  obtain ⟨c, hc⟩ : ∃ c, y.c = c := ⟨_, rfl⟩
  rw [hc] at HA HR HC
  obtain ⟨kc, hkc⟩ : ∃ kc : Nat, c.caps.getD 0 0 = (kc : Int) := ⟨(c.caps.getD 0 0).toNat, by have := HC.out.1; omega⟩
  have HCC := HC.out
  rw [hkc] at HCC
  have hkc4 : kc ≤ 4 := by have := HCC.2.1; omega
  obtain ⟨rB, hrB⟩ : ∃ r, r = x.row y := ⟨_, rfl⟩
  have row0 := HI.out.row
  have hSC := (HI.out.conf wb (OffS.self _ _)).1
  unfold WV.vc at hSC
  obtain ⟨b, o, hcA, hcell⟩ := hSC.cellAt 0 (by rw [hc]; exact HCC.2.2)
  rw [hc, hkc] at hcell
  unfold WV.row at row0
  rw [hcA, hc] at row0
  obtain ⟨x0, x1, x2, x3, x4, x5, x6, x7, x8, x9⟩ := rowc10 row0
  have hc1 := HCC.2.2
  have HKC := Lib.hid hkc
  have HCL := Lib.hid hc
  clear HO HI HF HK HL row0 hSC hyl hAL hrB rB hkc hc HCC HC
  have hw1 : IntKind.i64.wrap ((kc : Int) + 1) = (kc : Int) + 1 := by rw [IntKind.wrap_i64]; omega
  have hw3 : IntKind.i64.wrap a3 = a3 := by rw [IntKind.wrap_i64]; omega
  obtain ⟨k, hk, hk1⟩ : ∃ k : Nat, a3.tmod ((kc : Int) + 1) = (k : Int) ∧ k ≤ kc := by
    have h1 : a3.tmod ((kc : Int) + 1) = a3 % ((kc : Int) + 1) := Int.tmod_eq_emod_of_nonneg h3.1
    have h4 := Int.emod_nonneg a3 (show (kc : Int) + 1 ≠ 0 by omega)
    have h5 := Int.emod_lt_of_pos a3 (show (0 : Int) < (kc : Int) + 1 by omega)
    exact ⟨(a3 % ((kc : Int) + 1)).toNat, by omega, by omega⟩
  have hne : ¬ (kc : Int) + 1 = 0 := by omega
  have hcell2 : wb.cell? ⟨b, o, none⟩ = some (.int .i64 kc) := hcell.2
  have hl0 : (0 : Int) < (c.caps.length : Int) := by omega
  clear hcell
  go_wp2_with fail
  clear x0 x1 x2 x3 x4 x5 x6 x7 x8 x9 hcell2 hl0 hw1 hw3 hk hne h3 hcA
  go_loopw [11] (fun u11 wr => ∃ (i : Nat) (x : WV) (y : WM) (val : Nat → Int), u11 = .int .i64 i ∧ i ≤ k ∧ Hid (AL wa wr g B x y c i (7 * i)) ∧ Hid (RingSt c y.m (c.st 0) 0 i false val)) (fun u11 _ => k + 1 - (intOf u11).toNat)
  case atStart => exact ⟨0, x, y, fun _ => 0, rfl, by omega, HA, HR⟩
  case round =>
    clear HA HR HCL
    obtain ⟨i, x, y, val, rfl, hi, HA, HR⟩ := hrel
    obtain ⟨wo, rfl⟩ : ∃ wo : World, wo = wr := ⟨_, rfl⟩
    by_cases hlt : i < k
    · have hltI : (i : Int) < (k : Int) := by omega
      have hwi : IntKind.u64.wrap (i : Int) = i := by rw [IntKind.wrap_u64]; omega
      have HAD := Lib.hid (al_add HA.out (by omega) 3 (i : Int) (.inl rfl) ⟨by omega, by omega⟩)
      go_wp2_with fail
      refine HAD.out.mono ?_
      rintro e w1 ⟨x1, y1, rfl, HA1, hm1, hl1⟩
      obtain ⟨T, hT⟩ : ∃ T, packI (nextI (c.st 0) i) false = T := ⟨_, rfl⟩
      have HT := Lib.hid hT
      have HY1 : Hid (y1.m = pushM c y.m i T 0 ∧ y1.l = y.l ++ [pushK i T 0]) := ⟨hm1, hl1⟩
      have HST : Hid (∀ j : Nat, j < 6 → step1 c (pushM c y.m i T j, pushK i T j) = (pushM c y.m i T (j + 1), pushK i T (j + 1))) := fun j hj => by
        subst hT
        exact push_step HR.out (by rw [HKC.out]; omega) i j hj
      clear HAD hm1 hl1 hT hwi
      go_wp2_with fail
      go_loopg [] 7 (fun gg wr => ∃ (j : Nat) (x2 : WV) (y2 : WM), j + gg = 7 ∧ j ≤ 6 ∧ Hid (AL wa wr g B x2 y2 c (i + 1) (7 * i + j)) ∧ Hid (y2.m = pushM c y.m i T j ∧ y2.l = y.l ++ [pushK i T j]))
      case atStart => exact ⟨0, x1, y1, by omega, by omega, HA1, HY1⟩
      case round =>
        clear HA1 HY1
        obtain ⟨j, x2, y2, hjg, hj, HA2, HY2⟩ := hrel
        obtain ⟨w2, rfl⟩ : ∃ w2 : World, w2 = wr := ⟨_, rfl⟩
        obtain ⟨gl, lc, c6, cp, hlc, hgl⟩ := HA2.out.at y.l _ HY2.out.2
        have hB2 := HA2.out.wi.lt
        by_cases h6 : j = 6
        · subst h6
          have cp0 : w2.cell? ⟨gl, i * 14 + 1, none⟩ = some (.int .i64 0) := cp
          have HR2 : Hid (RingSt c y2.m (c.st 0) 0 (i + 1) false (fun j => if j = i then (i : Int) else val j)) := by
            rw [HY2.out.1, ← HT.out]
            exact HR.out.pushed (by rw [HKC.out]; omega) i
          have HA3 : Hid (AL wa w2 g B x2 y2 c (i + 1) (7 * (i + 1))) := by
            have h := HA2.out
            exact ⟨h.wi, h.fr, h.ce, h.ks, h.len, ⟨by have := h.small.1; omega, by have := h.small.2; omega⟩, h.one⟩
          clear cp HA2 HY2 HST HT HR HA
          go_wp2_with fail
          go_roundw
          case rel => exact ⟨i + 1, x2, y2, _, by go_num, by omega, HA3, HR2⟩
          case measure => simp [intOf]; omega
        · have hp : ∃ p : Int, (pushK i T j).pl = p ∧ 0 < p := by
            have hj6 : j = 0 ∨ j = 1 ∨ j = 2 ∨ j = 3 ∨ j = 4 ∨ j = 5 := by omega
            rcases hj6 with rfl | rfl | rfl | rfl | rfl | rfl
            · exact ⟨1, rfl, by omega⟩
            · exact ⟨2, rfl, by omega⟩
            · exact ⟨4, rfl, by omega⟩
            · exact ⟨5, rfl, by omega⟩
            · exact ⟨6, rfl, by omega⟩
            · exact ⟨7, rfl, by omega⟩
          obtain ⟨p, hpe, hp0⟩ := hp
          rw [hpe] at cp
          have HSP := Lib.hid (al_step HA2.out (by omega) (by omega) y.l _ HY2.out.2)
          clear hpe
          go_wp2_with fail
          refine HSP.out.mono ?_
          rintro e w3 ⟨x3, y3, rfl, HA3, hm3, hl3⟩
          have HY3 : Hid (y3.m = pushM c y.m i T (j + 1) ∧ y3.l = y.l ++ [pushK i T (j + 1)]) := by
            rw [HY2.out.1, HST.out j (by omega)] at hm3 hl3
            exact ⟨hm3, hl3⟩
          clear HSP hm3 hl3 HA2 HY2 c6 cp hB2
          go_wp2_with fail
          cases gk with
          | zero => omega
          | succ gk =>
            go_roundg gk
            case rel => exact ⟨j + 1, x3, y3, by omega, by omega, HA3, HY3⟩
            case measure => omega
    · have hge : ¬ (i : Int) < (k : Int) := by omega
      have hik : i = k := by omega
      subst hik
      go_upto_if 58 with (fail)
      clear hge hlt
      go_cut [] (fun wx => ∃ (n q : Nat) (x : WV) (y : WM) (val : Nat → Int), n ≤ 10 ∧ q ≤ 100 ∧ Hid (AL wa wx g B x y c n q) ∧ Hid (RingSt c y.m (c.st 0) 0 i a2 val))
      case first =>
        cases a2 with
        | false =>
          go_wp2_with fail
          go_meet
          exact ⟨i, 7 * i, x, y, val, by omega, by omega, HA, HR⟩
        | true =>
          have HAD := Lib.hid (al_add HA.out (by omega) 5 0 (.inr rfl) ⟨by omega, by omega⟩)
          go_wp2_with fail
          refine HAD.out.mono ?_
          rintro e w1 ⟨x1, y1, rfl, HA1, hm1, hl1⟩
          obtain ⟨T, hT⟩ : ∃ T, packI (nextI (c.st 0) i) false = T := ⟨_, rfl⟩
          have HT := Lib.hid hT
          have HY1 : Hid (y1.m = shutM y.m T 0 ∧ y1.l = y.l ++ [shutK 0 T 0]) := ⟨hm1, hl1⟩
          have HST : Hid (∀ j : Nat, j < 2 → step1 c (shutM y.m T j, shutK 0 T j) = (shutM y.m T (j + 1), shutK 0 T (j + 1))) := fun j hj => by
            subst hT
            exact shut_step HR.out 0 j hj
          have hw1 : IntKind.i64.wrap (((i + 1 : Nat) : Int) - 1) = (i : Int) := by rw [IntKind.wrap_i64]; omega
          have hw2 : IntKind.i64.wrap ((i : Int) + 1 - 1) = (i : Int) := by rw [IntKind.wrap_i64]; omega
          clear HAD hm1 hl1 hT
          go_wp2_with fail
          go_loopg [] 3 (fun gg wr => ∃ (j : Nat) (x2 : WV) (y2 : WM), j + gg = 3 ∧ j ≤ 2 ∧ Hid (AL wa wr g B x2 y2 c (i + 1) (7 * i + j)) ∧ Hid (y2.m = shutM y.m T j ∧ y2.l = y.l ++ [shutK 0 T j]))
          case atStart => exact ⟨0, x1, y1, by omega, by omega, HA1, HY1⟩
          case round =>
            clear HA1 HY1
            obtain ⟨j, x2, y2, hjg, hj, HA2, HY2⟩ := hrel
            obtain ⟨w2, rfl⟩ : ∃ w2 : World, w2 = wr := ⟨_, rfl⟩
            obtain ⟨gl, lc, c6, cp, hlc, hgl⟩ := HA2.out.at y.l _ HY2.out.2
            have hB2 := HA2.out.wi.lt
            by_cases h6 : j = 2
            · subst h6
              have cp0 : w2.cell? ⟨gl, i * 14 + 1, none⟩ = some (.int .i64 0) := cp
              have HR2 : Hid (RingSt c y2.m (c.st 0) 0 i true val) := by
                rw [HY2.out.1, ← HT.out]
                exact HR.out.shut
              have hq2 : 7 * i + 2 ≤ 100 := by omega
              clear cp HY2 HST HT HR HA
              have HA2b := HA2
              clear HA2
              have X6 := ext_cell _ _ hB2 _ c6
              have XP := ext_cell _ _ hgl _ cp0
              clear c6 cp0
              go_upto_region 14 with fail
              refine wp_region_ext w2 (by kernel_rfl) (by kernel_rfl) (Below.refl _ _) ?_
              repeat (go_big_quiet_step (fail))
              refine wpQuiet_nil ?_
              intro _ hw'
              obtain ⟨n9, rfl⟩ := hw'
              have HA2 := Lib.hid (HA2b.out.next n9.below)
              generalize n9.wd = w9 at *
              clear X6 XP HA2b
              go_wp2_with fail
              go_meet
              exact ⟨i + 1, 7 * i + 2, x2, y2, val, by omega, hq2, HA2, HR2⟩
            · have hp : ∃ p : Int, (shutK 0 T j).pl = p ∧ 0 < p := by
                have hj6 : j = 0 ∨ j = 1 := by omega
                rcases hj6 with rfl | rfl
                · exact ⟨1, rfl, by omega⟩
                · exact ⟨2, rfl, by omega⟩
              obtain ⟨p, hpe, hp0⟩ := hp
              rw [hpe] at cp
              clear hpe
              have HA2b := HA2
              clear HA2
              have X6 := ext_cell _ _ hB2 _ c6
              have XP := ext_cell _ _ hgl _ cp
              clear c6 cp
              go_upto_region 14 with fail
              refine wp_region_ext w2 (by kernel_rfl) (by kernel_rfl) (Below.refl _ _) ?_
              repeat (go_big_quiet_step (fail))
              refine wpQuiet_nil ?_
              intro _ hw'
              obtain ⟨n9, rfl⟩ := hw'
              have HA2 := Lib.hid (HA2b.out.next n9.below)
              generalize n9.wd = w9 at *
              clear X6 XP HA2b
              obtain ⟨gl, lc, c6, cp, hlc, hgl⟩ := HA2.out.at y.l _ HY2.out.2
              have HSP := Lib.hid (al_step HA2.out (by omega) (by omega) y.l _ HY2.out.2)
              go_wp2_with fail
              refine HSP.out.mono ?_
              rintro e w3 ⟨x3, y3, rfl, HA3, hm3, hl3⟩
              have HY3 : Hid (y3.m = shutM y.m T (j + 1) ∧ y3.l = y.l ++ [shutK 0 T (j + 1)]) := by
                rw [HY2.out.1, HST.out j (by omega)] at hm3 hl3
                exact ⟨hm3, hl3⟩
              clear HSP hm3 hl3 HA2 HY2 c6 cp hB2
              go_wp2_with fail
              cases gk with
              | zero => omega
              | succ gk =>
                go_roundg gk
                case rel => exact ⟨j + 1, x3, y3, by omega, by omega, HA3, HY3⟩
                case measure => omega
      case rest =>
        obtain ⟨n, q, x, y, val, hn, hq, HA, HR⟩ := hcut
        obtain ⟨w4, rfl⟩ : ∃ w4 : World, w4 = wc := ⟨_, rfl⟩
        obtain ⟨N, M, Kf, ok, T, hM0, hK0, hN6, hST, hKN, hOut⟩ := alone_run HR.out HKC.out hk1 a1
        have HST := Lib.hid hST
        have HKN := Lib.hid hKN
        have HOUT := Lib.hid hOut
        have HAD := Lib.hid (al_add HA.out (by omega) 3 a1 (.inl rfl) HUV.out)
        have hK00 := Lib.hid hK0
        have hM00 := Lib.hid hM0
        clear hST hKN hOut HR hK0 hM0
        go_wp2_with fail
        refine HAD.out.mono ?_
        rintro e w5 ⟨x5, y5, rfl, HA5, hm5, hl5⟩
        have HY5 : Hid (y5.m = M 0 ∧ y5.l = y.l ++ [Kf 0]) := by rw [hM00.out, hK00.out]; exact ⟨hm5, hl5⟩
        obtain ⟨gl, lc, c6, cp, hlc, hgl⟩ := HA5.out.at y.l _ HY5.out.2
        have hB5 := HA5.out.wi.lt
        have hw1 : IntKind.i64.wrap (((n + 1 : Nat) : Int) - 1) = (n : Int) := by rw [IntKind.wrap_i64]; omega
        have hw2 : IntKind.i64.wrap ((n : Int) + 1 - 1) = (n : Int) := by rw [IntKind.wrap_i64]; omega
        clear HAD hm5 hl5 HA hK00 hM00 cp
        go_wp2_with fail
        clear c6 hw1 hw2 hgl hlc
        go_loopw [13] (fun u13 wr => ∃ (j : Nat) (x2 : WV) (y2 : WM), u13 = .int .i64 j ∧ j ≤ N ∧ Hid (AL wa wr g B x2 y2 c (n + 1) (q + j)) ∧ Hid (y2.m = M j ∧ y2.l = y.l ++ [Kf j])) (fun u13 _ => 10 - (intOf u13).toNat)
        case atStart => exact ⟨0, x5, y5, rfl, by omega, HA5, HY5⟩
        case round =>
          clear HA5 HY5 hB5
          obtain ⟨j, x2, y2, rfl, hj, HA2, HY2⟩ := hrel
          obtain ⟨w2, rfl⟩ : ∃ w2 : World, w2 = wr := ⟨_, rfl⟩
          obtain ⟨gl, lc, c6, cp, hlc, hgl⟩ := HA2.out.at y.l _ HY2.out.2
          have hB2 := HA2.out.wi.lt
          by_cases hjN : j < N
          · obtain ⟨p, hpe, hp0⟩ : ∃ p : Int, (Kf j).pl = p ∧ 0 < p := ⟨_, rfl, (HST.out j hjN).2⟩
            rw [hpe] at cp
            have hj20 : (j : Int) < 20 := by omega
            have HSP := Lib.hid (al_step HA2.out (by omega) (by omega) y.l _ HY2.out.2)
            clear hpe
            go_wp2_with fail
            refine HSP.out.mono ?_
            rintro e w3 ⟨x3, y3, rfl, HA3, hm3, hl3⟩
            have HY3 : Hid (y3.m = M (j + 1) ∧ y3.l = y.l ++ [Kf (j + 1)]) := by
              rw [HY2.out.1, (HST.out j hjN).1] at hm3 hl3
              exact ⟨hm3, hl3⟩
            clear HSP hm3 hl3 HA2 HY2 c6 cp hB2
            go_wp2_with fail
            go_roundw
            case rel => exact ⟨j + 1, x3, y3, by go_num, by omega, HA3, HY3⟩
            case measure => simp [intOf]; omega
          · have hjN2 : j = N := by omega
            subst hjN2
            have HY4 : Hid (y2.m = M j ∧ y2.l = y.l ++ [⟨3, 0, 0, 0, a1 % 4, a1 % 8, a1, T, 0, ok, 0⟩]) := by rw [← HKN.out]; exact HY2.out
            rw [HKN.out] at cp
            have cp0 : w2.cell? ⟨gl, n * 14 + 1, none⟩ = some (.int .i64 0) := cp
            clear cp HY2 HKN HST hjN
            go_upto_region 22 with fail
            clear c6 cp0 hgl hlc
            have hl2 := HY4.out.2
            have hln : y.l.length = n := by have := HA2.out.len; rw [hl2, List.length_append] at this; simpa using this
            have hlen2 : n < y2.l.length := by rw [HA2.out.len]; omega
            have hR := HA2.out.fr.2 n (by rw [HA2.out.fr.1]; exact hlen2) hlen2
            have hm0 : y2.l[n] = ⟨3, 0, 0, 0, a1 % 4, a1 % 8, a1, T, 0, ok, 0⟩ := by simp [hl2, ← hln]
            rw [hm0] at hR
            have ho : ownM ⟨3, 0, 0, 0, a1 % 4, a1 % 8, a1, T, 0, ok, 0⟩ = true := rfl
            obtain ⟨fl, fc, hvf, hfA, hfc, hfl, hfls, hfcap, FG, -⟩ := HA2.out.wi.frameAt n (by rw [HA2.out.fr.1]; exact hlen2)
            obtain ⟨r0, r1, s2, k2, l2, s3, k3, l3, s4, k4, l4, he⟩ := pu_sim.form hR ho
            rw [he] at FG hR
            have HFG := Lib.hid FG
            have TE := Lib.hid fun w' (hb : Below w2.heap.size w2 w') => pu_sim.ends w' (OffS.below hb) hR ho
            have row0 := HA2.out.wi.row
            have hf3 : y2.f.length = n + 1 := by rw [HA2.out.fr.1, HA2.out.len]
            unfold WV.row at row0
            rw [hfA, hfc, hf3] at row0
            have ROW := Lib.hid row0
            have HB0 := Lib.hid HA2.out.wi.below
            clear hvf hfA hfc FG he row0 hf3 hfcap hR hm0 ho hl2 hln hlen2
            obtain ⟨x0, x1, x2', x3, x4, x5, x6, x7, x8, x9⟩ := rowc10 ROW.out
            obtain ⟨f0, f1, f2, f3, f4⟩ := range5 HFG.out
            go_wp2_with fail
            refine (TE.out _ (Below.refl _ _)).mono ?_; rintro e w4 ⟨rfl, hb4⟩
            have HA4 := Lib.hid (HA2.out.next hb4)
            clear hb4 x0 x1 x2' x3 x4 x5 x6 x7 x8 x9 f0 f1 f2 f3 f4 TE ROW HFG HA2
            obtain ⟨W5, hW5⟩ : ∃ W5, (w4.alloc (.cells #[.int .i64 0, .int .u64 0] 54)).setRow w4.heap.size #[.int .i64 ok, .int .u64 0] = W5 := ⟨_, rfl⟩
            have N5 : Hid ((w4.alloc (.cells #[.int .i64 0, .int .u64 0] 54)).heap[w4.heap.size]? = some (.cells #[.int .i64 0, .int .u64 0] 54 (0, 0))) := heap_alloc_new _ _
            have HB5 : Hid (Below w4.heap.size w4 W5) := hW5 ▸ row_below (below_new (Below.refl _ _) _) (Nat.le_refl _) _
            have R5 : Hid (W5.heap[w4.heap.size]? = some (.cells #[.int .i64 ok, .int .u64 0] 54 (0, 0))) := hW5 ▸ setRow_heap _ _ _ _ _ (0, 0) N5.out
            have HW5 := Lib.hid hW5
            clear hW5
            go_upto_region 23 with (refine wpList_store_row rfl 54 _ _ rfl (w4.heap.size) _ rfl rfl 54 #[.int .i64 0, .int .u64 0] N5.out (by kernel_rfl) rfl (by simp [Value.oneCell']) ?_)
            rw [HW5.out]
            try simp only [Act.put]
            clear HW5 N5
            have HA6 := Lib.hid (HA4.out.next HB5.out)
            obtain ⟨O, hO⟩ : ∃ O, w4.heap.size = O := ⟨_, rfl⟩
            rw [hO] at R5
            rw [hO]
            clear hO HA4 HB5
            have HBW := Lib.hid (below_then HBA.out HA6.out.wi.below)
            obtain ⟨o0, o1⟩ := rowc2 R5.out
            rcases HOUT.out with ⟨ha, hj1, hok⟩ | ⟨ha, hik, hj1, hok⟩ | ⟨ha, hik, hj1, hok, hmem⟩
            · subst ha; subst hj1; subst hok
              go_wp2
              go_ret
              exact ⟨rfl, HBW.out⟩
            · subst ha; subst hj1; subst hok
              have row6 := HA6.out.wi.row
              have hSC := (HA6.out.wi.conf W5 (OffS.self _ _)).1
              unfold WV.vc at hSC
              obtain ⟨b6, o6, hcA, hcell⟩ := hSC.cellAt 0 (by rw [HA6.out.ce]; exact hc1)
              rw [HA6.out.ce, HKC.out] at hcell
              unfold WV.row at row6
              rw [hcA, HA6.out.ce] at row6
              obtain ⟨x0, x1, x2', x3, x4, x5, x6, x7, x8, x9⟩ := rowc10 row6
              have hcell2 : W5.cell? ⟨b6, o6, none⟩ = some (.int .i64 kc) := hcell.2
              have hl0 : (0 : Int) < (c.caps.length : Int) := by omega
              have hikI : (i : Int) = (kc : Int) := by omega
              subst hik
              clear hcell row6 hSC hcA HA6 HY4 hikI
              go_wp2_with fail
              go_ret
              exact ⟨rfl, HBW.out⟩
            · subst ha; subst hj1; subst hok
              have row6 := HA6.out.wi.row
              have hSC := (HA6.out.wi.conf W5 (OffS.self _ _)).1
              unfold WV.vc at hSC
              obtain ⟨b6, o6, hcA, hcell⟩ := hSC.cellAt 0 (by rw [HA6.out.ce]; exact hc1)
              rw [HA6.out.ce, HKC.out] at hcell
              unfold WV.row at row6
              rw [← HY4.out.1] at hmem
              obtain ⟨t, ht, hte⟩ := List.getElem_of_mem hmem
              obtain ⟨mb, mo, hmA, hwords⟩ := HA6.out.wi.wordsAt (by omega)
              rw [hcA, hmA, HA6.out.ce] at row6
              obtain ⟨x0, x1, x2', x3, x4, x5, x6, x7, x8, x9⟩ := rowc10 row6
              have hcell2 : W5.cell? ⟨b6, o6, none⟩ = some (.int .i64 kc) := hcell.2
              have hl0 : (0 : Int) < (c.caps.length : Int) := by omega
              have hikI : ¬ (i : Int) = (kc : Int) := by omega
              have HWC : Hid (∀ j, j < y2.m.words.length → W5.cell? ⟨mb, mo + j, none⟩ = some (.int .u64 (y2.m.words.getD j 0))) := hwords W5 (OffS.self _ _)
              have HTE : Hid (y2.m.words.getD t 0 = a1) := by
                show _ = _
                rw [List.getD_eq_getElem?_getD, List.getElem?_eq_getElem ht]; exact hte
              have hwl : y2.m.words.length ≤ 100000 := HA6.out.wi.fits.words
              obtain ⟨wl, hwle⟩ : ∃ wl, y2.m.words.length = wl := ⟨_, rfl⟩
              obtain ⟨ws, hws⟩ : ∃ ws, y2.m.words = ws := ⟨_, rfl⟩
              rw [hwle] at x3 HWC hwl ht
              rw [hws] at HWC HTE
              clear hcell row6 hSC hcA HA6 HY4 hmem hte hwords hwle hws hmA
              go_wp2_with fail
              clear x0 x1 x2' x3 x4 x5 x6 x7 x8 x9 hcell2 hl0 hikI
              go_loopw [16, 161] (fun u16 u161 wr => ∃ (r : Nat) (f : Bool), u161 = .int .i64 r ∧ u16 = .bool f ∧ r ≤ wl ∧ Hid (wr = W5) ∧ Hid (f = true ↔ ∃ t, t < r ∧ ws.getD t 0 = a1)) (fun _ u161 _ => wl + 1 - (intOf u161).toNat)
              case atStart => exact ⟨0, false, rfl, rfl, by omega, rfl, ⟨fun h => absurd h (by decide), fun ⟨t, h, _⟩ => absurd h (Nat.not_lt_zero _)⟩⟩
              case round =>
                obtain ⟨r, f, rfl, rfl, hr, HW, HF⟩ := hrel
                obtain ⟨w6, hw6⟩ : ∃ w6 : World, w6 = wr := ⟨_, rfl⟩
                have hw7 : w6 = W5 := hw6.trans HW.out
                subst hw6
                rw [← hw7] at HWC HBW R5
                clear HW
                obtain ⟨o0, o1⟩ := rowc2 R5.out
                by_cases hlt : r < wl
                · have hltI : (r : Int) < (wl : Int) := by omega
                  obtain ⟨z, hz⟩ : ∃ z, ws.getD r 0 = z := ⟨_, rfl⟩
                  have cz := HWC.out r hlt
                  rw [hz] at cz
                  have HZ := Lib.hid hz
                  have HW7 := Lib.hid hw7
                  clear hz hw7
                  cases f with
                  | true =>
                    have HF2 : Hid (true = true ↔ ∃ t, t < r + 1 ∧ ws.getD t 0 = a1) := ⟨fun _ => (HF.out.1 rfl).imp fun t h => ⟨by omega, h.2⟩, fun _ => rfl⟩
                    go_wp2_with fail
                    go_roundw
                    case rel => exact ⟨r + 1, true, by go_num, rfl, by omega, HW7.out, HF2⟩
                    case measure => simp [intOf]; omega
                  | false =>
                    by_cases hza : z = a1
                    · have HF2 : Hid (true = true ↔ ∃ t, t < r + 1 ∧ ws.getD t 0 = a1) := ⟨fun _ => ⟨r, by omega, HZ.out.trans hza⟩, fun _ => rfl⟩
                      subst hza
                      go_wp2_with fail
                      go_roundw
                      case rel => exact ⟨r + 1, true, by go_num, rfl, by omega, HW7.out, HF2⟩
                      case measure => simp [intOf]; omega
                    · have HF2 : Hid (false = true ↔ ∃ t, t < r + 1 ∧ ws.getD t 0 = a1) := ⟨fun h => (by cases h), fun ⟨t, h1, h2⟩ => by
                        by_cases e : t = r
                        · subst e; exact absurd (HZ.out.symm.trans h2) hza
                        · exact HF.out.2 ⟨t, by omega, h2⟩⟩
                      go_wp2_with fail
                      go_roundw
                      case rel => exact ⟨r + 1, false, by go_num, by rw [show (z == a1) = false from by simpa using hza], by omega, HW7.out, HF2⟩
                      case measure => simp [intOf]; omega
                · have hge : ¬ (r : Int) < (wl : Int) := by omega
                  have hft : f = true := HF.out.2 ⟨t, by omega, HTE.out⟩
                  subst hft
                  clear HF hw7 hlt
                  go_wp2_with fail
                  go_ret
                  exact ⟨rfl, HBW.out⟩
set_option maxRecDepth 100000 in
theorem lifted (os : Os) (started : os.Started) (H : Type) (enc : TypeId × Value → H) :
    ReturnsInHanded {} Try.checked os 5 .any (Rows.pushAloneSpec.pre6 enc Try.prog Try.f5 Rows.pushAloneRow.domain false) (Rows.pushAloneSpec.post enc Try.prog Try.f5 false true false false) := by
  refine returnsInHanded_of_change_sized (C := Try.checked) own started (by kernel_rfl) Try.func5
    (ChangeSpec.witness6 (enc := enc) (C := Try.checked) false ⟨#[], #[.slice none 0 0, .int .u64 0, .bool false, .int .u8 0], []⟩ 8 (by kernel_rfl) (by kernel_rfl) (by kernel_rfl) (by kernel_rfl)) ?_
  intro W base args ds gs before hval0 hW _ hsz0 _
  have hsz : (DataW.weightsEach Try.prog (Try.f5.params.toList ++ Rows.pushAloneSpec.plain.varTypes Try.prog) (ds ++ gs)).all (· ≤ reachBytes) = true := hsz0
  clear hsz0
  have hval : ∀ (j : Nat) t v, Try.f5.params[j]? = some t → args[j]? = some v → Value.okWide Try.prog W .any base t v := hval0
  have hW' := hW
  obtain ⟨p, q, hA0, hV, rfl, _, _⟩ := hW
  have hA : DataW.TrodAll enc Try.prog W 0 (fun _ => true) true Try.f5.params.toList args.toList ds p := hA0
  rw [Try.params5] at hA hval hsz
  obtain ⟨v0, vs0, d0, ds0, p0, q0, hargs, rfl, rfl, h0, r0⟩ := trodAll_cons hA
  obtain ⟨v1, vs1, d1, ds1, p1, q1, rfl, rfl, rfl, h1, r1⟩ := trodAll_cons r0
  obtain ⟨v2, vs2, d2, ds2, p2, q2, rfl, rfl, rfl, h2, r2⟩ := trodAll_cons r1
  obtain ⟨v3, vs3, d3, ds3, p3, q3, rfl, rfl, rfl, h3, r3⟩ := trodAll_cons r2
  obtain ⟨rfl, rfl, rfl⟩ := trodAll_nil r3
  obtain rfl : args = #[v0, v1, v2, v3] := by cases args; simp_all
  obtain ⟨rfl, rfl⟩ := trodVars_none hV
  have k0 := h0
  have k1 := h1
  have k2 := h2
  have k3 := h3
  obtain ⟨l0, s0⟩ := view_sl (k := .u8) Try.underlying22 Try.underlying5 (by kernel_rfl) (fun elems sp hd => sized_slice hsz (j := 0) (t := 22) (e := 5) rfl (by rw [hd]; rfl) Try.underlying22) (of_decide_eq_true (by kernel_rfl)) (hval 0 22 v0 rfl rfl) h0
  obtain ⟨a1, rfl, -, -, w1⟩ := open_int Try.underlying27 (hval 1 27 v1 rfl rfl) h1
  obtain ⟨a2, rfl, -, -⟩ := open_bool Try.underlying4 (hval 2 4 v2 rfl rfl) h2
  obtain ⟨a3, rfl, -, -, w3⟩ := open_int Try.underlying5 (hval 3 5 v3 rfl rfl) h3
  clear hA0 hval0
  simp only [List.append_nil] at hW'
  have hlt := hW'.lt
  refine (walk W v0 l0 s0 a1 w1 a2 a3 w3).mono fun e W' ⟨he, hb⟩ => ?_
  subst he
  exact ⟨_, rfl, _, _, _, [], _, [], hW', trodAll_cons_mk (shut_bool Try.underlying4 _) trodAll_mk0, (trodAll_cons_mk (Below.trod Try.laidOut (by kernel_rfl) (of_decide_eq_true (by kernel_rfl)) k0 hb (fun x hx => by simpa using hlt x (by simp [hx]))) (trodAll_cons_mk (Below.trod Try.laidOut (by kernel_rfl) (of_decide_eq_true (by kernel_rfl)) k1 hb (fun x hx => by simpa using hlt x (by simp [hx]))) (trodAll_cons_mk (Below.trod Try.laidOut (by kernel_rfl) (of_decide_eq_true (by kernel_rfl)) k2 hb (fun x hx => by simpa using hlt x (by simp [hx]))) (trodAll_cons_mk (Below.trod Try.laidOut (by kernel_rfl) (of_decide_eq_true (by kernel_rfl)) k3 hb (fun x hx => by simpa using hlt x (by simp [hx]))) trodAll_mk0)))), rfl, hb.frame _, fun h => by cases h⟩
theorem over : Rows.pushAloneRow.holds Try.pinned (OpenSpec.ofChange Rows.pushAloneSpec) :=
  OpenClaim.holds_of_wide 5 Try.f5 rfl rfl rfl rfl rfl rfl rfl ⟨rfl, rfl, rfl, rfl, rfl⟩ rfl rfl rfl rfl rfl (by kernel_rfl) Try.func5 (by kernel_rfl)
    (of_decide_eq_true (by kernel_rfl)) (by unfold Func.isWrapper; first | (rw [if_pos (by decide +kernel)]; kernel_rfl) | (rw [if_neg (by decide +kernel)]; exact ⟨rfl, rfl⟩))
    (fun os started H enc _ => lifted os started H enc)
/-- THE STATEMENT -/
theorem proved : Rows.PushAloneSaid :=
  over
end Go.Proofs.Ytcgcefoceefleaa.pushAlone
