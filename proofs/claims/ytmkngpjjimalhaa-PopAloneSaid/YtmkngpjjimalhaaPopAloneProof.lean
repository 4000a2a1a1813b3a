/- Proved: PopAlone returns true, and its arguments read afterwards as before, for every list of codes, every choice of closed and every n; no condition. -/
import Derived.LoopTactic
import Derived.WalkKit
import Derived.ProofKit
import Derived.OpenShut
import Derived.SizedLaws
import Derived.Test.YtmkngpjjimalhaaB01
import Derived.Test.YtmkngpjjimalhaaB32
import Derived.Test.YtmkngpjjimalhaaB33
namespace Go.Proofs.Ytmkngpjjimalhaa.popAlone
open Go.ChangeShapes Go.WideShapes Go.ChangeAt Go.RowKit
set_option linter.unusedVariables false
set_option linter.unusedSimpArgs false
set_option maxRecDepth 100000 in
set_option maxHeartbeats 32000000 in
theorem walk (w : World) (v0 : Value) (l0 : List Int) (s0 : SlI w .u8 v0 l0) (a1 : Bool) (a2 : Int) (w2 : (Lit.int .u8 a2).wf = true) :
    Calls Try.prog 5 #[v0, .bool a1, .int .u8 a2] w fun e w' => e = .returned (.bool true) ∧ Below w.heap.size w w' := by
  have HS := Lib.hid s0
  have h3 : 0 ≤ a2 ∧ a2 ≤ 255 := by
    have h1 := wrap_of_wf w2
    rw [IntKind.wrap_u8] at h1
    omega
  clear s0 w2
  go_enter Try.func5, Try.ntmps5
  go_wp2_with fail
  refine (awake8_any _).mono ?_; rintro e wa ⟨rfl, hba⟩
  have HBA := Lib.hid hba
  clear hba
  have HO := Lib.hid (others_any v0 l0 0 (by omega) wa (HS.out.below HBA.out))
  go_wp2_with fail
  refine HO.out.mono ?_
  rintro e wb ⟨B, g, x, y, rfl, HI, HF, HK, HL, HC⟩
  have hyl : y.l = [] := List.eq_nil_of_length_eq_zero (by have := HL.out.1; omega)
  have hAL : AL wa wb [some g] B x y y.c 0 0 := ⟨HI.out, HF.out, rfl, HK.out, by rw [hyl]; rfl, ⟨by rw [HL.out.2.1]; exact Nat.le_refl _, by rw [HL.out.2.2.1]; exact Nat.le_refl _⟩, HC.out.2.2⟩
  have HA := Lib.hid hAL
  have HR : Hid (RingSt y.c y.m (y.c.st 0) 0 0 false (fun j => 50 + (j : Int))) := by rw [HL.out.2.2.2]; exact ringSt_new HI.out.good HC.out.2.2 _
  obtain ⟨c, hc⟩ : ∃ c, y.c = c := ⟨_, rfl⟩
  rw [hc] at HA HR HC
  obtain ⟨kc, hkc⟩ : ∃ kc : Nat, c.caps.getD 0 0 = (kc : Int) := ⟨(c.caps.getD 0 0).toNat, by have := HC.out.1; omega⟩
  have HCC := HC.out
  rw [hkc] at HCC
  have hkc4 : kc ≤ 4 := by have := HCC.2.1; omega
  obtain ⟨rB, hrB⟩ : ∃ r, r = x.row y := ⟨_, rfl⟩
  have row0 := HI.out.row
  have hSC := (HI.out.conf wb (OffS.self _ _)).1
  unfold WV.vc at hSC
  obtain ⟨b, o, hcA, hcell⟩ := hSC.cellAt 0 (by rw [hc]; exact HCC.2.2)
  rw [hc, hkc] at hcell
  unfold WV.row at row0
  rw [hcA, hc] at row0
  obtain ⟨x0, x1, x2, x3, x4, x5, x6, x7, x8, x9⟩ := rowc10 row0
  have hc1 := HCC.2.2
  have HKC := Lib.hid hkc
  have HCL := Lib.hid hc
  clear HO HI HF HK HL row0 hSC hyl hAL hrB rB hkc hc HCC HC
  have hw1 : IntKind.i64.wrap ((kc : Int) + 1) = (kc : Int) + 1 := by rw [IntKind.wrap_i64]; omega
  have hw3 : IntKind.i64.wrap a2 = a2 := by rw [IntKind.wrap_i64]; omega
  obtain ⟨k, hk, hk1⟩ : ∃ k : Nat, a2.tmod ((kc : Int) + 1) = (k : Int) ∧ k ≤ kc := by
    have h1 : a2.tmod ((kc : Int) + 1) = a2 % ((kc : Int) + 1) := Int.tmod_eq_emod_of_nonneg h3.1
    have h4 := Int.emod_nonneg a2 (show (kc : Int) + 1 ≠ 0 by omega)
    have h5 := Int.emod_lt_of_pos a2 (show (0 : Int) < (kc : Int) + 1 by omega)
    exact ⟨(a2 % ((kc : Int) + 1)).toNat, by omega, by omega⟩
  have hne : ¬ (kc : Int) + 1 = 0 := by omega
  have hcell2 : wb.cell? ⟨b, o, none⟩ = some (.int .i64 kc) := hcell.2
  have hl0 : (0 : Int) < (c.caps.length : Int) := by omega
  clear hcell
  go_wp2_with fail
  clear x0 x1 x2 x3 x4 x5 x6 x7 x8 x9 hcell2 hl0 hw1 hw3 hk hne h3 hcA
  go_loopw [9] (fun u9 wr => ∃ (i : Nat) (x : WV) (y : WM), u9 = .int .i64 i ∧ i ≤ k ∧ Hid (AL wa wr [some g] B x y c i (7 * i)) ∧ Hid (RingSt c y.m (c.st 0) 0 i false (fun j => 50 + (j : Int)))) (fun u9 _ => k + 1 - (intOf u9).toNat)
  case atStart => exact ⟨0, x, y, rfl, by omega, HA, HR⟩
  case round =>
    clear HA HR HCL
    obtain ⟨i, x, y, rfl, hi, HA, HR⟩ := hrel
    obtain ⟨wo, rfl⟩ : ∃ wo : World, wo = wr := ⟨_, rfl⟩
    by_cases hlt : i < k
    · have hltI : (i : Int) < (k : Int) := by omega
      have hwi : IntKind.u64.wrap (50 + (i : Int)) = 50 + (i : Int) := by rw [IntKind.wrap_u64]; omega
      have hwj : IntKind.i64.wrap (50 + (i : Int)) = 50 + (i : Int) := by rw [IntKind.wrap_i64]; omega
      have HAD := Lib.hid (al_add HA.out (by omega) 3 (50 + (i : Int)) (.inl rfl) ⟨by omega, by omega⟩)
      go_wp2_with fail
      refine HAD.out.mono ?_
      rintro e w1 ⟨x1, y1, rfl, HA1, hm1, hl1, -⟩
      obtain ⟨vi, hvi⟩ : ∃ vi : Int, 50 + (i : Int) = vi := ⟨_, rfl⟩
      rw [hvi] at hl1
      have HVI := Lib.hid hvi
      obtain ⟨T, hT⟩ : ∃ T, packI (nextI (c.st 0) i) false = T := ⟨_, rfl⟩
      have HT := Lib.hid hT
      have HY1 : Hid (y1.m = pushM c y.m vi T 0 ∧ y1.l = y.l ++ [pushK vi T 0]) := ⟨hm1, hl1⟩
      have HST : Hid (∀ j : Nat, j < 6 → step1 c (pushM c y.m vi T j, pushK vi T j) = (pushM c y.m vi T (j + 1), pushK vi T (j + 1))) := fun j hj => by
        subst hT
        exact push_step HR.out (by rw [HKC.out]; omega) vi j hj
      clear HAD hm1 hl1 hT hwi hwj hvi
      go_wp2_with fail
      go_loopg [] 7 (fun gg wr => ∃ (j : Nat) (x2 : WV) (y2 : WM), j + gg = 7 ∧ j ≤ 6 ∧ Hid (AL wa wr [some g] B x2 y2 c (i + 1) (7 * i + j)) ∧ Hid (y2.m = pushM c y.m vi T j ∧ y2.l = y.l ++ [pushK vi T j]))
      case atStart => exact ⟨0, x1, y1, by omega, by omega, HA1, HY1⟩
      case round =>
        clear HA1 HY1
        obtain ⟨j, x2, y2, hjg, hj, HA2, HY2⟩ := hrel
        obtain ⟨w2, rfl⟩ : ∃ w2 : World, w2 = wr := ⟨_, rfl⟩
        obtain ⟨gl, lc, c6, cp, hlc, hgl⟩ := HA2.out.at y.l _ HY2.out.2
        have hB2 := HA2.out.wi.lt
        by_cases h6 : j = 6
        · subst h6
          have cp0 : w2.cell? ⟨gl, i * 14 + 1, none⟩ = some (.int .i64 0) := cp
          have HR2 : Hid (RingSt c y2.m (c.st 0) 0 (i + 1) false (fun j => 50 + (j : Int))) := by
            rw [HY2.out.1, ← HT.out]
            exact (HR.out.pushed (by rw [HKC.out]; omega) vi).congr fun j hj => by
              by_cases e : j = i
              · rw [if_pos e, e]; exact HVI.out.symm
              · rw [if_neg e]
          have HA3 : Hid (AL wa w2 [some g] B x2 y2 c (i + 1) (7 * (i + 1))) := by
            have h := HA2.out
            exact ⟨h.wi, h.fr, h.ce, h.ks, h.len, ⟨by have := h.small.1; omega, by have := h.small.2; omega⟩, h.one⟩
          clear cp HA2 HY2 HST HT HR HA
          go_wp2_with fail
          go_roundw
          case rel => exact ⟨i + 1, x2, y2, by go_num, by omega, HA3, HR2⟩
          case measure => simp [intOf]; omega
        · have hp : ∃ p : Int, (pushK vi T j).pl = p ∧ 0 < p := by
            have hj6 : j = 0 ∨ j = 1 ∨ j = 2 ∨ j = 3 ∨ j = 4 ∨ j = 5 := by omega
            rcases hj6 with rfl | rfl | rfl | rfl | rfl | rfl
            · exact ⟨1, rfl, by omega⟩
            · exact ⟨2, rfl, by omega⟩
            · exact ⟨4, rfl, by omega⟩
            · exact ⟨5, rfl, by omega⟩
            · exact ⟨6, rfl, by omega⟩
            · exact ⟨7, rfl, by omega⟩
          obtain ⟨p, hpe, hp0⟩ := hp
          rw [hpe] at cp
          have HSP := Lib.hid (al_step HA2.out (by omega) (by omega) y.l _ HY2.out.2)
          clear hpe
          go_wp2_with fail
          refine HSP.out.mono ?_
          rintro e w3 ⟨x3, y3, rfl, HA3, hm3, hl3⟩
          have HY3 : Hid (y3.m = pushM c y.m vi T (j + 1) ∧ y3.l = y.l ++ [pushK vi T (j + 1)]) := by
            rw [HY2.out.1, HST.out j (by omega)] at hm3 hl3
            exact ⟨hm3, hl3⟩
          clear HSP hm3 hl3 HA2 HY2 c6 cp hB2
          go_wp2_with fail
          cases gk with
          | zero => omega
          | succ gk =>
            go_roundg gk
            case rel => exact ⟨j + 1, x3, y3, by omega, by omega, HA3, HY3⟩
            case measure => omega
    · have hge : ¬ (i : Int) < (k : Int) := by omega
      have hik : i = k := by omega
      subst hik
      go_upto_if 54 with (fail)
      clear hge hlt
      go_cut [] (fun wx => ∃ (n q : Nat) (x : WV) (y : WM), n ≤ 6 ∧ q ≤ 50 ∧ Hid (AL wa wx [some g] B x y c n q) ∧ Hid (RingSt c y.m (c.st 0) 0 i a1 (fun j => 50 + (j : Int))))
      case first =>
        cases a1 with
        | false =>
          go_wp2_with fail
          go_meet
          exact ⟨i, 7 * i, x, y, by omega, by omega, HA, HR⟩
        | true =>
          have HAD := Lib.hid (al_add HA.out (by omega) 5 0 (.inr (.inr (.inl rfl))) ⟨by omega, by omega⟩)
          go_wp2_with fail
          refine HAD.out.mono ?_
          rintro e w1 ⟨x1, y1, rfl, HA1, hm1, hl1, -⟩
          obtain ⟨T, hT⟩ : ∃ T, packI (nextI (c.st 0) i) false = T := ⟨_, rfl⟩
          have HT := Lib.hid hT
          have HY1 : Hid (y1.m = shutM y.m T 0 ∧ y1.l = y.l ++ [shutK 0 T 0]) := ⟨hm1, hl1⟩
          have HST : Hid (∀ j : Nat, j < 2 → step1 c (shutM y.m T j, shutK 0 T j) = (shutM y.m T (j + 1), shutK 0 T (j + 1))) := fun j hj => by
            subst hT
            exact shut_step HR.out 0 j hj
          have hw1 : IntKind.i64.wrap (((i + 1 : Nat) : Int) - 1) = (i : Int) := by rw [IntKind.wrap_i64]; omega
          have hw2 : IntKind.i64.wrap ((i : Int) + 1 - 1) = (i : Int) := by rw [IntKind.wrap_i64]; omega
          clear HAD hm1 hl1 hT
          go_wp2_with fail
          go_loopg [] 3 (fun gg wr => ∃ (j : Nat) (x2 : WV) (y2 : WM), j + gg = 3 ∧ j ≤ 2 ∧ Hid (AL wa wr [some g] B x2 y2 c (i + 1) (7 * i + j)) ∧ Hid (y2.m = shutM y.m T j ∧ y2.l = y.l ++ [shutK 0 T j]))
          case atStart => exact ⟨0, x1, y1, by omega, by omega, HA1, HY1⟩
          case round =>
            clear HA1 HY1
            obtain ⟨j, x2, y2, hjg, hj, HA2, HY2⟩ := hrel
            obtain ⟨w2, rfl⟩ : ∃ w2 : World, w2 = wr := ⟨_, rfl⟩
            obtain ⟨gl, lc, c6, cp, hlc, hgl⟩ := HA2.out.at y.l _ HY2.out.2
            have hB2 := HA2.out.wi.lt
            by_cases h6 : j = 2
            · subst h6
              have cp0 : w2.cell? ⟨gl, i * 14 + 1, none⟩ = some (.int .i64 0) := cp
              have HR2 : Hid (RingSt c y2.m (c.st 0) 0 i true (fun j => 50 + (j : Int))) := by
                rw [HY2.out.1, ← HT.out]
                exact HR.out.shut
              have hq2 : 7 * i + 2 ≤ 50 := by omega
              clear cp HY2 HST HT HR HA
              have HA2b := HA2
              clear HA2
              have X6 := ext_cell _ _ hB2 _ c6
              have XP := ext_cell _ _ hgl _ cp0
              clear c6 cp0
              go_upto_region 13 with fail
              refine wp_region_ext w2 (by kernel_rfl) (by kernel_rfl) (Below.refl _ _) ?_
              repeat (go_big_quiet_step (fail))
              refine wpQuiet_nil ?_
              intro _ hw'
              obtain ⟨n9, rfl⟩ := hw'
              have HA2 := Lib.hid (HA2b.out.next n9.below)
              generalize n9.wd = w9 at *
              clear X6 XP HA2b
              go_wp2_with fail
              go_meet
              exact ⟨i + 1, 7 * i + 2, x2, y2, by omega, hq2, HA2, HR2⟩
            · have hp : ∃ p : Int, (shutK 0 T j).pl = p ∧ 0 < p := by
                have hj6 : j = 0 ∨ j = 1 := by omega
                rcases hj6 with rfl | rfl
                · exact ⟨1, rfl, by omega⟩
                · exact ⟨2, rfl, by omega⟩
              obtain ⟨p, hpe, hp0⟩ := hp
              rw [hpe] at cp
              clear hpe
              have HA2b := HA2
              clear HA2
              have X6 := ext_cell _ _ hB2 _ c6
              have XP := ext_cell _ _ hgl _ cp
              clear c6 cp
              go_upto_region 13 with fail
              refine wp_region_ext w2 (by kernel_rfl) (by kernel_rfl) (Below.refl _ _) ?_
              repeat (go_big_quiet_step (fail))
              refine wpQuiet_nil ?_
              intro _ hw'
              obtain ⟨n9, rfl⟩ := hw'
              have HA2 := Lib.hid (HA2b.out.next n9.below)
              generalize n9.wd = w9 at *
              clear X6 XP HA2b
              obtain ⟨gl, lc, c6, cp, hlc, hgl⟩ := HA2.out.at y.l _ HY2.out.2
              have HSP := Lib.hid (al_step HA2.out (by omega) (by omega) y.l _ HY2.out.2)
              go_wp2_with fail
              refine HSP.out.mono ?_
              rintro e w3 ⟨x3, y3, rfl, HA3, hm3, hl3⟩
              have HY3 : Hid (y3.m = shutM y.m T (j + 1) ∧ y3.l = y.l ++ [shutK 0 T (j + 1)]) := by
                rw [HY2.out.1, HST.out j (by omega)] at hm3 hl3
                exact ⟨hm3, hl3⟩
              clear HSP hm3 hl3 HA2 HY2 c6 cp hB2
              go_wp2_with fail
              cases gk with
              | zero => omega
              | succ gk =>
                go_roundg gk
                case rel => exact ⟨j + 1, x3, y3, by omega, by omega, HA3, HY3⟩
                case measure => omega
      case rest =>
        obtain ⟨n, q, x, y, hn, hq, HA, HR⟩ := hcut
        obtain ⟨w4, rfl⟩ : ∃ w4 : World, w4 = wc := ⟨_, rfl⟩
        go_wp2_with fail
        go_loopw [10] (fun u10 wr => ∃ (r n q : Nat) (x : WV) (y : WM), u10 = .int .i64 r ∧ r ≤ i ∧ n ≤ 6 + r ∧ q ≤ 50 + 6 * r ∧ Hid (AL wa wr [some g] B x y c n q) ∧ Hid (RingSt c y.m (c.st 0) r i a1 (fun j => 50 + (j : Int)))) (fun u10 _ => i + 2 - (intOf u10).toNat)
        case atStart => exact ⟨0, n, q, x, y, rfl, by omega, by omega, by omega, HA, HR⟩
        case round =>
          clear HA HR hn hq
          obtain ⟨r, n, q, x, y, rfl, hr, hn, hq, HA, HR⟩ := hrel
          obtain ⟨wp, rfl⟩ : ∃ wp : World, wp = wr := ⟨_, rfl⟩
          have hrI : (r : Int) ≤ (i : Int) := by omega
          obtain ⟨N, M, Kf, xv, T, Hd, ok, ov, hM0, hK0, hN6, hST, hKN, hOut⟩ := alone_run HR.out
          have HST := Lib.hid hST
          have HKN := Lib.hid hKN
          have HOUT := Lib.hid hOut
          have HAD := Lib.hid (al_add HA.out (by omega) 4 0 (.inr (.inl rfl)) U64.zero)
          have hK00 := Lib.hid hK0
          have hM00 := Lib.hid hM0
          clear hST hKN hOut HR hK0 hM0
          go_wp2_with fail
          refine HAD.out.mono ?_
          rintro e w5 ⟨x5, y5, rfl, HA5, hm5, hl5, -⟩
          have HY5 : Hid (y5.m = M 0 ∧ y5.l = y.l ++ [Kf 0]) := by rw [hM00.out, hK00.out]; exact ⟨hm5, hl5⟩
          obtain ⟨gl, lc, c6, cp, hlc, hgl⟩ := HA5.out.at y.l _ HY5.out.2
          have hB5 := HA5.out.wi.lt
          have hw1 : IntKind.i64.wrap (((n + 1 : Nat) : Int) - 1) = (n : Int) := by rw [IntKind.wrap_i64]; omega
          have hw2 : IntKind.i64.wrap ((n : Int) + 1 - 1) = (n : Int) := by rw [IntKind.wrap_i64]; omega
          clear HAD hm5 hl5 HA hK00 hM00 cp hrI
          go_wp2_with fail
          clear c6 hw1 hw2 hgl hlc
          go_loopw [12] (fun u12 wr => ∃ (j : Nat) (x2 : WV) (y2 : WM), u12 = .int .i64 j ∧ j ≤ N ∧ Hid (AL wa wr [some g] B x2 y2 c (n + 1) (q + j)) ∧ Hid (y2.m = M j ∧ y2.l = y.l ++ [Kf j])) (fun u12 _ => 10 - (intOf u12).toNat)
          case atStart => exact ⟨0, x5, y5, rfl, by omega, HA5, HY5⟩
          case round =>
            clear HA5 HY5 hB5
            obtain ⟨j, x2, y2, rfl, hj, HA2, HY2⟩ := hrel
            obtain ⟨w2, rfl⟩ : ∃ w2 : World, w2 = wr := ⟨_, rfl⟩
            obtain ⟨gl, lc, c6, cp, hlc, hgl⟩ := HA2.out.at y.l _ HY2.out.2
            have hB2 := HA2.out.wi.lt
            by_cases hjN : j < N
            · obtain ⟨p, hpe, hp0⟩ : ∃ p : Int, (Kf j).pl = p ∧ 0 < p := ⟨_, rfl, (HST.out j hjN).2⟩
              rw [hpe] at cp
              have hj20 : (j : Int) < 20 := by omega
              have HSP := Lib.hid (al_step HA2.out (by omega) (by omega) y.l _ HY2.out.2)
              clear hpe
              go_wp2_with fail
              refine HSP.out.mono ?_
              rintro e w3 ⟨x3, y3, rfl, HA3, hm3, hl3⟩
              have HY3 : Hid (y3.m = M (j + 1) ∧ y3.l = y.l ++ [Kf (j + 1)]) := by
                rw [HY2.out.1, (HST.out j hjN).1] at hm3 hl3
                exact ⟨hm3, hl3⟩
              clear HSP hm3 hl3 HA2 HY2 c6 cp hB2
              go_wp2_with fail
              go_roundw
              case rel => exact ⟨j + 1, x3, y3, by go_num, by omega, HA3, HY3⟩
              case measure => simp [intOf]; omega
            · have hjN2 : j = N := by omega
              subst hjN2
              have HY4 : Hid (y2.m = M j ∧ y2.l = y.l ++ [⟨4, 0, 0, 0, 0, 0, xv, T, Hd, ok, ov⟩]) := by rw [← HKN.out]; exact HY2.out
              rw [HKN.out] at cp
              have cp0 : w2.cell? ⟨gl, n * 14 + 1, none⟩ = some (.int .i64 0) := cp
              clear cp HY2 HKN HST hjN
              go_upto_region 24 with fail
              clear c6 cp0 hgl hlc hB2
              have hm0 : y2.l[n]? = some ⟨4, 0, 0, 0, 0, 0, xv, T, Hd, ok, ov⟩ := by
                have hl2 := HY4.out.2
                have hln : y.l.length = n := by have := HA2.out.len; rw [hl2, List.length_append] at this; simpa using this
                rw [hl2, ← hln]; simp
              obtain ⟨fl, fc, r0, r1, s2, k2, l2, s3, k3, l3, s4, k4, l4, hin, hfl, hBl, c9, f0, f1, f2, f3, f4, TE⟩ := HA2.out.ends n _ hm0 rfl
              clear hm0
              have hinI : (n : Int) < ((n + 1 : Nat) : Int) := by omega
              go_wp2_with fail
              refine (TE.out _ (Below.refl _ _)).mono ?_; rintro e w4 ⟨rfl, hb4⟩
              have HA4 := Lib.hid (HA2.out.next hb4)
              clear hb4 c9 f0 f1 f2 f3 f4 TE hin hfl hBl HA2 hinI
              obtain ⟨W5, hW5⟩ : ∃ W5, (w4.alloc (.cells #[.int .i64 0, .int .u64 0] 54)).setRow w4.heap.size #[.int .i64 ok, .int .u64 ov] = W5 := ⟨_, rfl⟩
              have N5 : Hid ((w4.alloc (.cells #[.int .i64 0, .int .u64 0] 54)).heap[w4.heap.size]? = some (.cells #[.int .i64 0, .int .u64 0] 54 (0, 0))) := heap_alloc_new _ _
              have HB5 : Hid (Below w4.heap.size w4 W5) := hW5 ▸ row_below (below_new (Below.refl _ _) _) (Nat.le_refl _) _
              have R5 : Hid (W5.heap[w4.heap.size]? = some (.cells #[.int .i64 ok, .int .u64 ov] 54 (0, 0))) := hW5 ▸ setRow_heap _ _ _ _ _ (0, 0) N5.out
              have HW5 := Lib.hid hW5
              clear hW5
              go_upto_region 25 with (refine wpList_store_row rfl 54 _ _ rfl (w4.heap.size) _ rfl rfl 54 #[.int .i64 0, .int .u64 0] N5.out (by kernel_rfl) rfl (by simp [Value.oneCell']) ?_)
              rw [HW5.out]
              try simp only [Act.put]
              clear HW5 N5
              have HA6 := Lib.hid (HA4.out.next HB5.out)
              obtain ⟨O, hO⟩ : ∃ O, w4.heap.size = O := ⟨_, rfl⟩
              rw [hO] at R5
              rw [hO]
              clear hO HA4 HB5
              obtain ⟨o0, o1⟩ := rowc2 R5.out
              rcases HOUT.out with ⟨hri, hj1, hok, hov, hr2⟩ | ⟨hri, hj1, hok, hov⟩
              · subst hj1; subst hok
                have hov2 : ov = 50 + (r : Int) := hov
                subst hov2
                have HR2 : Hid (RingSt c y2.m (c.st 0) (r + 1) i a1 (fun j => 50 + (j : Int))) := by rw [HY4.out.1]; exact hr2
                have hri2 : (r : Int) < (i : Int) := by omega
                have hwi : IntKind.u64.wrap (50 + (r : Int)) = 50 + (r : Int) := by rw [IntKind.wrap_u64]; omega
                have hwj : IntKind.i64.wrap (50 + (r : Int)) = 50 + (r : Int) := by rw [IntKind.wrap_i64]; omega
                clear hr2 HOUT hov HY4
                go_wp2_with fail
                go_roundw
                case rel => exact ⟨r + 1, n + 1, q + 6, x2, y2, by go_num, by omega, by omega, by omega, HA6, HR2⟩
                case measure => simp [intOf]; omega
              · subst hj1; subst hri; subst hov
                have HBW := Lib.hid (below_then HBA.out HA6.out.wi.below)
                have hri2 : ¬ (r : Int) < (r : Int) := by omega
                clear HOUT HY4 HA6
                cases a1 with
                | true =>
                  have hok2 : ok = 5 := hok
                  clear hok
                  subst hok2
                  go_wp2
                  go_ret
                  exact ⟨rfl, HBW.out⟩
                | false =>
                  have hok2 : ok = 3 := hok
                  clear hok
                  subst hok2
                  go_wp2
                  go_ret
                  exact ⟨rfl, HBW.out⟩
set_option maxRecDepth 100000 in
theorem lifted (os : Os) (started : os.Started) (H : Type) (enc : TypeId × Value → H) :
    ReturnsInHanded {} Try.checked os 5 .any (Rows.popAloneSpec.pre6 enc Try.prog Try.f5 Rows.popAloneRow.domain false) (Rows.popAloneSpec.post enc Try.prog Try.f5 false true false false) := by
  refine returnsInHanded_of_change_sized (C := Try.checked) own started (by kernel_rfl) Try.func5
    (ChangeSpec.witness6 (enc := enc) (C := Try.checked) false ⟨#[], #[.slice none 0 0, .bool false, .int .u8 0], []⟩ 8 (by kernel_rfl) (by kernel_rfl) (by kernel_rfl) (by kernel_rfl)) ?_
  intro W base args ds gs before hval0 hW _ hsz0 _
  have hsz : (DataW.weightsEach Try.prog (Try.f5.params.toList ++ Rows.popAloneSpec.plain.varTypes Try.prog) (ds ++ gs)).all (· ≤ reachBytes) = true := hsz0
  clear hsz0
  have hval : ∀ (j : Nat) t v, Try.f5.params[j]? = some t → args[j]? = some v → Value.okWide Try.prog W .any base t v := hval0
  have hW' := hW
  obtain ⟨p, q, hA0, hV, rfl, _, _⟩ := hW
  have hA : DataW.TrodAll enc Try.prog W 0 (fun _ => true) true Try.f5.params.toList args.toList ds p := hA0
  rw [Try.params5] at hA hval hsz
  obtain ⟨v0, vs0, d0, ds0, p0, q0, hargs, rfl, rfl, h0, r0⟩ := trodAll_cons hA
  obtain ⟨v1, vs1, d1, ds1, p1, q1, rfl, rfl, rfl, h1, r1⟩ := trodAll_cons r0
  obtain ⟨v2, vs2, d2, ds2, p2, q2, rfl, rfl, rfl, h2, r2⟩ := trodAll_cons r1
  obtain ⟨rfl, rfl, rfl⟩ := trodAll_nil r2
  obtain rfl : args = #[v0, v1, v2] := by cases args; simp_all
  obtain ⟨rfl, rfl⟩ := trodVars_none hV
  have k0 := h0
  have k1 := h1
  have k2 := h2
  obtain ⟨l0, s0⟩ := view_sl (k := .u8) Try.underlying22 Try.underlying5 (by kernel_rfl) (fun elems sp hd => sized_slice hsz (j := 0) (t := 22) (e := 5) rfl (by rw [hd]; rfl) Try.underlying22) (of_decide_eq_true (by kernel_rfl)) (hval 0 22 v0 rfl rfl) h0
  obtain ⟨a1, rfl, -, -⟩ := open_bool Try.underlying4 (hval 1 4 v1 rfl rfl) h1
  obtain ⟨a2, rfl, -, -, w2⟩ := open_int Try.underlying5 (hval 2 5 v2 rfl rfl) h2
  clear hA0 hval0
  simp only [List.append_nil] at hW'
  have hlt := hW'.lt
  refine (walk W v0 l0 s0 a1 a2 w2).mono fun e W' ⟨he, hb⟩ => ?_
  subst he
  exact ⟨_, rfl, _, _, _, [], _, [], hW', trodAll_cons_mk (shut_bool Try.underlying4 _) trodAll_mk0, (trodAll_cons_mk (Below.trod Try.laidOut (by kernel_rfl) (of_decide_eq_true (by kernel_rfl)) k0 hb (fun x hx => by simpa using hlt x (by simp [hx]))) (trodAll_cons_mk (Below.trod Try.laidOut (by kernel_rfl) (of_decide_eq_true (by kernel_rfl)) k1 hb (fun x hx => by simpa using hlt x (by simp [hx]))) (trodAll_cons_mk (Below.trod Try.laidOut (by kernel_rfl) (of_decide_eq_true (by kernel_rfl)) k2 hb (fun x hx => by simpa using hlt x (by simp [hx]))) trodAll_mk0))), rfl, hb.frame _, fun h => by cases h⟩
theorem over : Rows.popAloneRow.holds Try.pinned (OpenSpec.ofChange Rows.popAloneSpec) :=
  OpenClaim.holds_of_wide 5 Try.f5 rfl rfl rfl rfl rfl rfl rfl ⟨rfl, rfl, rfl, rfl, rfl⟩ rfl rfl rfl rfl rfl (by kernel_rfl) Try.func5 (by kernel_rfl)
    (of_decide_eq_true (by kernel_rfl)) (by unfold Func.isWrapper; first | (rw [if_pos (by decide +kernel)]; kernel_rfl) | (rw [if_neg (by decide +kernel)]; exact ⟨rfl, rfl⟩))
    (fun os started H enc _ => lifted os started H enc)
/-- THE STATEMENT -/
theorem proved : Rows.PopAloneSaid :=
  over
end Go.Proofs.Ytmkngpjjimalhaa.popAlone
