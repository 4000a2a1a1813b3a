/- Proved: ShutOnce returns true, and its arguments read afterwards as before, for every list of picks, every n and every list of codes; no condition. -/
import Derived.LoopTactic
import Derived.WalkKit
import Derived.ProofKit
import Derived.OpenShut
import Derived.SizedLaws
import Derived.Test.YtfegfefddfdkeaaB01
import Derived.Test.YtfegfefddfdkeaaB27
import Derived.Test.YtfegfefddfdkeaaB28
import Derived.Test.YtfegfefddfdkeaaB31
namespace Go.Proofs.Ytfegfefddfdkeaa.shutOnce
open Go.ChangeShapes Go.WideShapes Go.ChangeAt Go.RowKit
set_option linter.unusedVariables false
set_option linter.unusedSimpArgs false
theorem newE_pos {c : ConfM} (hg : c.good) : 1 ≤ (newE c).words.length := by
  have hb := hg.base c.caps.length (Nat.le_refl _)
  have ht := hg.thr
  unfold newE
  rw [if_pos (checkC_good hg)]
  show 1 ≤ (chansE c c.caps.length).length
  rw [chansE_len]
  unfold ConfM.thrW
  omega
set_option maxRecDepth 100000 in
set_option maxHeartbeats 32000000 in
theorem walk (w : World) (v0 : Value) (l0 : List Int) (s0 : SlI w .u8 v0 l0) (a1 : Int) (w1 : (Lit.int .u8 a1).wf = true) (v2 : Value) (l2 : List Int) (s2 : SlI w .u8 v2 l2) :
    Calls Try.prog 5 #[v0, .int .u8 a1, v2] w fun e w' => e = .returned (.bool true) ∧ Below w.heap.size w w' := by
  have HS0 := Lib.hid s0
  have HS2 := Lib.hid s2
  have hn1 : 0 ≤ a1 ∧ a1 < 256 := by
    have h1 := wrap_of_wf w1
    rw [IntKind.wrap_u8] at h1
    omega
  obtain ⟨q, hq⟩ : ∃ q : Nat, a1.tmod 5 = (q : Int) := ⟨(a1.tmod 5).toNat, by have := Int.tmod_nonneg 5 hn1.1; omega⟩
  have hq4 : q ≤ 4 := by have := Int.tmod_lt_of_pos a1 (b := 5) (by omega); omega
  have hqu : IntKind.u8.wrap (q : Int) = q := by rw [IntKind.wrap_u8]; omega
  have hqi : IntKind.i64.wrap (q : Int) = q := by rw [IntKind.wrap_i64]; omega
  have hqm : a1 % 5 = (q : Int) := by rw [← hq, Int.tmod_eq_emod_of_nonneg hn1.1]
  have HQ : Hid (a1.tmod 5 = (q : Int) ∧ IntKind.u8.wrap (q : Int) = q ∧ IntKind.i64.wrap (q : Int) = q ∧ a1 % 5 = (q : Int)) := ⟨hq, hqu, hqi, hqm⟩
  clear s0 s2 w1 hn1 hq hqu hqi hqm
  go_enter Try.func5, Try.ntmps5
  go_wp2_with fail
  refine (awake8_any _).mono ?_; rintro e wa ⟨rfl, hba⟩
  have HBA := Lib.hid hba
  clear hba
  have HO := Lib.hid (others_any v2 l2 0 (by omega) wa (HS2.out.below HBA.out))
  go_wp2_with fail
  refine HO.out.mono ?_
  rintro e wb ⟨B, g, x, y, rfl, HI, HF, HK, HL, HC⟩
  clear HO HS2
  obtain ⟨c, hc⟩ : ∃ c, y.c = c := ⟨_, rfl⟩
  have hl0 : y.l = [] := List.eq_nil_of_length_eq_zero (by have := HL.out.1; omega)
  have HG : Hid c.good := hc ▸ HI.out.good
  have HC1 : Hid (1 ≤ c.caps.length) := hc ▸ HC.out.2.2
  have hym : y.m = newE c := by rw [HL.out.2.2.2, hc]
  have HFT : Hid (newE c).fits := hym ▸ HI.out.fits
  have HA0 : Hid (AL wa wb [some g] B x y c 0 0) := ⟨HI.out, HF.out, hc, HK.out, by rw [hl0]; rfl, by rw [HL.out.2.1, HL.out.2.2.1]; exact ⟨Nat.le_refl _, Nat.le_refl _⟩, HC1.out⟩
  have HY0 : Hid (y.m = newE c ∧ ∀ k ∈ y.l, Fresh c k ∧ k.what = 5) := ⟨hym, fun k hk => by rw [hl0] at hk; cases hk⟩
  have hlen1 : 1 ≤ y.m.words.length := by rw [hym]; exact newE_pos HG.out
  obtain ⟨mb, mo, hmA, hwc⟩ := HI.out.wordsAt hlen1
  have hw0 := hwc wb (OffS.self _ _) 0 hlen1
  rw [hym] at hw0
  obtain ⟨bw, hbw⟩ : ∃ bw, (newE c).words.getD 0 0 = bw := ⟨_, rfl⟩
  rw [hbw, Nat.add_zero] at hw0
  have HBW := Lib.hid hbw
  have row0 := HI.out.row
  unfold WV.row at row0
  rw [hmA] at row0
  obtain ⟨nw, hnw⟩ : ∃ nw, y.m.words.length = nw := ⟨_, rfl⟩
  rw [hnw] at row0 hlen1
  have c3 := (rowc10 row0).2.2.2.1
  have hnwI : (0 : Int) < (nw : Int) := by omega
  clear hc hl0 hym hwc hbw hnw row0 hmA HI HF HK HL HC
  go_upto_region 5 with fail
  clear hw0 c3 hlen1 hnwI
  go_wp2_with fail
  go_loopw [9] (fun u9 wr => ∃ (i : Nat) (x : WV) (y : WM), u9 = .int .i64 i ∧ i ≤ q + 1 ∧ Hid (AL wa wr [some g] B x y c i 0) ∧ Hid (y.m = newE c ∧ ∀ k ∈ y.l, Fresh c k ∧ k.what = 5)) (fun u9 _ => 7 - (intOf u9).toNat)
  case atStart => exact ⟨0, x, y, rfl, by omega, HA0, HY0⟩
  case round =>
    clear HA0 HY0
    obtain ⟨i, x, y, rfl, hi, HAi, HYi⟩ := hrel
    obtain ⟨wo, rfl⟩ : ∃ wo : World, wo = wr := ⟨_, rfl⟩
    obtain ⟨hq1, hq2, hq3, hq4'⟩ := HQ.out
    by_cases hlt : i ≤ q
    · have hltI : (i : Int) ≤ (q : Int) := by omega
      have TA := Lib.hid (al_add HAi.out (by omega) 5 0 (.inr (.inr (.inl rfl))) U64.zero)
      go_wp2_with fail
      clear hq1 hq2 hq3 hq4'
      refine TA.out.mono ?_
      rintro e w9 ⟨x9, y9, rfl, HA9, hm9, hl9, -⟩
      have HY9 : Hid (y9.m = newE c ∧ ∀ k ∈ y9.l, Fresh c k ∧ k.what = 5) := ⟨hm9.trans HYi.out.1, fun k hk => by
        rw [hl9, List.mem_append, List.mem_singleton] at hk
        rcases hk with hk | rfl
        · exact HYi.out.2 k hk
        · exact ⟨⟨rgK_new c 5 0 0 0 (by omega) HC1.out U64.zero, rfl, rfl⟩, rfl⟩⟩
      clear hm9 hl9 TA HAi HYi
      go_wp2_with fail
      go_roundw
      case rel => exact ⟨i + 1, x9, y9, by go_num, by omega, HA9, HY9⟩
      case measure => simp [intOf]; omega
    · have hgtI : ¬ (i : Int) ≤ (q : Int) := by omega
      obtain ⟨n, hn⟩ : ∃ n, i = n := ⟨_, rfl⟩
      subst hn
      have HN1 : Hid (i = q + 1) := by show i = q + 1; omega
      have hi1 : 1 ≤ i := by omega
      have hi5 : i ≤ 5 := by omega
      have HP := Lib.hid (wplay_any pu_sim rg_doc HAi.out.wi HAi.out.fr (fun m hm => HAi.out.ce.symm ▸ HAi.out.ks m hm) (by rw [HAi.out.len]; omega) (by rw [HAi.out.len]; omega) (by have := HAi.out.small; omega) (by have := HAi.out.small; omega) v0 l0 (HS0.out.below HBA.out) 60 12 (by omega) (by omega))
      go_wp2_with fail
      clear hq1 hq2 hq3 hq4'
      refine HP.out.mono ?_
      rintro e we ⟨x4, y4, rfl, HI4, HF4, HR4⟩
      clear HP
      have hrun := HR4.out.run
      rw [HAi.out.ce, HAi.out.len, runE_runL] at hrun
      have hso := shut_once HG.out HC1.out HFT.out y.l HYi.out.2 (by rw [HAi.out.len]; omega) (by rw [HAi.out.len]; omega) (playL l0 60 12 i) (fun j hj => by rw [HAi.out.len]; exact playL_lt _ _ _ _ (by omega) j hj) (fun j hj => by rw [HAi.out.len] at hj; have := playL_count l0 60 12 i j hj; omega)
      rw [HYi.out.1] at hrun
      rw [← hrun] at hso
      have HSO : Hid ((∀ k ∈ y4.l, k.what = 5 ∧ k.pl = 0 ∧ (k.ok = 1 ∨ k.ok = 4)) ∧ y4.l.countP shutB = 1 ∧ y4.m.words.getD 0 0 = bw + 1) := by rw [HBW.out] at hso; exact hso
      have HA4 : Hid (AL wa we [some g] B x4 y4 c i 200) := ⟨HI4.out, HF4.out, HR4.out.c.trans HAi.out.ce, HR4.out.all, HR4.out.l.trans HAi.out.len, by have h1 := HR4.out.t; have h2 := HR4.out.p; have h3 := HAi.out.small; rw [HAi.out.len] at h1 h2; omega, HC1.out⟩
      clear hrun hso HI4 HF4 HR4 HAi HYi
      have hb0 : ∃ fl fc, we.cell? ⟨B, 9, none⟩ = some (.slice (some ⟨fl, 0, none⟩) i fc) := by
        obtain ⟨m, hm⟩ : ∃ m, y4.l[0]? = some m := ⟨_, List.getElem?_eq_getElem (by rw [HA4.out.len]; omega)⟩
        obtain ⟨fl, fc, r0, r1, s2, k2, l2, s3, k3, l3, s4, k4, l4, -, -, -, c9, -⟩ := HA4.out.ends 0 m hm (what_own (HSO.out.1 m (List.mem_of_getElem? hm)).1)
        exact ⟨fl, fc, c9⟩
      obtain ⟨fl0, fc0, c90⟩ := hb0
      go_upto_region 13 with fail
      obtain ⟨N, hN⟩ : ∃ N, i = N := ⟨_, rfl⟩
      subst hN
      clear c90 hlt hi hgtI
      clear HN1
      have HN : Hid (y4.l.length = i) := HA4.out.len
      obtain ⟨n, hn⟩ : ∃ n, i = n := ⟨_, rfl⟩
      rw [hn] at HA4 HN hi5 hi1
      rw [hn]
      clear hn
      go_loopw [10, 44] (fun u10 u44 wr => ∃ (i : Nat), u10 = .int .i64 ((y4.l.take i).countP shutB : Nat) ∧ u44 = .int .i64 i ∧ i ≤ n ∧ Hid (AL wa wr [some g] B x4 y4 c n 200)) (fun _ u44 _ => 7 - (intOf u44).toNat)
      case atStart => exact ⟨0, rfl, rfl, by omega, HA4⟩
      case round =>
        clear HA4
        obtain ⟨i, rfl, rfl, hi, HAi⟩ := hrel
        obtain ⟨wo, rfl⟩ : ∃ wo : World, wo = wr := ⟨_, rfl⟩
        by_cases hlt : i < n
        · have hltI : (i : Int) < (n : Int) := by omega
          obtain ⟨m, hm⟩ : ∃ m, y4.l[i]? = some m := ⟨_, List.getElem?_eq_getElem (by rw [HN.out]; omega)⟩
          obtain ⟨hw5, hpl, hok⟩ := HSO.out.1 m (List.mem_of_getElem? hm)
          obtain ⟨fl, fc, r0, r1, s2, k2, l2, s3, k3, l3, s4, k4, l4, hin, hfl, hBl, c9, f0, f1, f2, f3, f4, TE⟩ := HAi.out.ends i m hm (what_own hw5)
          rcases hok with hok | hok
          · have hsb : shutB m = true := by unfold shutB; rw [hw5, hpl, hok]; rfl
            have hct := countP_take (p := shutB) y4.l i m hm
            rw [hsb] at hct
            have HCT := Lib.hid hct
            have TE2 := TE
            rw [hok, show (m.pl == (0 : Int)) = true from by rw [hpl]; rfl] at TE2
            obtain ⟨ov, hov⟩ : ∃ ov, m.ov = ov := ⟨_, rfl⟩
            rw [hov] at TE2
            clear TE hct hsb hov hok hpl hw5
            go_wp2_with fail
            refine (TE2.out _ (Below.refl _ _)).mono ?_; rintro e we ⟨rfl, hbe⟩
            have HAe := Lib.hid (HAi.out.next hbe)
            clear hbe c9 f0 f1 f2 f3 f4 TE2 hfl hBl
            obtain ⟨W7, hW7⟩ : ∃ W7, (we.alloc (.cells #[.int .i64 0, .int .u64 0] 56)).setRow we.heap.size #[.int .i64 1, .int .u64 ov] = W7 := ⟨_, rfl⟩
            have N7 : Hid ((we.alloc (.cells #[.int .i64 0, .int .u64 0] 56)).heap[we.heap.size]? = some (.cells #[.int .i64 0, .int .u64 0] 56 (0, 0))) := heap_alloc_new _ _
            have HB7 : Hid (Below we.heap.size we W7) := hW7 ▸ row_below (below_new (Below.refl _ _) _) (Nat.le_refl _) _
            have R7 : Hid (W7.heap[we.heap.size]? = some (.cells #[.int .i64 1, .int .u64 ov] 56 (0, 0))) := hW7 ▸ setRow_heap _ _ _ _ _ (0, 0) N7.out
            have HW7 := Lib.hid hW7
            clear hW7
            go_upto_region 16 with (refine wpList_store_row rfl 56 _ _ rfl (we.heap.size) _ rfl rfl 56 #[.int .i64 0, .int .u64 0] N7.out (by kernel_rfl) rfl (by simp [Value.oneCell']) ?_)
            rw [HW7.out]
            try simp only [Act.put]
            clear HW7 N7
            have HAo := Lib.hid (HAe.out.next HB7.out)
            obtain ⟨o0, o1⟩ := rowc2 R7.out
            obtain ⟨kk, hkk⟩ : ∃ kk : Nat, (y4.l.take i).countP shutB = kk := ⟨_, rfl⟩
            have hk5 : kk ≤ 5 := by rw [← hkk]; exact Nat.le_trans List.countP_le_length (by rw [List.length_take]; omega)
            have HKK := Lib.hid hkk
            have hkw : IntKind.i64.wrap ((kk : Int) + 1) = ((kk + 1 : Nat) : Int) := by rw [IntKind.wrap_i64]; omega
            rw [hkk]
            clear hkk HAi HAe R7 HB7
            go_wp2_with fail
            clear o0 o1
            go_roundw
            case rel =>
              rw [HKK.out] at HCT
              exact ⟨i + 1, by rw [HCT.out]; first | exact congrArg (Value.int .i64) hkw | rfl | (simp; omega), by go_num, by omega, HAo⟩
            case measure => simp [intOf]; omega
          · have hsb : shutB m = false := by unfold shutB; rw [hw5, hpl, hok]; rfl
            have hct := countP_take (p := shutB) y4.l i m hm
            rw [hsb] at hct
            have HCT := Lib.hid hct
            have TE2 := TE
            rw [hok, show (m.pl == (0 : Int)) = true from by rw [hpl]; rfl] at TE2
            obtain ⟨ov, hov⟩ : ∃ ov, m.ov = ov := ⟨_, rfl⟩
            rw [hov] at TE2
            clear TE hct hsb hov hok hpl hw5
            go_wp2_with fail
            refine (TE2.out _ (Below.refl _ _)).mono ?_; rintro e we ⟨rfl, hbe⟩
            have HAe := Lib.hid (HAi.out.next hbe)
            clear hbe c9 f0 f1 f2 f3 f4 TE2 hfl hBl
            obtain ⟨W7, hW7⟩ : ∃ W7, (we.alloc (.cells #[.int .i64 0, .int .u64 0] 56)).setRow we.heap.size #[.int .i64 4, .int .u64 ov] = W7 := ⟨_, rfl⟩
            have N7 : Hid ((we.alloc (.cells #[.int .i64 0, .int .u64 0] 56)).heap[we.heap.size]? = some (.cells #[.int .i64 0, .int .u64 0] 56 (0, 0))) := heap_alloc_new _ _
            have HB7 : Hid (Below we.heap.size we W7) := hW7 ▸ row_below (below_new (Below.refl _ _) _) (Nat.le_refl _) _
            have R7 : Hid (W7.heap[we.heap.size]? = some (.cells #[.int .i64 4, .int .u64 ov] 56 (0, 0))) := hW7 ▸ setRow_heap _ _ _ _ _ (0, 0) N7.out
            have HW7 := Lib.hid hW7
            clear hW7
            go_upto_region 16 with (refine wpList_store_row rfl 56 _ _ rfl (we.heap.size) _ rfl rfl 56 #[.int .i64 0, .int .u64 0] N7.out (by kernel_rfl) rfl (by simp [Value.oneCell']) ?_)
            rw [HW7.out]
            try simp only [Act.put]
            clear HW7 N7
            have HAo := Lib.hid (HAe.out.next HB7.out)
            obtain ⟨o0, o1⟩ := rowc2 R7.out
            obtain ⟨kk, hkk⟩ : ∃ kk : Nat, (y4.l.take i).countP shutB = kk := ⟨_, rfl⟩
            have hk5 : kk ≤ 5 := by rw [← hkk]; exact Nat.le_trans List.countP_le_length (by rw [List.length_take]; omega)
            have HKK := Lib.hid hkk
            have hkw : IntKind.i64.wrap ((kk : Int) + 1) = ((kk + 1 : Nat) : Int) := by rw [IntKind.wrap_i64]; omega
            rw [hkk]
            clear hkk HAi HAe R7 HB7
            go_wp2_with fail
            clear o0 o1
            go_roundw
            case rel =>
              rw [HKK.out] at HCT
              exact ⟨i + 1, by rw [HCT.out]; first | rfl | simp, by go_num, by omega, HAo⟩
            case measure => simp [intOf]; omega
        · have hge : ¬ (i : Int) < (n : Int) := by omega
          have hin : i = n := by omega
          have htk : (y4.l.take i).countP shutB = 1 := by rw [hin, ← HN.out, List.take_length]; exact HSO.out.2.1
          have hlen4 : 1 ≤ y4.m.words.length := by
            cases hw : y4.m.words with
            | nil =>
              have h1 := HSO.out.2.2
              rw [hw] at h1
              have h2 : U64 bw := HBW.out ▸ HFT.out.wordU 0
              have h3 := h2.1
              simp at h1
              omega
            | cons a b => simp
          obtain ⟨mb4, mo4, hmA, hwc⟩ := HAi.out.wi.wordsAt hlen4
          have hw0 := hwc wo (OffS.self _ _) 0 hlen4
          have hbu : U64 (bw + 1) := HSO.out.2.2 ▸ HAi.out.wi.fits.wordU 0
          have hbwr : IntKind.u64.wrap (bw + 1) = bw + 1 := hbu.wrap.symm
          rw [HSO.out.2.2, Nat.add_zero] at hw0
          have row0 := HAi.out.wi.row
          unfold WV.row at row0
          rw [hmA] at row0
          obtain ⟨nw4, hnw⟩ : ∃ nw, y4.m.words.length = nw := ⟨_, rfl⟩
          rw [hnw] at row0 hlen4
          have c3 := (rowc10 row0).2.2.2.1
          have hnwI : (0 : Int) < (nw4 : Int) := by omega
          have HBF := Lib.hid (below_then HBA.out HAi.out.wi.below)
          rw [htk]
          clear hbu hwc hmA row0 hnw hlen4 hin htk HAi
          go_wp2_with fail
          go_ret
          exact ⟨rfl, HBF.out⟩
set_option maxRecDepth 100000 in
theorem lifted (os : Os) (started : os.Started) (H : Type) (enc : TypeId × Value → H) :
    ReturnsInHanded {} Try.checked os 5 .any (Rows.shutOnceSpec.pre6 enc Try.prog Try.f5 Rows.shutOnceRow.domain false) (Rows.shutOnceSpec.post enc Try.prog Try.f5 false true false false) := by
  refine returnsInHanded_of_change_sized (C := Try.checked) own started (by kernel_rfl) Try.func5
    (ChangeSpec.witness6 (enc := enc) (C := Try.checked) false ⟨#[], #[.slice none 0 0, .int .u8 0, .slice none 0 0], []⟩ 8 (by kernel_rfl) (by kernel_rfl) (by kernel_rfl) (by kernel_rfl)) ?_
  intro W base args ds gs before hval0 hW _ hsz0 _
  have hsz : (DataW.weightsEach Try.prog (Try.f5.params.toList ++ Rows.shutOnceSpec.plain.varTypes Try.prog) (ds ++ gs)).all (· ≤ reachBytes) = true := hsz0
  clear hsz0
  have hval : ∀ (j : Nat) t v, Try.f5.params[j]? = some t → args[j]? = some v → Value.okWide Try.prog W .any base t v := hval0
  have hW' := hW
  obtain ⟨p, q, hA0, hV, rfl, _, _⟩ := hW
  have hA : DataW.TrodAll enc Try.prog W 0 (fun _ => true) true Try.f5.params.toList args.toList ds p := hA0
  rw [Try.params5] at hA hval hsz
  obtain ⟨v0, vs0, d0, ds0, p0, q0, hargs, rfl, rfl, h0, r0⟩ := trodAll_cons hA
  obtain ⟨v1, vs1, d1, ds1, p1, q1, rfl, rfl, rfl, h1, r1⟩ := trodAll_cons r0
  obtain ⟨v2, vs2, d2, ds2, p2, q2, rfl, rfl, rfl, h2, r2⟩ := trodAll_cons r1
  obtain ⟨rfl, rfl, rfl⟩ := trodAll_nil r2
  obtain rfl : args = #[v0, v1, v2] := by cases args; simp_all
  obtain ⟨rfl, rfl⟩ := trodVars_none hV
  have k0 := h0
  have k1 := h1
  have k2 := h2
  obtain ⟨l0, s0⟩ := view_sl (k := .u8) Try.underlying22 Try.underlying5 (by kernel_rfl) (fun elems sp hd => sized_slice hsz (j := 0) (t := 22) (e := 5) rfl (by rw [hd]; rfl) Try.underlying22) (of_decide_eq_true (by kernel_rfl)) (hval 0 22 v0 rfl rfl) h0
  obtain ⟨a1, rfl, -, -, w1⟩ := open_int Try.underlying5 (hval 1 5 v1 rfl rfl) h1
  obtain ⟨l2, s2⟩ := view_sl (k := .u8) Try.underlying22 Try.underlying5 (by kernel_rfl) (fun elems sp hd => sized_slice hsz (j := 2) (t := 22) (e := 5) rfl (by rw [hd]; rfl) Try.underlying22) (of_decide_eq_true (by kernel_rfl)) (hval 2 22 v2 rfl rfl) h2
  clear hA0 hval0
  simp only [List.append_nil] at hW'
  have hlt := hW'.lt
  refine (walk W v0 l0 s0 a1 w1 v2 l2 s2).mono fun e W' ⟨he, hb⟩ => ?_
  subst he
  exact ⟨_, rfl, _, _, _, [], _, [], hW', trodAll_cons_mk (shut_bool Try.underlying4 _) trodAll_mk0, (trodAll_cons_mk (Below.trod Try.laidOut (by kernel_rfl) (of_decide_eq_true (by kernel_rfl)) k0 hb (fun x hx => by simpa using hlt x (by simp [hx]))) (trodAll_cons_mk (Below.trod Try.laidOut (by kernel_rfl) (of_decide_eq_true (by kernel_rfl)) k1 hb (fun x hx => by simpa using hlt x (by simp [hx]))) (trodAll_cons_mk (Below.trod Try.laidOut (by kernel_rfl) (of_decide_eq_true (by kernel_rfl)) k2 hb (fun x hx => by simpa using hlt x (by simp [hx]))) trodAll_mk0))), rfl, hb.frame _, fun h => by cases h⟩
theorem over : Rows.shutOnceRow.holds Try.pinned (OpenSpec.ofChange Rows.shutOnceSpec) :=
  OpenClaim.holds_of_wide 5 Try.f5 rfl rfl rfl rfl rfl rfl rfl ⟨rfl, rfl, rfl, rfl, rfl⟩ rfl rfl rfl rfl rfl (by kernel_rfl) Try.func5 (by kernel_rfl)
    (of_decide_eq_true (by kernel_rfl)) (by unfold Func.isWrapper; first | (rw [if_pos (by decide +kernel)]; kernel_rfl) | (rw [if_neg (by decide +kernel)]; exact ⟨rfl, rfl⟩))
    (fun os started H enc _ => lifted os started H enc)
/-- THE STATEMENT -/
theorem proved : Rows.ShutOnceSaid :=
  over
end Go.Proofs.Ytfegfefddfdkeaa.shutOnce
