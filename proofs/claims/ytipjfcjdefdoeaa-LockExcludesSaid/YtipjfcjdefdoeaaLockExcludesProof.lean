/- Proved: LockExcludes returns true, and its argument reads afterwards as before, for every list of picks; no condition. -/
import Derived.Test.YtipjfcjdefdoeaaLaw
import Derived.Test.YtipjfcjdefdoeaaL7Awake
import Derived.Test.YtipjfcjdefdoeaaLx
import Derived.Deep.CutBlock
import Derived.LoopTactic
import Derived.WalkKit
import Derived.ProofKit
import Derived.OpenShut
import Derived.SizedLaws
namespace Go.Proofs.Ytipjfcjdefdoeaa.lockExcludes
open Go.ChangeShapes Go.WideShapes Go.ChangeAt Go.RowKit
set_option linter.unusedVariables false
def hInt : Option Nat → Int
  | none => -1
  | some q => q
theorem hInt_none : hInt none = -1 := rfl
theorem hInt_some (q : Nat) : hInt (some q) = q := rfl
theorem one_facts : oneC.good ∧ 0 < oneC.caps.length ∧ 2 < (newE oneC).words.length ∧ (newE oneC).words.getD 2 0 = 0 := ⟨oneC_good, by decide, by decide +kernel, by decide +kernel⟩
set_option maxRecDepth 100000 in
set_option maxHeartbeats 32000000 in
theorem walk (w : World) (v0 : Value) (l0 : List Int) (s0 : SlI w .u8 v0 l0) :
    Calls Try.prog 5 #[v0] w fun e w' => e = .returned (.bool true) ∧ Below w.heap.size w w' := by
  have HS0 := Lib.hid s0
  obtain ⟨av, cvv, rfl, hvcc⟩ := s0.len
  have hvl0 := s0.1
  clear s0
  go_enter Try.func5, Try.ntmps5
  go_wp2_with fail
  refine (awake7_any _).mono ?_; rintro e wa ⟨rfl, hba⟩
  have HBA := Lib.hid hba
  clear hba
  have ONE := Lib.hid fun w' => one_any w'
  have HOF := Lib.hid one_facts
  generalize oneC = c at ONE HOF
  obtain ⟨hgood, hk0, hw2, hw20⟩ := HOF.out
  have HG := Lib.hid hgood
  have HW20 := Lib.hid hw20
  clear hgood hw20
  go_wp2_with fail
  refine (ONE.out _).mono ?_; rintro e wc ⟨cv, rfl, hcv, hbc⟩
  have HV0 := Lib.hid hcv
  obtain ⟨vc, vs, rfl, hvc, hvs⟩ := hcv
  have HBC := Lib.hid (below_then HBA.out hbc)
  obtain ⟨a, cap, rfl, -⟩ := hvc.len
  obtain ⟨a2', cap2, rfl, -⟩ := hvs.len
  have HSC : Hid (∀ w2, OffS [] wc w2 → SlI w2 .i64 (.slice a c.caps.length cap) c.caps ∧ SlI w2 .u64 (.slice a2' c.starts.length cap2) c.starts) := fun w2 h2 => ⟨hvc.offN h2, hvs.offN h2⟩
  clear hvc hvs hbc HBA ONE HOF
  go_wp2_with fail
  refine (begin_any _ _ _ _ c _ HV0.out HG.out).mono ?_; rintro e wd ⟨m1, n1, m2, n2, rfl, HM, HBD⟩
  have HI0 := Lib.hid (WI.start (WT := 61) (w0 := w) (E := []) HG.out (fun j hj => by simp at hj) HSC.out HBD.out HM.out HBC.out)
  clear HM HBD HSC HV0 HBC
  obtain ⟨B, hB⟩ : ∃ B, wd.heap.size = B := ⟨_, rfl⟩
  rw [hB] at HI0
  go_wp2_with fail
  try rw [hB]
  clear hB
  obtain ⟨w1, hw1⟩ : ∃ w1, wd.alloc (.cells #[.slice a c.caps.length cap, .slice a2' c.starts.length cap2, .int .i64 c.threads, .slice m1 (newE c).words.length n1, .slice m2 (newE c).lists.length n2, .int .i64 (newE c).tick, .slice none 0 0, .slice none 0 0, .slice none 0 0, .slice none 0 0] 61) = w1 := ⟨_, rfl⟩
  rw [hw1] at HI0
  rw [hw1]
  clear hw1
  go_loopw [4] (fun u4 wr => ∃ (i : Nat) (x : WV) (y : WM), u4 = .int .i64 i ∧ i ≤ 4 ∧ y.l.length = i ∧ y.m = newE c ∧ Hid (∀ m ∈ y.l, m.chan = 0 ∧ m.what = 1 ∧ m.pl = 1) ∧ Hid (y.t.length ≤ 0 ∧ y.p.length ≤ 0) ∧ y.c = c ∧ Hid (WI 61 w wr [] B (B + 1) x y) ∧ Hid (FrI LkR (OffS (x.S [] B) wr) y) ∧ Hid (∀ m ∈ y.l, lkK y.c m ∧ m.what ≤ 2)) (fun u4 _ => 5 - (intOf u4).toNat)
  case atStart => exact ⟨0, _, _, rfl, by omega, rfl, rfl, fun m hm => by simp at hm, ⟨Nat.le_refl _, Nat.le_refl _⟩, rfl, HI0, ⟨rfl, fun j h1 _ => by simp at h1⟩, fun m hm => by simp at hm⟩
  case round =>
    clear HI0
    obtain ⟨i, x, y, rfl, hi4, hyl, hym, HA, HT, hyc, HI, HF, HK⟩ := hrel
    obtain ⟨wo, rfl⟩ : ∃ wo : World, wo = wr := ⟨_, rfl⟩
    by_cases hlt : i < 4
    · have hltI : (i : Int) < 4 := by omega
      have HYL := Lib.hid hyl
      have HYM := Lib.hid hym
      have HYC := Lib.hid hyc
      have hk0Y : 0 < y.c.caps.length := by rw [hyc]; exact hk0
      have TA := Lib.hid (wadd_any lk_sim HI.out HF.out 1 ((0 : Nat) : Int) 0 0 (by omega) (by omega) (lk_starts HI.out.good 1 0 0 0 (.inl rfl) hk0Y _ _ _ _) (by omega))
      rw [show ((0 : Nat) : Int) = 0 from rfl] at TA
      clear hyl hym hyc
      go_wp2_with fail
      refine TA.out.mono ?_
      rintro e w2 ⟨x2, f2, rfl, HI2, HF2, -⟩
      have HA2 : Hid (∀ m ∈ y.l ++ [⟨1, 1, 0, 0, 0 % 4, 0 % 8, 0, 0, 0, 0, 0⟩], m.chan = 0 ∧ m.what = 1 ∧ m.pl = 1) := fun m hm => by
        rw [List.mem_append, List.mem_singleton] at hm
        rcases hm with hm | rfl
        · exact HA.out m hm
        · exact ⟨rfl, rfl, rfl⟩
      have HK2 : Hid (∀ m ∈ y.l ++ [⟨1, 1, 0, 0, 0 % 4, 0 % 8, 0, 0, 0, 0, 0⟩], lkK y.c m ∧ m.what ≤ 2) := fun m hm => by
        rw [List.mem_append, List.mem_singleton] at hm
        rcases hm with hm | rfl
        · exact HK.out m hm
        · exact ⟨⟨.inl rfl, .inr rfl, 0, hk0Y, rfl⟩, by show (1 : Int) ≤ 2; omega⟩
      clear TA HI HF HK HA
      go_wp2_with fail
      go_roundw
      case rel => exact ⟨i + 1, x2, { y with l := y.l ++ [⟨1, 1, 0, 0, 0 % 4, 0 % 8, 0, 0, 0, 0, 0⟩], f := y.f ++ [f2] }, by go_num, by omega, by show (y.l ++ [_]).length = _; rw [List.length_append, HYL.out]; rfl, HYM.out, HA2, HT, HYC.out, HI2, HF2, HK2⟩
      case measure => simp [intOf]; omega
    · obtain rfl : i = 4 := by omega
      have HX : Hid (ExI y.m y.l none) := ⟨hyl, by rw [hym]; exact hw2, fun j hj => by have := HA.out _ (List.getElem_mem hj); exact ⟨this.1, this.2.1⟩, fun j hj e => by simp at e, fun j hj _ => (HA.out _ (List.getElem_mem hj)).2.2, by rw [hym]; exact HW20.out⟩
      have HT2 : Hid (y.t.length ≤ 2 * 0 ∧ y.p.length ≤ 2 * 0) := HT
      have HYC := Lib.hid hyc
      clear hym hyl hyc HA HT
      go_wp2_with fail
      try rw [show ((4 : Nat) : Int) = 4 from rfl]
      go_loopw [5, 6] (fun u5 u6 wr => ∃ (i : Nat) (x : WV) (y : WM) (h : Option Nat), u6 = .int .i64 i ∧ u5 = .int .i64 (hInt h) ∧ i ≤ l0.length ∧ i ≤ 80 ∧ Hid (ExI y.m y.l h) ∧ Hid (y.t.length ≤ 2 * i ∧ y.p.length ≤ 2 * i) ∧ y.c = c ∧ Hid (WI 61 w wr [] B (B + 1) x y) ∧ Hid (FrI LkR (OffS (x.S [] B) wr) y) ∧ Hid (∀ m ∈ y.l, lkK y.c m ∧ m.what ≤ 2)) (fun _ u6 _ => 81 - (intOf u6).toNat)
      case atStart => exact ⟨0, x, y, none, rfl, rfl, by omega, by omega, HX, HT2, HYC.out, HI, HF, HK⟩
      case round =>
        clear HX HT2 HYC HI HF HK
        obtain ⟨i, x, y, h, rfl, rfl, hil, hi80, HX, HT, hyc, HI, HF, HK⟩ := hrel
        obtain ⟨wo, rfl⟩ : ∃ wo : World, wo = wr := ⟨_, rfl⟩
        by_cases hlt : i < l0.length ∧ i < 80
        · obtain ⟨hlt1, hlt2⟩ := hlt
          have HV := Lib.hid (HS0.out.below HI.out.below)
          obtain ⟨pb, off, cap', e, hcap2, hb, hcell⟩ := HV.out.open (by rintro rfl; simp at hlt1)
          simp only [Value.slice.injEq] at e
          obtain ⟨rfl, -, rfl⟩ := e
          obtain ⟨p, hp⟩ : ∃ p, l0.getD i 0 = p := ⟨_, rfl⟩
          have hcw := hcell i hlt1
          rw [hp] at hcw
          have hpb : 0 ≤ p ∧ p < 256 := by
            have h1 := HV.out.2.1 _ (List.getElem_mem hlt1)
            rw [IntKind.wrap_u8] at h1
            have h2 : l0[i]'hlt1 = p := by rw [← hp, List.getD_eq_getElem?_getD, List.getElem?_eq_getElem hlt1]; rfl
            omega
          obtain ⟨hp0, hp1⟩ := hpb
          have hkI : (i : Int) < (l0.length : Int) := by omega
          have hkM : (i : Int) < 80 := by omega
          obtain ⟨q, hq⟩ : ∃ q : Nat, p % 4 = (q : Int) := ⟨(p % 4).toNat, by omega⟩
          have hq4 : q < 4 := by omega
          have HYC := Lib.hid hyc
          have hk0Y : 0 < y.c.caps.length := by rw [hyc]; exact hk0
          have hql : y.l.length = 4 := HX.out.len
          have hqi : q < y.l.length := by omega
          have hqf : q < y.f.length := by rw [HF.out.1]; exact hqi
          have hfl4 : y.f.length = 4 := by rw [HF.out.1]; exact hql
          have HFL4 := Lib.hid hfl4
          have HQL := Lib.hid hql
          have HQ := Lib.hid hq
          have HTL : y.t.length ≤ 160 ∧ y.p.length ≤ 160 := by have := HT.out; omega
          obtain ⟨ht1, ht2⟩ := HTL
          clear hcell hp hyc hq
          go_upto_region 13 with fail
          rw [HQ.out]
          clear hcw HV hp0 hp1 HQ
          cases h with
          | none =>
            rw [hInt_none]
            have hqq : ((q : Int) == -1) = false := by first | (simp; done) | (simp; omega)
            have HXT := Lib.hid (HX.out.take (c := y.c) q hqi (by simp))
            have HSS := Lib.hid (wstepL_any lk_sim lk_doc HI.out HF.out HK.out q hqi (by omega) (by omega) (by omega))
            have HRN : Hid (ReachN lkK y y 0) := ⟨rfl, rfl, HK.out, Nat.le_refl _, Nat.le_refl _⟩
            clear HI HF HK HX
            go_wp2_with fail
            refine HSS.out.mono ?_
            rintro e w2 ⟨x2, y2, rfl, HI2, HF2, HM2⟩
            have HR2 := Lib.hid (HRN.out.step lk_sim lk_doc HM2.out)
            have hqi2 : q < y2.l.length := by rw [HM2.out.l, stepE_len]; exact hqi
            have hqf2 : q < y2.f.length := by rw [HM2.out.f]; exact hqf
            have hf24 : y2.f.length = 4 := by rw [HM2.out.f]; exact HFL4.out
            have hyc2 : y2.c = c := HM2.out.c.trans HYC.out
            have HYC2 := Lib.hid hyc2
            obtain ⟨HXA, hkk, hpl2, hok2⟩ := HXT.out
            have HX2 : Hid (ExI y2.m y2.l (some q)) := by show ExI y2.m y2.l _; rw [HM2.out.m, HM2.out.l]; simpa using HXA
            obtain ⟨m, hm⟩ : ∃ m, y2.l[q] = m := ⟨_, rfl⟩
            have hml : (stepE lkNE lkRE y.c y.m y.l q).2[q] = m := by rw [← hm]; simp [HM2.out.l]
            rw [hml] at hpl2 hok2
            have hKm := HR2.out.all m (hm ▸ List.getElem_mem hqi2)
            have hRm := HF2.out.2 q hqf2 hqi2
            rw [hm] at hRm
            have hOw : (fun m : MachM => decide (m.what ≤ 2)) m = true := by show decide (m.what ≤ 2) = true; simpa using hKm.2
            obtain ⟨fl, fc, hvf, hfA, hfc, hfl, hfls, hfcap, FG, -⟩ := HI2.out.frameAt q hqf2
            obtain ⟨r0, r1, s2, k2, l2, s3, k3, l3, s4, k4, l4, he⟩ := lk_sim.form hRm hOw
            have TE := Lib.hid (lk_sim.ends w2 (OffS.self _ _) hRm hOw)
            rw [he] at FG TE
            have hplx : (m.pl == 0) = true := by rw [hpl2]; rfl
            rw [hplx] at TE
            rw [hok2 (by simp)] at TE
            have HFG := Lib.hid FG
            have row0 := HI2.out.row
            unfold WV.row at row0
            rw [hfA, hfc] at row0
            have ROW := Lib.hid row0
            have hqF : (q : Int) < (y2.f.length : Int) := by omega
            have HT2 : Hid (y2.t.length ≤ 2 * (i + 1) ∧ y2.p.length ≤ 2 * (i + 1)) := by have h1 := HM2.out.t; have h2 := HM2.out.p; have h3 := HT.out; show _ ∧ _; omega
            clear HSS HRN HXT HXA hkk hpl2 hok2 hml hRm hvf hfA hfc FG he row0 hOw hplx hKm hm hyc2
            obtain ⟨x0, x1, x2, x3, x4, x5, x6, x7, x8, x9⟩ := rowc10 ROW.out
            obtain ⟨f0, f1, f2, f3, f4⟩ := range5 HFG.out
            go_wp2_with fail
            refine TE.out.mono ?_
            rintro e w3 ⟨rfl, hb3⟩
            have HB3 := Lib.hid hb3
            clear hb3 TE x0 x1 x2 x3 x4 x5 x6 x7 x8 x9 f0 f1 f2 f3 f4
            obtain ⟨W4, hW4⟩ : ∃ W4, (w3.alloc (.cells #[.int .i64 0, .int .u64 0] 66)).setRow w3.heap.size #[.int .i64 1, .int .u64 m.ov] = W4 := ⟨_, rfl⟩
            have N4 : Hid ((w3.alloc (.cells #[.int .i64 0, .int .u64 0] 66)).heap[w3.heap.size]? = some (.cells #[.int .i64 0, .int .u64 0] 66 (0, 0))) := heap_alloc_new _ _
            have HB4 : Hid (Below w3.heap.size w3 W4) := hW4 ▸ row_below (below_new (Below.refl _ _) _) (Nat.le_refl _) _
            have R4 : Hid (W4.heap[w3.heap.size]? = some (.cells #[.int .i64 1, .int .u64 m.ov] 66 (0, 0))) := hW4 ▸ setRow_heap _ _ _ _ _ (0, 0) N4.out
            have HW4 := Lib.hid hW4
            clear hW4
            go_upto_region 22 with (refine wpList_store_row rfl 66 _ _ rfl (w3.heap.size) _ rfl rfl 66 #[.int .i64 0, .int .u64 0] N4.out (by kernel_rfl) rfl (by simp [Value.oneCell']) ?_)
            rw [HW4.out]
            try simp only [Act.put]
            clear HW4 N4
            obtain ⟨O, hO⟩ : ∃ O, w3.heap.size = O := ⟨_, rfl⟩
            rw [hO] at R4
            rw [hO]
            clear hO
            obtain ⟨o0, o1⟩ := rowc2 R4.out
            have HB24 := Lib.hid (below_then HB3.out HB4.out)
            have HIF := Lib.hid (HI2.out.next HB24.out)
            have HFF := Lib.hid (HF2.out.sub lk_sim fun w9 h9 => (OffS.below HB24.out).trans1 h9)
            have HKF := Lib.hid HR2.out.all
            clear HI2 HF2 HM2 HR2 HB3 HB4 HB24 ROW HFG HT HYC
            go_wp2_with fail
            go_roundw
            case rel => exact ⟨i + 1, x2, y2, some q, by go_num, rfl, by omega, by omega, HX2, HT2, HYC2.out, HIF, HFF, HKF⟩
            case measure => simp [intOf]; omega
          | some q0 =>
            rw [hInt_some]
            by_cases hqe : q0 = q
            · obtain rfl : q = q0 := hqe.symm
              clear hql hfl4
              go_wp2_with fail
              obtain ⟨gl, lc, hvl, hlA, hlc, hgl, hgls, hcap, -, TG⟩ := HI.out.machAt q hqi
              obtain ⟨fl, fc, hvf, hfA, hfc, hfl, hfls, hfcap, -, TF⟩ := HI.out.frameAt q hqf
              have HVL := Lib.hid hvl
              have HVF := Lib.hid hvf
              have HTG := Lib.hid TG
              have HTF := Lib.hid TF
              have row0 := HI.out.row
              unfold WV.row at row0
              rw [hlA, hlc, hfA, hfc] at row0
              have ROW := Lib.hid row0
              have hBl := HI.out.lt
              have hqL : (q : Int) < (y.l.length : Int) := by omega
              have hqF : (q : Int) < (y.f.length : Int) := by omega
              have TN := Lib.hid fun w' => machNew_any x.cA x.sA x.cc x.sc y.c 2 0 0 w'
              unfold machL at TN
              have TL := Lib.hid fun w' (hb : Below wo.heap.size wo w') => release_any _ y.c 0 hk0Y w' (HI.out.next hb).confV HI.out.good
              unfold WV.vc WV.vs lkV at TL
              try dsimp only at TN TL
              clear hvl hlA hlc TG hvf hfA hfc TF row0
              have KS : Hid (∀ w', Below wo.heap.size wo w' → (fun w' : World => (w'.cell? ⟨B, 6, none⟩ = some (.slice (some ⟨gl, 0, none⟩) y.l.length lc)) ∧ (w'.cell? ⟨B, 9, none⟩ = some (.slice (some ⟨fl, 0, none⟩) y.f.length fc)) ∧ (w'.cell? ⟨B, 0, none⟩ = some (.slice x.cA y.c.caps.length x.cc)) ∧ (w'.cell? ⟨B, 1, none⟩ = some (.slice x.sA y.c.starts.length x.sc)) ∧ (w'.cell? ⟨B, 2, none⟩ = some (.int .i64 y.c.threads))) w') := fun w' hb => by
                obtain ⟨x0, x1, x2, x3, x4, x5, x6, x7, x8, x9⟩ := rowc10 ((hb.block B hBl).trans ROW.out)
                exact ⟨x6, x9, x0, x1, x2⟩
              go_upto_region 15 with fail
              go_cut [] (fun wx => ∃ f2 : List Value, Hid (WI 61 w wx [] B (B + 1) x { y with l := y.l.set q ⟨2, 1, 0, 0, 0, 0, 0, 0, 0, 0, 0⟩, f := y.f.set q f2 }) ∧ Hid (FrI LkR (OffS (x.S [] B) wx) { y with l := y.l.set q ⟨2, 1, 0, 0, 0, 0, 0, 0, 0, 0, 0⟩, f := y.f.set q f2 }))
              case first =>
                refine wp_region_until (fun w' : World => (w'.cell? ⟨B, 6, none⟩ = some (.slice (some ⟨gl, 0, none⟩) y.l.length lc)) ∧ (w'.cell? ⟨B, 9, none⟩ = some (.slice (some ⟨fl, 0, none⟩) y.f.length fc)) ∧ (w'.cell? ⟨B, 0, none⟩ = some (.slice x.cA y.c.caps.length x.cc)) ∧ (w'.cell? ⟨B, 1, none⟩ = some (.slice x.sA y.c.starts.length x.sc)) ∧ (w'.cell? ⟨B, 2, none⟩ = some (.int .i64 y.c.threads))) 24 27 (by kernel_rfl) rfl ?_
                obtain ⟨u0, hu0, HU0⟩ := drew_pack wo
                rw [hu0]
                clear hu0
                have hSU0 : (fun w' : World => (w'.cell? ⟨B, 6, none⟩ = some (.slice (some ⟨gl, 0, none⟩) y.l.length lc)) ∧ (w'.cell? ⟨B, 9, none⟩ = some (.slice (some ⟨fl, 0, none⟩) y.f.length fc)) ∧ (w'.cell? ⟨B, 0, none⟩ = some (.slice x.cA y.c.caps.length x.cc)) ∧ (w'.cell? ⟨B, 1, none⟩ = some (.slice x.sA y.c.starts.length x.sc)) ∧ (w'.cell? ⟨B, 2, none⟩ = some (.int .i64 y.c.threads))) (u0) := KS.out _ HU0.out
                refine wpAnyU_take (v := ?_) 0 ListAt.zero (by kernel_rfl) (by kernel_rfl) (by kernel_rfl) (by kernel_rfl) (by kernel_rfl) (fun _ _ _ h => h) hSU0 rfl ?_ ?_
                rotate_left
                · (intro w hSw; (try dsimp only at hSw); go_simp <;> with_reducible rfl)
                simp only [Act.put, List.setIfInBounds_toArray, List.set_cons_zero, List.set_cons_succ]
                refine wpAnyU_take (v := ?_) 1 (ListAt.succ ListAt.zero) (by kernel_rfl) (by kernel_rfl) (by kernel_rfl) (by kernel_rfl) (by kernel_rfl) (fun _ _ _ h => h) hSU0 rfl ?_ ?_
                rotate_left
                · (intro w hSw; (try dsimp only at hSw); go_simp <;> with_reducible rfl)
                simp only [Act.put, List.setIfInBounds_toArray, List.set_cons_zero, List.set_cons_succ]
                refine wpAnyU_take (v := ?_) 2 (ListAt.succ (ListAt.succ ListAt.zero)) (by kernel_rfl) (by kernel_rfl) (by kernel_rfl) (by kernel_rfl) (by kernel_rfl) (fun _ _ _ h => h) hSU0 rfl ?_ ?_
                rotate_left
                · (intro w hSw; (try dsimp only at hSw); go_simp <;> with_reducible rfl)
                simp only [Act.put, List.setIfInBounds_toArray, List.set_cons_zero, List.set_cons_succ]
                refine wpAnyU_take (v := ?_) 3 (ListAt.succ (ListAt.succ (ListAt.succ ListAt.zero))) (by kernel_rfl) (by kernel_rfl) (by kernel_rfl) (by kernel_rfl) (by kernel_rfl) (fun _ _ _ h => h) hSU0 rfl ?_ ?_
                rotate_left
                · (intro w hSw; (try dsimp only at hSw); go_simp <;> with_reducible rfl)
                simp only [Act.put, List.setIfInBounds_toArray, List.set_cons_zero, List.set_cons_succ]
                refine wpAnyU_take (v := ?_) 4 (ListAt.succ (ListAt.succ (ListAt.succ (ListAt.succ ListAt.zero)))) (by kernel_rfl) (by kernel_rfl) (by kernel_rfl) (by kernel_rfl) (by kernel_rfl) (fun _ _ _ h => h) hSU0 rfl ?_ ?_
                rotate_left
                · (intro w hSw; (try dsimp only at hSw); go_simp <;> with_reducible rfl)
                simp only [Act.put, List.setIfInBounds_toArray, List.set_cons_zero, List.set_cons_succ]
                refine wpAnyU_take (v := ?_) 5 (ListAt.succ (ListAt.succ (ListAt.succ (ListAt.succ (ListAt.succ ListAt.zero))))) (by kernel_rfl) (by kernel_rfl) (by kernel_rfl) (by kernel_rfl) (by kernel_rfl) (fun _ _ _ h => h) hSU0 rfl ?_ ?_
                rotate_left
                · (intro w hSw; (try dsimp only at hSw); go_simp <;> with_reducible rfl)
                simp only [Act.put, List.setIfInBounds_toArray, List.set_cons_zero, List.set_cons_succ]
                refine wpAnyU_take (v := ?_) 11 (ListAt.succ (ListAt.succ (ListAt.succ (ListAt.succ (ListAt.succ (ListAt.succ (ListAt.succ (ListAt.succ (ListAt.succ (ListAt.succ (ListAt.succ ListAt.zero))))))))))) (by kernel_rfl) (by kernel_rfl) (by kernel_rfl) (by kernel_rfl) (by kernel_rfl) (fun _ _ _ h => h) hSU0 rfl ?_ ?_
                rotate_left
                · (intro w hSw; (try dsimp only at hSw); go_simp <;> with_reducible rfl)
                simp only [Act.put, List.setIfInBounds_toArray, List.set_cons_zero, List.set_cons_succ]
                refine wpAnyU_take (v := ?_) 12 (ListAt.succ (ListAt.succ (ListAt.succ (ListAt.succ (ListAt.succ (ListAt.succ (ListAt.succ (ListAt.succ (ListAt.succ (ListAt.succ (ListAt.succ (ListAt.succ ListAt.zero)))))))))))) (by kernel_rfl) (by kernel_rfl) (by kernel_rfl) (by kernel_rfl) (by kernel_rfl) (fun _ _ _ h => h) hSU0 rfl ?_ ?_
                rotate_left
                · (intro w hSw; (try dsimp only at hSw); go_simp <;> with_reducible rfl)
                simp only [Act.put, List.setIfInBounds_toArray, List.set_cons_zero, List.set_cons_succ]
                refine wpAnyU_take (v := ?_) 13 (ListAt.succ (ListAt.succ (ListAt.succ (ListAt.succ (ListAt.succ (ListAt.succ (ListAt.succ (ListAt.succ (ListAt.succ (ListAt.succ (ListAt.succ (ListAt.succ (ListAt.succ ListAt.zero))))))))))))) (by kernel_rfl) (by kernel_rfl) (by kernel_rfl) (by kernel_rfl) (by kernel_rfl) (fun _ _ _ h => h) hSU0 rfl ?_ ?_
                rotate_left
                · (intro w hSw; (try dsimp only at hSw); go_simp <;> with_reducible rfl)
                simp only [Act.put, List.setIfInBounds_toArray, List.set_cons_zero, List.set_cons_succ]
                refine wpAnyU_take (v := ?_) 14 (ListAt.succ (ListAt.succ (ListAt.succ (ListAt.succ (ListAt.succ (ListAt.succ (ListAt.succ (ListAt.succ (ListAt.succ (ListAt.succ (ListAt.succ (ListAt.succ (ListAt.succ (ListAt.succ ListAt.zero)))))))))))))) (by kernel_rfl) (by kernel_rfl) (by kernel_rfl) (by kernel_rfl) (by kernel_rfl) (fun _ _ _ h => h) hSU0 rfl ?_ ?_
                rotate_left
                · (intro w hSw; (try dsimp only at hSw); go_simp <;> with_reducible rfl)
                simp only [Act.put, List.setIfInBounds_toArray, List.set_cons_zero, List.set_cons_succ]
                refine wpAnyU_take (v := ?_) 15 (ListAt.succ (ListAt.succ (ListAt.succ (ListAt.succ (ListAt.succ (ListAt.succ (ListAt.succ (ListAt.succ (ListAt.succ (ListAt.succ (ListAt.succ (ListAt.succ (ListAt.succ (ListAt.succ (ListAt.succ ListAt.zero))))))))))))))) (by kernel_rfl) (by kernel_rfl) (by kernel_rfl) (by kernel_rfl) (by kernel_rfl) (fun _ _ _ h => h) hSU0 rfl ?_ ?_
                rotate_left
                · (intro w hSw; (try dsimp only at hSw); go_simp <;> with_reducible rfl)
                simp only [Act.put, List.setIfInBounds_toArray, List.set_cons_zero, List.set_cons_succ]
                refine wpAnyU_takeW (v := ?_) 6 (ListAt.succ (ListAt.succ (ListAt.succ (ListAt.succ (ListAt.succ (ListAt.succ ListAt.zero)))))) (by kernel_rfl) (by kernel_rfl) (by kernel_rfl) (by kernel_rfl) (fun _ _ _ h => h) (fun _ => hSU0) rfl ?_ ?_
                rotate_left
                · (intro w; go_simp <;> with_reducible rfl)
                simp only [Act.put, List.setIfInBounds_toArray, List.set_cons_zero, List.set_cons_succ]
                refine wpAnyU_takeW (v := ?_) 7 (ListAt.succ (ListAt.succ (ListAt.succ (ListAt.succ (ListAt.succ (ListAt.succ (ListAt.succ ListAt.zero))))))) (by kernel_rfl) (by kernel_rfl) (by kernel_rfl) (by kernel_rfl) (fun _ _ _ h => h) (fun _ => hSU0) rfl ?_ ?_
                rotate_left
                · (intro w; go_simp <;> with_reducible rfl)
                simp only [Act.put, List.setIfInBounds_toArray, List.set_cons_zero, List.set_cons_succ]
                refine wpAnyU_takeW (v := ?_) 8 (ListAt.succ (ListAt.succ (ListAt.succ (ListAt.succ (ListAt.succ (ListAt.succ (ListAt.succ (ListAt.succ ListAt.zero)))))))) (by kernel_rfl) (by kernel_rfl) (by kernel_rfl) (by kernel_rfl) (fun _ _ _ h => h) (fun _ => hSU0) rfl ?_ ?_
                rotate_left
                · (intro w; go_simp <;> with_reducible rfl)
                simp only [Act.put, List.setIfInBounds_toArray, List.set_cons_zero, List.set_cons_succ]
                refine wpAnyU_take (v := ?_) 9 (ListAt.succ (ListAt.succ (ListAt.succ (ListAt.succ (ListAt.succ (ListAt.succ (ListAt.succ (ListAt.succ (ListAt.succ ListAt.zero))))))))) (by kernel_rfl) (by kernel_rfl) (by kernel_rfl) (by kernel_rfl) (by kernel_rfl) (fun _ _ _ h => h) hSU0 rfl ?_ ?_
                rotate_left
                · (intro w hSw; (try dsimp only at hSw); go_simp <;> with_reducible rfl)
                simp only [Act.put, List.setIfInBounds_toArray, List.set_cons_zero, List.set_cons_succ]
                refine wpAnyU_takeW (v := ?_) 10 (ListAt.succ (ListAt.succ (ListAt.succ (ListAt.succ (ListAt.succ (ListAt.succ (ListAt.succ (ListAt.succ (ListAt.succ (ListAt.succ ListAt.zero)))))))))) (by kernel_rfl) (by kernel_rfl) (by kernel_rfl) (by kernel_rfl) (fun _ _ _ h => h) (fun _ => hSU0) rfl ?_ ?_
                rotate_left
                · (intro w; go_simp <;> with_reducible rfl)
                simp only [Act.put, List.setIfInBounds_toArray, List.set_cons_zero, List.set_cons_succ]
                refine wpAnyU_takeW (v := ?_) 17 (ListAt.succ (ListAt.succ (ListAt.succ (ListAt.succ (ListAt.succ (ListAt.succ (ListAt.succ (ListAt.succ (ListAt.succ (ListAt.succ (ListAt.succ (ListAt.succ (ListAt.succ (ListAt.succ (ListAt.succ (ListAt.succ (ListAt.succ ListAt.zero))))))))))))))))) (by kernel_rfl) (by kernel_rfl) (by kernel_rfl) (by kernel_rfl) (fun _ _ _ h => h) (fun _ => hSU0) rfl ?_ ?_
                rotate_left
                · (intro w; go_simp <;> with_reducible rfl)
                simp only [Act.put, List.setIfInBounds_toArray, List.set_cons_zero, List.set_cons_succ]
                refine wpAnyU_takeW (v := ?_) 18 (ListAt.succ (ListAt.succ (ListAt.succ (ListAt.succ (ListAt.succ (ListAt.succ (ListAt.succ (ListAt.succ (ListAt.succ (ListAt.succ (ListAt.succ (ListAt.succ (ListAt.succ (ListAt.succ (ListAt.succ (ListAt.succ (ListAt.succ (ListAt.succ ListAt.zero)))))))))))))))))) (by kernel_rfl) (by kernel_rfl) (by kernel_rfl) (by kernel_rfl) (fun _ _ _ h => h) (fun _ => hSU0) rfl ?_ ?_
                rotate_left
                · (intro w; go_simp <;> with_reducible rfl)
                simp only [Act.put, List.setIfInBounds_toArray, List.set_cons_zero, List.set_cons_succ]
                refine wpAnyU_takeW (v := ?_) 19 (ListAt.succ (ListAt.succ (ListAt.succ (ListAt.succ (ListAt.succ (ListAt.succ (ListAt.succ (ListAt.succ (ListAt.succ (ListAt.succ (ListAt.succ (ListAt.succ (ListAt.succ (ListAt.succ (ListAt.succ (ListAt.succ (ListAt.succ (ListAt.succ (ListAt.succ ListAt.zero))))))))))))))))))) (by kernel_rfl) (by kernel_rfl) (by kernel_rfl) (by kernel_rfl) (fun _ _ _ h => h) (fun _ => hSU0) rfl ?_ ?_
                rotate_left
                · (intro w; go_simp <;> with_reducible rfl)
                simp only [Act.put, List.setIfInBounds_toArray, List.set_cons_zero, List.set_cons_succ]
                refine wpAnyU_takeW (v := ?_) 20 (ListAt.succ (ListAt.succ (ListAt.succ (ListAt.succ (ListAt.succ (ListAt.succ (ListAt.succ (ListAt.succ (ListAt.succ (ListAt.succ (ListAt.succ (ListAt.succ (ListAt.succ (ListAt.succ (ListAt.succ (ListAt.succ (ListAt.succ (ListAt.succ (ListAt.succ (ListAt.succ ListAt.zero)))))))))))))))))))) (by kernel_rfl) (by kernel_rfl) (by kernel_rfl) (by kernel_rfl) (fun _ _ _ h => h) (fun _ => hSU0) rfl ?_ ?_
                rotate_left
                · (intro w; go_simp <;> with_reducible rfl)
                simp only [Act.put, List.setIfInBounds_toArray, List.set_cons_zero, List.set_cons_succ]
                refine wpAnyU_take (v := ?_) 21 (ListAt.succ (ListAt.succ (ListAt.succ (ListAt.succ (ListAt.succ (ListAt.succ (ListAt.succ (ListAt.succ (ListAt.succ (ListAt.succ (ListAt.succ (ListAt.succ (ListAt.succ (ListAt.succ (ListAt.succ (ListAt.succ (ListAt.succ (ListAt.succ (ListAt.succ (ListAt.succ (ListAt.succ ListAt.zero))))))))))))))))))))) (by kernel_rfl) (by kernel_rfl) (by kernel_rfl) (by kernel_rfl) (by kernel_rfl) (fun _ _ _ h => h) hSU0 rfl ?_ ?_
                rotate_left
                · (intro w hSw; (try dsimp only at hSw); go_simp <;> with_reducible rfl)
                simp only [Act.put, List.setIfInBounds_toArray, List.set_cons_zero, List.set_cons_succ]
                refine wpAnyU_ready (rs := [16]) (by kernel_rfl) rfl ?_
                refine AllReadyU.cons (ListAt.succ (ListAt.succ (ListAt.succ (ListAt.succ (ListAt.succ (ListAt.succ (ListAt.succ (ListAt.succ (ListAt.succ (ListAt.succ (ListAt.succ (ListAt.succ (ListAt.succ (ListAt.succ (ListAt.succ (ListAt.succ ListAt.zero)))))))))))))))) rfl (fun K hK => ?_) ?_
                · go_simp
                  go_at_call 24
                  refine (TN.out _).mono ?_
                  rintro e u1 ⟨rfl, hb⟩
                  have HU1 := Lib.hid (below_then HU0.out hb)
                  clear hb
                  refine hK.out _ _ ?_ (fun hSU1 => ?_)
                  · exact KS.out _ HU1.out
                  clear hK K hSU0
                  try simp only [Act.put, List.setIfInBounds_toArray, List.set_cons_zero, List.set_cons_succ]
                  refine wpAnyU_ready (rs := [22]) (by kernel_rfl) rfl ?_
                  refine AllReadyU.cons (ListAt.succ (ListAt.succ (ListAt.succ (ListAt.succ (ListAt.succ (ListAt.succ (ListAt.succ (ListAt.succ (ListAt.succ (ListAt.succ (ListAt.succ (ListAt.succ (ListAt.succ (ListAt.succ (ListAt.succ (ListAt.succ (ListAt.succ (ListAt.succ (ListAt.succ (ListAt.succ (ListAt.succ (ListAt.succ ListAt.zero)))))))))))))))))))))) rfl (fun K hK => ?_) ?_
                  · go_simp
                    go_at_call 25
                    refine (TL.out _ HU1.out).mono ?_
                    rintro e u2 ⟨b, rfl, hrb, hbw, hb⟩
                    have HUb := hb
                    have HRb := hrb
                    have HBw := hbw
                    have HU2 := Lib.hid (below_then HU1.out hb.out)
                    clear hb hrb hbw
                    refine hK.out _ _ ?_ (fun hSU2 => ?_)
                    · exact KS.out _ HU2.out
                    clear hK K hSU1
                    try simp only [Act.put, List.setIfInBounds_toArray, List.set_cons_zero, List.set_cons_succ]
                    refine wpAnyU_take (v := ?_) 23 (ListAt.succ (ListAt.succ (ListAt.succ (ListAt.succ (ListAt.succ (ListAt.succ (ListAt.succ (ListAt.succ (ListAt.succ (ListAt.succ (ListAt.succ (ListAt.succ (ListAt.succ (ListAt.succ (ListAt.succ (ListAt.succ (ListAt.succ (ListAt.succ (ListAt.succ (ListAt.succ (ListAt.succ (ListAt.succ (ListAt.succ ListAt.zero))))))))))))))))))))))) (by kernel_rfl) (by kernel_rfl) (by kernel_rfl) (by kernel_rfl) (by kernel_rfl) (fun _ _ _ h => h) hSU2 rfl ?_ ?_
                    rotate_left
                    · (intro w hSw; (try dsimp only at hSw); go_simp <;> with_reducible rfl)
                    simp only [Act.put, List.setIfInBounds_toArray, List.set_cons_zero, List.set_cons_succ]
                    refine wpAnyU_ready (rs := [24]) (by kernel_rfl) rfl ?_
                    refine AllReadyU.free (ListAt.succ (ListAt.succ (ListAt.succ (ListAt.succ (ListAt.succ (ListAt.succ (ListAt.succ (ListAt.succ (ListAt.succ (ListAt.succ (ListAt.succ (ListAt.succ (ListAt.succ (ListAt.succ (ListAt.succ (ListAt.succ (ListAt.succ (ListAt.succ (ListAt.succ (ListAt.succ (ListAt.succ (ListAt.succ (ListAt.succ (ListAt.succ ListAt.zero)))))))))))))))))))))))) rfl (by kernel_rfl) (fun K hK => ?_) ?_
                    · refine step_store_mid rfl 68 _ _ rfl gl (q * 14) _ (by rfl) (by rfl) (there_below HTG.out HU2.out hgls) (by kernel_rfl) (by simp [Value.oneCell']) ?_
                      refine hK.out _ _ ?_
                      clear hK K hSU2
                      try simp only [Act.put, List.setIfInBounds_toArray, List.set_cons_zero, List.set_cons_succ]
                      refine wpAnyU_takeW (v := ?_) 25 (ListAt.succ (ListAt.succ (ListAt.succ (ListAt.succ (ListAt.succ (ListAt.succ (ListAt.succ (ListAt.succ (ListAt.succ (ListAt.succ (ListAt.succ (ListAt.succ (ListAt.succ (ListAt.succ (ListAt.succ (ListAt.succ (ListAt.succ (ListAt.succ (ListAt.succ (ListAt.succ (ListAt.succ (ListAt.succ (ListAt.succ (ListAt.succ (ListAt.succ ListAt.zero))))))))))))))))))))))))) (by kernel_rfl) (by kernel_rfl) (by kernel_rfl) (by kernel_rfl) (fun _ _ _ h => h) (past_k (by kernel_rfl)) rfl ?_ ?_
                      rotate_left
                      · (intro w; go_simp <;> with_reducible rfl)
                      simp only [Act.put, List.setIfInBounds_toArray, List.set_cons_zero, List.set_cons_succ]
                      refine wpAnyU_ready (rs := [26]) (by kernel_rfl) rfl ?_
                      refine AllReadyU.free (ListAt.succ (ListAt.succ (ListAt.succ (ListAt.succ (ListAt.succ (ListAt.succ (ListAt.succ (ListAt.succ (ListAt.succ (ListAt.succ (ListAt.succ (ListAt.succ (ListAt.succ (ListAt.succ (ListAt.succ (ListAt.succ (ListAt.succ (ListAt.succ (ListAt.succ (ListAt.succ (ListAt.succ (ListAt.succ (ListAt.succ (ListAt.succ (ListAt.succ (ListAt.succ ListAt.zero)))))))))))))))))))))))))) rfl (by kernel_rfl) (fun K hK => ?_) ?_
                      · have HTF3 : Hid (∀ r, (u2.setCells gl (q * 14) r).there fl (q * 5) 5) := fun r => World.there_setCells (there_below HTF.out HU2.out hfls) _ _ _
                        generalize hu3 : World.setCells u2 gl (q * 14) _ = u3
                        have HT3 : Hid (u3.there fl (q * 5) 5) := hu3 ▸ HTF3.out _
                        have HU3 := Lib.hid hu3
                        clear hu3
                        refine step_store_mid rfl 71 _ _ rfl fl (q * 5) #[.int .i64 0, .int .i64 2, .slice none 0 0, .slice (some ⟨b, 0, none⟩) 1 1, .slice none 0 0] (by rfl) (by rfl) HT3.out (by kernel_rfl) (by simp [Value.oneCell']) ?_
                        refine hK.out _ _ ?_
                        clear hK K
                        try simp only [Act.put, List.setIfInBounds_toArray, List.set_cons_zero, List.set_cons_succ]
                        refine wpAnyU_done (by kernel_rfl) ?_ _
                        have hu3 := HU3.out
                        subst hu3
                        clear HU3 HT3 HTF3
                        obtain ⟨HIa, HINa⟩ := (HI.out.next HU2.out).setL (b := gl) (i := q) (z := ⟨2, 1, 0, 0, 0, 0, 0, 0, 0, 0, 0⟩) (n := y.l.length) (cap := lc) HVL.out hqi rfl (by intro u hu; simp only [machL, List.mem_cons, List.not_mem_nil, or_false] at hu; rcases hu with rfl | rfl | rfl | rfl | rfl | rfl | rfl | rfl | rfl | rfl | rfl | rfl | rfl | rfl <;> rfl)
                        obtain ⟨HIb, HINb⟩ := HIa.setF (b := fl) (i := q) (z := (lkL 2 (.slice (some ⟨b, 0, none⟩) 1 1))) (n := y.f.length) (cap := fc) HVF.out hqf rfl (by intro u hu; simp only [lkL, List.mem_cons, List.not_mem_nil, or_false] at hu; rcases hu with rfl | rfl | rfl | rfl | rfl <;> rfl)
                        have HIF := Lib.hid HIb
                        have hin : ∀ w3, OffS (x.S [] B) _ w3 → OffS (x.S [] B) u2 w3 := fun w3 h3 => HINa w3 (HINb w3 h3)
                        have HFF := Lib.hid (FrI.put lk_sim HF.out (fun w3 h3 => (OffS.below HU2.out).trans1 (hin w3 h3)) q ⟨2, 1, 0, 0, 0, 0, 0, 0, 0, 0, 0⟩ (lkL 2 (.slice (some ⟨b, 0, none⟩) 1 1)) (lk_sim.sub (lkR_new (w := u1) (w' := u2) (k := 0) (.inr rfl) hk0Y HRb.out HBw.out) fun w3 h3 => ⟨Nat.le_trans (Nat.le_refl _) (hin w3 h3).1, fun j h1 h2 => (hin w3 h3).2 j h2 (fun e => by have := HI.out.Slt j e; have := HU1.out.size; omega)⟩))
                        clear HIa HINa HIb HINb hin
                        go_wp2_with fail
                        go_meet
                        exact ⟨_, HIF, HFF⟩
                      exact AllReadyU.nil
                    exact AllReadyU.nil
                  exact AllReadyU.nil
                exact AllReadyU.nil
              case rest =>
                obtain ⟨f2, HI3, HF3⟩ := hcut
                obtain ⟨w3, rfl⟩ : ∃ w3 : World, w3 = wc := ⟨_, rfl⟩
                clear KS TN TL
                obtain ⟨y3, hy3⟩ : ∃ y3 : WM, { y with l := y.l.set q ⟨2, 1, 0, 0, 0, 0, 0, 0, 0, 0, 0⟩, f := y.f.set q f2 } = y3 := ⟨_, rfl⟩
                rw [hy3] at HI3 HF3
                have HK3 : Hid (∀ m ∈ y3.l, lkK y3.c m ∧ m.what ≤ 2) := fun m hm => by
                  subst hy3
                  rcases List.mem_or_eq_of_mem_set hm with h1 | rfl
                  · exact HK.out m h1
                  · exact ⟨⟨.inr rfl, .inr rfl, 0, hk0Y, rfl⟩, by show (2 : Int) ≤ 2; omega⟩
                have hq3 : q < y3.l.length := by rw [← hy3]; show q < (y.l.set q _).length; simpa using hqi
                have hl3 : y3.l.length ≤ 1000 := by rw [← hy3]; show (y.l.set q _).length ≤ 1000; rw [List.length_set]; have := HQL.out; omega
                have ht3 : y3.t.length ≤ 2 * i ∧ y3.p.length ≤ 2 * i := by rw [← hy3]; exact HT.out
                have HSS := Lib.hid (wstepL_any lk_sim lk_doc HI3.out HF3.out HK3.out q hq3 hl3 (by omega) (by omega))
                have HREL : Hid (ExI (stepE lkNE lkRE y3.c y3.m y3.l q).1 ((stepE lkNE lkRE y3.c y3.m y3.l q).2.set q ⟨1, 1, 0, 0, 0, 0, 0, 0, 0, 0, 0⟩) none) := by
                  rw [← hy3]; exact HX.out.release hqi _ ⟨rfl, rfl, rfl⟩ _ ⟨rfl, rfl, rfl⟩
                have HC3 : Hid (y3.c = y.c) := by rw [← hy3]; exact (rfl : y.c = y.c)
                have HF34 : Hid (y3.f.length = 4) := by rw [← hy3]; show (y.f.set q f2).length = 4; rw [List.length_set]; exact HFL4.out
                have HRN : Hid (ReachN lkK y3 y3 0) := ⟨rfl, rfl, HK3.out, Nat.le_refl _, Nat.le_refl _⟩
                have HT3 := Lib.hid ht3
                clear HI HF HK HX HI3 HF3 HK3 hy3 ht3 hl3 hqi hqf hqL hqF hgl hgls hcap hfl hfls hfcap ROW HVL HVF HTG HTF hBl ht1 ht2 HT
                go_wp2_with fail
                refine HSS.out.mono ?_
                rintro e w4 ⟨x4, y4, rfl, HI4, HF4, HM4⟩
                have HK4 := Lib.hid (HRN.out.step lk_sim lk_doc HM4.out).all
                have hqi : q < y4.l.length := by rw [HM4.out.l, stepE_len]; exact hq3
                have hf4e : y4.f.length = 4 := by rw [HM4.out.f]; exact HF34.out
                have hqf : q < y4.f.length := by omega
                have hl4 : y4.l.length ≤ 1000 := by rw [← HF4.out.1]; omega
                have HYC4 : Hid (y4.c = c) := HM4.out.c.trans (HC3.out.trans HYC.out)
                have hk0Y : 0 < y4.c.caps.length := by rw [HYC4.out]; exact hk0
                have HT4 : Hid (y4.t.length ≤ 2 * (i + 1) ∧ y4.p.length ≤ 2 * (i + 1)) := by have h1 := HM4.out.t; have h2 := HM4.out.p; have h3 := HT3.out; show _ ∧ _; omega
                have HF4E := Lib.hid hf4e
                clear HSS HRN HT3 hf4e hq3
                go_wp2_with fail
                obtain ⟨gl, lc, hvl, hlA, hlc, hgl, hgls, hcap, -, TG⟩ := HI4.out.machAt q hqi
                obtain ⟨fl, fc, hvf, hfA, hfc, hfl, hfls, hfcap, -, TF⟩ := HI4.out.frameAt q hqf
                have HVL := Lib.hid hvl
                have HVF := Lib.hid hvf
                have HTG := Lib.hid TG
                have HTF := Lib.hid TF
                have row0 := HI4.out.row
                unfold WV.row at row0
                rw [hlA, hlc, hfA, hfc] at row0
                have ROW := Lib.hid row0
                have hBl := HI4.out.lt
                have hqL : (q : Int) < (y4.l.length : Int) := by omega
                have hqF : (q : Int) < (y4.f.length : Int) := by omega
                have TN := Lib.hid fun w' => machNew_any x4.cA x4.sA x4.cc x4.sc y4.c 1 0 0 w'
                unfold machL at TN
                have TL := Lib.hid fun w' (hb : Below w4.heap.size w4 w') => take_any _ y4.c 0 hk0Y w' (HI4.out.next hb).confV HI4.out.good
                unfold WV.vc WV.vs lkV at TL
                try dsimp only at TN TL
                clear hvl hlA hlc TG hvf hfA hfc TF row0
                have KS : Hid (∀ w', Below w4.heap.size w4 w' → (fun w' : World => (w'.cell? ⟨B, 6, none⟩ = some (.slice (some ⟨gl, 0, none⟩) y4.l.length lc)) ∧ (w'.cell? ⟨B, 9, none⟩ = some (.slice (some ⟨fl, 0, none⟩) y4.f.length fc)) ∧ (w'.cell? ⟨B, 0, none⟩ = some (.slice x4.cA y4.c.caps.length x4.cc)) ∧ (w'.cell? ⟨B, 1, none⟩ = some (.slice x4.sA y4.c.starts.length x4.sc)) ∧ (w'.cell? ⟨B, 2, none⟩ = some (.int .i64 y4.c.threads))) w') := fun w' hb => by
                  obtain ⟨x0, x1, x2, x3, x4, x5, x6, x7, x8, x9⟩ := rowc10 ((hb.block B hBl).trans ROW.out)
                  exact ⟨x6, x9, x0, x1, x2⟩
                go_upto_region 18 with fail
                go_cut [] (fun wx => ∃ f2 : List Value, Hid (WI 61 w wx [] B (B + 1) x4 { y4 with l := y4.l.set q ⟨1, 1, 0, 0, 0, 0, 0, 0, 0, 0, 0⟩, f := y4.f.set q f2 }) ∧ Hid (FrI LkR (OffS (x4.S [] B) wx) { y4 with l := y4.l.set q ⟨1, 1, 0, 0, 0, 0, 0, 0, 0, 0, 0⟩, f := y4.f.set q f2 }))
                case first =>
                  refine wp_region_until (fun w' : World => (w'.cell? ⟨B, 6, none⟩ = some (.slice (some ⟨gl, 0, none⟩) y4.l.length lc)) ∧ (w'.cell? ⟨B, 9, none⟩ = some (.slice (some ⟨fl, 0, none⟩) y4.f.length fc)) ∧ (w'.cell? ⟨B, 0, none⟩ = some (.slice x4.cA y4.c.caps.length x4.cc)) ∧ (w'.cell? ⟨B, 1, none⟩ = some (.slice x4.sA y4.c.starts.length x4.sc)) ∧ (w'.cell? ⟨B, 2, none⟩ = some (.int .i64 y4.c.threads))) 24 27 (by kernel_rfl) rfl ?_
                  obtain ⟨u0, hu0, HU0⟩ := drew_pack w4
                  rw [hu0]
                  clear hu0
                  have hSU0 : (fun w' : World => (w'.cell? ⟨B, 6, none⟩ = some (.slice (some ⟨gl, 0, none⟩) y4.l.length lc)) ∧ (w'.cell? ⟨B, 9, none⟩ = some (.slice (some ⟨fl, 0, none⟩) y4.f.length fc)) ∧ (w'.cell? ⟨B, 0, none⟩ = some (.slice x4.cA y4.c.caps.length x4.cc)) ∧ (w'.cell? ⟨B, 1, none⟩ = some (.slice x4.sA y4.c.starts.length x4.sc)) ∧ (w'.cell? ⟨B, 2, none⟩ = some (.int .i64 y4.c.threads))) (u0) := KS.out _ HU0.out
                  refine wpAnyU_take (v := ?_) 0 ListAt.zero (by kernel_rfl) (by kernel_rfl) (by kernel_rfl) (by kernel_rfl) (by kernel_rfl) (fun _ _ _ h => h) hSU0 rfl ?_ ?_
                  rotate_left
                  · (intro w hSw; (try dsimp only at hSw); go_simp <;> with_reducible rfl)
                  simp only [Act.put, List.setIfInBounds_toArray, List.set_cons_zero, List.set_cons_succ]
                  refine wpAnyU_take (v := ?_) 1 (ListAt.succ ListAt.zero) (by kernel_rfl) (by kernel_rfl) (by kernel_rfl) (by kernel_rfl) (by kernel_rfl) (fun _ _ _ h => h) hSU0 rfl ?_ ?_
                  rotate_left
                  · (intro w hSw; (try dsimp only at hSw); go_simp <;> with_reducible rfl)
                  simp only [Act.put, List.setIfInBounds_toArray, List.set_cons_zero, List.set_cons_succ]
                  refine wpAnyU_take (v := ?_) 2 (ListAt.succ (ListAt.succ ListAt.zero)) (by kernel_rfl) (by kernel_rfl) (by kernel_rfl) (by kernel_rfl) (by kernel_rfl) (fun _ _ _ h => h) hSU0 rfl ?_ ?_
                  rotate_left
                  · (intro w hSw; (try dsimp only at hSw); go_simp <;> with_reducible rfl)
                  simp only [Act.put, List.setIfInBounds_toArray, List.set_cons_zero, List.set_cons_succ]
                  refine wpAnyU_take (v := ?_) 3 (ListAt.succ (ListAt.succ (ListAt.succ ListAt.zero))) (by kernel_rfl) (by kernel_rfl) (by kernel_rfl) (by kernel_rfl) (by kernel_rfl) (fun _ _ _ h => h) hSU0 rfl ?_ ?_
                  rotate_left
                  · (intro w hSw; (try dsimp only at hSw); go_simp <;> with_reducible rfl)
                  simp only [Act.put, List.setIfInBounds_toArray, List.set_cons_zero, List.set_cons_succ]
                  refine wpAnyU_take (v := ?_) 4 (ListAt.succ (ListAt.succ (ListAt.succ (ListAt.succ ListAt.zero)))) (by kernel_rfl) (by kernel_rfl) (by kernel_rfl) (by kernel_rfl) (by kernel_rfl) (fun _ _ _ h => h) hSU0 rfl ?_ ?_
                  rotate_left
                  · (intro w hSw; (try dsimp only at hSw); go_simp <;> with_reducible rfl)
                  simp only [Act.put, List.setIfInBounds_toArray, List.set_cons_zero, List.set_cons_succ]
                  refine wpAnyU_take (v := ?_) 5 (ListAt.succ (ListAt.succ (ListAt.succ (ListAt.succ (ListAt.succ ListAt.zero))))) (by kernel_rfl) (by kernel_rfl) (by kernel_rfl) (by kernel_rfl) (by kernel_rfl) (fun _ _ _ h => h) hSU0 rfl ?_ ?_
                  rotate_left
                  · (intro w hSw; (try dsimp only at hSw); go_simp <;> with_reducible rfl)
                  simp only [Act.put, List.setIfInBounds_toArray, List.set_cons_zero, List.set_cons_succ]
                  refine wpAnyU_take (v := ?_) 11 (ListAt.succ (ListAt.succ (ListAt.succ (ListAt.succ (ListAt.succ (ListAt.succ (ListAt.succ (ListAt.succ (ListAt.succ (ListAt.succ (ListAt.succ ListAt.zero))))))))))) (by kernel_rfl) (by kernel_rfl) (by kernel_rfl) (by kernel_rfl) (by kernel_rfl) (fun _ _ _ h => h) hSU0 rfl ?_ ?_
                  rotate_left
                  · (intro w hSw; (try dsimp only at hSw); go_simp <;> with_reducible rfl)
                  simp only [Act.put, List.setIfInBounds_toArray, List.set_cons_zero, List.set_cons_succ]
                  refine wpAnyU_take (v := ?_) 12 (ListAt.succ (ListAt.succ (ListAt.succ (ListAt.succ (ListAt.succ (ListAt.succ (ListAt.succ (ListAt.succ (ListAt.succ (ListAt.succ (ListAt.succ (ListAt.succ ListAt.zero)))))))))))) (by kernel_rfl) (by kernel_rfl) (by kernel_rfl) (by kernel_rfl) (by kernel_rfl) (fun _ _ _ h => h) hSU0 rfl ?_ ?_
                  rotate_left
                  · (intro w hSw; (try dsimp only at hSw); go_simp <;> with_reducible rfl)
                  simp only [Act.put, List.setIfInBounds_toArray, List.set_cons_zero, List.set_cons_succ]
                  refine wpAnyU_take (v := ?_) 13 (ListAt.succ (ListAt.succ (ListAt.succ (ListAt.succ (ListAt.succ (ListAt.succ (ListAt.succ (ListAt.succ (ListAt.succ (ListAt.succ (ListAt.succ (ListAt.succ (ListAt.succ ListAt.zero))))))))))))) (by kernel_rfl) (by kernel_rfl) (by kernel_rfl) (by kernel_rfl) (by kernel_rfl) (fun _ _ _ h => h) hSU0 rfl ?_ ?_
                  rotate_left
                  · (intro w hSw; (try dsimp only at hSw); go_simp <;> with_reducible rfl)
                  simp only [Act.put, List.setIfInBounds_toArray, List.set_cons_zero, List.set_cons_succ]
                  refine wpAnyU_take (v := ?_) 14 (ListAt.succ (ListAt.succ (ListAt.succ (ListAt.succ (ListAt.succ (ListAt.succ (ListAt.succ (ListAt.succ (ListAt.succ (ListAt.succ (ListAt.succ (ListAt.succ (ListAt.succ (ListAt.succ ListAt.zero)))))))))))))) (by kernel_rfl) (by kernel_rfl) (by kernel_rfl) (by kernel_rfl) (by kernel_rfl) (fun _ _ _ h => h) hSU0 rfl ?_ ?_
                  rotate_left
                  · (intro w hSw; (try dsimp only at hSw); go_simp <;> with_reducible rfl)
                  simp only [Act.put, List.setIfInBounds_toArray, List.set_cons_zero, List.set_cons_succ]
                  refine wpAnyU_take (v := ?_) 15 (ListAt.succ (ListAt.succ (ListAt.succ (ListAt.succ (ListAt.succ (ListAt.succ (ListAt.succ (ListAt.succ (ListAt.succ (ListAt.succ (ListAt.succ (ListAt.succ (ListAt.succ (ListAt.succ (ListAt.succ ListAt.zero))))))))))))))) (by kernel_rfl) (by kernel_rfl) (by kernel_rfl) (by kernel_rfl) (by kernel_rfl) (fun _ _ _ h => h) hSU0 rfl ?_ ?_
                  rotate_left
                  · (intro w hSw; (try dsimp only at hSw); go_simp <;> with_reducible rfl)
                  simp only [Act.put, List.setIfInBounds_toArray, List.set_cons_zero, List.set_cons_succ]
                  refine wpAnyU_takeW (v := ?_) 6 (ListAt.succ (ListAt.succ (ListAt.succ (ListAt.succ (ListAt.succ (ListAt.succ ListAt.zero)))))) (by kernel_rfl) (by kernel_rfl) (by kernel_rfl) (by kernel_rfl) (fun _ _ _ h => h) (fun _ => hSU0) rfl ?_ ?_
                  rotate_left
                  · (intro w; go_simp <;> with_reducible rfl)
                  simp only [Act.put, List.setIfInBounds_toArray, List.set_cons_zero, List.set_cons_succ]
                  refine wpAnyU_takeW (v := ?_) 7 (ListAt.succ (ListAt.succ (ListAt.succ (ListAt.succ (ListAt.succ (ListAt.succ (ListAt.succ ListAt.zero))))))) (by kernel_rfl) (by kernel_rfl) (by kernel_rfl) (by kernel_rfl) (fun _ _ _ h => h) (fun _ => hSU0) rfl ?_ ?_
                  rotate_left
                  · (intro w; go_simp <;> with_reducible rfl)
                  simp only [Act.put, List.setIfInBounds_toArray, List.set_cons_zero, List.set_cons_succ]
                  refine wpAnyU_takeW (v := ?_) 8 (ListAt.succ (ListAt.succ (ListAt.succ (ListAt.succ (ListAt.succ (ListAt.succ (ListAt.succ (ListAt.succ ListAt.zero)))))))) (by kernel_rfl) (by kernel_rfl) (by kernel_rfl) (by kernel_rfl) (fun _ _ _ h => h) (fun _ => hSU0) rfl ?_ ?_
                  rotate_left
                  · (intro w; go_simp <;> with_reducible rfl)
                  simp only [Act.put, List.setIfInBounds_toArray, List.set_cons_zero, List.set_cons_succ]
                  refine wpAnyU_take (v := ?_) 9 (ListAt.succ (ListAt.succ (ListAt.succ (ListAt.succ (ListAt.succ (ListAt.succ (ListAt.succ (ListAt.succ (ListAt.succ ListAt.zero))))))))) (by kernel_rfl) (by kernel_rfl) (by kernel_rfl) (by kernel_rfl) (by kernel_rfl) (fun _ _ _ h => h) hSU0 rfl ?_ ?_
                  rotate_left
                  · (intro w hSw; (try dsimp only at hSw); go_simp <;> with_reducible rfl)
                  simp only [Act.put, List.setIfInBounds_toArray, List.set_cons_zero, List.set_cons_succ]
                  refine wpAnyU_takeW (v := ?_) 10 (ListAt.succ (ListAt.succ (ListAt.succ (ListAt.succ (ListAt.succ (ListAt.succ (ListAt.succ (ListAt.succ (ListAt.succ (ListAt.succ ListAt.zero)))))))))) (by kernel_rfl) (by kernel_rfl) (by kernel_rfl) (by kernel_rfl) (fun _ _ _ h => h) (fun _ => hSU0) rfl ?_ ?_
                  rotate_left
                  · (intro w; go_simp <;> with_reducible rfl)
                  simp only [Act.put, List.setIfInBounds_toArray, List.set_cons_zero, List.set_cons_succ]
                  refine wpAnyU_takeW (v := ?_) 17 (ListAt.succ (ListAt.succ (ListAt.succ (ListAt.succ (ListAt.succ (ListAt.succ (ListAt.succ (ListAt.succ (ListAt.succ (ListAt.succ (ListAt.succ (ListAt.succ (ListAt.succ (ListAt.succ (ListAt.succ (ListAt.succ (ListAt.succ ListAt.zero))))))))))))))))) (by kernel_rfl) (by kernel_rfl) (by kernel_rfl) (by kernel_rfl) (fun _ _ _ h => h) (fun _ => hSU0) rfl ?_ ?_
                  rotate_left
                  · (intro w; go_simp <;> with_reducible rfl)
                  simp only [Act.put, List.setIfInBounds_toArray, List.set_cons_zero, List.set_cons_succ]
                  refine wpAnyU_takeW (v := ?_) 18 (ListAt.succ (ListAt.succ (ListAt.succ (ListAt.succ (ListAt.succ (ListAt.succ (ListAt.succ (ListAt.succ (ListAt.succ (ListAt.succ (ListAt.succ (ListAt.succ (ListAt.succ (ListAt.succ (ListAt.succ (ListAt.succ (ListAt.succ (ListAt.succ ListAt.zero)))))))))))))))))) (by kernel_rfl) (by kernel_rfl) (by kernel_rfl) (by kernel_rfl) (fun _ _ _ h => h) (fun _ => hSU0) rfl ?_ ?_
                  rotate_left
                  · (intro w; go_simp <;> with_reducible rfl)
                  simp only [Act.put, List.setIfInBounds_toArray, List.set_cons_zero, List.set_cons_succ]
                  refine wpAnyU_takeW (v := ?_) 19 (ListAt.succ (ListAt.succ (ListAt.succ (ListAt.succ (ListAt.succ (ListAt.succ (ListAt.succ (ListAt.succ (ListAt.succ (ListAt.succ (ListAt.succ (ListAt.succ (ListAt.succ (ListAt.succ (ListAt.succ (ListAt.succ (ListAt.succ (ListAt.succ (ListAt.succ ListAt.zero))))))))))))))))))) (by kernel_rfl) (by kernel_rfl) (by kernel_rfl) (by kernel_rfl) (fun _ _ _ h => h) (fun _ => hSU0) rfl ?_ ?_
                  rotate_left
                  · (intro w; go_simp <;> with_reducible rfl)
                  simp only [Act.put, List.setIfInBounds_toArray, List.set_cons_zero, List.set_cons_succ]
                  refine wpAnyU_takeW (v := ?_) 20 (ListAt.succ (ListAt.succ (ListAt.succ (ListAt.succ (ListAt.succ (ListAt.succ (ListAt.succ (ListAt.succ (ListAt.succ (ListAt.succ (ListAt.succ (ListAt.succ (ListAt.succ (ListAt.succ (ListAt.succ (ListAt.succ (ListAt.succ (ListAt.succ (ListAt.succ (ListAt.succ ListAt.zero)))))))))))))))))))) (by kernel_rfl) (by kernel_rfl) (by kernel_rfl) (by kernel_rfl) (fun _ _ _ h => h) (fun _ => hSU0) rfl ?_ ?_
                  rotate_left
                  · (intro w; go_simp <;> with_reducible rfl)
                  simp only [Act.put, List.setIfInBounds_toArray, List.set_cons_zero, List.set_cons_succ]
                  refine wpAnyU_take (v := ?_) 21 (ListAt.succ (ListAt.succ (ListAt.succ (ListAt.succ (ListAt.succ (ListAt.succ (ListAt.succ (ListAt.succ (ListAt.succ (ListAt.succ (ListAt.succ (ListAt.succ (ListAt.succ (ListAt.succ (ListAt.succ (ListAt.succ (ListAt.succ (ListAt.succ (ListAt.succ (ListAt.succ (ListAt.succ ListAt.zero))))))))))))))))))))) (by kernel_rfl) (by kernel_rfl) (by kernel_rfl) (by kernel_rfl) (by kernel_rfl) (fun _ _ _ h => h) hSU0 rfl ?_ ?_
                  rotate_left
                  · (intro w hSw; (try dsimp only at hSw); go_simp <;> with_reducible rfl)
                  simp only [Act.put, List.setIfInBounds_toArray, List.set_cons_zero, List.set_cons_succ]
                  refine wpAnyU_ready (rs := [16]) (by kernel_rfl) rfl ?_
                  refine AllReadyU.cons (ListAt.succ (ListAt.succ (ListAt.succ (ListAt.succ (ListAt.succ (ListAt.succ (ListAt.succ (ListAt.succ (ListAt.succ (ListAt.succ (ListAt.succ (ListAt.succ (ListAt.succ (ListAt.succ (ListAt.succ (ListAt.succ ListAt.zero)))))))))))))))) rfl (fun K hK => ?_) ?_
                  · go_simp
                    go_at_call 24
                    refine (TN.out _).mono ?_
                    rintro e u1 ⟨rfl, hb⟩
                    have HU1 := Lib.hid (below_then HU0.out hb)
                    clear hb
                    refine hK.out _ _ ?_ (fun hSU1 => ?_)
                    · exact KS.out _ HU1.out
                    clear hK K hSU0
                    try simp only [Act.put, List.setIfInBounds_toArray, List.set_cons_zero, List.set_cons_succ]
                    refine wpAnyU_ready (rs := [22]) (by kernel_rfl) rfl ?_
                    refine AllReadyU.cons (ListAt.succ (ListAt.succ (ListAt.succ (ListAt.succ (ListAt.succ (ListAt.succ (ListAt.succ (ListAt.succ (ListAt.succ (ListAt.succ (ListAt.succ (ListAt.succ (ListAt.succ (ListAt.succ (ListAt.succ (ListAt.succ (ListAt.succ (ListAt.succ (ListAt.succ (ListAt.succ (ListAt.succ (ListAt.succ ListAt.zero)))))))))))))))))))))) rfl (fun K hK => ?_) ?_
                    · go_simp
                      go_at_call 27
                      refine (TL.out _ HU1.out).mono ?_
                      rintro e u2 ⟨b, rfl, hrb, hbw, hb⟩
                      have HUb := hb
                      have HRb := hrb
                      have HBw := hbw
                      have HU2 := Lib.hid (below_then HU1.out hb.out)
                      clear hb hrb hbw
                      refine hK.out _ _ ?_ (fun hSU2 => ?_)
                      · exact KS.out _ HU2.out
                      clear hK K hSU1
                      try simp only [Act.put, List.setIfInBounds_toArray, List.set_cons_zero, List.set_cons_succ]
                      refine wpAnyU_take (v := ?_) 23 (ListAt.succ (ListAt.succ (ListAt.succ (ListAt.succ (ListAt.succ (ListAt.succ (ListAt.succ (ListAt.succ (ListAt.succ (ListAt.succ (ListAt.succ (ListAt.succ (ListAt.succ (ListAt.succ (ListAt.succ (ListAt.succ (ListAt.succ (ListAt.succ (ListAt.succ (ListAt.succ (ListAt.succ (ListAt.succ (ListAt.succ ListAt.zero))))))))))))))))))))))) (by kernel_rfl) (by kernel_rfl) (by kernel_rfl) (by kernel_rfl) (by kernel_rfl) (fun _ _ _ h => h) hSU2 rfl ?_ ?_
                      rotate_left
                      · (intro w hSw; (try dsimp only at hSw); go_simp <;> with_reducible rfl)
                      simp only [Act.put, List.setIfInBounds_toArray, List.set_cons_zero, List.set_cons_succ]
                      refine wpAnyU_ready (rs := [24]) (by kernel_rfl) rfl ?_
                      refine AllReadyU.free (ListAt.succ (ListAt.succ (ListAt.succ (ListAt.succ (ListAt.succ (ListAt.succ (ListAt.succ (ListAt.succ (ListAt.succ (ListAt.succ (ListAt.succ (ListAt.succ (ListAt.succ (ListAt.succ (ListAt.succ (ListAt.succ (ListAt.succ (ListAt.succ (ListAt.succ (ListAt.succ (ListAt.succ (ListAt.succ (ListAt.succ (ListAt.succ ListAt.zero)))))))))))))))))))))))) rfl (by kernel_rfl) (fun K hK => ?_) ?_
                      · refine step_store_mid rfl 68 _ _ rfl gl (q * 14) _ (by rfl) (by rfl) (there_below HTG.out HU2.out hgls) (by kernel_rfl) (by simp [Value.oneCell']) ?_
                        refine hK.out _ _ ?_
                        clear hK K hSU2
                        try simp only [Act.put, List.setIfInBounds_toArray, List.set_cons_zero, List.set_cons_succ]
                        refine wpAnyU_takeW (v := ?_) 25 (ListAt.succ (ListAt.succ (ListAt.succ (ListAt.succ (ListAt.succ (ListAt.succ (ListAt.succ (ListAt.succ (ListAt.succ (ListAt.succ (ListAt.succ (ListAt.succ (ListAt.succ (ListAt.succ (ListAt.succ (ListAt.succ (ListAt.succ (ListAt.succ (ListAt.succ (ListAt.succ (ListAt.succ (ListAt.succ (ListAt.succ (ListAt.succ (ListAt.succ ListAt.zero))))))))))))))))))))))))) (by kernel_rfl) (by kernel_rfl) (by kernel_rfl) (by kernel_rfl) (fun _ _ _ h => h) (past_k (by kernel_rfl)) rfl ?_ ?_
                        rotate_left
                        · (intro w; go_simp <;> with_reducible rfl)
                        simp only [Act.put, List.setIfInBounds_toArray, List.set_cons_zero, List.set_cons_succ]
                        refine wpAnyU_ready (rs := [26]) (by kernel_rfl) rfl ?_
                        refine AllReadyU.free (ListAt.succ (ListAt.succ (ListAt.succ (ListAt.succ (ListAt.succ (ListAt.succ (ListAt.succ (ListAt.succ (ListAt.succ (ListAt.succ (ListAt.succ (ListAt.succ (ListAt.succ (ListAt.succ (ListAt.succ (ListAt.succ (ListAt.succ (ListAt.succ (ListAt.succ (ListAt.succ (ListAt.succ (ListAt.succ (ListAt.succ (ListAt.succ (ListAt.succ (ListAt.succ ListAt.zero)))))))))))))))))))))))))) rfl (by kernel_rfl) (fun K hK => ?_) ?_
                        · have HTF3 : Hid (∀ r, (u2.setCells gl (q * 14) r).there fl (q * 5) 5) := fun r => World.there_setCells (there_below HTF.out HU2.out hfls) _ _ _
                          generalize hu3 : World.setCells u2 gl (q * 14) _ = u3
                          have HT3 : Hid (u3.there fl (q * 5) 5) := hu3 ▸ HTF3.out _
                          have HU3 := Lib.hid hu3
                          clear hu3
                          refine step_store_mid rfl 71 _ _ rfl fl (q * 5) #[.int .i64 0, .int .i64 1, .slice none 0 0, .slice (some ⟨b, 0, none⟩) 1 1, .slice none 0 0] (by rfl) (by rfl) HT3.out (by kernel_rfl) (by simp [Value.oneCell']) ?_
                          refine hK.out _ _ ?_
                          clear hK K
                          try simp only [Act.put, List.setIfInBounds_toArray, List.set_cons_zero, List.set_cons_succ]
                          refine wpAnyU_done (by kernel_rfl) ?_ _
                          have hu3 := HU3.out
                          subst hu3
                          clear HU3 HT3 HTF3
                          obtain ⟨HIa, HINa⟩ := (HI4.out.next HU2.out).setL (b := gl) (i := q) (z := ⟨1, 1, 0, 0, 0, 0, 0, 0, 0, 0, 0⟩) (n := y4.l.length) (cap := lc) HVL.out hqi rfl (by intro u hu; simp only [machL, List.mem_cons, List.not_mem_nil, or_false] at hu; rcases hu with rfl | rfl | rfl | rfl | rfl | rfl | rfl | rfl | rfl | rfl | rfl | rfl | rfl | rfl <;> rfl)
                          obtain ⟨HIb, HINb⟩ := HIa.setF (b := fl) (i := q) (z := (lkL 1 (.slice (some ⟨b, 0, none⟩) 1 1))) (n := y4.f.length) (cap := fc) HVF.out hqf rfl (by intro u hu; simp only [lkL, List.mem_cons, List.not_mem_nil, or_false] at hu; rcases hu with rfl | rfl | rfl | rfl | rfl <;> rfl)
                          have HIF := Lib.hid HIb
                          have hin : ∀ w3, OffS (x4.S [] B) _ w3 → OffS (x4.S [] B) u2 w3 := fun w3 h3 => HINa w3 (HINb w3 h3)
                          have HFF := Lib.hid (FrI.put lk_sim HF4.out (fun w3 h3 => (OffS.below HU2.out).trans1 (hin w3 h3)) q ⟨1, 1, 0, 0, 0, 0, 0, 0, 0, 0, 0⟩ (lkL 1 (.slice (some ⟨b, 0, none⟩) 1 1)) (lk_sim.sub (lkR_new (w := u1) (w' := u2) (k := 0) (.inl rfl) hk0Y HRb.out HBw.out) fun w3 h3 => ⟨Nat.le_trans (Nat.le_refl _) (hin w3 h3).1, fun j h1 h2 => (hin w3 h3).2 j h2 (fun e => by have := HI4.out.Slt j e; have := HU1.out.size; omega)⟩))
                          clear HIa HINa HIb HINb hin
                          go_wp2_with fail
                          go_meet
                          exact ⟨_, HIF, HFF⟩
                        exact AllReadyU.nil
                      exact AllReadyU.nil
                    exact AllReadyU.nil
                  exact AllReadyU.nil
                case rest =>
                  obtain ⟨f5, HI5, HF5⟩ := hcut
                  obtain ⟨w5, rfl⟩ : ∃ w3 : World, w3 = wc := ⟨_, rfl⟩
                  clear KS TN TL
                  have HX5 : Hid (ExI y4.m (y4.l.set q ⟨1, 1, 0, 0, 0, 0, 0, 0, 0, 0, 0⟩) none) := by show ExI _ _ _; rw [HM4.out.m, HM4.out.l]; exact HREL.out
                  have HK5 : Hid (∀ m ∈ y4.l.set q ⟨1, 1, 0, 0, 0, 0, 0, 0, 0, 0, 0⟩, lkK y4.c m ∧ m.what ≤ 2) := fun m hm => by
                    rcases List.mem_or_eq_of_mem_set hm with h1 | rfl
                    · exact HK4.out m h1
                    · exact ⟨⟨.inl rfl, .inr rfl, 0, hk0Y, rfl⟩, by show (1 : Int) ≤ 2; omega⟩
                  clear HI4 HF4 HM4 HK4 HREL
                  go_wp2_with fail
                  go_roundw
                  case rel => exact ⟨i + 1, x4, { y4 with l := y4.l.set q ⟨1, 1, 0, 0, 0, 0, 0, 0, 0, 0, 0⟩, f := y4.f.set q f5 }, none, by go_num, rfl, by omega, by omega, HX5, HT4, HYC4.out, HI5, HF5, HK5⟩
                  case measure => simp [intOf]; omega
            · have hqq : ((q : Int) == (q0 : Int)) = false := by first | (simp; done) | (simp; omega)
              have hq0 : (0 : Int) ≤ (q0 : Int) := by omega
              have HXT := Lib.hid (HX.out.take (c := y.c) q hqi (by simpa using hqe))
              have HSS := Lib.hid (wstepL_any lk_sim lk_doc HI.out HF.out HK.out q hqi (by omega) (by omega) (by omega))
              have HRN : Hid (ReachN lkK y y 0) := ⟨rfl, rfl, HK.out, Nat.le_refl _, Nat.le_refl _⟩
              clear HI HF HK HX
              go_wp2_with fail
              refine HSS.out.mono ?_
              rintro e w2 ⟨x2, y2, rfl, HI2, HF2, HM2⟩
              have HR2 := Lib.hid (HRN.out.step lk_sim lk_doc HM2.out)
              have hqi2 : q < y2.l.length := by rw [HM2.out.l, stepE_len]; exact hqi
              have hqf2 : q < y2.f.length := by rw [HM2.out.f]; exact hqf
              have hf24 : y2.f.length = 4 := by rw [HM2.out.f]; exact HFL4.out
              have hyc2 : y2.c = c := HM2.out.c.trans HYC.out
              have HYC2 := Lib.hid hyc2
              obtain ⟨HXA, hkk, hpl2, hok2⟩ := HXT.out
              have HX2 : Hid (ExI y2.m y2.l (some q0)) := by show ExI y2.m y2.l _; rw [HM2.out.m, HM2.out.l]; simpa using HXA
              obtain ⟨m, hm⟩ : ∃ m, y2.l[q] = m := ⟨_, rfl⟩
              have hml : (stepE lkNE lkRE y.c y.m y.l q).2[q] = m := by rw [← hm]; simp [HM2.out.l]
              rw [hml] at hpl2 hok2
              have hKm := HR2.out.all m (hm ▸ List.getElem_mem hqi2)
              have hRm := HF2.out.2 q hqf2 hqi2
              rw [hm] at hRm
              have hOw : (fun m : MachM => decide (m.what ≤ 2)) m = true := by show decide (m.what ≤ 2) = true; simpa using hKm.2
              obtain ⟨fl, fc, hvf, hfA, hfc, hfl, hfls, hfcap, FG, -⟩ := HI2.out.frameAt q hqf2
              obtain ⟨r0, r1, s2, k2, l2, s3, k3, l3, s4, k4, l4, he⟩ := lk_sim.form hRm hOw
              have TE := Lib.hid (lk_sim.ends w2 (OffS.self _ _) hRm hOw)
              rw [he] at FG TE
              have hplx : (m.pl == 0) = false := by rw [hpl2]; rfl
              rw [hplx] at TE
              have HFG := Lib.hid FG
              have row0 := HI2.out.row
              unfold WV.row at row0
              rw [hfA, hfc] at row0
              have ROW := Lib.hid row0
              have hqF : (q : Int) < (y2.f.length : Int) := by omega
              have HT2 : Hid (y2.t.length ≤ 2 * (i + 1) ∧ y2.p.length ≤ 2 * (i + 1)) := by have h1 := HM2.out.t; have h2 := HM2.out.p; have h3 := HT.out; show _ ∧ _; omega
              clear HSS HRN HXT HXA hkk hpl2 hok2 hml hRm hvf hfA hfc FG he row0 hOw hplx hKm hm hyc2
              obtain ⟨x0, x1, x2, x3, x4, x5, x6, x7, x8, x9⟩ := rowc10 ROW.out
              obtain ⟨f0, f1, f2, f3, f4⟩ := range5 HFG.out
              go_wp2_with fail
              refine TE.out.mono ?_
              rintro e w3 ⟨rfl, hb3⟩
              have HB3 := Lib.hid hb3
              clear hb3 TE x0 x1 x2 x3 x4 x5 x6 x7 x8 x9 f0 f1 f2 f3 f4
              obtain ⟨W4, hW4⟩ : ∃ W4, (w3.alloc (.cells #[.int .i64 0, .int .u64 0] 66)).setRow w3.heap.size #[.int .i64 m.ok, .int .u64 m.ov] = W4 := ⟨_, rfl⟩
              have N4 : Hid ((w3.alloc (.cells #[.int .i64 0, .int .u64 0] 66)).heap[w3.heap.size]? = some (.cells #[.int .i64 0, .int .u64 0] 66 (0, 0))) := heap_alloc_new _ _
              have HB4 : Hid (Below w3.heap.size w3 W4) := hW4 ▸ row_below (below_new (Below.refl _ _) _) (Nat.le_refl _) _
              have R4 : Hid (W4.heap[w3.heap.size]? = some (.cells #[.int .i64 m.ok, .int .u64 m.ov] 66 (0, 0))) := hW4 ▸ setRow_heap _ _ _ _ _ (0, 0) N4.out
              have HW4 := Lib.hid hW4
              clear hW4
              go_upto_region 22 with (refine wpList_store_row rfl 66 _ _ rfl (w3.heap.size) _ rfl rfl 66 #[.int .i64 0, .int .u64 0] N4.out (by kernel_rfl) rfl (by simp [Value.oneCell']) ?_)
              rw [HW4.out]
              try simp only [Act.put]
              clear HW4 N4
              obtain ⟨O, hO⟩ : ∃ O, w3.heap.size = O := ⟨_, rfl⟩
              rw [hO] at R4
              rw [hO]
              clear hO
              obtain ⟨o0, o1⟩ := rowc2 R4.out
              have HB24 := Lib.hid (below_then HB3.out HB4.out)
              have HIF := Lib.hid (HI2.out.next HB24.out)
              have HFF := Lib.hid (HF2.out.sub lk_sim fun w9 h9 => (OffS.below HB24.out).trans1 h9)
              have HKF := Lib.hid HR2.out.all
              clear HI2 HF2 HM2 HR2 HB3 HB4 HB24 ROW HFG HT HYC
              go_wp2_with fail
              go_roundw
              case rel => exact ⟨i + 1, x2, y2, some q0, by go_num, rfl, by omega, by omega, HX2, HT2, HYC2.out, HIF, HFF, HKF⟩
              case measure => simp [intOf]; omega
        · have hc : (¬ i < l0.length) ∨ (i < l0.length ∧ ¬ i < 80) := by omega
          have HBF := Lib.hid HI.out.below
          clear HX HT hyc HI HF HK hlt
          rcases hc with hc | ⟨hc, hc2⟩
          · have hcI : decide ((i : Int) < (l0.length : Int)) = false := by simpa using hc
            go_wp2_with fail
            go_ret
            exact ⟨rfl, HBF.out⟩
          · have hcI : (i : Int) < (l0.length : Int) := by omega
            have hcJ : decide ((i : Int) < 80) = false := by simp; omega
            go_wp2_with fail
            go_ret
            exact ⟨rfl, HBF.out⟩
set_option maxRecDepth 100000 in
theorem lifted (os : Os) (started : os.Started) (H : Type) (enc : TypeId × Value → H) :
    ReturnsInHanded {} Try.checked os 5 .any (Rows.lockExcludesSpec.pre6 enc Try.prog Try.f5 Rows.lockExcludesRow.domain false) (Rows.lockExcludesSpec.post enc Try.prog Try.f5 false true false false) := by
  refine returnsInHanded_of_change_sized (C := Try.checked) own started (by kernel_rfl) Try.func5
    (ChangeSpec.witness6 (enc := enc) (C := Try.checked) false ⟨#[], #[.slice none 0 0], []⟩ 8 (by kernel_rfl) (by kernel_rfl) (by kernel_rfl) (by kernel_rfl)) ?_
  intro W base args ds gs before hval0 hW _ hsz0 _
  have hsz : (DataW.weightsEach Try.prog (Try.f5.params.toList ++ Rows.lockExcludesSpec.plain.varTypes Try.prog) (ds ++ gs)).all (· ≤ reachBytes) = true := hsz0
  clear hsz0
  have hval : ∀ (j : Nat) t v, Try.f5.params[j]? = some t → args[j]? = some v → Value.okWide Try.prog W .any base t v := hval0
  have hW' := hW
  obtain ⟨p, q, hA0, hV, rfl, _, _⟩ := hW
  have hA : DataW.TrodAll enc Try.prog W 0 (fun _ => true) true Try.f5.params.toList args.toList ds p := hA0
  rw [Try.params5] at hA hval hsz
  obtain ⟨v0, vs0, d0, ds0, p0, q0, hargs, rfl, rfl, h0, r0⟩ := trodAll_cons hA
  obtain ⟨rfl, rfl, rfl⟩ := trodAll_nil r0
  obtain rfl : args = #[v0] := by cases args; simp_all
  obtain ⟨rfl, rfl⟩ := trodVars_none hV
  have k0 := h0
  obtain ⟨l0, s0⟩ := view_sl (k := .u8) Try.underlying22 Try.underlying5 (by kernel_rfl) (fun elems sp hd => sized_slice hsz (j := 0) (t := 22) (e := 5) rfl (by rw [hd]; rfl) Try.underlying22) (of_decide_eq_true (by kernel_rfl)) (hval 0 22 v0 rfl rfl) h0
  clear hA0 hval0
  simp only [List.append_nil] at hW'
  have hlt := hW'.lt
  refine (walk W v0 l0 s0).mono fun e W' ⟨he, hb⟩ => ?_
  subst he
  exact ⟨_, rfl, _, _, _, [], _, [], hW', trodAll_cons_mk (shut_bool Try.underlying4 _) trodAll_mk0, (trodAll_cons_mk (Below.trod Try.laidOut (by kernel_rfl) (of_decide_eq_true (by kernel_rfl)) k0 hb (fun x hx => by simpa using hlt x (by simp [hx]))) trodAll_mk0), rfl, hb.frame _, fun h => by cases h⟩
theorem over : Rows.lockExcludesRow.holds Try.pinned (OpenSpec.ofChange Rows.lockExcludesSpec) :=
  OpenClaim.holds_of_wide 5 Try.f5 rfl rfl rfl rfl rfl rfl rfl ⟨rfl, rfl, rfl, rfl, rfl⟩ rfl rfl rfl rfl rfl (by kernel_rfl) Try.func5 (by kernel_rfl)
    (of_decide_eq_true (by kernel_rfl)) (by unfold Func.isWrapper; first | (rw [if_pos (by decide +kernel)]; kernel_rfl) | (rw [if_neg (by decide +kernel)]; exact ⟨rfl, rfl⟩))
    (fun os started H enc _ => lifted os started H enc)
/-- THE STATEMENT -/
theorem proved : Rows.LockExcludesSaid :=
  over
end Go.Proofs.Ytipjfcjdefdoeaa.lockExcludes
