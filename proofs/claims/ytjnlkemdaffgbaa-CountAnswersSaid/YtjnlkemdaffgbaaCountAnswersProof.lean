/- Proved: CountAnswers returns true, and its arguments read afterwards as before, for every list of codes, every channel and every list of answers; no condition. -/
import Derived.LoopTactic
import Derived.WalkKit
import Derived.ProofKit
import Derived.OpenShut
import Derived.SizedLaws
import Derived.Test.YtjnlkemdaffgbaaB01
import Derived.Test.YtjnlkemdaffgbaaB34
import Derived.Test.YtjnlkemdaffgbaaB29
namespace Go.Proofs.Ytjnlkemdaffgbaa.countAnswers
open Go.ChangeShapes Go.WideShapes Go.ChangeAt Go.RowKit
set_option linter.unusedVariables false
set_option linter.unusedSimpArgs false
set_option maxRecDepth 100000 in
set_option maxHeartbeats 64000000 in
theorem walk (w : World) (v0 : Value) (l0 : List Int) (s0 : SlI w .u8 v0 l0) (a1 : Int) (w1 : (Lit.int .i64 a1).wf = true) (v2 : Value) (l2 : List AnsC) (s2 : SlA w v2 l2) :
    Calls Try.prog 4 #[v0, .int .i64 a1, v2] w fun e w' => e = .returned (.bool true) ∧ Below w.heap.size w w' := by
  have HS := Lib.hid s0
  have HSA := Lib.hid s2
  clear s0 s2 w1
  go_enter Try.func4, Try.ntmps4
  go_wp2_with fail
  refine (awake8_any _).mono ?_; rintro e wa ⟨rfl, hba⟩
  have HBA := Lib.hid hba
  clear hba
  go_wp2_with fail
  refine (new_any _ l0 60 _ (HS.out.below HBA.out) (by omega)).mono ?_; rintro e wb ⟨rfl, hcb, hbb⟩
  have HCB : Hid (CodesE wb wa.heap.size) := ⟨_, _, hcb⟩
  have HBB : Hid (Below wa.heap.size wa wb) := hbb
  clear hcb hbb HS
  obtain ⟨g, hg⟩ : ∃ g, wa.heap.size = g := ⟨_, rfl⟩
  rw [hg] at HCB
  rw [hg]
  have hwg : w.heap.size ≤ g := by rw [← hg]; exact HBA.out.size
  go_wp2_with fail
  refine (configG _ _ HCB.out).mono ?_; rintro e wc ⟨vc, vs, c, rfl, hvc, hvs, ho1, ho2, hgood, hc1, hc3, hcc, hgc⟩
  have HBC : Hid (Below w.heap.size w wc) := below_then HBA.out (HBB.out.grown hgc HBB.out.size (fun k hk => by cases hk; omega))
  have HCC := Lib.hid hcc
  have hgl : g < wc.heap.size := hcc.lt
  obtain ⟨a, cap, rfl, -⟩ := hvc.len
  obtain ⟨a2', cap2, rfl, -⟩ := hvs.len
  have HV : Hid (ConfV wc (.agg #[.slice a c.caps.length cap, .slice a2' c.starts.length cap2, .int .i64 c.threads]) c) := ⟨_, _, rfl, hvc, hvs⟩
  have HG := Lib.hid hgood
  have HSC : Hid (∀ w2, OffS [some g] wc w2 → SlI w2 .i64 (.slice a c.caps.length cap) c.caps ∧ SlI w2 .u64 (.slice a2' c.starts.length cap2) c.starts) := fun w2 h2 => ⟨hvc.offG ho1 h2, hvs.offG ho2 h2⟩
  clear hvc hvs hgood hgc HBA HBB HCB ho1 ho2 hcc hg
  go_wp2_with fail
  refine (begin_any _ _ _ _ c _ HV.out HG.out).mono ?_; rintro e wd ⟨m1, n1, m2, n2, rfl, HM, HBD⟩
  have HI0 := Lib.hid (WI.start (WT := 49) (w0 := w) (E := [some g]) HG.out (fun j hj => by simp only [List.mem_singleton, Option.some.injEq] at hj; subst hj; exact ⟨hwg, hgl⟩) HSC.out HBD.out HM.out HBC.out)
  have HC0 := Lib.hid (HCC.out.kept hgl (below_new HBD.out (.cells #[.slice a c.caps.length cap, .slice a2' c.starts.length cap2, .int .i64 c.threads, .slice m1 (newE c).words.length n1, .slice m2 (newE c).lists.length n2, .int .i64 (newE c).tick, .slice none 0 0, .slice none 0 0, .slice none 0 0, .slice none 0 0] 49)))
  have hgB : g < wd.heap.size := Nat.lt_of_lt_of_le hgl HBD.out.size
  clear HM HBD HSC HV HBC HCC
  obtain ⟨B, hB⟩ : ∃ B, wd.heap.size = B := ⟨_, rfl⟩
  rw [hB] at HI0 hgB
  go_upto_region 5 with fail
  try rw [hB]
  clear hB
  obtain ⟨w1, hw1⟩ : ∃ w1, wd.alloc (.cells #[.slice a c.caps.length cap, .slice a2' c.starts.length cap2, .int .i64 c.threads, .slice m1 (newE c).words.length n1, .slice m2 (newE c).lists.length n2, .int .i64 (newE c).tick, .slice none 0 0, .slice none 0 0, .slice none 0 0, .slice none 0 0] 49) = w1 := ⟨_, rfl⟩
  rw [hw1] at HI0 HC0
  rw [hw1]
  clear hw1
  have row0 := HI0.out.row
  unfold WV.row at row0
  have c0 := (rowc10 row0).1
  obtain ⟨k, hk⟩ : ∃ k : Nat, a1 % (c.caps.length : Int) = (k : Int) := ⟨(a1 % (c.caps.length : Int)).toNat, by have := Int.emod_nonneg a1 (b := (c.caps.length : Int)) (by omega); omega⟩
  have hkl : k < c.caps.length := by have := Int.emod_lt_of_pos a1 (b := (c.caps.length : Int)) (by omega); omega
  have HKL := Lib.hid hkl
  have HK := Lib.hid hk
  have TM := Lib.hid fun w' => mod_any a1 (c.caps.length : Int) w' (by omega) (by omega)
  rw [hk] at TM
  clear row0 hk hkl
  go_wp2_with fail
  clear c0
  refine (TM.out _).mono ?_; rintro e w' ⟨rfl, rfl⟩
  clear TM HK
  go_wp2_with fail
  have HA := Lib.hid (wadd_own pu_sim HI0.out ⟨rfl, fun j h1 _ => by simp at h1⟩ 6 k 0 0 rfl (by omega) (pu_starts HG.out k 0 0 U64.zero HKL.out _ _ _ _) (by simp))
  refine HA.out.mono ?_
  rintro e w2 ⟨x2, f2, rfl, HI2, HF2, HB2', -⟩
  have HCc := Lib.hid (HC0.out.kept hgB HB2'.out)
  have hK0 : Hid (rgK c ⟨6, 1, (k : Int), 0, 0 % 4, 0 % 8, 0, 0, 0, 0, 0⟩) := rgK_new c 6 k 0 0 (by omega) HKL.out U64.zero
  have HKN : Hid (g < B) := hgB
  obtain ⟨aq, qc, hqe⟩ := HSA.out.len
  subst hqe
  clear HA HI0 HC0 HB2' hgB
  go_wp2_with fail
  go_loopw [9] (fun u9 wr => ∃ (i : Nat) (x : WV) (y : WM) (m : MachM) (E : List (Option Nat)), u9 = .int .i64 i ∧ i ≤ 20 ∧ Hid (y.l = [m] ∧ y.m = newE c ∧ y.c = c) ∧ Hid (rgK c m ∧ m.what = 6) ∧ Hid (some g ∈ E) ∧ Hid (WI 49 w wr E B (B + 1) x y) ∧ Hid (FrI PuR (OffS (x.S E B) wr) y) ∧ Hid (CodesE wr g)) (fun u9 _ => 21 - (intOf u9).toNat)
  case atStart => exact ⟨0, x2, _, _, [some g], rfl, by omega, ⟨rfl, rfl, rfl⟩, ⟨hK0.out, rfl⟩, List.mem_singleton.2 rfl, HI2, HF2, HCc⟩
  case round =>
    clear HI2 HF2 HCc hK0
    obtain ⟨i, x, y, m, E, rfl, hi, HY, HK, HE, HI, HF, HC⟩ := hrel
    obtain ⟨wo, rfl⟩ : ∃ wo : World, wo = wr := ⟨_, rfl⟩
    by_cases hlt : i < 20
    · have hltI : (i : Int) < 20 := by omega
      go_wp2_with fail
      refine (nextE g 3 _ HC.out (by omega) (by omega)).mono ?_
      rintro e w5 ⟨z, rfl, hz0, hz1, hcd, hg1⟩
      have HC5 := Lib.hid hcd
      have HI5 := Lib.hid (HI.out.drawn HE.out HKN.out hg1)
      have HF5 := Lib.hid (HF.out.sub pu_sim fun w3 h3 => (OffS.grown (S := x.S E B) hg1 (.inr (by simp [WV.S, HE.out]))).trans1 h3)
      clear hcd hg1 HI HF HC
      have hwz : IntKind.u64.wrap z = z := by rw [IntKind.wrap_u64]; omega
      obtain ⟨nv, hnv⟩ : ∃ nv, z = nv := ⟨_, rfl⟩
      have HNV : Hid (U64 nv) := ⟨by omega, by omega⟩
      rw [hnv] at hwz
      rw [hnv]
      obtain ⟨W6, hW6⟩ : ∃ W6, (w5.alloc (.cells #[.int .u64 0, .bool false, .bool false, .slice none 0 0] 53)).setRow w5.heap.size #[.int .u64 nv, .bool false, .bool false, .slice none 0 0] = W6 := ⟨_, rfl⟩
      have N6 : Hid ((w5.alloc (.cells #[.int .u64 0, .bool false, .bool false, .slice none 0 0] 53)).heap[w5.heap.size]? = some (.cells #[.int .u64 0, .bool false, .bool false, .slice none 0 0] 53 (0, 0))) := heap_alloc_new _ _
      have HB6 : Hid (Below w5.heap.size w5 W6) := hW6 ▸ row_below (below_new (Below.refl _ _) _) (Nat.le_refl _) _
      have R6 : Hid (W6.heap[w5.heap.size]? = some (.cells #[.int .u64 nv, .bool false, .bool false, .slice none 0 0] 53 (0, 0))) := hW6 ▸ setRow_heap _ _ _ _ _ (0, 0) N6.out
      have HW6 := Lib.hid hW6
      clear hW6
      go_upto_region 10 with (refine wpList_store_row rfl 53 _ _ rfl (w5.heap.size) _ rfl rfl 53 #[.int .u64 0, .bool false, .bool false, .slice none 0 0] N6.out (by kernel_rfl) rfl (by simp [Value.oneCell']) ?_)
      rw [HW6.out]
      try simp only [Act.put]
      clear HW6 N6
      have hPn : w5.heap.size < W6.heap.size := (Array.getElem?_eq_some_iff.1 R6.out).1
      have HI6 := Lib.hid (HI5.out.exempt HB6.out w5.heap.size (Nat.le_refl _) hPn)
      have HF6 : Hid (FrI PuR (OffS (x.S (some w5.heap.size :: E) B) W6) y) := HF5.out.sub pu_sim fun w3 h3 => OffS.exempt (S := x.S E B) HB6.out (Nat.le_refl _) w3 h3
      have HC6 := Lib.hid (HC5.out.kept HC5.out.lt HB6.out)
      have HPB : Hid (B < w5.heap.size) := HI5.out.lt
      have RP6 := R6
      obtain ⟨P, hP⟩ : ∃ P, w5.heap.size = P := ⟨_, rfl⟩
      rw [hP] at RP6 HI6 HF6 HPB
      rw [hP]
      obtain ⟨E1, hE1⟩ : ∃ E1, some P :: E = E1 := ⟨_, rfl⟩
      rw [hE1] at HI6 HF6
      have HEg : Hid (some g ∈ E1) := hE1 ▸ List.mem_cons_of_mem _ HE.out
      have HPE : Hid (some P ∈ E1) := hE1 ▸ List.mem_cons_self ..
      clear hE1 HE HI5 HF5 HC5 R6 HB6 hP hPn hwz hnv hz0 hz1
      go_cut [46] (fun s46 wx => Hid (∃ bq : Bool, s46 = .bool bq ∧ (bq = true → i < l2.length ∧ i < 3)) ∧ Hid (wx = W6))
      case first =>
        by_cases h1 : i < l2.length
        · have h1I : (i : Int) < (l2.length : Int) := by omega
          by_cases h2 : i < 3
          · have h2I : (i : Int) < 3 := by omega
            go_wp2_with fail
            go_meet
            exact ⟨⟨true, rfl, fun _ => ⟨h1, h2⟩⟩, rfl⟩
          · have h2I : ¬ (i : Int) < 3 := by omega
            go_wp2_with fail
            go_meet
            exact ⟨⟨false, rfl, fun h => by cases h⟩, rfl⟩
        · have h1I : ¬ (i : Int) < (l2.length : Int) := by omega
          go_wp2_with fail
          go_meet
          exact ⟨⟨false, rfl, fun h => by cases h⟩, rfl⟩
      case rest =>
        obtain ⟨hbb, hw⟩ := hcut
        obtain ⟨bq, rfl, hbq⟩ := hbb.out
        clear hbb
        have hw' := hw.out
        subst hw'
        go_upto_if 46 with (fail)
        go_cut [] (fun wx => ∃ (v2 : Int) (o2 l2' : Bool) (sa : Option Addr) (sn sc : Nat), Hid (wx.heap[P]? = some (.cells #[.int .u64 v2, .bool o2, .bool l2', .slice sa sn sc] 53 (0, 0))) ∧ Hid (U64 v2) ∧ Hid (WI 49 w wx E1 B (B + 1) x y) ∧ Hid (FrI PuR (OffS (x.S E1 B) wx) y) ∧ Hid (CodesE wx g))
        case first =>
          cases bq with
          | false =>
            go_wp2_with fail
            go_meet
            exact ⟨nv, false, false, none, 0, 0, RP6, HNV, HI6, HF6, HC6⟩
          | true =>
            obtain ⟨hi1, hi2⟩ := hbq rfl
            obtain ⟨ab, ao, ac, hae, hab, hcl⟩ := (HSA.out.below HI6.out.below).elemAt i hi1
            obtain ⟨bA, hbA⟩ : ∃ bA, l2.getD i noAns = bA := ⟨_, rfl⟩
            have HUA : Hid (U64 bA.val) := hbA ▸ HSA.out.valU i
            rw [hbA] at hcl
            obtain ⟨e0, e1, e2, e3⟩ := hcl
            simp only [Value.slice.injEq] at hae
            obtain ⟨rfl, -, rfl⟩ := hae
            have hi1I : (i : Int) < (l2.length : Int) := by omega
            clear hbA hbq
            go_wp2_with (refine wpList_store_row rfl 53 _ _ rfl P _ rfl rfl 53 #[.int .u64 nv, .bool false, .bool false, .slice none 0 0] RP6.out (by kernel_rfl) rfl (by simp [Value.oneCell']) ?_)
            have RPF := Lib.hid (setRow_heap _ P _ #[.int .u64 bA.val, .bool bA.ok, .bool bA.late, .slice bA.a bA.n bA.c] _ (0, 0) RP6.out)
            have HIF := Lib.hid (HI6.out.poke HPE.out RP6.out (by have := HPB.out; omega) (row_grown _ P #[.int .u64 bA.val, .bool bA.ok, .bool bA.late, .slice bA.a bA.n bA.c]) (by decide) (by decide) (by decide) (by decide))
            have HFF := Lib.hid (HF6.out.sub pu_sim fun w3 h3 => (OffS.grown (S := x.S E1 B) (row_grown _ P #[.int .u64 bA.val, .bool bA.ok, .bool bA.late, .slice bA.a bA.n bA.c]) (.inr (by simp [WV.S, HPE.out]))).trans1 h3)
            have HCF := Lib.hid (HC6.out.grown (by have := HPB.out; have := HKN.out; omega) (row_grown _ P #[.int .u64 bA.val, .bool bA.ok, .bool bA.late, .slice bA.a bA.n bA.c]))
            try simp only [Act.put]
            go_meet
            exact ⟨_, _, _, _, _, _, RPF, HUA, HIF, HFF, HCF⟩
        case rest =>
          obtain ⟨v2, o2, l2', sa, sn, sc, RP7, HU2v, HI7, HF7, HC7⟩ := hcut
          obtain ⟨w7, rfl⟩ : ∃ w3 : World, w3 = wc := ⟨_, rfl⟩
          clear HI6 HF6 HC6 RP6 HNV hbq
          have HKA : Hid (∀ q ∈ y.l, rgK y.c q) := fun q hq => by rw [HY.out.1, List.mem_singleton] at hq; rw [hq, HY.out.2.2]; exact HK.out.1
          have T16 := Lib.hid (wsame_any pu_sim rg_doc HI7.out HF7.out HKA.out 0 (by rw [HY.out.1]; simp) (by rw [HY.out.1]; simp))
          go_wp2_with fail
          refine T16.out.mono ?_; rintro e w8 ⟨rfl, hb8⟩
          have HI8 := Lib.hid (HI7.out.next hb8)
          have HF8 := Lib.hid (HF7.out.sub pu_sim fun w3 h3 => (OffS.below (S := x.S E1 B) hb8).trans1 h3)
          have RP8 := Lib.hid ((hb8.block P (Array.getElem?_eq_some_iff.1 RP7.out).1).trans RP7.out)
          have HC8 := Lib.hid (HC7.out.kept HC7.out.lt hb8)
          clear T16 hb8 HI7 HF7 RP7 HC7 HKA
          have hfl1 : y.f.length = 1 := by rw [HF8.out.1, HY.out.1]; rfl
          have HFL := Lib.hid hfl1
          obtain ⟨gl, lc, hvl, hlA, hlc, hgl, hgls, hcap, RG, TG⟩ := HI8.out.machAt 0 (by rw [HY.out.1]; simp)
          obtain ⟨fl, fc, hvf, hfA, hfc, hfl, hfls, hfcap, FG, FT⟩ := HI8.out.frameAt 0 (by omega)
          have hm0 : y.l[0]'(by rw [HY.out.1]; simp) = m := by simp [HY.out.1]
          have hR := HF8.out.2 0 (by omega) (by rw [HY.out.1]; simp)
          rw [hm0] at RG hR
          have hown : ownM m = true := what_own HK.out.2
          obtain ⟨r0, r1, s2, k2, l2x, s3, k3, l3, s4, k4, l4, he⟩ := pu_sim.form hR hown
          rw [he] at FG hR
          obtain ⟨m2, hm2⟩ : ∃ m2, rgRE y.c m ⟨v2, o2, l2', []⟩ = m2 := ⟨_, rfl⟩
          have hbU : U64 (AnsM.val ⟨v2, o2, l2', []⟩) := HU2v.out
          have hKm : rgK y.c m := by rw [HY.out.2.2]; exact HK.out.1
          have HK2 : Hid (rgK c m2 ∧ m2.what = 6) := by rw [← hm2, HY.out.2.2]; exact ⟨rgK_RE HK.out.1 hbU, (rgRE_what _ _ _).trans HK.out.2⟩
          have HOW2 : Hid (ownM m2 = true) := what_own HK2.out.2
          have TRD := Lib.hid fun w' (hb : Below w8.heap.size w8 w') => rg_doc.resume y.c m ⟨v2, o2, l2', []⟩ x.cA x.sA x.cc x.sc sa sn sc w' hKm HI8.out.good hbU (HI8.out.next hb).confV
          have TRP := Lib.hid fun w' (hb : Below w8.heap.size w8 w') => pu_resume w' ⟨v2, o2, l2', []⟩ sa sn sc hbU (OffS.below (S := x.S E1 B) hb) hR hown
          rw [hm2] at TRD TRP
          unfold machL at TRD RG
          unfold WV.vc WV.vs at RG
          try dsimp only at TRD TRP
          have HVL := Lib.hid (hvl.trans (by rw [show y.l.length = 1 by rw [HY.out.1]; rfl]))
          have HVF := Lib.hid (hvf.trans (by rw [hfl1]))
          rw [Nat.zero_mul] at TG FT
          have HTG := Lib.hid TG
          have HTF := Lib.hid FT
          have HGL : Hid (B < gl) := hgl
          have HGF : Hid (B < fl ∧ fl ≠ gl) := ⟨hfl, lists_apart HI8.out hlA hfA⟩
          have row0 := HI8.out.row
          unfold WV.row at row0
          rw [hlA, hlc, hfA, hfc, show y.l.length = 1 by rw [HY.out.1]; rfl, hfl1] at row0
          have ROW := Lib.hid row0
          have hg8 := hgls
          have hf8 := hfls
          have hB8 := HI8.out.lt
          have HRG := Lib.hid RG
          have HFG := Lib.hid FG
          have KS18 : Hid (∀ w', Below w8.heap.size w8 w' → (fun w' : World => (w'.cell? ⟨B, 6, none⟩ = some (.slice (some ⟨gl, 0, none⟩) 1 lc) ∧ w'.cell? ⟨B, 9, none⟩ = some (.slice (some ⟨fl, 0, none⟩) 1 fc)) ∧ (w'.cell? ⟨gl, 0, none⟩ = some (.int .i64 m.what) ∧ w'.cell? ⟨gl, 1, none⟩ = some (.int .i64 m.pl) ∧ w'.cell? ⟨gl, 2, none⟩ = some (.slice x.cA y.c.caps.length x.cc) ∧ w'.cell? ⟨gl, 3, none⟩ = some (.slice x.sA y.c.starts.length x.sc) ∧ w'.cell? ⟨gl, 4, none⟩ = some (.int .i64 y.c.threads) ∧ w'.cell? ⟨gl, 5, none⟩ = some (.int .i64 m.chan) ∧ w'.cell? ⟨gl, 6, none⟩ = some (.int .i64 m.thr) ∧ w'.cell? ⟨gl, 7, none⟩ = some (.int .i64 m.idx) ∧ w'.cell? ⟨gl, 8, none⟩ = some (.int .i64 m.kind) ∧ w'.cell? ⟨gl, 9, none⟩ = some (.int .u64 m.val) ∧ w'.cell? ⟨gl, 10, none⟩ = some (.int .u64 m.t) ∧ w'.cell? ⟨gl, 11, none⟩ = some (.int .u64 m.h) ∧ w'.cell? ⟨gl, 12, none⟩ = some (.int .i64 m.ok) ∧ w'.cell? ⟨gl, 13, none⟩ = some (.int .u64 m.ov)) ∧ (w'.cell? ⟨fl, 0, none⟩ = some (.int .i64 r0) ∧ w'.cell? ⟨fl, 1, none⟩ = some (.int .i64 r1) ∧ w'.cell? ⟨fl, 2, none⟩ = some (.slice s2 k2 l2x) ∧ w'.cell? ⟨fl, 3, none⟩ = some (.slice s3 k3 l3) ∧ w'.cell? ⟨fl, 4, none⟩ = some (.slice s4 k4 l4)) ∧ (w'.cell? ⟨P, 0, none⟩ = some (.int .u64 v2) ∧ w'.cell? ⟨P, 1, none⟩ = some (.bool o2) ∧ w'.cell? ⟨P, 2, none⟩ = some (.bool l2') ∧ w'.cell? ⟨P, 3, none⟩ = some (.slice sa sn sc))) w') := fun w' hb => by
            obtain ⟨x0, x1, x2, x3, x4, x5, x6, x7, x8, x9⟩ := rowc10 ((hb.block B hB8).trans ROW.out)
            exact ⟨⟨x6, x9⟩, range14 (range_below HRG.out hb hg8), range5 (range_below HFG.out hb hf8), rowc4 ((hb.block P (Array.getElem?_eq_some_iff.1 RP8.out).1).trans RP8.out)⟩
          clear hvl hlA hlc hgl hcap RG TG hvf hfA hfc hfl hfcap FG FT hm0 hR hown he hm2 hbU hKm row0 hgls hfls hfl1
          go_upto_region 14 with fail
          refine untilK KS18 27 30 (by kernel_rfl) rfl ?_
          obtain ⟨u0, hu0, HU0⟩ := drew_pack w8
          rw [hu0]
          clear hu0
          have hSU0 := KS18.out _ HU0.out
          refine tkU (v := ?_) 0 la0 hSU0 (by kernel_rfl) (fun _ _ _ h => h) rfl ?_ ?_
          rotate_left
          · (intro w hSw; (try dsimp only at hSw); go_simp <;> with_reducible rfl)
          simp only [Act.put, List.setIfInBounds_toArray, List.set_cons_zero, List.set_cons_succ]
          refine tkU (v := ?_) 1 la1 hSU0 (by kernel_rfl) (fun _ _ _ h => h) rfl ?_ ?_
          rotate_left
          · (intro w hSw; (try dsimp only at hSw); go_simp <;> with_reducible rfl)
          simp only [Act.put, List.setIfInBounds_toArray, List.set_cons_zero, List.set_cons_succ]
          refine tkU (v := ?_) 2 la2 hSU0 (by kernel_rfl) (fun _ _ _ h => h) rfl ?_ ?_
          rotate_left
          · (intro w hSw; (try dsimp only at hSw); go_simp <;> with_reducible rfl)
          simp only [Act.put, List.setIfInBounds_toArray, List.set_cons_zero, List.set_cons_succ]
          refine tkU (v := ?_) 3 la3 hSU0 (by kernel_rfl) (fun _ _ _ h => h) rfl ?_ ?_
          rotate_left
          · (intro w hSw; (try dsimp only at hSw); go_simp <;> with_reducible rfl)
          simp only [Act.put, List.setIfInBounds_toArray, List.set_cons_zero, List.set_cons_succ]
          refine tkU (v := ?_) 4 la4 hSU0 (by kernel_rfl) (fun _ _ _ h => h) rfl ?_ ?_
          rotate_left
          · (intro w hSw; (try dsimp only at hSw); go_simp <;> with_reducible rfl)
          simp only [Act.put, List.setIfInBounds_toArray, List.set_cons_zero, List.set_cons_succ]
          refine tkU (v := ?_) 9 la9 hSU0 (by kernel_rfl) (fun _ _ _ h => h) rfl ?_ ?_
          rotate_left
          · (intro w hSw; (try dsimp only at hSw); go_simp <;> with_reducible rfl)
          simp only [Act.put, List.setIfInBounds_toArray, List.set_cons_zero, List.set_cons_succ]
          refine tkU (v := ?_) 10 la10 hSU0 (by kernel_rfl) (fun _ _ _ h => h) rfl ?_ ?_
          rotate_left
          · (intro w hSw; (try dsimp only at hSw); go_simp <;> with_reducible rfl)
          simp only [Act.put, List.setIfInBounds_toArray, List.set_cons_zero, List.set_cons_succ]
          refine tkU (v := ?_) 11 la11 hSU0 (by kernel_rfl) (fun _ _ _ h => h) rfl ?_ ?_
          rotate_left
          · (intro w hSw; (try dsimp only at hSw); go_simp <;> with_reducible rfl)
          simp only [Act.put, List.setIfInBounds_toArray, List.set_cons_zero, List.set_cons_succ]
          refine tkU (v := ?_) 12 la12 hSU0 (by kernel_rfl) (fun _ _ _ h => h) rfl ?_ ?_
          rotate_left
          · (intro w hSw; (try dsimp only at hSw); go_simp <;> with_reducible rfl)
          simp only [Act.put, List.setIfInBounds_toArray, List.set_cons_zero, List.set_cons_succ]
          refine tkU (v := ?_) 13 la13 hSU0 (by kernel_rfl) (fun _ _ _ h => h) rfl ?_ ?_
          rotate_left
          · (intro w hSw; (try dsimp only at hSw); go_simp <;> with_reducible rfl)
          simp only [Act.put, List.setIfInBounds_toArray, List.set_cons_zero, List.set_cons_succ]
          refine tkU (v := ?_) 14 la14 hSU0 (by kernel_rfl) (fun _ _ _ h => h) rfl ?_ ?_
          rotate_left
          · (intro w hSw; (try dsimp only at hSw); go_simp <;> with_reducible rfl)
          simp only [Act.put, List.setIfInBounds_toArray, List.set_cons_zero, List.set_cons_succ]
          refine tkU (v := ?_) 15 la15 hSU0 (by kernel_rfl) (fun _ _ _ h => h) rfl ?_ ?_
          rotate_left
          · (intro w hSw; (try dsimp only at hSw); go_simp <;> with_reducible rfl)
          simp only [Act.put, List.setIfInBounds_toArray, List.set_cons_zero, List.set_cons_succ]
          refine tkU (v := ?_) 16 la16 hSU0 (by kernel_rfl) (fun _ _ _ h => h) rfl ?_ ?_
          rotate_left
          · (intro w hSw; (try dsimp only at hSw); go_simp <;> with_reducible rfl)
          simp only [Act.put, List.setIfInBounds_toArray, List.set_cons_zero, List.set_cons_succ]
          refine wpAnyU_takeW (v := ?_) 5 la5 (by kernel_rfl) (by kernel_rfl) (by kernel_rfl) (by kernel_rfl) (fun _ _ _ h => h) (fun _ => hSU0) rfl ?_ ?_
          rotate_left
          · (intro w; go_simp <;> with_reducible rfl)
          simp only [Act.put, List.setIfInBounds_toArray, List.set_cons_zero, List.set_cons_succ]
          refine wpAnyU_takeW (v := ?_) 6 la6 (by kernel_rfl) (by kernel_rfl) (by kernel_rfl) (by kernel_rfl) (fun _ _ _ h => h) (fun _ => hSU0) rfl ?_ ?_
          rotate_left
          · (intro w; go_simp <;> with_reducible rfl)
          simp only [Act.put, List.setIfInBounds_toArray, List.set_cons_zero, List.set_cons_succ]
          refine wpAnyU_takeW (v := ?_) 7 la7 (by kernel_rfl) (by kernel_rfl) (by kernel_rfl) (by kernel_rfl) (fun _ _ _ h => h) (fun _ => hSU0) rfl ?_ ?_
          rotate_left
          · (intro w; go_simp <;> with_reducible rfl)
          simp only [Act.put, List.setIfInBounds_toArray, List.set_cons_zero, List.set_cons_succ]
          refine tkU (v := ?_) 8 la8 hSU0 (by kernel_rfl) (fun _ _ _ h => h) rfl ?_ ?_
          rotate_left
          · (intro w hSw; (try dsimp only at hSw); go_simp <;> with_reducible rfl)
          simp only [Act.put, List.setIfInBounds_toArray, List.set_cons_zero, List.set_cons_succ]
          refine wpAnyU_takeW (v := ?_) 18 la18 (by kernel_rfl) (by kernel_rfl) (by kernel_rfl) (by kernel_rfl) (fun _ _ _ h => h) (fun _ => hSU0) rfl ?_ ?_
          rotate_left
          · (intro w; go_simp <;> with_reducible rfl)
          simp only [Act.put, List.setIfInBounds_toArray, List.set_cons_zero, List.set_cons_succ]
          refine wpAnyU_takeW (v := ?_) 19 la19 (by kernel_rfl) (by kernel_rfl) (by kernel_rfl) (by kernel_rfl) (fun _ _ _ h => h) (fun _ => hSU0) rfl ?_ ?_
          rotate_left
          · (intro w; go_simp <;> with_reducible rfl)
          simp only [Act.put, List.setIfInBounds_toArray, List.set_cons_zero, List.set_cons_succ]
          refine wpAnyU_takeW (v := ?_) 20 la20 (by kernel_rfl) (by kernel_rfl) (by kernel_rfl) (by kernel_rfl) (fun _ _ _ h => h) (fun _ => hSU0) rfl ?_ ?_
          rotate_left
          · (intro w; go_simp <;> with_reducible rfl)
          simp only [Act.put, List.setIfInBounds_toArray, List.set_cons_zero, List.set_cons_succ]
          refine tkU (v := ?_) 21 la21 hSU0 (by kernel_rfl) (fun _ _ _ h => h) rfl ?_ ?_
          rotate_left
          · (intro w hSw; (try dsimp only at hSw); go_simp <;> with_reducible rfl)
          simp only [Act.put, List.setIfInBounds_toArray, List.set_cons_zero, List.set_cons_succ]
          refine wpAnyU_takeW (v := ?_) 22 la22 (by kernel_rfl) (by kernel_rfl) (by kernel_rfl) (by kernel_rfl) (fun _ _ _ h => h) (fun _ => hSU0) rfl ?_ ?_
          rotate_left
          · (intro w; go_simp <;> with_reducible rfl)
          simp only [Act.put, List.setIfInBounds_toArray, List.set_cons_zero, List.set_cons_succ]
          refine tkU (v := ?_) 23 la23 hSU0 (by kernel_rfl) (fun _ _ _ h => h) rfl ?_ ?_
          rotate_left
          · (intro w hSw; (try dsimp only at hSw); go_simp <;> with_reducible rfl)
          simp only [Act.put, List.setIfInBounds_toArray, List.set_cons_zero, List.set_cons_succ]
          refine wpAnyU_ready (rs := [17, 24]) (by kernel_rfl) rfl ?_
          refine AllReadyU.cons la17 rfl (fun K hK => ?_) ?_
          · go_simp
            go_at_call 16
            refine (TRD.out _ HU0.out).mono ?_
            rintro e u1 ⟨rfl, hb⟩
            have HU1 := Lib.hid (below_then HU0.out hb)
            clear hb
            refine hK.out _ _ ?_ (fun hSU1 => ?_)
            · exact KS18.out _ HU1.out
            clear hK K hSU0
            try simp only [Act.put, List.setIfInBounds_toArray, List.set_cons_zero, List.set_cons_succ]
            refine wpAnyU_ready (rs := [24]) (by kernel_rfl) rfl ?_
            refine AllReadyU.cons la24 rfl (fun K hK => ?_) ?_
            · go_simp
              refine hK.out _ _ ?_ (fun hSU2 => ?_)
              · exact KS18.out _ HU1.out
              clear hK K hSU1
              try simp only [Act.put, List.setIfInBounds_toArray, List.set_cons_zero, List.set_cons_succ]
              refine wpAnyU_ready (rs := [25]) (by kernel_rfl) rfl ?_
              refine AllReadyU.cons la25 rfl (fun K hK => ?_) ?_
              · go_simp
                go_at_call 17
                refine (TRP.out _ HU1.out).mono ?_
                rintro e u2 ⟨f2, rfl, hr2, hb⟩
                obtain ⟨t0, t1, d2, e2, g2, d3, e3, g3, d4, e4, g4, hfe⟩ := pu_sim.form hr2 HOW2.out
                subst hfe
                have HR2 := Lib.hid hr2
                have HUb := Lib.hid hb
                have HU2 := Lib.hid (below_then HU1.out hb)
                clear hb hr2
                try dsimp only
                refine hK.out _ _ ?_ (fun hSU3 => ?_)
                · exact KS18.out _ HU2.out
                clear hK K hSU2
                try simp only [Act.put, List.setIfInBounds_toArray, List.set_cons_zero, List.set_cons_succ]
                refine tkU (v := ?_) 26 la26 hSU3 (by kernel_rfl) (fun _ _ _ h => h) rfl ?_ ?_
                rotate_left
                · (intro w hSw; (try dsimp only at hSw); go_simp <;> with_reducible rfl)
                simp only [Act.put, List.setIfInBounds_toArray, List.set_cons_zero, List.set_cons_succ]
                refine wpAnyU_ready (rs := [27]) (by kernel_rfl) rfl ?_
                refine AllReadyU.free la27 rfl (by kernel_rfl) (fun K hK => ?_) ?_
                · refine step_store_mid rfl 58 (Operand.tmp 80) (Operand.tmp 71) rfl gl 0 #[.int .i64 m2.what, .int .i64 m2.pl, .slice x.cA y.c.caps.length x.cc, .slice x.sA y.c.starts.length x.sc, .int .i64 y.c.threads, .int .i64 m2.chan, .int .i64 m2.thr, .int .i64 m2.idx, .int .i64 m2.kind, .int .u64 m2.val, .int .u64 m2.t, .int .u64 m2.h, .int .i64 m2.ok, .int .u64 m2.ov] (by rfl) (by rfl) (there_below HTG.out HU2.out hg8) (by kernel_rfl) (by simp [Value.oneCell']) ?_
                  refine hK.out _ _ ?_
                  clear hK K hSU3
                  try simp only [Act.put, List.setIfInBounds_toArray, List.set_cons_zero, List.set_cons_succ]
                  obtain ⟨HIa, HINa⟩ := (HI8.out.next HU2.out).setL (b := gl) (i := 0) (z := m2) (n := 1) (cap := lc) HVL.out (by rw [HY.out.1]; simp) rfl (by intro u hu; simp only [machL, List.mem_cons, List.not_mem_nil, or_false] at hu; rcases hu with rfl | rfl | rfl | rfl | rfl | rfl | rfl | rfl | rfl | rfl | rfl | rfl | rfl | rfl <;> rfl)
                  unfold machL WV.vc WV.vs at HIa HINa
                  rw [Nat.zero_mul] at HIa HINa
                  have HTF9 := Lib.hid (there_keep (a := gl) (o1 := 0) (l1 := [.int .i64 m2.what, .int .i64 m2.pl, .slice x.cA y.c.caps.length x.cc, .slice x.sA y.c.starts.length x.sc, .int .i64 y.c.threads, .int .i64 m2.chan, .int .i64 m2.thr, .int .i64 m2.idx, .int .i64 m2.kind, .int .u64 m2.val, .int .u64 m2.t, .int .u64 m2.h, .int .i64 m2.ok, .int .u64 m2.ov]) HTF.out HU2.out hf8 (by have := HGF.out; omega))
                  have HC9 := Lib.hid ((HC8.out.kept HC8.out.lt HU2.out).grown (show g < gl by have := HKN.out; have := HGL.out; omega) (setCells_grown gl [.int .i64 m2.what, .int .i64 m2.pl, .slice x.cA y.c.caps.length x.cc, .slice x.sA y.c.starts.length x.sc, .int .i64 y.c.threads, .int .i64 m2.chan, .int .i64 m2.thr, .int .i64 m2.idx, .int .i64 m2.kind, .int .u64 m2.val, .int .u64 m2.t, .int .u64 m2.h, .int .i64 m2.ok, .int .u64 m2.ov] 0 u2))
                  have HI9 := Lib.hid HIa
                  have HIN9 := Lib.hid HINa
                  clear HIa HINa
                  generalize hu3 : World.setCells u2 gl 0 _ = u3 at *
                  clear hu3
                  refine wpAnyU_takeW (v := ?_) 28 la28 (by kernel_rfl) (by kernel_rfl) (by kernel_rfl) (by kernel_rfl) (fun _ _ _ h => h) (past_k (by kernel_rfl)) rfl ?_ ?_
                  rotate_left
                  · (intro w; go_simp <;> with_reducible rfl)
                  simp only [Act.put, List.setIfInBounds_toArray, List.set_cons_zero, List.set_cons_succ]
                  refine wpAnyU_ready (rs := [29]) (by kernel_rfl) rfl ?_
                  refine AllReadyU.free la29 rfl (by kernel_rfl) (fun K hK => ?_) ?_
                  · refine step_store_mid rfl 61 (Operand.tmp 81) (Operand.tmp 79) rfl fl 0 #[.int .i64 t0, .int .i64 t1, .slice d2 e2 g2, .slice d3 e3 g3, .slice d4 e4 g4] (by rfl) (by rfl) HTF9.out (by kernel_rfl) (by simp [Value.oneCell']) ?_
                    refine hK.out _ _ ?_
                    clear hK K
                    try simp only [Act.put, List.setIfInBounds_toArray, List.set_cons_zero, List.set_cons_succ]
                    refine wpAnyU_done (by kernel_rfl) ?_ _
                    obtain ⟨HIb, HINb⟩ := HI9.out.setF (b := fl) (i := 0) (z := [.int .i64 t0, .int .i64 t1, .slice d2 e2 g2, .slice d3 e3 g3, .slice d4 e4 g4]) (n := 1) (cap := fc) HVF.out (by show 0 < y.f.length; rw [HFL.out]; simp) rfl (by intro u hu; simp only [List.mem_cons, List.not_mem_nil, or_false] at hu; rcases hu with rfl | rfl | rfl | rfl | rfl <;> rfl)
                    rw [Nat.zero_mul] at HIb HINb
                    have HIF := Lib.hid HIb
                    have HIN := Lib.hid fun w3 h3 => HIN9.out w3 (HINb w3 h3)
                    clear HIb HINb
                    have HFF := Lib.hid (fr_ans HR2.out HU1.out HUb.out HIN.out HI8.out.Slt HFL.out HY.out.1)
                    have HCF := Lib.hid (HC9.out.grown (show g < fl by have := HKN.out; have := HGF.out; omega) (setCells_grown fl [.int .i64 t0, .int .i64 t1, .slice d2 e2 g2, .slice d3 e3 g3, .slice d4 e4 g4] 0 _))
                    have hy1 : y.l.set 0 m2 = [m2] := by rw [HY.out.1]; rfl
                    clear TRD TRP KS18 HU0 HU1 HUb HU2 HR2
                    go_wp2_with fail
                    go_roundw
                    case rel => exact ⟨i + 1, x, { y with l := y.l.set 0 m2, f := y.f.set 0 [.int .i64 t0, .int .i64 t1, .slice d2 e2 g2, .slice d3 e3 g3, .slice d4 e4 g4] }, m2, E1, by go_num, by omega, ⟨hy1, HY.out.2.1, HY.out.2.2⟩, HK2.out, HEg, HIF, HFF, HCF⟩
                    case measure => simp [intOf]; omega
                  exact AllReadyU.nil
                exact AllReadyU.nil
              exact AllReadyU.nil
            exact AllReadyU.nil
          refine AllReadyU.cons la24 rfl (fun K hK => ?_) ?_
          · go_simp
            refine hK.out _ _ ?_ (fun hSU4 => ?_)
            · exact KS18.out _ HU0.out
            clear hK K hSU0
            try simp only [Act.put, List.setIfInBounds_toArray, List.set_cons_zero, List.set_cons_succ]
            refine wpAnyU_ready (rs := [17]) (by kernel_rfl) rfl ?_
            refine AllReadyU.cons la17 rfl (fun K hK => ?_) ?_
            · go_simp
              go_at_call 16
              refine (TRD.out _ HU0.out).mono ?_
              rintro e u1 ⟨rfl, hb⟩
              have HU1 := Lib.hid (below_then HU0.out hb)
              clear hb
              refine hK.out _ _ ?_ (fun hSU5 => ?_)
              · exact KS18.out _ HU1.out
              clear hK K hSU4
              try simp only [Act.put, List.setIfInBounds_toArray, List.set_cons_zero, List.set_cons_succ]
              refine wpAnyU_ready (rs := [25]) (by kernel_rfl) rfl ?_
              refine AllReadyU.cons la25 rfl (fun K hK => ?_) ?_
              · go_simp
                go_at_call 17
                refine (TRP.out _ HU1.out).mono ?_
                rintro e u2 ⟨f2, rfl, hr2, hb⟩
                obtain ⟨t0, t1, d2, e2, g2, d3, e3, g3, d4, e4, g4, hfe⟩ := pu_sim.form hr2 HOW2.out
                subst hfe
                have HR2 := Lib.hid hr2
                have HUb := Lib.hid hb
                have HU2 := Lib.hid (below_then HU1.out hb)
                clear hb hr2
                try dsimp only
                refine hK.out _ _ ?_ (fun hSU6 => ?_)
                · exact KS18.out _ HU2.out
                clear hK K hSU5
                try simp only [Act.put, List.setIfInBounds_toArray, List.set_cons_zero, List.set_cons_succ]
                refine tkU (v := ?_) 26 la26 hSU6 (by kernel_rfl) (fun _ _ _ h => h) rfl ?_ ?_
                rotate_left
                · (intro w hSw; (try dsimp only at hSw); go_simp <;> with_reducible rfl)
                simp only [Act.put, List.setIfInBounds_toArray, List.set_cons_zero, List.set_cons_succ]
                refine wpAnyU_ready (rs := [27]) (by kernel_rfl) rfl ?_
                refine AllReadyU.free la27 rfl (by kernel_rfl) (fun K hK => ?_) ?_
                · refine step_store_mid rfl 58 (Operand.tmp 80) (Operand.tmp 71) rfl gl 0 #[.int .i64 m2.what, .int .i64 m2.pl, .slice x.cA y.c.caps.length x.cc, .slice x.sA y.c.starts.length x.sc, .int .i64 y.c.threads, .int .i64 m2.chan, .int .i64 m2.thr, .int .i64 m2.idx, .int .i64 m2.kind, .int .u64 m2.val, .int .u64 m2.t, .int .u64 m2.h, .int .i64 m2.ok, .int .u64 m2.ov] (by rfl) (by rfl) (there_below HTG.out HU2.out hg8) (by kernel_rfl) (by simp [Value.oneCell']) ?_
                  refine hK.out _ _ ?_
                  clear hK K hSU6
                  try simp only [Act.put, List.setIfInBounds_toArray, List.set_cons_zero, List.set_cons_succ]
                  obtain ⟨HIa, HINa⟩ := (HI8.out.next HU2.out).setL (b := gl) (i := 0) (z := m2) (n := 1) (cap := lc) HVL.out (by rw [HY.out.1]; simp) rfl (by intro u hu; simp only [machL, List.mem_cons, List.not_mem_nil, or_false] at hu; rcases hu with rfl | rfl | rfl | rfl | rfl | rfl | rfl | rfl | rfl | rfl | rfl | rfl | rfl | rfl <;> rfl)
                  unfold machL WV.vc WV.vs at HIa HINa
                  rw [Nat.zero_mul] at HIa HINa
                  have HTF9 := Lib.hid (there_keep (a := gl) (o1 := 0) (l1 := [.int .i64 m2.what, .int .i64 m2.pl, .slice x.cA y.c.caps.length x.cc, .slice x.sA y.c.starts.length x.sc, .int .i64 y.c.threads, .int .i64 m2.chan, .int .i64 m2.thr, .int .i64 m2.idx, .int .i64 m2.kind, .int .u64 m2.val, .int .u64 m2.t, .int .u64 m2.h, .int .i64 m2.ok, .int .u64 m2.ov]) HTF.out HU2.out hf8 (by have := HGF.out; omega))
                  have HC9 := Lib.hid ((HC8.out.kept HC8.out.lt HU2.out).grown (show g < gl by have := HKN.out; have := HGL.out; omega) (setCells_grown gl [.int .i64 m2.what, .int .i64 m2.pl, .slice x.cA y.c.caps.length x.cc, .slice x.sA y.c.starts.length x.sc, .int .i64 y.c.threads, .int .i64 m2.chan, .int .i64 m2.thr, .int .i64 m2.idx, .int .i64 m2.kind, .int .u64 m2.val, .int .u64 m2.t, .int .u64 m2.h, .int .i64 m2.ok, .int .u64 m2.ov] 0 u2))
                  have HI9 := Lib.hid HIa
                  have HIN9 := Lib.hid HINa
                  clear HIa HINa
                  generalize hu3 : World.setCells u2 gl 0 _ = u3 at *
                  clear hu3
                  refine wpAnyU_takeW (v := ?_) 28 la28 (by kernel_rfl) (by kernel_rfl) (by kernel_rfl) (by kernel_rfl) (fun _ _ _ h => h) (past_k (by kernel_rfl)) rfl ?_ ?_
                  rotate_left
                  · (intro w; go_simp <;> with_reducible rfl)
                  simp only [Act.put, List.setIfInBounds_toArray, List.set_cons_zero, List.set_cons_succ]
                  refine wpAnyU_ready (rs := [29]) (by kernel_rfl) rfl ?_
                  refine AllReadyU.free la29 rfl (by kernel_rfl) (fun K hK => ?_) ?_
                  · refine step_store_mid rfl 61 (Operand.tmp 81) (Operand.tmp 79) rfl fl 0 #[.int .i64 t0, .int .i64 t1, .slice d2 e2 g2, .slice d3 e3 g3, .slice d4 e4 g4] (by rfl) (by rfl) HTF9.out (by kernel_rfl) (by simp [Value.oneCell']) ?_
                    refine hK.out _ _ ?_
                    clear hK K
                    try simp only [Act.put, List.setIfInBounds_toArray, List.set_cons_zero, List.set_cons_succ]
                    refine wpAnyU_done (by kernel_rfl) ?_ _
                    obtain ⟨HIb, HINb⟩ := HI9.out.setF (b := fl) (i := 0) (z := [.int .i64 t0, .int .i64 t1, .slice d2 e2 g2, .slice d3 e3 g3, .slice d4 e4 g4]) (n := 1) (cap := fc) HVF.out (by show 0 < y.f.length; rw [HFL.out]; simp) rfl (by intro u hu; simp only [List.mem_cons, List.not_mem_nil, or_false] at hu; rcases hu with rfl | rfl | rfl | rfl | rfl <;> rfl)
                    rw [Nat.zero_mul] at HIb HINb
                    have HIF := Lib.hid HIb
                    have HIN := Lib.hid fun w3 h3 => HIN9.out w3 (HINb w3 h3)
                    clear HIb HINb
                    have HFF := Lib.hid (fr_ans HR2.out HU1.out HUb.out HIN.out HI8.out.Slt HFL.out HY.out.1)
                    have HCF := Lib.hid (HC9.out.grown (show g < fl by have := HKN.out; have := HGF.out; omega) (setCells_grown fl [.int .i64 t0, .int .i64 t1, .slice d2 e2 g2, .slice d3 e3 g3, .slice d4 e4 g4] 0 _))
                    have hy1 : y.l.set 0 m2 = [m2] := by rw [HY.out.1]; rfl
                    clear TRD TRP KS18 HU0 HU1 HUb HU2 HR2
                    go_wp2_with fail
                    go_roundw
                    case rel => exact ⟨i + 1, x, { y with l := y.l.set 0 m2, f := y.f.set 0 [.int .i64 t0, .int .i64 t1, .slice d2 e2 g2, .slice d3 e3 g3, .slice d4 e4 g4] }, m2, E1, by go_num, by omega, ⟨hy1, HY.out.2.1, HY.out.2.2⟩, HK2.out, HEg, HIF, HFF, HCF⟩
                    case measure => simp [intOf]; omega
                  exact AllReadyU.nil
                exact AllReadyU.nil
              exact AllReadyU.nil
            exact AllReadyU.nil
          exact AllReadyU.nil
    · have hge : ¬ (i : Int) < 20 := by omega
      have HKA : Hid (∀ q ∈ y.l, rgK y.c q) := fun q hq => by rw [HY.out.1, List.mem_singleton] at hq; rw [hq, HY.out.2.2]; exact HK.out.1
      have T16 := Lib.hid (wsame_any pu_sim rg_doc HI.out HF.out HKA.out 0 (by rw [HY.out.1]; simp) (by rw [HY.out.1]; simp))
      have HBF := Lib.hid HI.out.below
      clear HI HF HC HKA
      go_wp2_with fail
      refine T16.out.mono ?_; rintro e w8 ⟨rfl, hb8⟩
      have HBG := Lib.hid (below_then HBF.out hb8)
      clear T16 hb8
      go_wp2_with fail
      go_ret
      exact ⟨rfl, HBG.out⟩
set_option maxRecDepth 100000 in
theorem lifted (os : Os) (started : os.Started) (H : Type) (enc : TypeId × Value → H) :
    ReturnsInHanded {} Try.checked os 4 .any (Rows.countAnswersSpec.pre6 enc Try.prog Try.f4 Rows.countAnswersRow.domain false) (Rows.countAnswersSpec.post enc Try.prog Try.f4 false true false false) := by
  refine returnsInHanded_of_change_sized (C := Try.checked) own started (by kernel_rfl) Try.func4
    (ChangeSpec.witness6 (enc := enc) (C := Try.checked) false ⟨#[], #[.slice none 0 0, .int .i64 0, .slice none 0 0], []⟩ 8 (by kernel_rfl) (by kernel_rfl) (by kernel_rfl) (by kernel_rfl)) ?_
  intro W base args ds gs before hval0 hW _ hsz0 _
  have hsz : (DataW.weightsEach Try.prog (Try.f4.params.toList ++ Rows.countAnswersSpec.plain.varTypes Try.prog) (ds ++ gs)).all (· ≤ reachBytes) = true := hsz0
  clear hsz0
  have hval : ∀ (j : Nat) t v, Try.f4.params[j]? = some t → args[j]? = some v → Value.okWide Try.prog W .any base t v := hval0
  have hW' := hW
  obtain ⟨p, q, hA0, hV, rfl, _, _⟩ := hW
  have hA : DataW.TrodAll enc Try.prog W 0 (fun _ => true) true Try.f4.params.toList args.toList ds p := hA0
  rw [Try.params4] at hA hval hsz
  obtain ⟨v0, vs0, d0, ds0, p0, q0, hargs, rfl, rfl, h0, r0⟩ := trodAll_cons hA
  obtain ⟨v1, vs1, d1, ds1, p1, q1, rfl, rfl, rfl, h1, r1⟩ := trodAll_cons r0
  obtain ⟨v2, vs2, d2, ds2, p2, q2, rfl, rfl, rfl, h2, r2⟩ := trodAll_cons r1
  obtain ⟨rfl, rfl, rfl⟩ := trodAll_nil r2
  obtain rfl : args = #[v0, v1, v2] := by cases args; simp_all
  obtain ⟨rfl, rfl⟩ := trodVars_none hV
  have k0 := h0
  have k1 := h1
  have k2 := h2
  obtain ⟨l0, s0⟩ := view_sl (k := .u8) Try.underlying22 Try.underlying5 (by kernel_rfl) (fun elems sp hd => sized_slice hsz (j := 0) (t := 22) (e := 5) rfl (by rw [hd]; rfl) Try.underlying22) (of_decide_eq_true (by kernel_rfl)) (hval 0 22 v0 rfl rfl) h0
  obtain ⟨a1, rfl, -, -, w1⟩ := open_int Try.underlying3 (hval 1 3 v1 rfl rfl) h1
  obtain ⟨l2, s2⟩ := view_answers (fun elems sp hd => sized_slice hsz (j := 2) (t := 30) (e := 53) rfl (by rw [hd]; rfl) Try.underlying30) (hval 2 30 v2 rfl rfl) h2
  clear hA0 hval0
  simp only [List.append_nil] at hW'
  have hlt := hW'.lt
  refine (walk W v0 l0 s0 a1 w1 v2 l2 s2).mono fun e W' ⟨he, hb⟩ => ?_
  subst he
  exact ⟨_, rfl, _, _, _, [], _, [], hW', trodAll_cons_mk (shut_bool Try.underlying4 _) trodAll_mk0, (trodAll_cons_mk (Below.trod Try.laidOut (by kernel_rfl) (of_decide_eq_true (by kernel_rfl)) k0 hb (fun x hx => by simpa using hlt x (by simp [hx]))) (trodAll_cons_mk (Below.trod Try.laidOut (by kernel_rfl) (of_decide_eq_true (by kernel_rfl)) k1 hb (fun x hx => by simpa using hlt x (by simp [hx]))) (trodAll_cons_mk (Below.trod Try.laidOut (by kernel_rfl) (of_decide_eq_true (by kernel_rfl)) k2 hb (fun x hx => by simpa using hlt x (by simp [hx]))) trodAll_mk0))), rfl, hb.frame _, fun h => by cases h⟩
theorem over : Rows.countAnswersRow.holds Try.pinned (OpenSpec.ofChange Rows.countAnswersSpec) :=
  OpenClaim.holds_of_wide 4 Try.f4 rfl rfl rfl rfl rfl rfl rfl ⟨rfl, rfl, rfl, rfl, rfl⟩ rfl rfl rfl rfl rfl (by kernel_rfl) Try.func4 (by kernel_rfl)
    (of_decide_eq_true (by kernel_rfl)) (by unfold Func.isWrapper; first | (rw [if_pos (by decide +kernel)]; kernel_rfl) | (rw [if_neg (by decide +kernel)]; exact ⟨rfl, rfl⟩))
    (fun os started H enc _ => lifted os started H enc)
/-- THE STATEMENT -/
theorem proved : Rows.CountAnswersSaid :=
  over
end Go.Proofs.Ytjnlkemdaffgbaa.countAnswers
