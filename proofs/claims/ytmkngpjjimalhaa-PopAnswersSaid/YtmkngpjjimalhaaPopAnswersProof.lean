/- Proved: PopAnswers returns true, and its arguments read afterwards as before, for every list of codes and every list of answers; no condition. -/
import Derived.LoopTactic
import Derived.WalkKit
import Derived.ProofKit
import Derived.OpenShut
import Derived.SizedLaws
import Derived.Test.YtmkngpjjimalhaaB01
import Derived.Test.YtmkngpjjimalhaaB05
import Derived.Test.YtmkngpjjimalhaaB31
namespace Go.Proofs.Ytmkngpjjimalhaa.popAnswers
open Go.ChangeShapes Go.WideShapes Go.ChangeAt Go.RowKit
set_option linter.unusedVariables false
set_option linter.unusedSimpArgs false
set_option maxRecDepth 100000 in
set_option maxHeartbeats 64000000 in
theorem walk (w : World) (v0 : Value) (l0 : List Int) (s0 : SlI w .u8 v0 l0) (v1 : Value) (l1 : List AnsC) (s1 : SlA w v1 l1) :
    Calls Try.prog 4 #[v0, v1] w fun e w' => e = .returned (.bool true) ∧ Below w.heap.size w w' := by
  have HS := Lib.hid s0
  have HSA := Lib.hid s1
  clear s0 s1
  go_enter Try.func4, Try.ntmps4
  go_wp2_with fail
  refine (awake8_any _).mono ?_; rintro e wa ⟨rfl, hba⟩
  have HBA := Lib.hid hba
  clear hba
  go_wp2_with fail
  refine (new_any _ l0 60 _ (HS.out.below HBA.out) (by omega)).mono ?_; rintro e wb ⟨rfl, hcb, hbb⟩
  have HCB : Hid (CodesE wb wa.heap.size) := ⟨_, _, hcb⟩
  have HBB : Hid (Below w.heap.size w wb) := below_then HBA.out hbb
  clear hcb hbb HS
  obtain ⟨g, hg⟩ : ∃ g, wa.heap.size = g := ⟨_, rfl⟩
  have HGW : Hid (w.heap.size ≤ g) := by have := HBA.out.size; show _ ≤ _; omega
  rw [hg] at HCB
  rw [hg]
  clear hg HBA
  go_wp2_with fail
  refine (configO g _ HCB.out).mono ?_; rintro e wf ⟨vc, vs, c, rfl, hvc, hvs, hgood, hc1, hc3, hcc, hgc⟩
  have HBC : Hid (Below w.heap.size w wf) := HBB.out.grown hgc HBB.out.size (fun k hk => by cases hk; exact HGW.out)
  obtain ⟨a, cap, hae⟩ : ∃ a cap, vc = .slice (some ⟨a, 0, none⟩) c.caps.length cap := by
    rcases hvc.shape with ⟨_, h2⟩ | ⟨g', cap', h2, _⟩
    · rw [h2] at hc1; simp at hc1
    · exact ⟨g', cap', h2⟩
  subst hae
  obtain ⟨a2', cap2, hae2⟩ : ∃ a2' cap2, vs = .slice a2' c.starts.length cap2 := by
    rcases hvs.shape with ⟨rfl, h2⟩ | ⟨g', cap', h2, _⟩
    · exact ⟨_, _, by rw [h2]; rfl⟩
    · exact ⟨_, _, h2⟩
  subst hae2
  have HAG : Hid (g < a ∧ a < wf.heap.size) := by
    have h1 := hvc.own_ge a rfl
    have h2 := HCB.out.lt
    rcases hvc.shape with ⟨h3, _⟩ | ⟨g', cap', h3, h4, h5, _⟩
    · cases h3
    · simp only [Value.slice.injEq, Option.some.injEq, Addr.mk.injEq] at h3
      obtain ⟨⟨rfl, _⟩, _⟩ := h3
      exact ⟨by omega, h5⟩
  have HAP := Lib.hid (own_apart hvs hvc (by decide))
  have HSG : Hid (∀ j, (Value.slice a2' c.starts.length cap2).ownBlock = some j → g < j) := fun j hj => by
    have h1 := hvs.own_ge j hj
    have h2 := HCB.out.lt
    omega
  have hgwb : g + 1 ≤ wb.heap.size := HCB.out.lt
  have HVC := Lib.hid hvc
  have HVS := Lib.hid hvs
  have HCC := Lib.hid hcc
  have HG := Lib.hid hgood
  have HC1 := Lib.hid hc1
  have HC3 := Lib.hid hc3
  clear hvc hvs hcc hgood hgc hc1 hc3 HBB HCB
  obtain ⟨W1, hW1⟩ : ∃ W1, (wf.alloc (.cells #[.slice none 0 0, .slice none 0 0, .int .i64 0] 36)).setRow wf.heap.size #[.slice (some ⟨a, 0, none⟩) c.caps.length cap, .slice a2' c.starts.length cap2, .int .i64 c.threads] = W1 := ⟨_, rfl⟩
  have N1 : Hid ((wf.alloc (.cells #[.slice none 0 0, .slice none 0 0, .int .i64 0] 36)).heap[wf.heap.size]? = some (.cells #[.slice none 0 0, .slice none 0 0, .int .i64 0] 36 (0, 0))) := heap_alloc_new _ _
  have HB1 : Hid (Below wf.heap.size wf W1) := hW1 ▸ row_below (below_new (Below.refl _ _) _) (Nat.le_refl _) _
  have R1 : Hid (W1.heap[wf.heap.size]? = some (.cells #[.slice (some ⟨a, 0, none⟩) c.caps.length cap, .slice a2' c.starts.length cap2, .int .i64 c.threads] 36 (0, 0))) := hW1 ▸ setRow_heap _ _ _ _ _ (0, 0) N1.out
  have HW1 := Lib.hid hW1
  clear hW1
  go_upto_region 5 with (refine wpList_store_row rfl 36 _ _ rfl (wf.heap.size) _ rfl rfl 36 #[.slice none 0 0, .slice none 0 0, .int .i64 0] N1.out (by kernel_rfl) rfl (by simp [Value.oneCell']) ?_)
  rw [HW1.out]
  try simp only [Act.put]
  clear HW1 N1
  obtain ⟨X, hX⟩ : ∃ X, wf.heap.size = X := ⟨_, rfl⟩
  have hXw : Hid (wf.heap.size ≤ X) := by show _ ≤ _; omega
  rw [hX] at R1
  rw [hX]
  clear hX
  have HXW : Hid (wf.heap.size ≤ X) := hXw
  have HV1 := Lib.hid (HVC.out.below HB1.out)
  have HS1 := Lib.hid (HVS.out.below HB1.out)
  have HC1w := Lib.hid (HCC.out.kept HCC.out.lt HB1.out)
  have hX1 := (Array.getElem?_eq_some_iff.1 R1.out).1
  have hl0 : (0 : Int) < (c.caps.length : Int) := by have := HC1.out; omega
  have hl1 : 0 < c.caps.length := by have := HC1.out; omega
  have KS3 : Hid (∀ w', w'.heap[X]? = W1.heap[X]? → (fun w' : World => w'.cell? ⟨X, 0, none⟩ = some (.slice (some ⟨a, 0, none⟩) c.caps.length cap) ∧ w'.cell? ⟨X, 1, none⟩ = some (.slice a2' c.starts.length cap2) ∧ w'.cell? ⟨X, 2, none⟩ = some (.int .i64 c.threads)) w') := fun w' h1 => rowc3 (h1.trans R1.out)
  go_cut [] (fun wx => ∃ c2 : ConfM, Hid (wx.heap[X]? = some (.cells #[.slice (some ⟨a, 0, none⟩) c2.caps.length cap, .slice a2' c2.starts.length cap2, .int .i64 c2.threads] 36 (0, 0))) ∧ Hid (OwnI wx (g + 1) 3 .i64 (.slice (some ⟨a, 0, none⟩) c2.caps.length cap) c2.caps) ∧ Hid (OwnI wx (g + 1) 27 .u64 (.slice a2' c2.starts.length cap2) c2.starts) ∧ Hid c2.good ∧ Hid (1 ≤ c2.caps.getD 0 0 ∧ c2.caps.getD 0 0 ≤ 4 ∧ 1 ≤ c2.caps.length ∧ c2.caps.length ≤ 3) ∧ Hid (CodesE wx g) ∧ Hid (Below w.heap.size w wx) ∧ Hid (X < wx.heap.size))
  case first =>
    refine wp_region_until (fun w' : World => w'.cell? ⟨X, 0, none⟩ = some (.slice (some ⟨a, 0, none⟩) c.caps.length cap) ∧ w'.cell? ⟨X, 1, none⟩ = some (.slice a2' c.starts.length cap2) ∧ w'.cell? ⟨X, 2, none⟩ = some (.int .i64 c.threads)) 6 7 (by kernel_rfl) rfl ?_
    obtain ⟨u0, hu0, HU0⟩ := drew_pack W1
    rw [hu0]
    clear hu0
    have HU0C := Lib.hid (HC1w.out.kept HC1w.out.lt HU0.out)
    have hSU0 := KS3.out _ (HU0.out.block X hX1)
    refine tkU (v := ?_) 0 la0 hSU0 (by kernel_rfl) (fun _ _ _ h => h) rfl ?_ ?_
    rotate_left
    · (intro w hSw; (try dsimp only at hSw); go_simp <;> with_reducible rfl)
    simp only [Act.put, List.setIfInBounds_toArray, List.set_cons_zero, List.set_cons_succ]
    refine tkU (v := ?_) 1 la1 hSU0 (by kernel_rfl) (fun _ _ _ h => h) rfl ?_ ?_
    rotate_left
    · (intro w hSw; (try dsimp only at hSw); go_simp <;> with_reducible rfl)
    simp only [Act.put, List.setIfInBounds_toArray, List.set_cons_zero, List.set_cons_succ]
    refine tkU (v := ?_) 2 la2 hSU0 (by kernel_rfl) (fun _ _ _ h => h) rfl ?_ ?_
    rotate_left
    · (intro w hSw; (try dsimp only at hSw); go_simp <;> with_reducible rfl)
    simp only [Act.put, List.setIfInBounds_toArray, List.set_cons_zero, List.set_cons_succ]
    refine wpAnyU_ready (rs := [3]) (by kernel_rfl) rfl ?_
    refine AllReadyU.cons la3 rfl (fun K hK => ?_) ?_
    · go_simp
      go_at_call 12
      refine (nextE g 4 _ HU0C.out (by omega) (by omega)).mono ?_
      rintro e u1 ⟨z, rfl, hz0, hz1, hcd, hg1⟩
      have HCD1 := Lib.hid hcd
      have HG1 := Lib.hid hg1
      have hk1 : Hid (u1.heap[X]? = W1.heap[X]?) := (HG1.out.block X (Nat.lt_of_lt_of_le hX1 HU0.out.size) (by have := HAG.out; have := HXW.out; simp; omega)).trans (HU0.out.block X hX1)
      have hwz : IntKind.i64.wrap (1 + z) = 1 + z := by rw [IntKind.wrap_i64]; omega
      clear hcd hg1
      refine hK.out _ _ ?_ (fun hSU1 => ?_)
      · exact KS3.out _ hk1.out
      clear hK K hSU0
      try simp only [Act.put, List.setIfInBounds_toArray, List.set_cons_zero, List.set_cons_succ]
      refine tkU (v := ?_) 4 la4 hSU1 (by kernel_rfl) (fun _ _ _ h => h) rfl ?_ ?_
      rotate_left
      · (intro w hSw; (try dsimp only at hSw); go_simp <;> with_reducible rfl)
      simp only [Act.put, List.setIfInBounds_toArray, List.set_cons_zero, List.set_cons_succ]
      refine tkU (v := ?_) 5 la5 hSU1 (by kernel_rfl) (fun _ _ _ h => h) rfl ?_ ?_
      rotate_left
      · (intro w hSw; (try dsimp only at hSw); go_simp <;> with_reducible rfl)
      simp only [Act.put, List.setIfInBounds_toArray, List.set_cons_zero, List.set_cons_succ]
      refine wpAnyU_ready (rs := [6]) (by kernel_rfl) rfl ?_
      refine AllReadyU.free la6 rfl (by kernel_rfl) (fun K hK => ?_) ?_
      · have HV3 : Hid (OwnI u1 (g + 1) 3 .i64 (.slice (some ⟨a, 0, none⟩) c.caps.length cap) c.caps) := ((HV1.out.below HU0.out).kept HG1.out (.inr (by have := HAG.out; simp [Value.ownBlock]; omega))).mono_base hgwb
        have HS3 : Hid (OwnI u1 (g + 1) 27 .u64 (.slice a2' c.starts.length cap2) c.starts) := ((HS1.out.below HU0.out).kept HG1.out ((HS1.out.below HU0.out).ne (by omega))).mono_base hgwb
        obtain ⟨ca, fa⟩ := HV3.out.cell 0 (by have := HC1.out; omega)
        go_simp
        clear ca fa
        refine hK.out _ _ ?_
        clear hK K hSU1
        try simp only [Act.put, List.setIfInBounds_toArray, List.set_cons_zero, List.set_cons_succ]
        refine wpAnyU_done (by kernel_rfl) ?_ _
        have hg0 := HAG.out
        have HV4 := Lib.hid (HV3.out.store 0 (1 + z) rfl)
        have HS4 := Lib.hid (HS3.out.kept (grownBy_setCell u1 ⟨a, 0, none⟩ (.int .i64 (1 + z))) (HAP.out.imp id fun h => by simpa [Value.ownBlock] using h))
        have RX4 := Lib.hid ((heap_setCell_other u1 ⟨a, 0, none⟩ X (.int .i64 (1 + z)) (by have := HXW.out; show X ≠ a; omega)).trans (hk1.out.trans R1.out))
        have hlen : c.caps.length = (c.cap0 (1 + z)).caps.length := by show _ = (c.caps.set 0 (1 + z)).length; simp
        have HG4 := Lib.hid (HG.out.cap0 (1 + z) (by omega))
        have HC4 : Hid (1 ≤ (c.cap0 (1 + z)).caps.getD 0 0 ∧ (c.cap0 (1 + z)).caps.getD 0 0 ≤ 4 ∧ 1 ≤ (c.cap0 (1 + z)).caps.length ∧ (c.cap0 (1 + z)).caps.length ≤ 3) := by
          have e : (c.cap0 (1 + z)).caps.getD 0 0 = 1 + z := by show (c.caps.set 0 (1 + z)).getD 0 0 = _; rw [getD_setL, if_pos ⟨rfl, by have := HC1.out; omega⟩]
          rw [e, ← hlen]; exact ⟨by omega, by omega, HC1.out, HC3.out⟩
        have HCD4 := Lib.hid (HCD1.out.grown hg0.1 (grownBy_setCell u1 ⟨a, 0, none⟩ (.int .i64 (1 + z))))
        have HB4 : Hid (Below w.heap.size w (u1.setCell ⟨a, 0, none⟩ (.int .i64 (1 + z)))) := (((below_then HBC.out HB1.out).trans (HU0.out.mono (below_then HBC.out HB1.out).size)).grown HG1.out (Nat.le_trans (below_then HBC.out HB1.out).size HU0.out.size) (fun k hk => by cases hk; exact HGW.out)).setCell (p := ⟨a, 0, none⟩) (by have := HGW.out; show w.heap.size ≤ a; omega) _
        have HX4 : Hid (X < (u1.setCell ⟨a, 0, none⟩ (.int .i64 (1 + z))).heap.size) := by have := HU0.out.size; have := HG1.out.size; show X < _; simp; omega
        have HV5 : Hid (OwnI (u1.setCell ⟨a, 0, none⟩ (.int .i64 (1 + z))) (g + 1) 3 .i64 (.slice (some ⟨a, 0, none⟩) (c.cap0 (1 + z)).caps.length cap) (c.cap0 (1 + z)).caps) := by
          rw [← hlen]; exact HV4.out
        have HS5 : Hid (OwnI (u1.setCell ⟨a, 0, none⟩ (.int .i64 (1 + z))) (g + 1) 27 .u64 (.slice a2' c.starts.length cap2) c.starts) := HS4.out
        rw [hlen] at RX4
        clear hlen hwz hg0
        go_wp2_with fail
        go_meet
        exact ⟨c.cap0 (1 + z), RX4, HV5, HS5, HG4, HC4, HCD4, HB4, HX4⟩
      exact AllReadyU.nil
    exact AllReadyU.nil
  case rest =>
    obtain ⟨c2, RX2, HV2, HS2, HG2, HC2, HCD, HB2, HX2⟩ := hcut
    obtain ⟨w3, rfl⟩ : ∃ w3 : World, w3 = wc := ⟨_, rfl⟩
    have hcc2 := HC2.out
    have hl2 := HG2.out.len
    have HSC : Hid (∀ w2, OffS [some g] w3 w2 → SlI w2 .i64 (.slice (some ⟨a, 0, none⟩) c2.caps.length cap) c2.caps ∧ SlI w2 .u64 (.slice a2' c2.starts.length cap2) c2.starts) := fun w2 h2 =>
      ⟨HV2.out.readOff (by omega) (fun x hx => by have := HG2.out.caps x hx; rw [IntKind.wrap_i64]; omega) (fun j hj => by have := HV2.out.own_ge j hj; simp; omega) h2,
       HS2.out.readOff (by have := HG2.out.same; omega) (fun x hx => by have := HG2.out.starts x hx; rw [IntKind.wrap_u64]; omega) (fun j hj => by have := HS2.out.own_ge j hj; simp; omega) h2⟩
    have HCV : Hid (ConfV w3 (.agg #[.slice (some ⟨a, 0, none⟩) c2.caps.length cap, .slice a2' c2.starts.length cap2, .int .i64 c2.threads]) c2) := ⟨_, _, rfl, (HSC.out w3 (OffS.self _ _)).1, (HSC.out w3 (OffS.self _ _)).2⟩
    obtain ⟨x0, x1, x2⟩ := rowc3 RX2.out
    clear HV2 HS2 KS3 hl2 hcc2
    go_wp2_with fail
    refine (begin_any _ _ _ _ c2 _ HCV.out HG2.out).mono ?_; rintro e wd ⟨m1, n1, m2, n2, rfl, HM, HBD⟩
    have hgl := HCD.out.lt
    have HI0 := Lib.hid (WI.start (WT := 50) (w0 := w) (E := [some g]) HG2.out (fun j hj => by simp only [List.mem_singleton, Option.some.injEq] at hj; subst hj; exact ⟨HGW.out, hgl⟩) HSC.out HBD.out HM.out HB2.out)
    have HC0 := Lib.hid (HCD.out.kept hgl (below_new HBD.out (.cells #[.slice (some ⟨a, 0, none⟩) c2.caps.length cap, .slice a2' c2.starts.length cap2, .int .i64 c2.threads, .slice m1 (newE c2).words.length n1, .slice m2 (newE c2).lists.length n2, .int .i64 (newE c2).tick, .slice none 0 0, .slice none 0 0, .slice none 0 0, .slice none 0 0] 50)))
    have hgB : g < wd.heap.size := Nat.lt_of_lt_of_le hgl HBD.out.size
    clear HM HBD HSC HCV HCD x0 x1 x2 hgl RX2 HX2 HB2
    obtain ⟨B, hB⟩ : ∃ B, wd.heap.size = B := ⟨_, rfl⟩
    rw [hB] at HI0 hgB
    obtain ⟨w1, hw1⟩ : ∃ w1, wd.alloc (.cells #[.slice (some ⟨a, 0, none⟩) c2.caps.length cap, .slice a2' c2.starts.length cap2, .int .i64 c2.threads, .slice m1 (newE c2).words.length n1, .slice m2 (newE c2).lists.length n2, .int .i64 (newE c2).tick, .slice none 0 0, .slice none 0 0, .slice none 0 0, .slice none 0 0] 50) = w1 := ⟨_, rfl⟩
    rw [hw1] at HI0 HC0
    go_wp2_with fail
    try rw [hB]
    try rw [hw1]
    clear hw1 hB
    have HA := Lib.hid (wadd_own pu_sim HI0.out ⟨rfl, fun j h1 _ => by simp at h1⟩ 4 0 0 0 rfl (by omega) (pu_starts HG2.out 0 0 0 U64.zero (by have := HC2.out.2.2.1; omega) _ _ _ _) (by simp))
    refine HA.out.mono ?_
    rintro e w2 ⟨x2, f2, rfl, HI2, HF2, HB2', -⟩
    have HCc := Lib.hid (HC0.out.kept hgB HB2'.out)
    have hK0 : rgK c2 ⟨4, 1, 0, 0, 0 % 4, 0 % 8, 0, 0, 0, 0, 0⟩ := rgK_new c2 4 0 0 0 (by omega) (by have := HC2.out.2.2.1; omega) U64.zero
    have HWL : Hid (1 ≤ (newE c2).words.length ∧ (newE c2).words.length ≤ 256) := newE_len HG2.out HC2.out.2.2.2
    obtain ⟨aq, qc, hqe⟩ := HSA.out.len
    subst hqe
    clear HA HI0 HC0 HB2'
    go_wp2_with fail
    go_loopw [8] (fun u8 wr => ∃ (i : Nat) (x : WV) (y : WM) (m : MachM) (E : List (Option Nat)), u8 = .int .i64 i ∧ i ≤ 30 ∧ Hid (y.l = [m] ∧ y.m = newE c2 ∧ y.c = c2) ∧ Hid (rgK c2 m ∧ m.what = 4) ∧ Hid (some g ∈ E) ∧ Hid (WI 50 w wr E B (B + 1) x y) ∧ Hid (FrI PuR (OffS (x.S E B) wr) y) ∧ Hid (CodesE wr g)) (fun u8 _ => 31 - (intOf u8).toNat)
    case atStart => exact ⟨0, x2, _, _, [some g], rfl, by omega, ⟨rfl, rfl, rfl⟩, ⟨hK0, rfl⟩, List.mem_singleton.2 rfl, HI2, HF2, HCc⟩
    case round =>
      clear HI2 HF2 HCc hK0
      obtain ⟨i, x, y, m, E, rfl, hi, HY, HK, HE, HI, HF, HC⟩ := hrel
      obtain ⟨wo, rfl⟩ : ∃ wo : World, wo = wr := ⟨_, rfl⟩
      by_cases hlt : i < 30
      · have hltI : (i : Int) < 30 := by omega
        have HWD : Hid (∃ mb mo, x.mA = some ⟨mb, mo, none⟩ ∧ ∀ w', OffS (x.S E B) wo w' → ∀ j, j < y.m.words.length → w'.cell? ⟨mb, mo + j, none⟩ = some (.int .u64 (y.m.words.getD j 0))) := HI.out.wordsAt (by rw [HY.out.2.1]; have := HWL.out; omega)
        obtain ⟨mb, mo, hmA, HWC0⟩ := HWD.out
        have HWC := Lib.hid HWC0
        have row0 := HI.out.row
        have hBl := HI.out.lt
        unfold WV.row at row0
        rw [hmA] at row0
        have ROW := Lib.hid row0
        obtain ⟨nw, hnw⟩ : ∃ nw, y.m.words.length = nw := ⟨_, rfl⟩
        have hnw2 : 1 ≤ nw ∧ nw ≤ 256 := by rw [← hnw, HY.out.2.1]; exact HWL.out
        have HFW : Hid (∀ j, U64 (y.m.words.getD j 0)) := HI.out.fits.wordU
        rw [hnw] at ROW HWC
        obtain ⟨ws, hws⟩ : ∃ ws, y.m.words = ws := ⟨_, rfl⟩
        rw [hws] at HWC HFW
        have HMA := Lib.hid hmA
        clear hnw hws HWD HWC0 row0 hmA
        have hnwI : (1 : Int) ≤ (nw : Int) := by omega
        have KS11 : Hid (∀ w', w'.heap[B]? = wo.heap[B]? → (fun w' : World => w'.cell? ⟨B, 3, none⟩ = some (.slice (some ⟨mb, mo, none⟩) nw x.mc)) w') := fun w' h1 => (rowc10 (h1.trans ROW.out)).2.2.2.1
        have HKN : Hid (g < B) := hgB
        go_upto_region 11 with fail
        go_cut [9] (fun s9 wx => ∃ (P : Nat) (val : Int) (ok : Bool), s9 = .pointer (some ⟨P, 0, none⟩) ∧ Hid (wx.heap[P]? = some (.cells #[.int .u64 val, .bool ok, .bool false, .slice none 0 0] 52 (0, 0))) ∧ Hid (U64 val) ∧ Hid (B < P) ∧ Hid (WI 50 w wx (some P :: E) B (B + 1) x y) ∧ Hid (FrI PuR (OffS (x.S (some P :: E) B) wx) y) ∧ Hid (CodesE wx g))
        case first =>
          refine wp_region_until (fun w' : World => w'.cell? ⟨B, 3, none⟩ = some (.slice (some ⟨mb, mo, none⟩) nw x.mc)) 22 23 (by kernel_rfl) rfl ?_
          obtain ⟨u0, hu0, HU0⟩ := drew_pack wo
          rw [hu0]
          clear hu0
          have HG0 : Hid (OffS (x.S E B) wo u0) := OffS.below HU0.out
          have HB0 : Hid (u0.heap[B]? = wo.heap[B]?) := HU0.out.block B hBl
          have HC0 := Lib.hid (HC.out.kept HC.out.lt HU0.out)
          have HI0 := Lib.hid (HI.out.next HU0.out)
          have HF0 := Lib.hid (HF.out.sub pu_sim fun w3 h3 => (OffS.below HU0.out).trans1 h3)
          have hSU0 := KS11.out _ HB0.out
          refine tkU (v := ?_) 0 la0 hSU0 (by kernel_rfl) (fun _ _ _ h => h) rfl ?_ ?_
          rotate_left
          · (intro w hSw; (try dsimp only at hSw); go_simp <;> with_reducible rfl)
          simp only [Act.put, List.setIfInBounds_toArray, List.set_cons_zero, List.set_cons_succ]
          refine tkU (v := ?_) 1 la1 hSU0 (by kernel_rfl) (fun _ _ _ h => h) rfl ?_ ?_
          rotate_left
          · (intro w hSw; (try dsimp only at hSw); go_simp <;> with_reducible rfl)
          simp only [Act.put, List.setIfInBounds_toArray, List.set_cons_zero, List.set_cons_succ]
          refine tkU (v := ?_) 2 la2 hSU0 (by kernel_rfl) (fun _ _ _ h => h) rfl ?_ ?_
          rotate_left
          · (intro w hSw; (try dsimp only at hSw); go_simp <;> with_reducible rfl)
          simp only [Act.put, List.setIfInBounds_toArray, List.set_cons_zero, List.set_cons_succ]
          refine tkU (v := ?_) 3 la3 hSU0 (by kernel_rfl) (fun _ _ _ h => h) rfl ?_ ?_
          rotate_left
          · (intro w hSw; (try dsimp only at hSw); go_simp <;> with_reducible rfl)
          simp only [Act.put, List.setIfInBounds_toArray, List.set_cons_zero, List.set_cons_succ]
          refine tkU (v := ?_) 4 la4 hSU0 (by kernel_rfl) (fun _ _ _ h => h) rfl ?_ ?_
          rotate_left
          · (intro w hSw; (try dsimp only at hSw); go_simp <;> with_reducible rfl)
          simp only [Act.put, List.setIfInBounds_toArray, List.set_cons_zero, List.set_cons_succ]
          refine tkU (v := ?_) 5 la5 hSU0 (by kernel_rfl) (fun _ _ _ h => h) rfl ?_ ?_
          rotate_left
          · (intro w hSw; (try dsimp only at hSw); go_simp <;> with_reducible rfl)
          simp only [Act.put, List.setIfInBounds_toArray, List.set_cons_zero, List.set_cons_succ]
          refine tkU (v := ?_) 6 la6 hSU0 (by kernel_rfl) (fun _ _ _ h => h) rfl ?_ ?_
          rotate_left
          · (intro w hSw; (try dsimp only at hSw); go_simp <;> with_reducible rfl)
          simp only [Act.put, List.setIfInBounds_toArray, List.set_cons_zero, List.set_cons_succ]
          refine tkU (v := ?_) 7 la7 hSU0 (by kernel_rfl) (fun _ _ _ h => h) rfl ?_ ?_
          rotate_left
          · (intro w hSw; (try dsimp only at hSw); go_simp <;> with_reducible rfl)
          simp only [Act.put, List.setIfInBounds_toArray, List.set_cons_zero, List.set_cons_succ]
          refine tkU (v := ?_) 8 la8 hSU0 (by kernel_rfl) (fun _ _ _ h => h) rfl ?_ ?_
          rotate_left
          · (intro w hSw; (try dsimp only at hSw); go_simp <;> with_reducible rfl)
          simp only [Act.put, List.setIfInBounds_toArray, List.set_cons_zero, List.set_cons_succ]
          refine tkU (v := ?_) 9 la9 hSU0 (by kernel_rfl) (fun _ _ _ h => h) rfl ?_ ?_
          rotate_left
          · (intro w hSw; (try dsimp only at hSw); go_simp <;> with_reducible rfl)
          simp only [Act.put, List.setIfInBounds_toArray, List.set_cons_zero, List.set_cons_succ]
          refine tkU (v := ?_) 10 la10 hSU0 (by kernel_rfl) (fun _ _ _ h => h) rfl ?_ ?_
          rotate_left
          · (intro w hSw; (try dsimp only at hSw); go_simp <;> with_reducible rfl)
          simp only [Act.put, List.setIfInBounds_toArray, List.set_cons_zero, List.set_cons_succ]
          refine tkU (v := ?_) 11 la11 hSU0 (by kernel_rfl) (fun _ _ _ h => h) rfl ?_ ?_
          rotate_left
          · (intro w hSw; (try dsimp only at hSw); go_simp <;> with_reducible rfl)
          simp only [Act.put, List.setIfInBounds_toArray, List.set_cons_zero, List.set_cons_succ]
          refine tkU (v := ?_) 12 la12 hSU0 (by kernel_rfl) (fun _ _ _ h => h) rfl ?_ ?_
          rotate_left
          · (intro w hSw; (try dsimp only at hSw); go_simp <;> with_reducible rfl)
          simp only [Act.put, List.setIfInBounds_toArray, List.set_cons_zero, List.set_cons_succ]
          refine tkU (v := ?_) 13 la13 hSU0 (by kernel_rfl) (fun _ _ _ h => h) rfl ?_ ?_
          rotate_left
          · (intro w hSw; (try dsimp only at hSw); go_simp <;> with_reducible rfl)
          simp only [Act.put, List.setIfInBounds_toArray, List.set_cons_zero, List.set_cons_succ]
          refine tkU (v := ?_) 17 la17 hSU0 (by kernel_rfl) (fun _ _ _ h => h) rfl ?_ ?_
          rotate_left
          · (intro w hSw; (try dsimp only at hSw); go_simp <;> with_reducible rfl)
          simp only [Act.put, List.setIfInBounds_toArray, List.set_cons_zero, List.set_cons_succ]
          refine wpAnyU_ready (rs := [14, 21]) (by kernel_rfl) rfl ?_
          refine AllReadyU.cons la14 rfl (fun K hK => ?_) ?_
          · go_simp
            go_at_call 12
            refine (nextE g (nw : Int) _ HC0.out (by omega) (by omega)).mono ?_
            rintro e u1 ⟨z, rfl, hz0, hz1, hcd, hg1⟩
            have HC1 := Lib.hid hcd
            have HG1 : Hid (OffS (x.S E B) wo u1) := HG0.out.trans1 (OffS.grown hg1 (.inr (by simp [WV.S, HE.out])))
            have HB1 : Hid (u1.heap[B]? = wo.heap[B]?) := (hg1.block B (Nat.lt_of_lt_of_le hBl HG0.out.1) (by have := HKN.out; simp; omega)).trans HB0.out
            have HI1 := Lib.hid (HI0.out.drawn (by simp [HE.out]) HKN.out hg1)
            have HF1 := Lib.hid (HF0.out.sub pu_sim fun w3 h3 => (OffS.grown (S := x.S E B) hg1 (.inr (by simp [WV.S, HE.out]))).trans1 h3)
            obtain ⟨zn, hzn⟩ : ∃ zn : Nat, z = (zn : Int) := ⟨z.toNat, by omega⟩
            subst hzn
            have hzn : zn < nw := by omega
            have hznI : (zn : Int) < (nw : Int) := hz1
            have hz00 : (0 : Int) ≤ (zn : Int) := hz0
            clear hcd hg1
            refine hK.out _ _ ?_ (fun hSU1 => ?_)
            · exact KS11.out _ HB1.out
            clear hK K hSU0
            try simp only [Act.put, List.setIfInBounds_toArray, List.set_cons_zero, List.set_cons_succ]
            refine tkU (v := ?_) 15 la15 hSU1 (by kernel_rfl) (fun _ _ _ h => h) rfl ?_ ?_
            rotate_left
            · (intro w hSw; (try dsimp only at hSw); go_simp <;> with_reducible rfl)
            simp only [Act.put, List.setIfInBounds_toArray, List.set_cons_zero, List.set_cons_succ]
            refine wpAnyU_ready (rs := [16, 18, 21]) (by kernel_rfl) rfl ?_
            refine AllReadyU.cons la16 rfl (fun K hK => ?_) ?_
            · have hcell := HWC.out _ HG1.out zn hzn
              obtain ⟨wv, hwv⟩ : ∃ wv, ws.getD zn 0 = wv := ⟨_, rfl⟩
              have HWV : Hid (U64 wv) := hwv ▸ HFW.out zn
              rw [hwv] at hcell
              clear hwv
              go_simp
              clear hcell
              refine hK.out _ _ ?_ (fun hSU2 => ?_)
              · exact KS11.out _ HB1.out
              clear hK K hSU1
              try simp only [Act.put, List.setIfInBounds_toArray, List.set_cons_zero, List.set_cons_succ]
              refine wpAnyU_ready (rs := [18, 21]) (by kernel_rfl) rfl ?_
              refine AllReadyU.cons la18 rfl (fun K hK => ?_) ?_
              · go_simp
                go_at_call 12
                refine (nextE g 2 _ HC1.out (by omega) (by omega)).mono ?_
                rintro e u2 ⟨q, rfl, hq0, hq1, hcd, hg1⟩
                have HC2 := Lib.hid hcd
                have HG2 : Hid (OffS (x.S E B) wo u2) := HG1.out.trans1 (OffS.grown hg1 (.inr (by simp [WV.S, HE.out])))
                have HB2 : Hid (u2.heap[B]? = wo.heap[B]?) := (hg1.block B (Nat.lt_of_lt_of_le hBl HG1.out.1) (by have := HKN.out; simp; omega)).trans HB1.out
                have HI2 := Lib.hid (HI1.out.drawn (by simp [HE.out]) HKN.out hg1)
                have HF2 := Lib.hid (HF1.out.sub pu_sim fun w3 h3 => (OffS.grown (S := x.S E B) hg1 (.inr (by simp [WV.S, HE.out]))).trans1 h3)
                clear hcd hg1
                refine hK.out _ _ ?_ (fun hSU3 => ?_)
                · exact KS11.out _ HB2.out
                clear hK K hSU2
                try simp only [Act.put, List.setIfInBounds_toArray, List.set_cons_zero, List.set_cons_succ]
                refine tkU (v := ?_) 19 la19 hSU3 (by kernel_rfl) (fun _ _ _ h => h) rfl ?_ ?_
                rotate_left
                · (intro w hSw; (try dsimp only at hSw); go_simp <;> with_reducible rfl)
                simp only [Act.put, List.setIfInBounds_toArray, List.set_cons_zero, List.set_cons_succ]
                refine tkU (v := ?_) 20 la20 hSU3 (by kernel_rfl) (fun _ _ _ h => h) rfl ?_ ?_
                rotate_left
                · (intro w hSw; (try dsimp only at hSw); go_simp <;> with_reducible rfl)
                simp only [Act.put, List.setIfInBounds_toArray, List.set_cons_zero, List.set_cons_succ]
                refine wpAnyU_ready (rs := [21]) (by kernel_rfl) rfl ?_
                refine AllReadyU.cons la21 rfl (fun K hK => ?_) ?_
                · go_simp
                  obtain ⟨u3, P, hv, hXe, RP3, hbX, ltP⟩ := alloc_pack u2 (.cells #[.int .u64 0, .bool false, .bool false, .slice none 0 0] 52)
                  rw [hv, hXe]
                  have HPG : Hid (B < P) := by have h1 := HG2.out.1; show B < P; omega
                  have hPn : u2.heap.size ≤ P := by omega
                  have hPn2 : P < u3.heap.size := ltP.out
                  have HG3 : Hid (OffS (x.S E B) wo u3) := HG2.out.trans1 (OffS.below hbX.out)
                  have HC3 := Lib.hid (HC2.out.kept HC2.out.lt hbX.out)
                  have HB3 : Hid (u3.heap[B]? = wo.heap[B]?) := (hbX.out.block B (Nat.lt_of_lt_of_le hBl HG2.out.1)).trans HB2.out
                  have HI3 := Lib.hid (HI2.out.exempt hbX.out P hPn hPn2)
                  have HF3 : Hid (FrI PuR (OffS (x.S (some P :: E) B) u3) y) := HF2.out.sub pu_sim fun w3 h3 => OffS.exempt (S := x.S E B) hbX.out hPn w3 h3
                  clear hv hXe hbX hPn hPn2
                  refine hK.out _ _ ?_ (fun hSU4 => ?_)
                  · exact KS11.out _ HB3.out
                  clear hK K hSU3
                  try simp only [Act.put, List.setIfInBounds_toArray, List.set_cons_zero, List.set_cons_succ]
                  refine wpAnyU_ready (rs := [22]) (by kernel_rfl) rfl ?_
                  refine AllReadyU.free la22 rfl (by kernel_rfl) (fun K hK => ?_) ?_
                  · refine step_store_row rfl 52 _ _ rfl P _ rfl rfl 52 #[.int .u64 0, .bool false, .bool false, .slice none 0 0] RP3.out (by kernel_rfl) rfl (by simp [Value.oneCell']) ?_
                    refine hK.out _ _ ?_
                    clear hK K hSU4
                    try simp only [Act.put, List.setIfInBounds_toArray, List.set_cons_zero, List.set_cons_succ]
                    refine wpAnyU_done (by kernel_rfl) ?_ _
                    have RPF := Lib.hid (setRow_heap u3 P _ #[.int .u64 wv, .bool (q == 1), .bool false, .slice none 0 0] _ (0, 0) RP3.out)
                    have HIF : Hid (WI 50 w (u3.setRow P #[.int .u64 wv, .bool (q == 1), .bool false, .slice none 0 0]) (some P :: E) B (B + 1) x y) := HI3.out.poke (by simp) RP3.out (by have := HPG.out; omega) (row_grown u3 P _) (by decide) (by decide) (by decide) (by decide)
                    have HFF : Hid (FrI PuR (OffS (x.S (some P :: E) B) (u3.setRow P #[.int .u64 wv, .bool (q == 1), .bool false, .slice none 0 0])) y) := HF3.out.sub pu_sim fun w3 h3 => (OffS.grown (S := x.S (some P :: E) B) (row_grown u3 P _) (.inr (by simp [WV.S]))).trans1 h3
                    have HCF : Hid (CodesE (u3.setRow P #[.int .u64 wv, .bool (q == 1), .bool false, .slice none 0 0]) g) := HC3.out.grown (by have := HPG.out; have := HKN.out; omega) (row_grown u3 P _)
                    go_wp2_with fail
                    go_meet
                    exact ⟨P, wv, (q == 1), rfl, RPF, HWV, HPG, HIF, HFF, HCF⟩
                  exact AllReadyU.nil
                exact AllReadyU.nil
              refine AllReadyU.cons la21 rfl (fun K hK => ?_) ?_
              · go_simp
                obtain ⟨u2, P, hv, hXe, RP2, hbX, ltP⟩ := alloc_pack u1 (.cells #[.int .u64 0, .bool false, .bool false, .slice none 0 0] 52)
                rw [hv, hXe]
                have HPG : Hid (B < P) := by have h1 := HG1.out.1; show B < P; omega
                have hPn : u1.heap.size ≤ P := by omega
                have hPn2 : P < u2.heap.size := ltP.out
                have HG2 : Hid (OffS (x.S E B) wo u2) := HG1.out.trans1 (OffS.below hbX.out)
                have HC2 := Lib.hid (HC1.out.kept HC1.out.lt hbX.out)
                have HB2 : Hid (u2.heap[B]? = wo.heap[B]?) := (hbX.out.block B (Nat.lt_of_lt_of_le hBl HG1.out.1)).trans HB1.out
                have HI2 := Lib.hid (HI1.out.exempt hbX.out P hPn hPn2)
                have HF2 : Hid (FrI PuR (OffS (x.S (some P :: E) B) u2) y) := HF1.out.sub pu_sim fun w3 h3 => OffS.exempt (S := x.S E B) hbX.out hPn w3 h3
                clear hv hXe hbX hPn hPn2
                refine hK.out _ _ ?_ (fun hSU5 => ?_)
                · exact KS11.out _ HB2.out
                clear hK K hSU2
                try simp only [Act.put, List.setIfInBounds_toArray, List.set_cons_zero, List.set_cons_succ]
                refine wpAnyU_ready (rs := [18]) (by kernel_rfl) rfl ?_
                refine AllReadyU.cons la18 rfl (fun K hK => ?_) ?_
                · go_simp
                  go_at_call 12
                  refine (nextE g 2 _ HC2.out (by omega) (by omega)).mono ?_
                  rintro e u3 ⟨q, rfl, hq0, hq1, hcd, hg1⟩
                  have HC3 := Lib.hid hcd
                  have HG3 : Hid (OffS (x.S E B) wo u3) := HG2.out.trans1 (OffS.grown hg1 (.inr (by simp [WV.S, HE.out])))
                  have HB3 : Hid (u3.heap[B]? = wo.heap[B]?) := (hg1.block B (Nat.lt_of_lt_of_le hBl HG2.out.1) (by have := HKN.out; simp; omega)).trans HB2.out
                  have HI3 := Lib.hid (HI2.out.drawn (by simp [HE.out]) HKN.out hg1)
                  have HF3 := Lib.hid (HF2.out.sub pu_sim fun w3 h3 => (OffS.grown (S := x.S (some P :: E) B) hg1 (.inr (by simp [WV.S, HE.out]))).trans1 h3)
                  have RP3 := Lib.hid ((hg1.block P (Array.getElem?_eq_some_iff.1 RP2.out).1 (by have := HPG.out; have := HKN.out; simp; omega)).trans RP2.out)
                  clear hcd hg1
                  refine hK.out _ _ ?_ (fun hSU6 => ?_)
                  · exact KS11.out _ HB3.out
                  clear hK K hSU5
                  try simp only [Act.put, List.setIfInBounds_toArray, List.set_cons_zero, List.set_cons_succ]
                  refine tkU (v := ?_) 19 la19 hSU6 (by kernel_rfl) (fun _ _ _ h => h) rfl ?_ ?_
                  rotate_left
                  · (intro w hSw; (try dsimp only at hSw); go_simp <;> with_reducible rfl)
                  simp only [Act.put, List.setIfInBounds_toArray, List.set_cons_zero, List.set_cons_succ]
                  refine tkU (v := ?_) 20 la20 hSU6 (by kernel_rfl) (fun _ _ _ h => h) rfl ?_ ?_
                  rotate_left
                  · (intro w hSw; (try dsimp only at hSw); go_simp <;> with_reducible rfl)
                  simp only [Act.put, List.setIfInBounds_toArray, List.set_cons_zero, List.set_cons_succ]
                  refine wpAnyU_ready (rs := [22]) (by kernel_rfl) rfl ?_
                  refine AllReadyU.free la22 rfl (by kernel_rfl) (fun K hK => ?_) ?_
                  · refine step_store_row rfl 52 _ _ rfl P _ rfl rfl 52 #[.int .u64 0, .bool false, .bool false, .slice none 0 0] RP3.out (by kernel_rfl) rfl (by simp [Value.oneCell']) ?_
                    refine hK.out _ _ ?_
                    clear hK K hSU6
                    try simp only [Act.put, List.setIfInBounds_toArray, List.set_cons_zero, List.set_cons_succ]
                    refine wpAnyU_done (by kernel_rfl) ?_ _
                    have RPF := Lib.hid (setRow_heap u3 P _ #[.int .u64 wv, .bool (q == 1), .bool false, .slice none 0 0] _ (0, 0) RP3.out)
                    have HIF : Hid (WI 50 w (u3.setRow P #[.int .u64 wv, .bool (q == 1), .bool false, .slice none 0 0]) (some P :: E) B (B + 1) x y) := HI3.out.poke (by simp) RP3.out (by have := HPG.out; omega) (row_grown u3 P _) (by decide) (by decide) (by decide) (by decide)
                    have HFF : Hid (FrI PuR (OffS (x.S (some P :: E) B) (u3.setRow P #[.int .u64 wv, .bool (q == 1), .bool false, .slice none 0 0])) y) := HF3.out.sub pu_sim fun w3 h3 => (OffS.grown (S := x.S (some P :: E) B) (row_grown u3 P _) (.inr (by simp [WV.S]))).trans1 h3
                    have HCF : Hid (CodesE (u3.setRow P #[.int .u64 wv, .bool (q == 1), .bool false, .slice none 0 0]) g) := HC3.out.grown (by have := HPG.out; have := HKN.out; omega) (row_grown u3 P _)
                    go_wp2_with fail
                    go_meet
                    exact ⟨P, wv, (q == 1), rfl, RPF, HWV, HPG, HIF, HFF, HCF⟩
                  exact AllReadyU.nil
                exact AllReadyU.nil
              exact AllReadyU.nil
            refine AllReadyU.cons la18 rfl (fun K hK => ?_) ?_
            · go_simp
              go_at_call 12
              refine (nextE g 2 _ HC1.out (by omega) (by omega)).mono ?_
              rintro e u2 ⟨q, rfl, hq0, hq1, hcd, hg1⟩
              have HC2 := Lib.hid hcd
              have HG2 : Hid (OffS (x.S E B) wo u2) := HG1.out.trans1 (OffS.grown hg1 (.inr (by simp [WV.S, HE.out])))
              have HB2 : Hid (u2.heap[B]? = wo.heap[B]?) := (hg1.block B (Nat.lt_of_lt_of_le hBl HG1.out.1) (by have := HKN.out; simp; omega)).trans HB1.out
              have HI2 := Lib.hid (HI1.out.drawn (by simp [HE.out]) HKN.out hg1)
              have HF2 := Lib.hid (HF1.out.sub pu_sim fun w3 h3 => (OffS.grown (S := x.S E B) hg1 (.inr (by simp [WV.S, HE.out]))).trans1 h3)
              clear hcd hg1
              refine hK.out _ _ ?_ (fun hSU7 => ?_)
              · exact KS11.out _ HB2.out
              clear hK K hSU1
              try simp only [Act.put, List.setIfInBounds_toArray, List.set_cons_zero, List.set_cons_succ]
              refine tkU (v := ?_) 19 la19 hSU7 (by kernel_rfl) (fun _ _ _ h => h) rfl ?_ ?_
              rotate_left
              · (intro w hSw; (try dsimp only at hSw); go_simp <;> with_reducible rfl)
              simp only [Act.put, List.setIfInBounds_toArray, List.set_cons_zero, List.set_cons_succ]
              refine wpAnyU_ready (rs := [16, 21]) (by kernel_rfl) rfl ?_
              refine AllReadyU.cons la16 rfl (fun K hK => ?_) ?_
              · have hcell := HWC.out _ HG2.out zn hzn
                obtain ⟨wv, hwv⟩ : ∃ wv, ws.getD zn 0 = wv := ⟨_, rfl⟩
                have HWV : Hid (U64 wv) := hwv ▸ HFW.out zn
                rw [hwv] at hcell
                clear hwv
                go_simp
                clear hcell
                refine hK.out _ _ ?_ (fun hSU8 => ?_)
                · exact KS11.out _ HB2.out
                clear hK K hSU7
                try simp only [Act.put, List.setIfInBounds_toArray, List.set_cons_zero, List.set_cons_succ]
                refine tkU (v := ?_) 20 la20 hSU8 (by kernel_rfl) (fun _ _ _ h => h) rfl ?_ ?_
                rotate_left
                · (intro w hSw; (try dsimp only at hSw); go_simp <;> with_reducible rfl)
                simp only [Act.put, List.setIfInBounds_toArray, List.set_cons_zero, List.set_cons_succ]
                refine wpAnyU_ready (rs := [21]) (by kernel_rfl) rfl ?_
                refine AllReadyU.cons la21 rfl (fun K hK => ?_) ?_
                · go_simp
                  obtain ⟨u3, P, hv, hXe, RP3, hbX, ltP⟩ := alloc_pack u2 (.cells #[.int .u64 0, .bool false, .bool false, .slice none 0 0] 52)
                  rw [hv, hXe]
                  have HPG : Hid (B < P) := by have h1 := HG2.out.1; show B < P; omega
                  have hPn : u2.heap.size ≤ P := by omega
                  have hPn2 : P < u3.heap.size := ltP.out
                  have HG3 : Hid (OffS (x.S E B) wo u3) := HG2.out.trans1 (OffS.below hbX.out)
                  have HC3 := Lib.hid (HC2.out.kept HC2.out.lt hbX.out)
                  have HB3 : Hid (u3.heap[B]? = wo.heap[B]?) := (hbX.out.block B (Nat.lt_of_lt_of_le hBl HG2.out.1)).trans HB2.out
                  have HI3 := Lib.hid (HI2.out.exempt hbX.out P hPn hPn2)
                  have HF3 : Hid (FrI PuR (OffS (x.S (some P :: E) B) u3) y) := HF2.out.sub pu_sim fun w3 h3 => OffS.exempt (S := x.S E B) hbX.out hPn w3 h3
                  clear hv hXe hbX hPn hPn2
                  refine hK.out _ _ ?_ (fun hSU9 => ?_)
                  · exact KS11.out _ HB3.out
                  clear hK K hSU8
                  try simp only [Act.put, List.setIfInBounds_toArray, List.set_cons_zero, List.set_cons_succ]
                  refine wpAnyU_ready (rs := [22]) (by kernel_rfl) rfl ?_
                  refine AllReadyU.free la22 rfl (by kernel_rfl) (fun K hK => ?_) ?_
                  · refine step_store_row rfl 52 _ _ rfl P _ rfl rfl 52 #[.int .u64 0, .bool false, .bool false, .slice none 0 0] RP3.out (by kernel_rfl) rfl (by simp [Value.oneCell']) ?_
                    refine hK.out _ _ ?_
                    clear hK K hSU9
                    try simp only [Act.put, List.setIfInBounds_toArray, List.set_cons_zero, List.set_cons_succ]
                    refine wpAnyU_done (by kernel_rfl) ?_ _
                    have RPF := Lib.hid (setRow_heap u3 P _ #[.int .u64 wv, .bool (q == 1), .bool false, .slice none 0 0] _ (0, 0) RP3.out)
                    have HIF : Hid (WI 50 w (u3.setRow P #[.int .u64 wv, .bool (q == 1), .bool false, .slice none 0 0]) (some P :: E) B (B + 1) x y) := HI3.out.poke (by simp) RP3.out (by have := HPG.out; omega) (row_grown u3 P _) (by decide) (by decide) (by decide) (by decide)
                    have HFF : Hid (FrI PuR (OffS (x.S (some P :: E) B) (u3.setRow P #[.int .u64 wv, .bool (q == 1), .bool false, .slice none 0 0])) y) := HF3.out.sub pu_sim fun w3 h3 => (OffS.grown (S := x.S (some P :: E) B) (row_grown u3 P _) (.inr (by simp [WV.S]))).trans1 h3
                    have HCF : Hid (CodesE (u3.setRow P #[.int .u64 wv, .bool (q == 1), .bool false, .slice none 0 0]) g) := HC3.out.grown (by have := HPG.out; have := HKN.out; omega) (row_grown u3 P _)
                    go_wp2_with fail
                    go_meet
                    exact ⟨P, wv, (q == 1), rfl, RPF, HWV, HPG, HIF, HFF, HCF⟩
                  exact AllReadyU.nil
                exact AllReadyU.nil
              refine AllReadyU.cons la21 rfl (fun K hK => ?_) ?_
              · go_simp
                obtain ⟨u3, P, hv, hXe, RP3, hbX, ltP⟩ := alloc_pack u2 (.cells #[.int .u64 0, .bool false, .bool false, .slice none 0 0] 52)
                rw [hv, hXe]
                have HPG : Hid (B < P) := by have h1 := HG2.out.1; show B < P; omega
                have hPn : u2.heap.size ≤ P := by omega
                have hPn2 : P < u3.heap.size := ltP.out
                have HG3 : Hid (OffS (x.S E B) wo u3) := HG2.out.trans1 (OffS.below hbX.out)
                have HC3 := Lib.hid (HC2.out.kept HC2.out.lt hbX.out)
                have HB3 : Hid (u3.heap[B]? = wo.heap[B]?) := (hbX.out.block B (Nat.lt_of_lt_of_le hBl HG2.out.1)).trans HB2.out
                have HI3 := Lib.hid (HI2.out.exempt hbX.out P hPn hPn2)
                have HF3 : Hid (FrI PuR (OffS (x.S (some P :: E) B) u3) y) := HF2.out.sub pu_sim fun w3 h3 => OffS.exempt (S := x.S E B) hbX.out hPn w3 h3
                clear hv hXe hbX hPn hPn2
                refine hK.out _ _ ?_ (fun hSU10 => ?_)
                · exact KS11.out _ HB3.out
                clear hK K hSU7
                try simp only [Act.put, List.setIfInBounds_toArray, List.set_cons_zero, List.set_cons_succ]
                refine wpAnyU_ready (rs := [16]) (by kernel_rfl) rfl ?_
                refine AllReadyU.cons la16 rfl (fun K hK => ?_) ?_
                · have hcell := HWC.out _ HG3.out zn hzn
                  obtain ⟨wv, hwv⟩ : ∃ wv, ws.getD zn 0 = wv := ⟨_, rfl⟩
                  have HWV : Hid (U64 wv) := hwv ▸ HFW.out zn
                  rw [hwv] at hcell
                  clear hwv
                  go_simp
                  clear hcell
                  refine hK.out _ _ ?_ (fun hSU11 => ?_)
                  · exact KS11.out _ HB3.out
                  clear hK K hSU10
                  try simp only [Act.put, List.setIfInBounds_toArray, List.set_cons_zero, List.set_cons_succ]
                  refine tkU (v := ?_) 20 la20 hSU11 (by kernel_rfl) (fun _ _ _ h => h) rfl ?_ ?_
                  rotate_left
                  · (intro w hSw; (try dsimp only at hSw); go_simp <;> with_reducible rfl)
                  simp only [Act.put, List.setIfInBounds_toArray, List.set_cons_zero, List.set_cons_succ]
                  refine wpAnyU_ready (rs := [22]) (by kernel_rfl) rfl ?_
                  refine AllReadyU.free la22 rfl (by kernel_rfl) (fun K hK => ?_) ?_
                  · refine step_store_row rfl 52 _ _ rfl P _ rfl rfl 52 #[.int .u64 0, .bool false, .bool false, .slice none 0 0] RP3.out (by kernel_rfl) rfl (by simp [Value.oneCell']) ?_
                    refine hK.out _ _ ?_
                    clear hK K hSU11
                    try simp only [Act.put, List.setIfInBounds_toArray, List.set_cons_zero, List.set_cons_succ]
                    refine wpAnyU_done (by kernel_rfl) ?_ _
                    have RPF := Lib.hid (setRow_heap u3 P _ #[.int .u64 wv, .bool (q == 1), .bool false, .slice none 0 0] _ (0, 0) RP3.out)
                    have HIF : Hid (WI 50 w (u3.setRow P #[.int .u64 wv, .bool (q == 1), .bool false, .slice none 0 0]) (some P :: E) B (B + 1) x y) := HI3.out.poke (by simp) RP3.out (by have := HPG.out; omega) (row_grown u3 P _) (by decide) (by decide) (by decide) (by decide)
                    have HFF : Hid (FrI PuR (OffS (x.S (some P :: E) B) (u3.setRow P #[.int .u64 wv, .bool (q == 1), .bool false, .slice none 0 0])) y) := HF3.out.sub pu_sim fun w3 h3 => (OffS.grown (S := x.S (some P :: E) B) (row_grown u3 P _) (.inr (by simp [WV.S]))).trans1 h3
                    have HCF : Hid (CodesE (u3.setRow P #[.int .u64 wv, .bool (q == 1), .bool false, .slice none 0 0]) g) := HC3.out.grown (by have := HPG.out; have := HKN.out; omega) (row_grown u3 P _)
                    go_wp2_with fail
                    go_meet
                    exact ⟨P, wv, (q == 1), rfl, RPF, HWV, HPG, HIF, HFF, HCF⟩
                  exact AllReadyU.nil
                exact AllReadyU.nil
              exact AllReadyU.nil
            refine AllReadyU.cons la21 rfl (fun K hK => ?_) ?_
            · go_simp
              obtain ⟨u2, P, hv, hXe, RP2, hbX, ltP⟩ := alloc_pack u1 (.cells #[.int .u64 0, .bool false, .bool false, .slice none 0 0] 52)
              rw [hv, hXe]
              have HPG : Hid (B < P) := by have h1 := HG1.out.1; show B < P; omega
              have hPn : u1.heap.size ≤ P := by omega
              have hPn2 : P < u2.heap.size := ltP.out
              have HG2 : Hid (OffS (x.S E B) wo u2) := HG1.out.trans1 (OffS.below hbX.out)
              have HC2 := Lib.hid (HC1.out.kept HC1.out.lt hbX.out)
              have HB2 : Hid (u2.heap[B]? = wo.heap[B]?) := (hbX.out.block B (Nat.lt_of_lt_of_le hBl HG1.out.1)).trans HB1.out
              have HI2 := Lib.hid (HI1.out.exempt hbX.out P hPn hPn2)
              have HF2 : Hid (FrI PuR (OffS (x.S (some P :: E) B) u2) y) := HF1.out.sub pu_sim fun w3 h3 => OffS.exempt (S := x.S E B) hbX.out hPn w3 h3
              clear hv hXe hbX hPn hPn2
              refine hK.out _ _ ?_ (fun hSU12 => ?_)
              · exact KS11.out _ HB2.out
              clear hK K hSU1
              try simp only [Act.put, List.setIfInBounds_toArray, List.set_cons_zero, List.set_cons_succ]
              refine wpAnyU_ready (rs := [16, 18]) (by kernel_rfl) rfl ?_
              refine AllReadyU.cons la16 rfl (fun K hK => ?_) ?_
              · have hcell := HWC.out _ HG2.out zn hzn
                obtain ⟨wv, hwv⟩ : ∃ wv, ws.getD zn 0 = wv := ⟨_, rfl⟩
                have HWV : Hid (U64 wv) := hwv ▸ HFW.out zn
                rw [hwv] at hcell
                clear hwv
                go_simp
                clear hcell
                refine hK.out _ _ ?_ (fun hSU13 => ?_)
                · exact KS11.out _ HB2.out
                clear hK K hSU12
                try simp only [Act.put, List.setIfInBounds_toArray, List.set_cons_zero, List.set_cons_succ]
                refine wpAnyU_ready (rs := [18]) (by kernel_rfl) rfl ?_
                refine AllReadyU.cons la18 rfl (fun K hK => ?_) ?_
                · go_simp
                  go_at_call 12
                  refine (nextE g 2 _ HC2.out (by omega) (by omega)).mono ?_
                  rintro e u3 ⟨q, rfl, hq0, hq1, hcd, hg1⟩
                  have HC3 := Lib.hid hcd
                  have HG3 : Hid (OffS (x.S E B) wo u3) := HG2.out.trans1 (OffS.grown hg1 (.inr (by simp [WV.S, HE.out])))
                  have HB3 : Hid (u3.heap[B]? = wo.heap[B]?) := (hg1.block B (Nat.lt_of_lt_of_le hBl HG2.out.1) (by have := HKN.out; simp; omega)).trans HB2.out
                  have HI3 := Lib.hid (HI2.out.drawn (by simp [HE.out]) HKN.out hg1)
                  have HF3 := Lib.hid (HF2.out.sub pu_sim fun w3 h3 => (OffS.grown (S := x.S (some P :: E) B) hg1 (.inr (by simp [WV.S, HE.out]))).trans1 h3)
                  have RP3 := Lib.hid ((hg1.block P (Array.getElem?_eq_some_iff.1 RP2.out).1 (by have := HPG.out; have := HKN.out; simp; omega)).trans RP2.out)
                  clear hcd hg1
                  refine hK.out _ _ ?_ (fun hSU14 => ?_)
                  · exact KS11.out _ HB3.out
                  clear hK K hSU13
                  try simp only [Act.put, List.setIfInBounds_toArray, List.set_cons_zero, List.set_cons_succ]
                  refine tkU (v := ?_) 19 la19 hSU14 (by kernel_rfl) (fun _ _ _ h => h) rfl ?_ ?_
                  rotate_left
                  · (intro w hSw; (try dsimp only at hSw); go_simp <;> with_reducible rfl)
                  simp only [Act.put, List.setIfInBounds_toArray, List.set_cons_zero, List.set_cons_succ]
                  refine tkU (v := ?_) 20 la20 hSU14 (by kernel_rfl) (fun _ _ _ h => h) rfl ?_ ?_
                  rotate_left
                  · (intro w hSw; (try dsimp only at hSw); go_simp <;> with_reducible rfl)
                  simp only [Act.put, List.setIfInBounds_toArray, List.set_cons_zero, List.set_cons_succ]
                  refine wpAnyU_ready (rs := [22]) (by kernel_rfl) rfl ?_
                  refine AllReadyU.free la22 rfl (by kernel_rfl) (fun K hK => ?_) ?_
                  · refine step_store_row rfl 52 _ _ rfl P _ rfl rfl 52 #[.int .u64 0, .bool false, .bool false, .slice none 0 0] RP3.out (by kernel_rfl) rfl (by simp [Value.oneCell']) ?_
                    refine hK.out _ _ ?_
                    clear hK K hSU14
                    try simp only [Act.put, List.setIfInBounds_toArray, List.set_cons_zero, List.set_cons_succ]
                    refine wpAnyU_done (by kernel_rfl) ?_ _
                    have RPF := Lib.hid (setRow_heap u3 P _ #[.int .u64 wv, .bool (q == 1), .bool false, .slice none 0 0] _ (0, 0) RP3.out)
                    have HIF : Hid (WI 50 w (u3.setRow P #[.int .u64 wv, .bool (q == 1), .bool false, .slice none 0 0]) (some P :: E) B (B + 1) x y) := HI3.out.poke (by simp) RP3.out (by have := HPG.out; omega) (row_grown u3 P _) (by decide) (by decide) (by decide) (by decide)
                    have HFF : Hid (FrI PuR (OffS (x.S (some P :: E) B) (u3.setRow P #[.int .u64 wv, .bool (q == 1), .bool false, .slice none 0 0])) y) := HF3.out.sub pu_sim fun w3 h3 => (OffS.grown (S := x.S (some P :: E) B) (row_grown u3 P _) (.inr (by simp [WV.S]))).trans1 h3
                    have HCF : Hid (CodesE (u3.setRow P #[.int .u64 wv, .bool (q == 1), .bool false, .slice none 0 0]) g) := HC3.out.grown (by have := HPG.out; have := HKN.out; omega) (row_grown u3 P _)
                    go_wp2_with fail
                    go_meet
                    exact ⟨P, wv, (q == 1), rfl, RPF, HWV, HPG, HIF, HFF, HCF⟩
                  exact AllReadyU.nil
                exact AllReadyU.nil
              refine AllReadyU.cons la18 rfl (fun K hK => ?_) ?_
              · go_simp
                go_at_call 12
                refine (nextE g 2 _ HC2.out (by omega) (by omega)).mono ?_
                rintro e u3 ⟨q, rfl, hq0, hq1, hcd, hg1⟩
                have HC3 := Lib.hid hcd
                have HG3 : Hid (OffS (x.S E B) wo u3) := HG2.out.trans1 (OffS.grown hg1 (.inr (by simp [WV.S, HE.out])))
                have HB3 : Hid (u3.heap[B]? = wo.heap[B]?) := (hg1.block B (Nat.lt_of_lt_of_le hBl HG2.out.1) (by have := HKN.out; simp; omega)).trans HB2.out
                have HI3 := Lib.hid (HI2.out.drawn (by simp [HE.out]) HKN.out hg1)
                have HF3 := Lib.hid (HF2.out.sub pu_sim fun w3 h3 => (OffS.grown (S := x.S (some P :: E) B) hg1 (.inr (by simp [WV.S, HE.out]))).trans1 h3)
                have RP3 := Lib.hid ((hg1.block P (Array.getElem?_eq_some_iff.1 RP2.out).1 (by have := HPG.out; have := HKN.out; simp; omega)).trans RP2.out)
                clear hcd hg1
                refine hK.out _ _ ?_ (fun hSU15 => ?_)
                · exact KS11.out _ HB3.out
                clear hK K hSU12
                try simp only [Act.put, List.setIfInBounds_toArray, List.set_cons_zero, List.set_cons_succ]
                refine tkU (v := ?_) 19 la19 hSU15 (by kernel_rfl) (fun _ _ _ h => h) rfl ?_ ?_
                rotate_left
                · (intro w hSw; (try dsimp only at hSw); go_simp <;> with_reducible rfl)
                simp only [Act.put, List.setIfInBounds_toArray, List.set_cons_zero, List.set_cons_succ]
                refine wpAnyU_ready (rs := [16]) (by kernel_rfl) rfl ?_
                refine AllReadyU.cons la16 rfl (fun K hK => ?_) ?_
                · have hcell := HWC.out _ HG3.out zn hzn
                  obtain ⟨wv, hwv⟩ : ∃ wv, ws.getD zn 0 = wv := ⟨_, rfl⟩
                  have HWV : Hid (U64 wv) := hwv ▸ HFW.out zn
                  rw [hwv] at hcell
                  clear hwv
                  go_simp
                  clear hcell
                  refine hK.out _ _ ?_ (fun hSU16 => ?_)
                  · exact KS11.out _ HB3.out
                  clear hK K hSU15
                  try simp only [Act.put, List.setIfInBounds_toArray, List.set_cons_zero, List.set_cons_succ]
                  refine tkU (v := ?_) 20 la20 hSU16 (by kernel_rfl) (fun _ _ _ h => h) rfl ?_ ?_
                  rotate_left
                  · (intro w hSw; (try dsimp only at hSw); go_simp <;> with_reducible rfl)
                  simp only [Act.put, List.setIfInBounds_toArray, List.set_cons_zero, List.set_cons_succ]
                  refine wpAnyU_ready (rs := [22]) (by kernel_rfl) rfl ?_
                  refine AllReadyU.free la22 rfl (by kernel_rfl) (fun K hK => ?_) ?_
                  · refine step_store_row rfl 52 _ _ rfl P _ rfl rfl 52 #[.int .u64 0, .bool false, .bool false, .slice none 0 0] RP3.out (by kernel_rfl) rfl (by simp [Value.oneCell']) ?_
                    refine hK.out _ _ ?_
                    clear hK K hSU16
                    try simp only [Act.put, List.setIfInBounds_toArray, List.set_cons_zero, List.set_cons_succ]
                    refine wpAnyU_done (by kernel_rfl) ?_ _
                    have RPF := Lib.hid (setRow_heap u3 P _ #[.int .u64 wv, .bool (q == 1), .bool false, .slice none 0 0] _ (0, 0) RP3.out)
                    have HIF : Hid (WI 50 w (u3.setRow P #[.int .u64 wv, .bool (q == 1), .bool false, .slice none 0 0]) (some P :: E) B (B + 1) x y) := HI3.out.poke (by simp) RP3.out (by have := HPG.out; omega) (row_grown u3 P _) (by decide) (by decide) (by decide) (by decide)
                    have HFF : Hid (FrI PuR (OffS (x.S (some P :: E) B) (u3.setRow P #[.int .u64 wv, .bool (q == 1), .bool false, .slice none 0 0])) y) := HF3.out.sub pu_sim fun w3 h3 => (OffS.grown (S := x.S (some P :: E) B) (row_grown u3 P _) (.inr (by simp [WV.S]))).trans1 h3
                    have HCF : Hid (CodesE (u3.setRow P #[.int .u64 wv, .bool (q == 1), .bool false, .slice none 0 0]) g) := HC3.out.grown (by have := HPG.out; have := HKN.out; omega) (row_grown u3 P _)
                    go_wp2_with fail
                    go_meet
                    exact ⟨P, wv, (q == 1), rfl, RPF, HWV, HPG, HIF, HFF, HCF⟩
                  exact AllReadyU.nil
                exact AllReadyU.nil
              exact AllReadyU.nil
            exact AllReadyU.nil
          refine AllReadyU.cons la21 rfl (fun K hK => ?_) ?_
          · go_simp
            obtain ⟨u1, P, hv, hXe, RP1, hbX, ltP⟩ := alloc_pack u0 (.cells #[.int .u64 0, .bool false, .bool false, .slice none 0 0] 52)
            rw [hv, hXe]
            have HPG : Hid (B < P) := by have h1 := HG0.out.1; show B < P; omega
            have hPn : u0.heap.size ≤ P := by omega
            have hPn2 : P < u1.heap.size := ltP.out
            have HG1 : Hid (OffS (x.S E B) wo u1) := HG0.out.trans1 (OffS.below hbX.out)
            have HC1 := Lib.hid (HC0.out.kept HC0.out.lt hbX.out)
            have HB1 : Hid (u1.heap[B]? = wo.heap[B]?) := (hbX.out.block B (Nat.lt_of_lt_of_le hBl HG0.out.1)).trans HB0.out
            have HI1 := Lib.hid (HI0.out.exempt hbX.out P hPn hPn2)
            have HF1 : Hid (FrI PuR (OffS (x.S (some P :: E) B) u1) y) := HF0.out.sub pu_sim fun w3 h3 => OffS.exempt (S := x.S E B) hbX.out hPn w3 h3
            clear hv hXe hbX hPn hPn2
            refine hK.out _ _ ?_ (fun hSU17 => ?_)
            · exact KS11.out _ HB1.out
            clear hK K hSU0
            try simp only [Act.put, List.setIfInBounds_toArray, List.set_cons_zero, List.set_cons_succ]
            refine wpAnyU_ready (rs := [14]) (by kernel_rfl) rfl ?_
            refine AllReadyU.cons la14 rfl (fun K hK => ?_) ?_
            · go_simp
              go_at_call 12
              refine (nextE g (nw : Int) _ HC1.out (by omega) (by omega)).mono ?_
              rintro e u2 ⟨z, rfl, hz0, hz1, hcd, hg1⟩
              have HC2 := Lib.hid hcd
              have HG2 : Hid (OffS (x.S E B) wo u2) := HG1.out.trans1 (OffS.grown hg1 (.inr (by simp [WV.S, HE.out])))
              have HB2 : Hid (u2.heap[B]? = wo.heap[B]?) := (hg1.block B (Nat.lt_of_lt_of_le hBl HG1.out.1) (by have := HKN.out; simp; omega)).trans HB1.out
              have HI2 := Lib.hid (HI1.out.drawn (by simp [HE.out]) HKN.out hg1)
              have HF2 := Lib.hid (HF1.out.sub pu_sim fun w3 h3 => (OffS.grown (S := x.S (some P :: E) B) hg1 (.inr (by simp [WV.S, HE.out]))).trans1 h3)
              have RP2 := Lib.hid ((hg1.block P (Array.getElem?_eq_some_iff.1 RP1.out).1 (by have := HPG.out; have := HKN.out; simp; omega)).trans RP1.out)
              obtain ⟨zn, hzn⟩ : ∃ zn : Nat, z = (zn : Int) := ⟨z.toNat, by omega⟩
              subst hzn
              have hzn : zn < nw := by omega
              have hznI : (zn : Int) < (nw : Int) := hz1
              have hz00 : (0 : Int) ≤ (zn : Int) := hz0
              clear hcd hg1
              refine hK.out _ _ ?_ (fun hSU18 => ?_)
              · exact KS11.out _ HB2.out
              clear hK K hSU17
              try simp only [Act.put, List.setIfInBounds_toArray, List.set_cons_zero, List.set_cons_succ]
              refine tkU (v := ?_) 15 la15 hSU18 (by kernel_rfl) (fun _ _ _ h => h) rfl ?_ ?_
              rotate_left
              · (intro w hSw; (try dsimp only at hSw); go_simp <;> with_reducible rfl)
              simp only [Act.put, List.setIfInBounds_toArray, List.set_cons_zero, List.set_cons_succ]
              refine wpAnyU_ready (rs := [16, 18]) (by kernel_rfl) rfl ?_
              refine AllReadyU.cons la16 rfl (fun K hK => ?_) ?_
              · have hcell := HWC.out _ HG2.out zn hzn
                obtain ⟨wv, hwv⟩ : ∃ wv, ws.getD zn 0 = wv := ⟨_, rfl⟩
                have HWV : Hid (U64 wv) := hwv ▸ HFW.out zn
                rw [hwv] at hcell
                clear hwv
                go_simp
                clear hcell
                refine hK.out _ _ ?_ (fun hSU19 => ?_)
                · exact KS11.out _ HB2.out
                clear hK K hSU18
                try simp only [Act.put, List.setIfInBounds_toArray, List.set_cons_zero, List.set_cons_succ]
                refine wpAnyU_ready (rs := [18]) (by kernel_rfl) rfl ?_
                refine AllReadyU.cons la18 rfl (fun K hK => ?_) ?_
                · go_simp
                  go_at_call 12
                  refine (nextE g 2 _ HC2.out (by omega) (by omega)).mono ?_
                  rintro e u3 ⟨q, rfl, hq0, hq1, hcd, hg1⟩
                  have HC3 := Lib.hid hcd
                  have HG3 : Hid (OffS (x.S E B) wo u3) := HG2.out.trans1 (OffS.grown hg1 (.inr (by simp [WV.S, HE.out])))
                  have HB3 : Hid (u3.heap[B]? = wo.heap[B]?) := (hg1.block B (Nat.lt_of_lt_of_le hBl HG2.out.1) (by have := HKN.out; simp; omega)).trans HB2.out
                  have HI3 := Lib.hid (HI2.out.drawn (by simp [HE.out]) HKN.out hg1)
                  have HF3 := Lib.hid (HF2.out.sub pu_sim fun w3 h3 => (OffS.grown (S := x.S (some P :: E) B) hg1 (.inr (by simp [WV.S, HE.out]))).trans1 h3)
                  have RP3 := Lib.hid ((hg1.block P (Array.getElem?_eq_some_iff.1 RP2.out).1 (by have := HPG.out; have := HKN.out; simp; omega)).trans RP2.out)
                  clear hcd hg1
                  refine hK.out _ _ ?_ (fun hSU20 => ?_)
                  · exact KS11.out _ HB3.out
                  clear hK K hSU19
                  try simp only [Act.put, List.setIfInBounds_toArray, List.set_cons_zero, List.set_cons_succ]
                  refine tkU (v := ?_) 19 la19 hSU20 (by kernel_rfl) (fun _ _ _ h => h) rfl ?_ ?_
                  rotate_left
                  · (intro w hSw; (try dsimp only at hSw); go_simp <;> with_reducible rfl)
                  simp only [Act.put, List.setIfInBounds_toArray, List.set_cons_zero, List.set_cons_succ]
                  refine tkU (v := ?_) 20 la20 hSU20 (by kernel_rfl) (fun _ _ _ h => h) rfl ?_ ?_
                  rotate_left
                  · (intro w hSw; (try dsimp only at hSw); go_simp <;> with_reducible rfl)
                  simp only [Act.put, List.setIfInBounds_toArray, List.set_cons_zero, List.set_cons_succ]
                  refine wpAnyU_ready (rs := [22]) (by kernel_rfl) rfl ?_
                  refine AllReadyU.free la22 rfl (by kernel_rfl) (fun K hK => ?_) ?_
                  · refine step_store_row rfl 52 _ _ rfl P _ rfl rfl 52 #[.int .u64 0, .bool false, .bool false, .slice none 0 0] RP3.out (by kernel_rfl) rfl (by simp [Value.oneCell']) ?_
                    refine hK.out _ _ ?_
                    clear hK K hSU20
                    try simp only [Act.put, List.setIfInBounds_toArray, List.set_cons_zero, List.set_cons_succ]
                    refine wpAnyU_done (by kernel_rfl) ?_ _
                    have RPF := Lib.hid (setRow_heap u3 P _ #[.int .u64 wv, .bool (q == 1), .bool false, .slice none 0 0] _ (0, 0) RP3.out)
                    have HIF : Hid (WI 50 w (u3.setRow P #[.int .u64 wv, .bool (q == 1), .bool false, .slice none 0 0]) (some P :: E) B (B + 1) x y) := HI3.out.poke (by simp) RP3.out (by have := HPG.out; omega) (row_grown u3 P _) (by decide) (by decide) (by decide) (by decide)
                    have HFF : Hid (FrI PuR (OffS (x.S (some P :: E) B) (u3.setRow P #[.int .u64 wv, .bool (q == 1), .bool false, .slice none 0 0])) y) := HF3.out.sub pu_sim fun w3 h3 => (OffS.grown (S := x.S (some P :: E) B) (row_grown u3 P _) (.inr (by simp [WV.S]))).trans1 h3
                    have HCF : Hid (CodesE (u3.setRow P #[.int .u64 wv, .bool (q == 1), .bool false, .slice none 0 0]) g) := HC3.out.grown (by have := HPG.out; have := HKN.out; omega) (row_grown u3 P _)
                    go_wp2_with fail
                    go_meet
                    exact ⟨P, wv, (q == 1), rfl, RPF, HWV, HPG, HIF, HFF, HCF⟩
                  exact AllReadyU.nil
                exact AllReadyU.nil
              refine AllReadyU.cons la18 rfl (fun K hK => ?_) ?_
              · go_simp
                go_at_call 12
                refine (nextE g 2 _ HC2.out (by omega) (by omega)).mono ?_
                rintro e u3 ⟨q, rfl, hq0, hq1, hcd, hg1⟩
                have HC3 := Lib.hid hcd
                have HG3 : Hid (OffS (x.S E B) wo u3) := HG2.out.trans1 (OffS.grown hg1 (.inr (by simp [WV.S, HE.out])))
                have HB3 : Hid (u3.heap[B]? = wo.heap[B]?) := (hg1.block B (Nat.lt_of_lt_of_le hBl HG2.out.1) (by have := HKN.out; simp; omega)).trans HB2.out
                have HI3 := Lib.hid (HI2.out.drawn (by simp [HE.out]) HKN.out hg1)
                have HF3 := Lib.hid (HF2.out.sub pu_sim fun w3 h3 => (OffS.grown (S := x.S (some P :: E) B) hg1 (.inr (by simp [WV.S, HE.out]))).trans1 h3)
                have RP3 := Lib.hid ((hg1.block P (Array.getElem?_eq_some_iff.1 RP2.out).1 (by have := HPG.out; have := HKN.out; simp; omega)).trans RP2.out)
                clear hcd hg1
                refine hK.out _ _ ?_ (fun hSU21 => ?_)
                · exact KS11.out _ HB3.out
                clear hK K hSU18
                try simp only [Act.put, List.setIfInBounds_toArray, List.set_cons_zero, List.set_cons_succ]
                refine tkU (v := ?_) 19 la19 hSU21 (by kernel_rfl) (fun _ _ _ h => h) rfl ?_ ?_
                rotate_left
                · (intro w hSw; (try dsimp only at hSw); go_simp <;> with_reducible rfl)
                simp only [Act.put, List.setIfInBounds_toArray, List.set_cons_zero, List.set_cons_succ]
                refine wpAnyU_ready (rs := [16]) (by kernel_rfl) rfl ?_
                refine AllReadyU.cons la16 rfl (fun K hK => ?_) ?_
                · have hcell := HWC.out _ HG3.out zn hzn
                  obtain ⟨wv, hwv⟩ : ∃ wv, ws.getD zn 0 = wv := ⟨_, rfl⟩
                  have HWV : Hid (U64 wv) := hwv ▸ HFW.out zn
                  rw [hwv] at hcell
                  clear hwv
                  go_simp
                  clear hcell
                  refine hK.out _ _ ?_ (fun hSU22 => ?_)
                  · exact KS11.out _ HB3.out
                  clear hK K hSU21
                  try simp only [Act.put, List.setIfInBounds_toArray, List.set_cons_zero, List.set_cons_succ]
                  refine tkU (v := ?_) 20 la20 hSU22 (by kernel_rfl) (fun _ _ _ h => h) rfl ?_ ?_
                  rotate_left
                  · (intro w hSw; (try dsimp only at hSw); go_simp <;> with_reducible rfl)
                  simp only [Act.put, List.setIfInBounds_toArray, List.set_cons_zero, List.set_cons_succ]
                  refine wpAnyU_ready (rs := [22]) (by kernel_rfl) rfl ?_
                  refine AllReadyU.free la22 rfl (by kernel_rfl) (fun K hK => ?_) ?_
                  · refine step_store_row rfl 52 _ _ rfl P _ rfl rfl 52 #[.int .u64 0, .bool false, .bool false, .slice none 0 0] RP3.out (by kernel_rfl) rfl (by simp [Value.oneCell']) ?_
                    refine hK.out _ _ ?_
                    clear hK K hSU22
                    try simp only [Act.put, List.setIfInBounds_toArray, List.set_cons_zero, List.set_cons_succ]
                    refine wpAnyU_done (by kernel_rfl) ?_ _
                    have RPF := Lib.hid (setRow_heap u3 P _ #[.int .u64 wv, .bool (q == 1), .bool false, .slice none 0 0] _ (0, 0) RP3.out)
                    have HIF : Hid (WI 50 w (u3.setRow P #[.int .u64 wv, .bool (q == 1), .bool false, .slice none 0 0]) (some P :: E) B (B + 1) x y) := HI3.out.poke (by simp) RP3.out (by have := HPG.out; omega) (row_grown u3 P _) (by decide) (by decide) (by decide) (by decide)
                    have HFF : Hid (FrI PuR (OffS (x.S (some P :: E) B) (u3.setRow P #[.int .u64 wv, .bool (q == 1), .bool false, .slice none 0 0])) y) := HF3.out.sub pu_sim fun w3 h3 => (OffS.grown (S := x.S (some P :: E) B) (row_grown u3 P _) (.inr (by simp [WV.S]))).trans1 h3
                    have HCF : Hid (CodesE (u3.setRow P #[.int .u64 wv, .bool (q == 1), .bool false, .slice none 0 0]) g) := HC3.out.grown (by have := HPG.out; have := HKN.out; omega) (row_grown u3 P _)
                    go_wp2_with fail
                    go_meet
                    exact ⟨P, wv, (q == 1), rfl, RPF, HWV, HPG, HIF, HFF, HCF⟩
                  exact AllReadyU.nil
                exact AllReadyU.nil
              exact AllReadyU.nil
            exact AllReadyU.nil
          exact AllReadyU.nil
        case rest =>
          obtain ⟨P, val, ok, rfl, RP0, HVL0, HPB, HI4, HF4, HC4⟩ := hcut
          obtain ⟨w4, rfl⟩ : ∃ w3 : World, w3 = wc := ⟨_, rfl⟩
          clear HI HF HC HWC HFW KS11 ROW
          obtain ⟨E1, hE1⟩ : ∃ E1, some P :: E = E1 := ⟨_, rfl⟩
          rw [hE1] at HI4 HF4
          have HEg : Hid (some g ∈ E1) := hE1 ▸ List.mem_cons_of_mem _ HE.out
          have HPE : Hid (some P ∈ E1) := hE1 ▸ List.mem_cons_self ..
          have RP4 := RP0
          clear hE1 HE RP0
          go_wp2_with fail
          refine (nextE g 3 _ HC4.out (by omega) (by omega)).mono ?_
          rintro e w5 ⟨z3, rfl, h30, h31, hcd, hg1⟩
          have HC5 := Lib.hid hcd
          have HI5 := Lib.hid (HI4.out.drawn HEg.out HKN.out hg1)
          have HF5 := Lib.hid (HF4.out.sub pu_sim fun w3 h3 => (OffS.grown (S := x.S E1 B) hg1 (.inr (by simp [WV.S, HEg.out]))).trans1 h3)
          have RP5 := Lib.hid ((hg1.block P (Array.getElem?_eq_some_iff.1 RP4.out).1 (by have := HPB.out; have := HKN.out; simp; omega)).trans RP4.out)
          clear hcd hg1 HI4 HF4 RP4 HC4
          go_upto_if 55 with (fail)
          go_cut [] (fun wx => ∃ nv : Int, Hid (wx.heap[P]? = some (.cells #[.int .u64 nv, .bool ok, .bool false, .slice none 0 0] 52 (0, 0))) ∧ Hid (U64 nv) ∧ Hid (WI 50 w wx E1 B (B + 1) x y) ∧ Hid (FrI PuR (OffS (x.S E1 B) wx) y) ∧ Hid (CodesE wx g))
          case first =>
            by_cases hz : z3 = 1
            · subst hz
              obtain ⟨gl, lc, hvl, hlA, hlc, hgl, hgls, hcap, RG, -⟩ := HI5.out.machAt 0 (by rw [HY.out.1]; simp)
              have hB5 := HI5.out.lt
              have hg5 := hgls
              have HGL : Hid (B < gl) := hgl
              have row0 := HI5.out.row
              unfold WV.row at row0
              rw [hlA, hlc, show y.l.length = 1 by rw [HY.out.1]; rfl] at row0
              have ROW := Lib.hid row0
              have RG1 := RG 11 (.int .u64 m.h) (by simp [HY.out.1, machL])
              have HQ10 := Lib.hid RG1
              have KS13 : Hid (∀ w', w'.heap[B]? = w5.heap[B]? → w'.heap[gl]? = w5.heap[gl]? → (fun w' : World => w'.cell? ⟨B, 6, none⟩ = some (.slice (some ⟨gl, 0, none⟩) 1 lc) ∧ w'.cell? ⟨gl, 11, none⟩ = some (.int .u64 m.h)) w') := fun w' h1 h2 => ⟨(rowc10 (h1.trans ROW.out)).2.2.2.2.2.2.1, (cell_heap h2 11).trans HQ10.out⟩
              clear hvl hlA hlc hgl hgls hcap RG row0 RG1
              go_upto_region 13 with fail
              refine wp_region_until (fun w' : World => w'.cell? ⟨B, 6, none⟩ = some (.slice (some ⟨gl, 0, none⟩) 1 lc) ∧ w'.cell? ⟨gl, 11, none⟩ = some (.int .u64 m.h)) 13 14 (by kernel_rfl) rfl ?_
              obtain ⟨u0, hu0, HU0⟩ := drew_pack w5
              rw [hu0]
              clear hu0
              have HI50 := Lib.hid (HI5.out.next HU0.out)
              have HF50 := Lib.hid (HF5.out.sub pu_sim fun w3 h3 => (OffS.below (S := x.S E1 B) HU0.out).trans1 h3)
              have RP50 := Lib.hid ((HU0.out.block P (Array.getElem?_eq_some_iff.1 RP5.out).1).trans RP5.out)
              have HC50 := Lib.hid (HC5.out.kept HC5.out.lt HU0.out)
              have hSU0 := KS13.out _ (HU0.out.block B hB5) (HU0.out.block gl hg5)
              refine tkU (v := ?_) 0 la0 hSU0 (by kernel_rfl) (fun _ _ _ h => h) rfl ?_ ?_
              rotate_left
              · (intro w hSw; (try dsimp only at hSw); go_simp <;> with_reducible rfl)
              simp only [Act.put, List.setIfInBounds_toArray, List.set_cons_zero, List.set_cons_succ]
              refine tkU (v := ?_) 1 la1 hSU0 (by kernel_rfl) (fun _ _ _ h => h) rfl ?_ ?_
              rotate_left
              · (intro w hSw; (try dsimp only at hSw); go_simp <;> with_reducible rfl)
              simp only [Act.put, List.setIfInBounds_toArray, List.set_cons_zero, List.set_cons_succ]
              refine tkU (v := ?_) 2 la2 hSU0 (by kernel_rfl) (fun _ _ _ h => h) rfl ?_ ?_
              rotate_left
              · (intro w hSw; (try dsimp only at hSw); go_simp <;> with_reducible rfl)
              simp only [Act.put, List.setIfInBounds_toArray, List.set_cons_zero, List.set_cons_succ]
              refine tkU (v := ?_) 3 la3 hSU0 (by kernel_rfl) (fun _ _ _ h => h) rfl ?_ ?_
              rotate_left
              · (intro w hSw; (try dsimp only at hSw); go_simp <;> with_reducible rfl)
              simp only [Act.put, List.setIfInBounds_toArray, List.set_cons_zero, List.set_cons_succ]
              refine tkU (v := ?_) 4 la4 hSU0 (by kernel_rfl) (fun _ _ _ h => h) rfl ?_ ?_
              rotate_left
              · (intro w hSw; (try dsimp only at hSw); go_simp <;> with_reducible rfl)
              simp only [Act.put, List.setIfInBounds_toArray, List.set_cons_zero, List.set_cons_succ]
              refine tkU (v := ?_) 5 la5 hSU0 (by kernel_rfl) (fun _ _ _ h => h) rfl ?_ ?_
              rotate_left
              · (intro w hSw; (try dsimp only at hSw); go_simp <;> with_reducible rfl)
              simp only [Act.put, List.setIfInBounds_toArray, List.set_cons_zero, List.set_cons_succ]
              refine tkU (v := ?_) 6 la6 hSU0 (by kernel_rfl) (fun _ _ _ h => h) rfl ?_ ?_
              rotate_left
              · (intro w hSw; (try dsimp only at hSw); go_simp <;> with_reducible rfl)
              simp only [Act.put, List.setIfInBounds_toArray, List.set_cons_zero, List.set_cons_succ]
              refine tkU (v := ?_) 7 la7 hSU0 (by kernel_rfl) (fun _ _ _ h => h) rfl ?_ ?_
              rotate_left
              · (intro w hSw; (try dsimp only at hSw); go_simp <;> with_reducible rfl)
              simp only [Act.put, List.setIfInBounds_toArray, List.set_cons_zero, List.set_cons_succ]
              refine tkU (v := ?_) 8 la8 hSU0 (by kernel_rfl) (fun _ _ _ h => h) rfl ?_ ?_
              rotate_left
              · (intro w hSw; (try dsimp only at hSw); go_simp <;> with_reducible rfl)
              simp only [Act.put, List.setIfInBounds_toArray, List.set_cons_zero, List.set_cons_succ]
              refine wpAnyU_ready (rs := [9]) (by kernel_rfl) rfl ?_
              refine AllReadyU.cons la9 rfl (fun K hK => ?_) ?_
              · go_simp
                go_at_call 12
                refine (nextE g 3 _ HC50.out (by omega) (by omega)).mono ?_
                rintro e u1 ⟨z6, rfl, h60, h61, hcd, hg1⟩
                have HC51 := Lib.hid hcd
                have HI51 := Lib.hid (HI50.out.drawn HEg.out HKN.out hg1)
                have HF51 := Lib.hid (HF50.out.sub pu_sim fun w3 h3 => (OffS.grown (S := x.S E1 B) hg1 (.inr (by simp [WV.S, HEg.out]))).trans1 h3)
                have RP51 := Lib.hid ((hg1.block P (Array.getElem?_eq_some_iff.1 RP50.out).1 (by have := HPB.out; have := HKN.out; simp; omega)).trans RP50.out)
                have HK13 : Hid (u1.heap[B]? = w5.heap[B]? ∧ u1.heap[gl]? = w5.heap[gl]?) := ⟨(hg1.block B (Nat.lt_of_lt_of_le hB5 HU0.out.size) (by have := HKN.out; simp; omega)).trans (HU0.out.block B hB5), (hg1.block gl (Nat.lt_of_lt_of_le hg5 HU0.out.size) (by have := HKN.out; have := HGL.out; simp; omega)).trans (HU0.out.block gl hg5)⟩
                have hw6 : IntKind.u64.wrap z6 = z6 := by rw [IntKind.wrap_u64]; omega
                obtain ⟨nv, hnv⟩ : ∃ nv, IntKind.u64.wrap (m.h + z6) = nv := ⟨_, rfl⟩
                have HNV : Hid (U64 nv) := hnv ▸ U64.wrapped _
                clear hcd hg1
                refine hK.out _ _ ?_ (fun hSU1 => ?_)
                · exact KS13.out _ HK13.out.1 HK13.out.2
                clear hK K hSU0
                try simp only [Act.put, List.setIfInBounds_toArray, List.set_cons_zero, List.set_cons_succ]
                refine tkU (v := ?_) 10 la10 hSU1 (by kernel_rfl) (fun _ _ _ h => h) rfl ?_ ?_
                rotate_left
                · (intro w hSw; (try dsimp only at hSw); go_simp <;> with_reducible rfl)
                simp only [Act.put, List.setIfInBounds_toArray, List.set_cons_zero, List.set_cons_succ]
                refine tkU (v := ?_) 11 la11 hSU1 (by kernel_rfl) (fun _ _ _ h => h) rfl ?_ ?_
                rotate_left
                · (intro w hSw; (try dsimp only at hSw); go_simp <;> with_reducible rfl)
                simp only [Act.put, List.setIfInBounds_toArray, List.set_cons_zero, List.set_cons_succ]
                refine tkU (v := ?_) 12 la12 hSU1 (by kernel_rfl) (fun _ _ _ h => h) rfl ?_ ?_
                rotate_left
                · (intro w hSw; (try dsimp only at hSw); go_simp <;> with_reducible rfl)
                simp only [Act.put, List.setIfInBounds_toArray, List.set_cons_zero, List.set_cons_succ]
                refine wpAnyU_ready (rs := [13]) (by kernel_rfl) rfl ?_
                refine AllReadyU.free la13 rfl (by kernel_rfl) (fun K hK => ?_) ?_
                · have fz := frozen_of_row _ _ 0 _ _ RP51.out
                  have c0 := cell_of_row _ _ 0 _ _ _ RP51.out
                  simp at c0
                  go_simp
                  try rw [hnv]
                  clear fz c0
                  refine hK.out _ _ ?_
                  clear hK K hSU1
                  try simp only [Act.put, List.setIfInBounds_toArray, List.set_cons_zero, List.set_cons_succ]
                  refine wpAnyU_done (by kernel_rfl) ?_ _
                  have r1 := heap_setCell_same u1 P 0 _ _ (.int .u64 nv) RP51.out
                  simp at r1
                  have RPF := Lib.hid r1
                  clear r1
                  have HIF := Lib.hid (HI51.out.poke HPE.out RP51.out (by have := HPB.out; omega) (grownBy_setCell u1 ⟨P, 0, none⟩ (.int .u64 nv)) (by decide) (by decide) (by decide) (by decide))
                  have HFF := Lib.hid (HF51.out.sub pu_sim fun w3 h3 => (OffS.grown (S := x.S E1 B) (grownBy_setCell u1 ⟨P, 0, none⟩ (.int .u64 nv)) (.inr (by simp [WV.S, HPE.out]))).trans1 h3)
                  have HCF := Lib.hid (HC51.out.grown (show g < P by have := HPB.out; have := HKN.out; omega) (grownBy_setCell u1 ⟨P, 0, none⟩ (.int .u64 nv)))
                  clear hw6 hnv
                  go_wp2_with fail
                  go_meet
                  exact ⟨nv, RPF, HNV, HIF, HFF, HCF⟩
                exact AllReadyU.nil
              exact AllReadyU.nil
            · have hzb : (z3 == 1) = false := by simpa using hz
              go_wp2_with fail
              go_meet
              exact ⟨val, RP5, HVL0, HI5, HF5, HC5⟩
          case rest =>
            clear HI5 HF5 HC5 RP5 HVL0
            obtain ⟨val, RP4, HVL0, HI4, HF4, HC4⟩ := hcut
            obtain ⟨w4, rfl⟩ : ∃ w3 : World, w3 = wc := ⟨_, rfl⟩
            go_wp2_with fail
            refine (nextE g 5 _ HC4.out (by omega) (by omega)).mono ?_
            rintro e w5 ⟨z3, rfl, h30, h31, hcd, hg1⟩
            have HC5 := Lib.hid hcd
            have HI5 := Lib.hid (HI4.out.drawn HEg.out HKN.out hg1)
            have HF5 := Lib.hid (HF4.out.sub pu_sim fun w3 h3 => (OffS.grown (S := x.S E1 B) hg1 (.inr (by simp [WV.S, HEg.out]))).trans1 h3)
            have RP5 := Lib.hid ((hg1.block P (Array.getElem?_eq_some_iff.1 RP4.out).1 (by have := HPB.out; have := HKN.out; simp; omega)).trans RP4.out)
            clear hcd hg1 HI4 HF4 RP4 HC4
            go_upto_if 71 with (fail)
            go_cut [] (fun wx => ∃ nv : Int, Hid (wx.heap[P]? = some (.cells #[.int .u64 nv, .bool ok, .bool false, .slice none 0 0] 52 (0, 0))) ∧ Hid (U64 nv) ∧ Hid (WI 50 w wx E1 B (B + 1) x y) ∧ Hid (FrI PuR (OffS (x.S E1 B) wx) y) ∧ Hid (CodesE wx g))
            case first =>
              by_cases hz : z3 = 1
              · subst hz
                obtain ⟨gl, lc, hvl, hlA, hlc, hgl, hgls, hcap, RG, -⟩ := HI5.out.machAt 0 (by rw [HY.out.1]; simp)
                have hB5 := HI5.out.lt
                have hg5 := hgls
                have HGL : Hid (B < gl) := hgl
                have row0 := HI5.out.row
                unfold WV.row at row0
                rw [hlA, hlc, show y.l.length = 1 by rw [HY.out.1]; rfl] at row0
                have ROW := Lib.hid row0
                have RG1 := RG 11 (.int .u64 m.h) (by simp [HY.out.1, machL])
                have HQ10 := Lib.hid RG1
                have KS13 : Hid (∀ w', w'.heap[B]? = w5.heap[B]? → w'.heap[gl]? = w5.heap[gl]? → (fun w' : World => w'.cell? ⟨B, 6, none⟩ = some (.slice (some ⟨gl, 0, none⟩) 1 lc) ∧ w'.cell? ⟨gl, 11, none⟩ = some (.int .u64 m.h)) w') := fun w' h1 h2 => ⟨(rowc10 (h1.trans ROW.out)).2.2.2.2.2.2.1, (cell_heap h2 11).trans HQ10.out⟩
                clear hvl hlA hlc hgl hgls hcap RG row0 RG1
                go_upto_region 15 with fail
                refine wp_region_until (fun w' : World => w'.cell? ⟨B, 6, none⟩ = some (.slice (some ⟨gl, 0, none⟩) 1 lc) ∧ w'.cell? ⟨gl, 11, none⟩ = some (.int .u64 m.h)) 14 15 (by kernel_rfl) rfl ?_
                obtain ⟨u0, hu0, HU0⟩ := drew_pack w5
                rw [hu0]
                clear hu0
                have HI50 := Lib.hid (HI5.out.next HU0.out)
                have HF50 := Lib.hid (HF5.out.sub pu_sim fun w3 h3 => (OffS.below (S := x.S E1 B) HU0.out).trans1 h3)
                have RP50 := Lib.hid ((HU0.out.block P (Array.getElem?_eq_some_iff.1 RP5.out).1).trans RP5.out)
                have HC50 := Lib.hid (HC5.out.kept HC5.out.lt HU0.out)
                have hSU0 := KS13.out _ (HU0.out.block B hB5) (HU0.out.block gl hg5)
                refine tkU (v := ?_) 0 la0 hSU0 (by kernel_rfl) (fun _ _ _ h => h) rfl ?_ ?_
                rotate_left
                · (intro w hSw; (try dsimp only at hSw); go_simp <;> with_reducible rfl)
                simp only [Act.put, List.setIfInBounds_toArray, List.set_cons_zero, List.set_cons_succ]
                refine tkU (v := ?_) 1 la1 hSU0 (by kernel_rfl) (fun _ _ _ h => h) rfl ?_ ?_
                rotate_left
                · (intro w hSw; (try dsimp only at hSw); go_simp <;> with_reducible rfl)
                simp only [Act.put, List.setIfInBounds_toArray, List.set_cons_zero, List.set_cons_succ]
                refine tkU (v := ?_) 2 la2 hSU0 (by kernel_rfl) (fun _ _ _ h => h) rfl ?_ ?_
                rotate_left
                · (intro w hSw; (try dsimp only at hSw); go_simp <;> with_reducible rfl)
                simp only [Act.put, List.setIfInBounds_toArray, List.set_cons_zero, List.set_cons_succ]
                refine tkU (v := ?_) 3 la3 hSU0 (by kernel_rfl) (fun _ _ _ h => h) rfl ?_ ?_
                rotate_left
                · (intro w hSw; (try dsimp only at hSw); go_simp <;> with_reducible rfl)
                simp only [Act.put, List.setIfInBounds_toArray, List.set_cons_zero, List.set_cons_succ]
                refine tkU (v := ?_) 4 la4 hSU0 (by kernel_rfl) (fun _ _ _ h => h) rfl ?_ ?_
                rotate_left
                · (intro w hSw; (try dsimp only at hSw); go_simp <;> with_reducible rfl)
                simp only [Act.put, List.setIfInBounds_toArray, List.set_cons_zero, List.set_cons_succ]
                refine tkU (v := ?_) 5 la5 hSU0 (by kernel_rfl) (fun _ _ _ h => h) rfl ?_ ?_
                rotate_left
                · (intro w hSw; (try dsimp only at hSw); go_simp <;> with_reducible rfl)
                simp only [Act.put, List.setIfInBounds_toArray, List.set_cons_zero, List.set_cons_succ]
                refine tkU (v := ?_) 6 la6 hSU0 (by kernel_rfl) (fun _ _ _ h => h) rfl ?_ ?_
                rotate_left
                · (intro w hSw; (try dsimp only at hSw); go_simp <;> with_reducible rfl)
                simp only [Act.put, List.setIfInBounds_toArray, List.set_cons_zero, List.set_cons_succ]
                refine tkU (v := ?_) 7 la7 hSU0 (by kernel_rfl) (fun _ _ _ h => h) rfl ?_ ?_
                rotate_left
                · (intro w hSw; (try dsimp only at hSw); go_simp <;> with_reducible rfl)
                simp only [Act.put, List.setIfInBounds_toArray, List.set_cons_zero, List.set_cons_succ]
                refine tkU (v := ?_) 8 la8 hSU0 (by kernel_rfl) (fun _ _ _ h => h) rfl ?_ ?_
                rotate_left
                · (intro w hSw; (try dsimp only at hSw); go_simp <;> with_reducible rfl)
                simp only [Act.put, List.setIfInBounds_toArray, List.set_cons_zero, List.set_cons_succ]
                refine tkU (v := ?_) 9 la9 hSU0 (by kernel_rfl) (fun _ _ _ h => h) rfl ?_ ?_
                rotate_left
                · (intro w hSw; (try dsimp only at hSw); go_simp <;> with_reducible rfl)
                simp only [Act.put, List.setIfInBounds_toArray, List.set_cons_zero, List.set_cons_succ]
                refine wpAnyU_ready (rs := [10]) (by kernel_rfl) rfl ?_
                refine AllReadyU.cons la10 rfl (fun K hK => ?_) ?_
                · go_simp
                  go_at_call 12
                  refine (nextE g 10 _ HC50.out (by omega) (by omega)).mono ?_
                  rintro e u1 ⟨z6, rfl, h60, h61, hcd, hg1⟩
                  have HC51 := Lib.hid hcd
                  have HI51 := Lib.hid (HI50.out.drawn HEg.out HKN.out hg1)
                  have HF51 := Lib.hid (HF50.out.sub pu_sim fun w3 h3 => (OffS.grown (S := x.S E1 B) hg1 (.inr (by simp [WV.S, HEg.out]))).trans1 h3)
                  have RP51 := Lib.hid ((hg1.block P (Array.getElem?_eq_some_iff.1 RP50.out).1 (by have := HPB.out; have := HKN.out; simp; omega)).trans RP50.out)
                  have HK13 : Hid (u1.heap[B]? = w5.heap[B]? ∧ u1.heap[gl]? = w5.heap[gl]?) := ⟨(hg1.block B (Nat.lt_of_lt_of_le hB5 HU0.out.size) (by have := HKN.out; simp; omega)).trans (HU0.out.block B hB5), (hg1.block gl (Nat.lt_of_lt_of_le hg5 HU0.out.size) (by have := HKN.out; have := HGL.out; simp; omega)).trans (HU0.out.block gl hg5)⟩
                  have hw6 : IntKind.u64.wrap z6 = z6 := by rw [IntKind.wrap_u64]; omega
                  obtain ⟨nv, hnv⟩ : ∃ nv, IntKind.u64.wrap (IntKind.u64.wrap (2 * m.h) + z6) = nv := ⟨_, rfl⟩
                  have HNV : Hid (U64 nv) := hnv ▸ U64.wrapped _
                  clear hcd hg1
                  refine hK.out _ _ ?_ (fun hSU1 => ?_)
                  · exact KS13.out _ HK13.out.1 HK13.out.2
                  clear hK K hSU0
                  try simp only [Act.put, List.setIfInBounds_toArray, List.set_cons_zero, List.set_cons_succ]
                  refine tkU (v := ?_) 11 la11 hSU1 (by kernel_rfl) (fun _ _ _ h => h) rfl ?_ ?_
                  rotate_left
                  · (intro w hSw; (try dsimp only at hSw); go_simp <;> with_reducible rfl)
                  simp only [Act.put, List.setIfInBounds_toArray, List.set_cons_zero, List.set_cons_succ]
                  refine tkU (v := ?_) 12 la12 hSU1 (by kernel_rfl) (fun _ _ _ h => h) rfl ?_ ?_
                  rotate_left
                  · (intro w hSw; (try dsimp only at hSw); go_simp <;> with_reducible rfl)
                  simp only [Act.put, List.setIfInBounds_toArray, List.set_cons_zero, List.set_cons_succ]
                  refine tkU (v := ?_) 13 la13 hSU1 (by kernel_rfl) (fun _ _ _ h => h) rfl ?_ ?_
                  rotate_left
                  · (intro w hSw; (try dsimp only at hSw); go_simp <;> with_reducible rfl)
                  simp only [Act.put, List.setIfInBounds_toArray, List.set_cons_zero, List.set_cons_succ]
                  refine wpAnyU_ready (rs := [14]) (by kernel_rfl) rfl ?_
                  refine AllReadyU.free la14 rfl (by kernel_rfl) (fun K hK => ?_) ?_
                  · have fz := frozen_of_row _ _ 0 _ _ RP51.out
                    have c0 := cell_of_row _ _ 0 _ _ _ RP51.out
                    simp at c0
                    go_simp
                    try rw [hnv]
                    clear fz c0
                    refine hK.out _ _ ?_
                    clear hK K hSU1
                    try simp only [Act.put, List.setIfInBounds_toArray, List.set_cons_zero, List.set_cons_succ]
                    refine wpAnyU_done (by kernel_rfl) ?_ _
                    have r1 := heap_setCell_same u1 P 0 _ _ (.int .u64 nv) RP51.out
                    simp at r1
                    have RPF := Lib.hid r1
                    clear r1
                    have HIF := Lib.hid (HI51.out.poke HPE.out RP51.out (by have := HPB.out; omega) (grownBy_setCell u1 ⟨P, 0, none⟩ (.int .u64 nv)) (by decide) (by decide) (by decide) (by decide))
                    have HFF := Lib.hid (HF51.out.sub pu_sim fun w3 h3 => (OffS.grown (S := x.S E1 B) (grownBy_setCell u1 ⟨P, 0, none⟩ (.int .u64 nv)) (.inr (by simp [WV.S, HPE.out]))).trans1 h3)
                    have HCF := Lib.hid (HC51.out.grown (show g < P by have := HPB.out; have := HKN.out; omega) (grownBy_setCell u1 ⟨P, 0, none⟩ (.int .u64 nv)))
                    clear hw6 hnv
                    go_wp2_with fail
                    go_meet
                    exact ⟨nv, RPF, HNV, HIF, HFF, HCF⟩
                  exact AllReadyU.nil
                exact AllReadyU.nil
              · have hzb : (z3 == 1) = false := by simpa using hz
                go_wp2_with fail
                go_meet
                exact ⟨val, RP5, HVL0, HI5, HF5, HC5⟩
            case rest =>
              obtain ⟨nv, RP6, HNV, HI6, HF6, HC6⟩ := hcut
              obtain ⟨w6, rfl⟩ : ∃ w3 : World, w3 = wc := ⟨_, rfl⟩
              clear HI5 HF5 HC5 RP5 HVL0
              go_upto_region 16 with fail
              go_cut [93] (fun s93 wx => Hid (∃ bq : Bool, s93 = .bool bq ∧ (bq = true → i < l1.length ∧ i < 4)) ∧ Hid (wx = w6))
              case first =>
                by_cases h1 : i < l1.length
                · have h1I : (i : Int) < (l1.length : Int) := by omega
                  by_cases h2 : i < 4
                  · have h2I : (i : Int) < 4 := by omega
                    go_wp2_with fail
                    go_meet
                    exact ⟨⟨true, rfl, fun _ => ⟨h1, h2⟩⟩, rfl⟩
                  · have h2I : ¬ (i : Int) < 4 := by omega
                    go_wp2_with fail
                    go_meet
                    exact ⟨⟨false, rfl, fun h => by cases h⟩, rfl⟩
                · have h1I : ¬ (i : Int) < (l1.length : Int) := by omega
                  go_wp2_with fail
                  go_meet
                  exact ⟨⟨false, rfl, fun h => by cases h⟩, rfl⟩
              case rest =>
                obtain ⟨hbb, hw⟩ := hcut
                obtain ⟨bq, rfl, hbq⟩ := hbb.out
                clear hbb
                have hw' := hw.out
                subst hw'
                go_upto_if 93 with (fail)
                go_cut [] (fun wx => ∃ (v2 : Int) (o2 l2' : Bool) (sa : Option Addr) (sn sc : Nat), Hid (wx.heap[P]? = some (.cells #[.int .u64 v2, .bool o2, .bool l2', .slice sa sn sc] 52 (0, 0))) ∧ Hid (U64 v2) ∧ Hid (WI 50 w wx E1 B (B + 1) x y) ∧ Hid (FrI PuR (OffS (x.S E1 B) wx) y) ∧ Hid (CodesE wx g))
                case first =>
                  cases bq with
                  | false =>
                    go_wp2_with fail
                    go_meet
                    exact ⟨nv, ok, false, none, 0, 0, RP6, HNV, HI6, HF6, HC6⟩
                  | true =>
                    obtain ⟨hi1, hi2⟩ := hbq rfl
                    obtain ⟨ab, ao, ac, hae, hab, hcl⟩ := (HSA.out.below HI6.out.below).elemAt i hi1
                    obtain ⟨bA, hbA⟩ : ∃ bA, l1.getD i noAns = bA := ⟨_, rfl⟩
                    have HUA : Hid (U64 bA.val) := hbA ▸ HSA.out.valU i
                    rw [hbA] at hcl
                    obtain ⟨e0, e1, e2, e3⟩ := hcl
                    simp only [Value.slice.injEq] at hae
                    obtain ⟨rfl, -, rfl⟩ := hae
                    have hi1I : (i : Int) < (l1.length : Int) := by omega
                    clear hbA hbq
                    go_wp2_with (refine wpList_store_row rfl 52 _ _ rfl P _ rfl rfl 52 #[.int .u64 nv, .bool ok, .bool false, .slice none 0 0] RP6.out (by kernel_rfl) rfl (by simp [Value.oneCell']) ?_)
                    have RPF := Lib.hid (setRow_heap _ P _ #[.int .u64 bA.val, .bool bA.ok, .bool bA.late, .slice bA.a bA.n bA.c] _ (0, 0) RP6.out)
                    have HIF := Lib.hid (HI6.out.poke HPE.out RP6.out (by have := HPB.out; omega) (row_grown _ P #[.int .u64 bA.val, .bool bA.ok, .bool bA.late, .slice bA.a bA.n bA.c]) (by decide) (by decide) (by decide) (by decide))
                    have HFF := Lib.hid (HF6.out.sub pu_sim fun w3 h3 => (OffS.grown (S := x.S E1 B) (row_grown _ P #[.int .u64 bA.val, .bool bA.ok, .bool bA.late, .slice bA.a bA.n bA.c]) (.inr (by simp [WV.S, HPE.out]))).trans1 h3)
                    have HCF := Lib.hid (HC6.out.grown (by have := HPB.out; have := HKN.out; omega) (row_grown _ P #[.int .u64 bA.val, .bool bA.ok, .bool bA.late, .slice bA.a bA.n bA.c]))
                    try simp only [Act.put]
                    go_meet
                    exact ⟨_, _, _, _, _, _, RPF, HUA, HIF, HFF, HCF⟩
                case rest =>
                  obtain ⟨v2, o2, l2', sa, sn, sc, RP7, HU2v, HI7, HF7, HC7⟩ := hcut
                  obtain ⟨w7, rfl⟩ : ∃ w3 : World, w3 = wc := ⟨_, rfl⟩
                  clear HI6 HF6 HC6 RP6 HNV hbq
                  have HKA : Hid (∀ q ∈ y.l, rgK y.c q) := fun q hq => by rw [HY.out.1, List.mem_singleton] at hq; rw [hq, HY.out.2.2]; exact HK.out.1
                  have T16 := Lib.hid (wsame_any pu_sim rg_doc HI7.out HF7.out HKA.out 0 (by rw [HY.out.1]; simp) (by rw [HY.out.1]; simp))
                  go_wp2_with fail
                  refine T16.out.mono ?_; rintro e w8 ⟨rfl, hb8⟩
                  have HI8 := Lib.hid (HI7.out.next hb8)
                  have HF8 := Lib.hid (HF7.out.sub pu_sim fun w3 h3 => (OffS.below (S := x.S E1 B) hb8).trans1 h3)
                  have RP8 := Lib.hid ((hb8.block P (Array.getElem?_eq_some_iff.1 RP7.out).1).trans RP7.out)
                  have HC8 := Lib.hid (HC7.out.kept HC7.out.lt hb8)
                  clear T16 hb8 HI7 HF7 RP7 HC7 HKA
                  have hfl1 : y.f.length = 1 := by rw [HF8.out.1, HY.out.1]; rfl
                  have HFL := Lib.hid hfl1
                  obtain ⟨gl, lc, hvl, hlA, hlc, hgl, hgls, hcap, RG, TG⟩ := HI8.out.machAt 0 (by rw [HY.out.1]; simp)
                  obtain ⟨fl, fc, hvf, hfA, hfc, hfl, hfls, hfcap, FG, FT⟩ := HI8.out.frameAt 0 (by omega)
                  have hm0 : y.l[0]'(by rw [HY.out.1]; simp) = m := by simp [HY.out.1]
                  have hR := HF8.out.2 0 (by omega) (by rw [HY.out.1]; simp)
                  rw [hm0] at RG hR
                  have hown : ownM m = true := what_own HK.out.2
                  obtain ⟨r0, r1, s2, k2, l2x, s3, k3, l3, s4, k4, l4, he⟩ := pu_sim.form hR hown
                  rw [he] at FG hR
                  obtain ⟨m2, hm2⟩ : ∃ m2, rgRE y.c m ⟨v2, o2, l2', []⟩ = m2 := ⟨_, rfl⟩
                  have hbU : U64 (AnsM.val ⟨v2, o2, l2', []⟩) := HU2v.out
                  have hKm : rgK y.c m := by rw [HY.out.2.2]; exact HK.out.1
                  have HK2 : Hid (rgK c2 m2 ∧ m2.what = 4) := by rw [← hm2, HY.out.2.2]; exact ⟨rgK_RE HK.out.1 hbU, (rgRE_what _ _ _).trans HK.out.2⟩
                  have HOW2 : Hid (ownM m2 = true) := what_own HK2.out.2
                  have TRD := Lib.hid fun w' (hb : Below w8.heap.size w8 w') => rg_doc.resume y.c m ⟨v2, o2, l2', []⟩ x.cA x.sA x.cc x.sc sa sn sc w' hKm HI8.out.good hbU (HI8.out.next hb).confV
                  have TRP := Lib.hid fun w' (hb : Below w8.heap.size w8 w') => pu_resume w' ⟨v2, o2, l2', []⟩ sa sn sc hbU (OffS.below (S := x.S E1 B) hb) hR hown
                  rw [hm2] at TRD TRP
                  unfold machL at TRD RG
                  unfold WV.vc WV.vs at RG
                  try dsimp only at TRD TRP
                  have HVL := Lib.hid (hvl.trans (by rw [show y.l.length = 1 by rw [HY.out.1]; rfl]))
                  have HVF := Lib.hid (hvf.trans (by rw [hfl1]))
                  rw [Nat.zero_mul] at TG FT
                  have HTG := Lib.hid TG
                  have HTF := Lib.hid FT
                  have HGL : Hid (B < gl) := hgl
                  have HGF : Hid (B < fl ∧ fl ≠ gl) := ⟨hfl, lists_apart HI8.out hlA hfA⟩
                  have row0 := HI8.out.row
                  unfold WV.row at row0
                  rw [hlA, hlc, hfA, hfc, show y.l.length = 1 by rw [HY.out.1]; rfl, hfl1] at row0
                  have ROW := Lib.hid row0
                  have hg8 := hgls
                  have hf8 := hfls
                  have hB8 := HI8.out.lt
                  have HRG := Lib.hid RG
                  have HFG := Lib.hid FG
                  have KS18 : Hid (∀ w', Below w8.heap.size w8 w' → (fun w' : World => (w'.cell? ⟨B, 6, none⟩ = some (.slice (some ⟨gl, 0, none⟩) 1 lc) ∧ w'.cell? ⟨B, 9, none⟩ = some (.slice (some ⟨fl, 0, none⟩) 1 fc)) ∧ (w'.cell? ⟨gl, 0, none⟩ = some (.int .i64 m.what) ∧ w'.cell? ⟨gl, 1, none⟩ = some (.int .i64 m.pl) ∧ w'.cell? ⟨gl, 2, none⟩ = some (.slice x.cA y.c.caps.length x.cc) ∧ w'.cell? ⟨gl, 3, none⟩ = some (.slice x.sA y.c.starts.length x.sc) ∧ w'.cell? ⟨gl, 4, none⟩ = some (.int .i64 y.c.threads) ∧ w'.cell? ⟨gl, 5, none⟩ = some (.int .i64 m.chan) ∧ w'.cell? ⟨gl, 6, none⟩ = some (.int .i64 m.thr) ∧ w'.cell? ⟨gl, 7, none⟩ = some (.int .i64 m.idx) ∧ w'.cell? ⟨gl, 8, none⟩ = some (.int .i64 m.kind) ∧ w'.cell? ⟨gl, 9, none⟩ = some (.int .u64 m.val) ∧ w'.cell? ⟨gl, 10, none⟩ = some (.int .u64 m.t) ∧ w'.cell? ⟨gl, 11, none⟩ = some (.int .u64 m.h) ∧ w'.cell? ⟨gl, 12, none⟩ = some (.int .i64 m.ok) ∧ w'.cell? ⟨gl, 13, none⟩ = some (.int .u64 m.ov)) ∧ (w'.cell? ⟨fl, 0, none⟩ = some (.int .i64 r0) ∧ w'.cell? ⟨fl, 1, none⟩ = some (.int .i64 r1) ∧ w'.cell? ⟨fl, 2, none⟩ = some (.slice s2 k2 l2x) ∧ w'.cell? ⟨fl, 3, none⟩ = some (.slice s3 k3 l3) ∧ w'.cell? ⟨fl, 4, none⟩ = some (.slice s4 k4 l4)) ∧ (w'.cell? ⟨P, 0, none⟩ = some (.int .u64 v2) ∧ w'.cell? ⟨P, 1, none⟩ = some (.bool o2) ∧ w'.cell? ⟨P, 2, none⟩ = some (.bool l2') ∧ w'.cell? ⟨P, 3, none⟩ = some (.slice sa sn sc))) w') := fun w' hb => by
                    obtain ⟨x0, x1, x2, x3, x4, x5, x6, x7, x8, x9⟩ := rowc10 ((hb.block B hB8).trans ROW.out)
                    exact ⟨⟨x6, x9⟩, range14 (range_below HRG.out hb hg8), range5 (range_below HFG.out hb hf8), rowc4 ((hb.block P (Array.getElem?_eq_some_iff.1 RP8.out).1).trans RP8.out)⟩
                  clear hvl hlA hlc hgl hcap RG TG hvf hfA hfc hfl hfcap FG FT hm0 hR hown he hm2 hbU hKm row0 hgls hfls hfl1
                  go_upto_region 20 with fail
                  refine untilK KS18 27 30 (by kernel_rfl) rfl ?_
                  obtain ⟨u0, hu0, HU0⟩ := drew_pack w8
                  rw [hu0]
                  clear hu0
                  have hSU0 := KS18.out _ HU0.out
                  refine tkU (v := ?_) 0 la0 hSU0 (by kernel_rfl) (fun _ _ _ h => h) rfl ?_ ?_
                  rotate_left
                  · (intro w hSw; (try dsimp only at hSw); go_simp <;> with_reducible rfl)
                  simp only [Act.put, List.setIfInBounds_toArray, List.set_cons_zero, List.set_cons_succ]
                  refine tkU (v := ?_) 1 la1 hSU0 (by kernel_rfl) (fun _ _ _ h => h) rfl ?_ ?_
                  rotate_left
                  · (intro w hSw; (try dsimp only at hSw); go_simp <;> with_reducible rfl)
                  simp only [Act.put, List.setIfInBounds_toArray, List.set_cons_zero, List.set_cons_succ]
                  refine tkU (v := ?_) 2 la2 hSU0 (by kernel_rfl) (fun _ _ _ h => h) rfl ?_ ?_
                  rotate_left
                  · (intro w hSw; (try dsimp only at hSw); go_simp <;> with_reducible rfl)
                  simp only [Act.put, List.setIfInBounds_toArray, List.set_cons_zero, List.set_cons_succ]
                  refine tkU (v := ?_) 3 la3 hSU0 (by kernel_rfl) (fun _ _ _ h => h) rfl ?_ ?_
                  rotate_left
                  · (intro w hSw; (try dsimp only at hSw); go_simp <;> with_reducible rfl)
                  simp only [Act.put, List.setIfInBounds_toArray, List.set_cons_zero, List.set_cons_succ]
                  refine tkU (v := ?_) 4 la4 hSU0 (by kernel_rfl) (fun _ _ _ h => h) rfl ?_ ?_
                  rotate_left
                  · (intro w hSw; (try dsimp only at hSw); go_simp <;> with_reducible rfl)
                  simp only [Act.put, List.setIfInBounds_toArray, List.set_cons_zero, List.set_cons_succ]
                  refine tkU (v := ?_) 9 la9 hSU0 (by kernel_rfl) (fun _ _ _ h => h) rfl ?_ ?_
                  rotate_left
                  · (intro w hSw; (try dsimp only at hSw); go_simp <;> with_reducible rfl)
                  simp only [Act.put, List.setIfInBounds_toArray, List.set_cons_zero, List.set_cons_succ]
                  refine tkU (v := ?_) 10 la10 hSU0 (by kernel_rfl) (fun _ _ _ h => h) rfl ?_ ?_
                  rotate_left
                  · (intro w hSw; (try dsimp only at hSw); go_simp <;> with_reducible rfl)
                  simp only [Act.put, List.setIfInBounds_toArray, List.set_cons_zero, List.set_cons_succ]
                  refine tkU (v := ?_) 11 la11 hSU0 (by kernel_rfl) (fun _ _ _ h => h) rfl ?_ ?_
                  rotate_left
                  · (intro w hSw; (try dsimp only at hSw); go_simp <;> with_reducible rfl)
                  simp only [Act.put, List.setIfInBounds_toArray, List.set_cons_zero, List.set_cons_succ]
                  refine tkU (v := ?_) 12 la12 hSU0 (by kernel_rfl) (fun _ _ _ h => h) rfl ?_ ?_
                  rotate_left
                  · (intro w hSw; (try dsimp only at hSw); go_simp <;> with_reducible rfl)
                  simp only [Act.put, List.setIfInBounds_toArray, List.set_cons_zero, List.set_cons_succ]
                  refine tkU (v := ?_) 13 la13 hSU0 (by kernel_rfl) (fun _ _ _ h => h) rfl ?_ ?_
                  rotate_left
                  · (intro w hSw; (try dsimp only at hSw); go_simp <;> with_reducible rfl)
                  simp only [Act.put, List.setIfInBounds_toArray, List.set_cons_zero, List.set_cons_succ]
                  refine tkU (v := ?_) 14 la14 hSU0 (by kernel_rfl) (fun _ _ _ h => h) rfl ?_ ?_
                  rotate_left
                  · (intro w hSw; (try dsimp only at hSw); go_simp <;> with_reducible rfl)
                  simp only [Act.put, List.setIfInBounds_toArray, List.set_cons_zero, List.set_cons_succ]
                  refine tkU (v := ?_) 15 la15 hSU0 (by kernel_rfl) (fun _ _ _ h => h) rfl ?_ ?_
                  rotate_left
                  · (intro w hSw; (try dsimp only at hSw); go_simp <;> with_reducible rfl)
                  simp only [Act.put, List.setIfInBounds_toArray, List.set_cons_zero, List.set_cons_succ]
                  refine tkU (v := ?_) 16 la16 hSU0 (by kernel_rfl) (fun _ _ _ h => h) rfl ?_ ?_
                  rotate_left
                  · (intro w hSw; (try dsimp only at hSw); go_simp <;> with_reducible rfl)
                  simp only [Act.put, List.setIfInBounds_toArray, List.set_cons_zero, List.set_cons_succ]
                  refine wpAnyU_takeW (v := ?_) 5 la5 (by kernel_rfl) (by kernel_rfl) (by kernel_rfl) (by kernel_rfl) (fun _ _ _ h => h) (fun _ => hSU0) rfl ?_ ?_
                  rotate_left
                  · (intro w; go_simp <;> with_reducible rfl)
                  simp only [Act.put, List.setIfInBounds_toArray, List.set_cons_zero, List.set_cons_succ]
                  refine wpAnyU_takeW (v := ?_) 6 la6 (by kernel_rfl) (by kernel_rfl) (by kernel_rfl) (by kernel_rfl) (fun _ _ _ h => h) (fun _ => hSU0) rfl ?_ ?_
                  rotate_left
                  · (intro w; go_simp <;> with_reducible rfl)
                  simp only [Act.put, List.setIfInBounds_toArray, List.set_cons_zero, List.set_cons_succ]
                  refine wpAnyU_takeW (v := ?_) 7 la7 (by kernel_rfl) (by kernel_rfl) (by kernel_rfl) (by kernel_rfl) (fun _ _ _ h => h) (fun _ => hSU0) rfl ?_ ?_
                  rotate_left
                  · (intro w; go_simp <;> with_reducible rfl)
                  simp only [Act.put, List.setIfInBounds_toArray, List.set_cons_zero, List.set_cons_succ]
                  refine tkU (v := ?_) 8 la8 hSU0 (by kernel_rfl) (fun _ _ _ h => h) rfl ?_ ?_
                  rotate_left
                  · (intro w hSw; (try dsimp only at hSw); go_simp <;> with_reducible rfl)
                  simp only [Act.put, List.setIfInBounds_toArray, List.set_cons_zero, List.set_cons_succ]
                  refine wpAnyU_takeW (v := ?_) 18 la18 (by kernel_rfl) (by kernel_rfl) (by kernel_rfl) (by kernel_rfl) (fun _ _ _ h => h) (fun _ => hSU0) rfl ?_ ?_
                  rotate_left
                  · (intro w; go_simp <;> with_reducible rfl)
                  simp only [Act.put, List.setIfInBounds_toArray, List.set_cons_zero, List.set_cons_succ]
                  refine wpAnyU_takeW (v := ?_) 19 la19 (by kernel_rfl) (by kernel_rfl) (by kernel_rfl) (by kernel_rfl) (fun _ _ _ h => h) (fun _ => hSU0) rfl ?_ ?_
                  rotate_left
                  · (intro w; go_simp <;> with_reducible rfl)
                  simp only [Act.put, List.setIfInBounds_toArray, List.set_cons_zero, List.set_cons_succ]
                  refine wpAnyU_takeW (v := ?_) 20 la20 (by kernel_rfl) (by kernel_rfl) (by kernel_rfl) (by kernel_rfl) (fun _ _ _ h => h) (fun _ => hSU0) rfl ?_ ?_
                  rotate_left
                  · (intro w; go_simp <;> with_reducible rfl)
                  simp only [Act.put, List.setIfInBounds_toArray, List.set_cons_zero, List.set_cons_succ]
                  refine tkU (v := ?_) 21 la21 hSU0 (by kernel_rfl) (fun _ _ _ h => h) rfl ?_ ?_
                  rotate_left
                  · (intro w hSw; (try dsimp only at hSw); go_simp <;> with_reducible rfl)
                  simp only [Act.put, List.setIfInBounds_toArray, List.set_cons_zero, List.set_cons_succ]
                  refine wpAnyU_takeW (v := ?_) 22 la22 (by kernel_rfl) (by kernel_rfl) (by kernel_rfl) (by kernel_rfl) (fun _ _ _ h => h) (fun _ => hSU0) rfl ?_ ?_
                  rotate_left
                  · (intro w; go_simp <;> with_reducible rfl)
                  simp only [Act.put, List.setIfInBounds_toArray, List.set_cons_zero, List.set_cons_succ]
                  refine tkU (v := ?_) 23 la23 hSU0 (by kernel_rfl) (fun _ _ _ h => h) rfl ?_ ?_
                  rotate_left
                  · (intro w hSw; (try dsimp only at hSw); go_simp <;> with_reducible rfl)
                  simp only [Act.put, List.setIfInBounds_toArray, List.set_cons_zero, List.set_cons_succ]
                  refine wpAnyU_ready (rs := [17, 24]) (by kernel_rfl) rfl ?_
                  refine AllReadyU.cons la17 rfl (fun K hK => ?_) ?_
                  · go_simp
                    go_at_call 15
                    refine (TRD.out _ HU0.out).mono ?_
                    rintro e u1 ⟨rfl, hb⟩
                    have HU1 := Lib.hid (below_then HU0.out hb)
                    clear hb
                    refine hK.out _ _ ?_ (fun hSU1 => ?_)
                    · exact KS18.out _ HU1.out
                    clear hK K hSU0
                    try simp only [Act.put, List.setIfInBounds_toArray, List.set_cons_zero, List.set_cons_succ]
                    refine wpAnyU_ready (rs := [24]) (by kernel_rfl) rfl ?_
                    refine AllReadyU.cons la24 rfl (fun K hK => ?_) ?_
                    · go_simp
                      refine hK.out _ _ ?_ (fun hSU2 => ?_)
                      · exact KS18.out _ HU1.out
                      clear hK K hSU1
                      try simp only [Act.put, List.setIfInBounds_toArray, List.set_cons_zero, List.set_cons_succ]
                      refine wpAnyU_ready (rs := [25]) (by kernel_rfl) rfl ?_
                      refine AllReadyU.cons la25 rfl (fun K hK => ?_) ?_
                      · go_simp
                        go_at_call 16
                        refine (TRP.out _ HU1.out).mono ?_
                        rintro e u2 ⟨f2, rfl, hr2, hb⟩
                        obtain ⟨t0, t1, d2, e2, g2, d3, e3, g3, d4, e4, g4, hfe⟩ := pu_sim.form hr2 HOW2.out
                        subst hfe
                        have HR2 := Lib.hid hr2
                        have HUb := Lib.hid hb
                        have HU2 := Lib.hid (below_then HU1.out hb)
                        clear hb hr2
                        try dsimp only
                        refine hK.out _ _ ?_ (fun hSU3 => ?_)
                        · exact KS18.out _ HU2.out
                        clear hK K hSU2
                        try simp only [Act.put, List.setIfInBounds_toArray, List.set_cons_zero, List.set_cons_succ]
                        refine tkU (v := ?_) 26 la26 hSU3 (by kernel_rfl) (fun _ _ _ h => h) rfl ?_ ?_
                        rotate_left
                        · (intro w hSw; (try dsimp only at hSw); go_simp <;> with_reducible rfl)
                        simp only [Act.put, List.setIfInBounds_toArray, List.set_cons_zero, List.set_cons_succ]
                        refine wpAnyU_ready (rs := [27]) (by kernel_rfl) rfl ?_
                        refine AllReadyU.free la27 rfl (by kernel_rfl) (fun K hK => ?_) ?_
                        · refine step_store_mid rfl 56 (Operand.tmp 127) (Operand.tmp 118) rfl gl 0 #[.int .i64 m2.what, .int .i64 m2.pl, .slice x.cA y.c.caps.length x.cc, .slice x.sA y.c.starts.length x.sc, .int .i64 y.c.threads, .int .i64 m2.chan, .int .i64 m2.thr, .int .i64 m2.idx, .int .i64 m2.kind, .int .u64 m2.val, .int .u64 m2.t, .int .u64 m2.h, .int .i64 m2.ok, .int .u64 m2.ov] (by rfl) (by rfl) (there_below HTG.out HU2.out hg8) (by kernel_rfl) (by simp [Value.oneCell']) ?_
                          refine hK.out _ _ ?_
                          clear hK K hSU3
                          try simp only [Act.put, List.setIfInBounds_toArray, List.set_cons_zero, List.set_cons_succ]
                          obtain ⟨HIa, HINa⟩ := (HI8.out.next HU2.out).setL (b := gl) (i := 0) (z := m2) (n := 1) (cap := lc) HVL.out (by rw [HY.out.1]; simp) rfl (by intro u hu; simp only [machL, List.mem_cons, List.not_mem_nil, or_false] at hu; rcases hu with rfl | rfl | rfl | rfl | rfl | rfl | rfl | rfl | rfl | rfl | rfl | rfl | rfl | rfl <;> rfl)
                          unfold machL WV.vc WV.vs at HIa HINa
                          rw [Nat.zero_mul] at HIa HINa
                          have HTF9 := Lib.hid (there_keep (a := gl) (o1 := 0) (l1 := [.int .i64 m2.what, .int .i64 m2.pl, .slice x.cA y.c.caps.length x.cc, .slice x.sA y.c.starts.length x.sc, .int .i64 y.c.threads, .int .i64 m2.chan, .int .i64 m2.thr, .int .i64 m2.idx, .int .i64 m2.kind, .int .u64 m2.val, .int .u64 m2.t, .int .u64 m2.h, .int .i64 m2.ok, .int .u64 m2.ov]) HTF.out HU2.out hf8 (by have := HGF.out; omega))
                          have HC9 := Lib.hid ((HC8.out.kept HC8.out.lt HU2.out).grown (show g < gl by have := HKN.out; have := HGL.out; omega) (setCells_grown gl [.int .i64 m2.what, .int .i64 m2.pl, .slice x.cA y.c.caps.length x.cc, .slice x.sA y.c.starts.length x.sc, .int .i64 y.c.threads, .int .i64 m2.chan, .int .i64 m2.thr, .int .i64 m2.idx, .int .i64 m2.kind, .int .u64 m2.val, .int .u64 m2.t, .int .u64 m2.h, .int .i64 m2.ok, .int .u64 m2.ov] 0 u2))
                          have HI9 := Lib.hid HIa
                          have HIN9 := Lib.hid HINa
                          clear HIa HINa
                          generalize hu3 : World.setCells u2 gl 0 _ = u3 at *
                          clear hu3
                          refine wpAnyU_takeW (v := ?_) 28 la28 (by kernel_rfl) (by kernel_rfl) (by kernel_rfl) (by kernel_rfl) (fun _ _ _ h => h) (past_k (by kernel_rfl)) rfl ?_ ?_
                          rotate_left
                          · (intro w; go_simp <;> with_reducible rfl)
                          simp only [Act.put, List.setIfInBounds_toArray, List.set_cons_zero, List.set_cons_succ]
                          refine wpAnyU_ready (rs := [29]) (by kernel_rfl) rfl ?_
                          refine AllReadyU.free la29 rfl (by kernel_rfl) (fun K hK => ?_) ?_
                          · refine step_store_mid rfl 60 (Operand.tmp 128) (Operand.tmp 126) rfl fl 0 #[.int .i64 t0, .int .i64 t1, .slice d2 e2 g2, .slice d3 e3 g3, .slice d4 e4 g4] (by rfl) (by rfl) HTF9.out (by kernel_rfl) (by simp [Value.oneCell']) ?_
                            refine hK.out _ _ ?_
                            clear hK K
                            try simp only [Act.put, List.setIfInBounds_toArray, List.set_cons_zero, List.set_cons_succ]
                            refine wpAnyU_done (by kernel_rfl) ?_ _
                            obtain ⟨HIb, HINb⟩ := HI9.out.setF (b := fl) (i := 0) (z := [.int .i64 t0, .int .i64 t1, .slice d2 e2 g2, .slice d3 e3 g3, .slice d4 e4 g4]) (n := 1) (cap := fc) HVF.out (by show 0 < y.f.length; rw [HFL.out]; simp) rfl (by intro u hu; simp only [List.mem_cons, List.not_mem_nil, or_false] at hu; rcases hu with rfl | rfl | rfl | rfl | rfl <;> rfl)
                            rw [Nat.zero_mul] at HIb HINb
                            have HIF := Lib.hid HIb
                            have HIN := Lib.hid fun w3 h3 => HIN9.out w3 (HINb w3 h3)
                            clear HIb HINb
                            have HFF := Lib.hid (fr_ans HR2.out HU1.out HUb.out HIN.out HI8.out.Slt HFL.out HY.out.1)
                            have HCF := Lib.hid (HC9.out.grown (show g < fl by have := HKN.out; have := HGF.out; omega) (setCells_grown fl [.int .i64 t0, .int .i64 t1, .slice d2 e2 g2, .slice d3 e3 g3, .slice d4 e4 g4] 0 _))
                            have hy1 : y.l.set 0 m2 = [m2] := by rw [HY.out.1]; rfl
                            clear TRD TRP KS18 HU0 HU1 HUb HU2 HR2
                            go_wp2_with fail
                            go_roundw
                            case rel => exact ⟨i + 1, x, { y with l := y.l.set 0 m2, f := y.f.set 0 [.int .i64 t0, .int .i64 t1, .slice d2 e2 g2, .slice d3 e3 g3, .slice d4 e4 g4] }, m2, E1, by go_num, by omega, ⟨hy1, HY.out.2.1, HY.out.2.2⟩, HK2.out, HEg, HIF, HFF, HCF⟩
                            case measure => simp [intOf]; omega
                          exact AllReadyU.nil
                        exact AllReadyU.nil
                      exact AllReadyU.nil
                    exact AllReadyU.nil
                  refine AllReadyU.cons la24 rfl (fun K hK => ?_) ?_
                  · go_simp
                    refine hK.out _ _ ?_ (fun hSU4 => ?_)
                    · exact KS18.out _ HU0.out
                    clear hK K hSU0
                    try simp only [Act.put, List.setIfInBounds_toArray, List.set_cons_zero, List.set_cons_succ]
                    refine wpAnyU_ready (rs := [17]) (by kernel_rfl) rfl ?_
                    refine AllReadyU.cons la17 rfl (fun K hK => ?_) ?_
                    · go_simp
                      go_at_call 15
                      refine (TRD.out _ HU0.out).mono ?_
                      rintro e u1 ⟨rfl, hb⟩
                      have HU1 := Lib.hid (below_then HU0.out hb)
                      clear hb
                      refine hK.out _ _ ?_ (fun hSU5 => ?_)
                      · exact KS18.out _ HU1.out
                      clear hK K hSU4
                      try simp only [Act.put, List.setIfInBounds_toArray, List.set_cons_zero, List.set_cons_succ]
                      refine wpAnyU_ready (rs := [25]) (by kernel_rfl) rfl ?_
                      refine AllReadyU.cons la25 rfl (fun K hK => ?_) ?_
                      · go_simp
                        go_at_call 16
                        refine (TRP.out _ HU1.out).mono ?_
                        rintro e u2 ⟨f2, rfl, hr2, hb⟩
                        obtain ⟨t0, t1, d2, e2, g2, d3, e3, g3, d4, e4, g4, hfe⟩ := pu_sim.form hr2 HOW2.out
                        subst hfe
                        have HR2 := Lib.hid hr2
                        have HUb := Lib.hid hb
                        have HU2 := Lib.hid (below_then HU1.out hb)
                        clear hb hr2
                        try dsimp only
                        refine hK.out _ _ ?_ (fun hSU6 => ?_)
                        · exact KS18.out _ HU2.out
                        clear hK K hSU5
                        try simp only [Act.put, List.setIfInBounds_toArray, List.set_cons_zero, List.set_cons_succ]
                        refine tkU (v := ?_) 26 la26 hSU6 (by kernel_rfl) (fun _ _ _ h => h) rfl ?_ ?_
                        rotate_left
                        · (intro w hSw; (try dsimp only at hSw); go_simp <;> with_reducible rfl)
                        simp only [Act.put, List.setIfInBounds_toArray, List.set_cons_zero, List.set_cons_succ]
                        refine wpAnyU_ready (rs := [27]) (by kernel_rfl) rfl ?_
                        refine AllReadyU.free la27 rfl (by kernel_rfl) (fun K hK => ?_) ?_
                        · refine step_store_mid rfl 56 (Operand.tmp 127) (Operand.tmp 118) rfl gl 0 #[.int .i64 m2.what, .int .i64 m2.pl, .slice x.cA y.c.caps.length x.cc, .slice x.sA y.c.starts.length x.sc, .int .i64 y.c.threads, .int .i64 m2.chan, .int .i64 m2.thr, .int .i64 m2.idx, .int .i64 m2.kind, .int .u64 m2.val, .int .u64 m2.t, .int .u64 m2.h, .int .i64 m2.ok, .int .u64 m2.ov] (by rfl) (by rfl) (there_below HTG.out HU2.out hg8) (by kernel_rfl) (by simp [Value.oneCell']) ?_
                          refine hK.out _ _ ?_
                          clear hK K hSU6
                          try simp only [Act.put, List.setIfInBounds_toArray, List.set_cons_zero, List.set_cons_succ]
                          obtain ⟨HIa, HINa⟩ := (HI8.out.next HU2.out).setL (b := gl) (i := 0) (z := m2) (n := 1) (cap := lc) HVL.out (by rw [HY.out.1]; simp) rfl (by intro u hu; simp only [machL, List.mem_cons, List.not_mem_nil, or_false] at hu; rcases hu with rfl | rfl | rfl | rfl | rfl | rfl | rfl | rfl | rfl | rfl | rfl | rfl | rfl | rfl <;> rfl)
                          unfold machL WV.vc WV.vs at HIa HINa
                          rw [Nat.zero_mul] at HIa HINa
                          have HTF9 := Lib.hid (there_keep (a := gl) (o1 := 0) (l1 := [.int .i64 m2.what, .int .i64 m2.pl, .slice x.cA y.c.caps.length x.cc, .slice x.sA y.c.starts.length x.sc, .int .i64 y.c.threads, .int .i64 m2.chan, .int .i64 m2.thr, .int .i64 m2.idx, .int .i64 m2.kind, .int .u64 m2.val, .int .u64 m2.t, .int .u64 m2.h, .int .i64 m2.ok, .int .u64 m2.ov]) HTF.out HU2.out hf8 (by have := HGF.out; omega))
                          have HC9 := Lib.hid ((HC8.out.kept HC8.out.lt HU2.out).grown (show g < gl by have := HKN.out; have := HGL.out; omega) (setCells_grown gl [.int .i64 m2.what, .int .i64 m2.pl, .slice x.cA y.c.caps.length x.cc, .slice x.sA y.c.starts.length x.sc, .int .i64 y.c.threads, .int .i64 m2.chan, .int .i64 m2.thr, .int .i64 m2.idx, .int .i64 m2.kind, .int .u64 m2.val, .int .u64 m2.t, .int .u64 m2.h, .int .i64 m2.ok, .int .u64 m2.ov] 0 u2))
                          have HI9 := Lib.hid HIa
                          have HIN9 := Lib.hid HINa
                          clear HIa HINa
                          generalize hu3 : World.setCells u2 gl 0 _ = u3 at *
                          clear hu3
                          refine wpAnyU_takeW (v := ?_) 28 la28 (by kernel_rfl) (by kernel_rfl) (by kernel_rfl) (by kernel_rfl) (fun _ _ _ h => h) (past_k (by kernel_rfl)) rfl ?_ ?_
                          rotate_left
                          · (intro w; go_simp <;> with_reducible rfl)
                          simp only [Act.put, List.setIfInBounds_toArray, List.set_cons_zero, List.set_cons_succ]
                          refine wpAnyU_ready (rs := [29]) (by kernel_rfl) rfl ?_
                          refine AllReadyU.free la29 rfl (by kernel_rfl) (fun K hK => ?_) ?_
                          · refine step_store_mid rfl 60 (Operand.tmp 128) (Operand.tmp 126) rfl fl 0 #[.int .i64 t0, .int .i64 t1, .slice d2 e2 g2, .slice d3 e3 g3, .slice d4 e4 g4] (by rfl) (by rfl) HTF9.out (by kernel_rfl) (by simp [Value.oneCell']) ?_
                            refine hK.out _ _ ?_
                            clear hK K
                            try simp only [Act.put, List.setIfInBounds_toArray, List.set_cons_zero, List.set_cons_succ]
                            refine wpAnyU_done (by kernel_rfl) ?_ _
                            obtain ⟨HIb, HINb⟩ := HI9.out.setF (b := fl) (i := 0) (z := [.int .i64 t0, .int .i64 t1, .slice d2 e2 g2, .slice d3 e3 g3, .slice d4 e4 g4]) (n := 1) (cap := fc) HVF.out (by show 0 < y.f.length; rw [HFL.out]; simp) rfl (by intro u hu; simp only [List.mem_cons, List.not_mem_nil, or_false] at hu; rcases hu with rfl | rfl | rfl | rfl | rfl <;> rfl)
                            rw [Nat.zero_mul] at HIb HINb
                            have HIF := Lib.hid HIb
                            have HIN := Lib.hid fun w3 h3 => HIN9.out w3 (HINb w3 h3)
                            clear HIb HINb
                            have HFF := Lib.hid (fr_ans HR2.out HU1.out HUb.out HIN.out HI8.out.Slt HFL.out HY.out.1)
                            have HCF := Lib.hid (HC9.out.grown (show g < fl by have := HKN.out; have := HGF.out; omega) (setCells_grown fl [.int .i64 t0, .int .i64 t1, .slice d2 e2 g2, .slice d3 e3 g3, .slice d4 e4 g4] 0 _))
                            have hy1 : y.l.set 0 m2 = [m2] := by rw [HY.out.1]; rfl
                            clear TRD TRP KS18 HU0 HU1 HUb HU2 HR2
                            go_wp2_with fail
                            go_roundw
                            case rel => exact ⟨i + 1, x, { y with l := y.l.set 0 m2, f := y.f.set 0 [.int .i64 t0, .int .i64 t1, .slice d2 e2 g2, .slice d3 e3 g3, .slice d4 e4 g4] }, m2, E1, by go_num, by omega, ⟨hy1, HY.out.2.1, HY.out.2.2⟩, HK2.out, HEg, HIF, HFF, HCF⟩
                            case measure => simp [intOf]; omega
                          exact AllReadyU.nil
                        exact AllReadyU.nil
                      exact AllReadyU.nil
                    exact AllReadyU.nil
                  exact AllReadyU.nil
      · have hge : ¬ (i : Int) < 30 := by omega
        have HKA : Hid (∀ q ∈ y.l, rgK y.c q) := fun q hq => by rw [HY.out.1, List.mem_singleton] at hq; rw [hq, HY.out.2.2]; exact HK.out.1
        have T16 := Lib.hid (wsame_any pu_sim rg_doc HI.out HF.out HKA.out 0 (by rw [HY.out.1]; simp) (by rw [HY.out.1]; simp))
        have HBF := Lib.hid HI.out.below
        clear HI HF HC HKA
        go_wp2_with fail
        refine T16.out.mono ?_; rintro e w8 ⟨rfl, hb8⟩
        have HBG := Lib.hid (below_then HBF.out hb8)
        clear T16 hb8
        go_wp2_with fail
        go_ret
        exact ⟨rfl, HBG.out⟩
set_option maxRecDepth 100000 in
theorem lifted (os : Os) (started : os.Started) (H : Type) (enc : TypeId × Value → H) :
    ReturnsInHanded {} Try.checked os 4 .any (Rows.popAnswersSpec.pre6 enc Try.prog Try.f4 Rows.popAnswersRow.domain false) (Rows.popAnswersSpec.post enc Try.prog Try.f4 false true false false) := by
  refine returnsInHanded_of_change_sized (C := Try.checked) own started (by kernel_rfl) Try.func4
    (ChangeSpec.witness6 (enc := enc) (C := Try.checked) false ⟨#[], #[.slice none 0 0, .slice none 0 0], []⟩ 8 (by kernel_rfl) (by kernel_rfl) (by kernel_rfl) (by kernel_rfl)) ?_
  intro W base args ds gs before hval0 hW _ hsz0 _
  have hsz : (DataW.weightsEach Try.prog (Try.f4.params.toList ++ Rows.popAnswersSpec.plain.varTypes Try.prog) (ds ++ gs)).all (· ≤ reachBytes) = true := hsz0
  clear hsz0
  have hval : ∀ (j : Nat) t v, Try.f4.params[j]? = some t → args[j]? = some v → Value.okWide Try.prog W .any base t v := hval0
  have hW' := hW
  obtain ⟨p, q, hA0, hV, rfl, _, _⟩ := hW
  have hA : DataW.TrodAll enc Try.prog W 0 (fun _ => true) true Try.f4.params.toList args.toList ds p := hA0
  rw [Try.params4] at hA hval hsz
  obtain ⟨v0, vs0, d0, ds0, p0, q0, hargs, rfl, rfl, h0, r0⟩ := trodAll_cons hA
  obtain ⟨v1, vs1, d1, ds1, p1, q1, rfl, rfl, rfl, h1, r1⟩ := trodAll_cons r0
  obtain ⟨rfl, rfl, rfl⟩ := trodAll_nil r1
  obtain rfl : args = #[v0, v1] := by cases args; simp_all
  obtain ⟨rfl, rfl⟩ := trodVars_none hV
  have k0 := h0
  have k1 := h1
  obtain ⟨l0, s0⟩ := view_sl (k := .u8) Try.underlying22 Try.underlying5 (by kernel_rfl) (fun elems sp hd => sized_slice hsz (j := 0) (t := 22) (e := 5) rfl (by rw [hd]; rfl) Try.underlying22) (of_decide_eq_true (by kernel_rfl)) (hval 0 22 v0 rfl rfl) h0
  obtain ⟨l1, s1⟩ := view_answers (fun elems sp hd => sized_slice hsz (j := 1) (t := 30) (e := 52) rfl (by rw [hd]; rfl) Try.underlying30) (hval 1 30 v1 rfl rfl) h1
  clear hA0 hval0
  simp only [List.append_nil] at hW'
  have hlt := hW'.lt
  refine (walk W v0 l0 s0 v1 l1 s1).mono fun e W' ⟨he, hb⟩ => ?_
  subst he
  exact ⟨_, rfl, _, _, _, [], _, [], hW', trodAll_cons_mk (shut_bool Try.underlying4 _) trodAll_mk0, (trodAll_cons_mk (Below.trod Try.laidOut (by kernel_rfl) (of_decide_eq_true (by kernel_rfl)) k0 hb (fun x hx => by simpa using hlt x (by simp [hx]))) (trodAll_cons_mk (Below.trod Try.laidOut (by kernel_rfl) (of_decide_eq_true (by kernel_rfl)) k1 hb (fun x hx => by simpa using hlt x (by simp [hx]))) trodAll_mk0)), rfl, hb.frame _, fun h => by cases h⟩
theorem over : Rows.popAnswersRow.holds Try.pinned (OpenSpec.ofChange Rows.popAnswersSpec) :=
  OpenClaim.holds_of_wide 4 Try.f4 rfl rfl rfl rfl rfl rfl rfl ⟨rfl, rfl, rfl, rfl, rfl⟩ rfl rfl rfl rfl rfl (by kernel_rfl) Try.func4 (by kernel_rfl)
    (of_decide_eq_true (by kernel_rfl)) (by unfold Func.isWrapper; first | (rw [if_pos (by decide +kernel)]; kernel_rfl) | (rw [if_neg (by decide +kernel)]; exact ⟨rfl, rfl⟩))
    (fun os started H enc _ => lifted os started H enc)
/-- THE STATEMENT -/
theorem proved : Rows.PopAnswersSaid :=
  over
end Go.Proofs.Ytmkngpjjimalhaa.popAnswers
