
import Derived.Test.YtjnlkemdaffgbaaB12
import Derived.Test.YtjnlkemdaffgbaaB28
set_option linter.unusedVariables false
set_option linter.unusedSimpArgs false
/- Layer 11: the law's example: a push, and a machine that counts. -/
namespace Go.Proofs.Ytjnlkemdaffgbaa
open Go.ChangeShapes Go.WideShapes Go.ChangeAt Go.RowKit
set_option maxRecDepth 100000

theorem SlI.offN {w w2 : World} {k : IntKind} {v : Value} {l : List Int} (h : SlI w k v l) (h2 : OffS [] w w2) : SlI w2 k v l := by
  have hb : Below w.heap.size w { w with heap := w2.heap } := ⟨rfl, rfl, rfl, h2.1, fun j hj => h2.2 j hj (by simp)⟩
  exact (h.below hb).heapEq (w := { w with heap := w2.heap }) rfl
theorem runE_nil (c : ConfM) (s : MemM × List MachM) : runE rgNE rgRE c s [] = s := rfl
def awA : MemM × List MachM := runE rgNE rgRE oneC (newE oneC, [⟨3, 1, 0, 0, 1, 5, 5, 0, 0, 0, 0⟩, ⟨6, 1, 0, 0, 0, 0, 0, 0, 0, 0, 0⟩]) (List.replicate 7 0)
def awB : MemM × List MachM := runE rgNE rgRE oneC awA [1, 1, 1]
theorem awB_1 : awB.2[1]? = some ⟨6, 0, 0, 0, 0, 0, 0, 2, 0, 9, 1⟩ := by kernel_rfl
set_option maxRecDepth 100000 in
set_option maxHeartbeats 16000000 in
theorem awake8_any (w : World) : Calls Try.prog 6 #[] w fun e w' => e = .returned (.bool true) ∧ Below w.heap.size w w' := by
  go_enter Try.func6, Try.ntmps6
  go_wp2_with fail
  refine (one_any _).mono ?_; rintro e wa ⟨a, a2, rfl, hcv, hba⟩
  have HCV := Lib.hid hcv
  have HBA := Lib.hid hba
  clear hcv hba
  go_wp2_with fail
  refine (begin_any a a2 1 1 oneC _ HCV.out oneC_good).mono ?_; rintro e wd ⟨m1, n1, m2, n2, rfl, HM, HBD⟩
  have HSC : Hid (∀ w2, OffS [] wa w2 → SlI w2 .i64 (.slice a oneC.caps.length 1) oneC.caps ∧ SlI w2 .u64 (.slice a2 oneC.starts.length 1) oneC.starts) := fun w2 h2 => by
    obtain ⟨vc, vs, e, h3, h4⟩ := HCV.out
    simp only [Value.agg.injEq, Array.mk.injEq, List.cons.injEq] at e
    obtain ⟨rfl, rfl, -⟩ := e
    exact ⟨h3.offN h2, h4.offN h2⟩
  have HI0 := Lib.hid (WI.start (WT := 49) (w0 := w) (E := []) oneC_good (fun j hj => by cases hj) HSC.out HBD.out HM.out HBA.out)
  have hBw : Hid (w.heap.size ≤ wd.heap.size) := by have h1 := HBA.out.size; have h2 := HBD.out.size; show _ ≤ _; omega
  have HDB : Hid (Below w.heap.size w wd) := below_then HBA.out HBD.out
  clear HM HBD HSC HCV HBA
  obtain ⟨B, hB⟩ : ∃ B, wd.heap.size = B := ⟨_, rfl⟩
  rw [hB] at HI0 hBw
  go_wp2_with fail
  try rw [hB]
  clear hB
  obtain ⟨w1, hw1⟩ : ∃ w1, wd.alloc (.cells #[.slice a oneC.caps.length 1, .slice a2 oneC.starts.length 1, .int .i64 oneC.threads, .slice m1 (newE oneC).words.length n1, .slice m2 (newE oneC).lists.length n2, .int .i64 (newE oneC).tick, .slice none 0 0, .slice none 0 0, .slice none 0 0, .slice none 0 0] 49) = w1 := ⟨_, rfl⟩
  rw [hw1] at HI0
  rw [hw1]
  clear hw1 HDB
  have HA1 : Hid (AL w w1 [] B _ _ oneC 0 0) := ⟨HI0.out, ⟨rfl, fun i h1 _ => by simp at h1⟩, rfl, (fun m hm => absurd hm (by simp)), rfl, ⟨Nat.le_refl _, Nat.le_refl _⟩, by decide⟩
  clear HI0
  have TA := Lib.hid (al_add HA1.out (by omega) 3 5 (.inl rfl) ⟨by omega, by omega⟩)
  clear HA1
  go_wp2_with fail
  refine TA.out.mono ?_
  rintro e w2 ⟨x2, y2, rfl, HA2, hm2, hl2, -⟩
  have E2 : Hid (y2.m = newE oneC ∧ y2.l = [⟨3, 1, 0, 0, 1, 5, 5, 0, 0, 0, 0⟩]) := ⟨hm2, hl2⟩
  clear hm2 hl2 TA
  have TA := Lib.hid (al_add HA2.out (by omega) 6 0 (.inr (.inr (.inr rfl))) U64.zero)
  clear HA2
  go_wp2_with fail
  refine TA.out.mono ?_
  rintro e w3 ⟨x3, y3, rfl, HA3, hm3, hl3, -⟩
  have E3 : Hid ((y3.m, y3.l) = runE rgNE rgRE oneC (newE oneC, [⟨3, 1, 0, 0, 1, 5, 5, 0, 0, 0, 0⟩, ⟨6, 1, 0, 0, 0, 0, 0, 0, 0, 0, 0⟩]) (List.replicate 0 0)) := by
    show (y3.m, y3.l) = (newE oneC, [⟨3, 1, 0, 0, 1, 5, 5, 0, 0, 0, 0⟩, ⟨6, 1, 0, 0, 0, 0, 0, 0, 0, 0, 0⟩])
    rw [hm3, hl3, E2.out.1, E2.out.2]; rfl
  clear hm3 hl3 TA E2
  go_wp2_with fail
  go_loopw [3, 2] (fun u3 u2 wr => ∃ (j : Nat) (x : WV) (y : WM), u3 = .int .i64 j ∧ u2 = .bool true ∧ j ≤ 7 ∧ Hid (AL w wr [] B x y oneC 2 (0 + j)) ∧ Hid ((y.m, y.l) = runE rgNE rgRE oneC (newE oneC, [⟨3, 1, 0, 0, 1, 5, 5, 0, 0, 0, 0⟩, ⟨6, 1, 0, 0, 0, 0, 0, 0, 0, 0, 0⟩]) (List.replicate j 0))) (fun u3 _ _ => 8 - (intOf u3).toNat)
  case atStart => exact ⟨0, x3, y3, rfl, rfl, by omega, HA3, E3⟩
  case round =>
    clear HA3 E3
    obtain ⟨j, x, y, rfl, rfl, hj, HAj, HEj⟩ := hrel
    obtain ⟨wo, rfl⟩ : ∃ wo : World, wo = wr := ⟨_, rfl⟩
    by_cases hlt : j < 7
    · have hltI : (j : Int) < 7 := by omega
      have TS := Lib.hid (al_stepE HAj.out (by omega) (by omega) 0 (by omega))
      go_wp2_with fail
      refine TS.out.mono ?_
      rintro e w9 ⟨x9, y9, rfl, HA9, he, -⟩
      have HE9 := Lib.hid (run_rep HEj.out he)
      clear he TS HAj HEj
      go_wp2_with fail
      go_roundw
      case rel => exact ⟨j + 1, x9, y9, by go_num, rfl, by omega, HA9, HE9⟩
      case measure => simp [intOf]; omega
    · have hj7 : j = 7 := by omega
      subst hj7
      have EA0 : Hid ((y.m, y.l) = awA) := HEj.out
      have E3 : Hid ((y.m, y.l) = runE rgNE rgRE oneC awA []) := by show _ = _; rw [runE_nil]; exact EA0.out
      clear EA0
      clear HEj
      have HA3 := HAj
      clear HAj
      have TS := Lib.hid (al_stepE HA3.out (by omega) (by omega) 1 (by omega))
      clear HA3
      go_wp2_with fail
      refine TS.out.mono ?_
      rintro e w4 ⟨x4, y4, rfl, HA4, he, -⟩
      have E4 := Lib.hid (run_next E3.out he)
      clear he TS E3
      have TS := Lib.hid (al_stepE HA4.out (by omega) (by omega) 1 (by omega))
      clear HA4
      go_wp2_with fail
      refine TS.out.mono ?_
      rintro e w5 ⟨x5, y5, rfl, HA5, he, -⟩
      have E5 := Lib.hid (run_next E4.out he)
      clear he TS E4
      have TS := Lib.hid (al_stepE HA5.out (by omega) (by omega) 1 (by omega))
      clear HA5
      go_wp2_with fail
      refine TS.out.mono ?_
      rintro e w6 ⟨x6, y6, rfl, HA6, he, -⟩
      have E6 := Lib.hid (run_next E5.out he)
      clear he TS E5
      have EA : Hid ((y6.m, y6.l) = awB) := E6.out
      have hm0 : y6.l[1]? = some ⟨6, 0, 0, 0, 0, 0, 0, 2, 0, 9, 1⟩ := by rw [show y6.l = awB.2 from congrArg Prod.snd EA.out]; exact awB_1
      have HM0 := Lib.hid hm0
      clear hm0 E6 EA
      obtain ⟨fl, fc, r0, r1, s2, k2, l2, s3, k3, l3, s4, k4, l4, hin, hfl, hBl, c9, f0, f1, f2, f3, f4, TE⟩ := HA6.out.ends 1 _ HM0.out rfl
      go_wp2_with fail
      refine (TE.out _ (Below.refl _ _)).mono ?_; rintro e w6e ⟨rfl, hbe⟩
      have HA6e := Lib.hid (HA6.out.next hbe)
      have HBe7 := Lib.hid hbe
      clear hbe c9 f0 f1 f2 f3 f4 TE hin hfl hBl
      obtain ⟨W7, hW7⟩ : ∃ W7, (w6e.alloc (.cells #[.int .i64 0, .int .u64 0] 56)).setRow w6e.heap.size #[.int .i64 9, .int .u64 1] = W7 := ⟨_, rfl⟩
      have N7 : Hid ((w6e.alloc (.cells #[.int .i64 0, .int .u64 0] 56)).heap[w6e.heap.size]? = some (.cells #[.int .i64 0, .int .u64 0] 56 (0, 0))) := heap_alloc_new _ _
      have HB7 : Hid (Below w6e.heap.size w6e W7) := hW7 ▸ row_below (below_new (Below.refl _ _) _) (Nat.le_refl _) _
      have R7 : Hid (W7.heap[w6e.heap.size]? = some (.cells #[.int .i64 9, .int .u64 1] 56 (0, 0))) := hW7 ▸ setRow_heap _ _ _ _ _ (0, 0) N7.out
      have HW7 := Lib.hid hW7
      clear hW7
      go_upto_region 11 with (refine wpList_store_row rfl 56 _ _ rfl (w6e.heap.size) _ rfl rfl 56 #[.int .i64 0, .int .u64 0] N7.out (by kernel_rfl) rfl (by simp [Value.oneCell']) ?_)
      rw [HW7.out]
      try simp only [Act.put]
      clear HW7 N7
      have HA6o := Lib.hid (HA6e.out.next HB7.out)
      obtain ⟨O7, hO7⟩ : ∃ b, w6e.heap.size = b := ⟨_, rfl⟩
      have hBO7 : Hid (O7 ≠ B) := by have := HA6e.out.wi.lt; show _ ≠ _; omega
      rw [hO7] at R7
      rw [hO7]
      clear hO7 HA6e
      have HBW := Lib.hid HA6o.out.wi.below
      clear HA6o HA6 HBe7 HB7
      obtain ⟨o0, o1⟩ := rowc2 R7.out
      go_wp2
      go_ret
      exact ⟨rfl, HBW.out⟩
end Go.Proofs.Ytjnlkemdaffgbaa
/- Layer 11: the law's world with machines of all kinds of a ring. -/
namespace Go.Proofs.Ytjnlkemdaffgbaa
open Go.ChangeShapes Go.WideShapes Go.ChangeAt Go.RowKit
set_option maxRecDepth 100000

theorem OwnI.raise {w : World} {base b' : Nat} {e : TypeId} {k : IntKind} {v : Value} {l : List Int} (h : OwnI w base e k v l) (hb : ∀ j, v.ownBlock = some j → b' ≤ j) : OwnI w b' e k v l := by
  refine ⟨h.1, h.2.imp id fun ⟨g, cap, cur, hv, h3, h4⟩ => ⟨g, cap, cur, hv, hb g (by rw [hv]; rfl), h4⟩⟩
theorem leftE (g : Nat) (w : World) (h : CodesE w g) : Calls Try.prog 22 #[.pointer (some ⟨g, 0, none⟩)] w fun e w' => ∃ b : Bool, e = .returned (.bool b) ∧ CodesE w' g ∧ Below w.heap.size w w' := by
  obtain ⟨r, val, h⟩ := h
  refine (left_any g r val w h).mono ?_
  rintro e w' ⟨n, rfl, rfl⟩
  exact ⟨_, rfl, ⟨r, val, h⟩, below_drewN (Below.refl _ _) n⟩
set_option maxRecDepth 100000 in
set_option maxHeartbeats 16000000 in
theorem others_any (v : Value) (l : List Int) (most : Nat) (hmost : most ≤ 20) (w : World) (hv : SlI w .u8 v l) : Calls Try.prog 7 #[v, .int .i64 most] w fun e w' => ∃ B g x y, e = .returned (.pointer (some ⟨B, 0, none⟩)) ∧ Hid (WI 49 w w' [some g] B (B + 1) x y) ∧ Hid (FrI PuR (OffS (x.S [some g] B) w') y) ∧ Hid (∀ m ∈ y.l, rgK y.c m ∧ m.chan = 0 ∧ m.pl = 1) ∧ Hid (y.l.length ≤ most ∧ y.t = [] ∧ y.p = [] ∧ y.m = newE y.c) ∧ Hid (1 ≤ y.c.caps.getD 0 0 ∧ y.c.caps.getD 0 0 ≤ 4 ∧ 1 ≤ y.c.caps.length) := by
  have HS := Lib.hid hv
  clear hv
  go_enter Try.func7, Try.ntmps7
  go_wp2_with fail
  refine (new_any _ l 40 _ HS.out (by omega)).mono ?_; rintro e wb ⟨rfl, hcb, hbb⟩
  have HCB : Hid (CodesE wb w.heap.size) := ⟨_, _, hcb⟩
  have HBB : Hid (Below w.heap.size w wb) := hbb
  clear hcb hbb HS
  obtain ⟨g, hg⟩ : ∃ g, w.heap.size = g := ⟨_, rfl⟩
  have HGW : Hid (w.heap.size ≤ g) := by show _ ≤ _; omega
  rw [hg] at HCB
  rw [hg]
  clear hg
  go_wp2_with fail
  refine (configO g _ HCB.out).mono ?_; rintro e wf ⟨vc, vs, c, rfl, hvc, hvs, hgood, hc1, hc3, hcc, hgc⟩
  have HBC : Hid (Below w.heap.size w wf) := HBB.out.grown hgc HBB.out.size (fun k hk => by cases hk; exact HGW.out)
  obtain ⟨a, cap, hae⟩ : ∃ a cap, vc = .slice (some ⟨a, 0, none⟩) c.caps.length cap := by
    rcases hvc.shape with ⟨_, h2⟩ | ⟨g', cap', h2, _⟩
    · rw [h2] at hc1; simp at hc1
    · exact ⟨g', cap', h2⟩
  subst hae
  obtain ⟨a2', cap2, hae2⟩ : ∃ a2' cap2, vs = .slice a2' c.starts.length cap2 := by
    rcases hvs.shape with ⟨rfl, h2⟩ | ⟨g', cap', h2, _⟩
    · exact ⟨_, _, by rw [h2]; rfl⟩
    · exact ⟨_, _, h2⟩
  subst hae2
  have HAG : Hid (g < a ∧ a < wf.heap.size) := by
    have h1 := hvc.own_ge a rfl
    have h2 := HCB.out.lt
    rcases hvc.shape with ⟨h3, _⟩ | ⟨g', cap', h3, h4, h5, _⟩
    · cases h3
    · simp only [Value.slice.injEq, Option.some.injEq, Addr.mk.injEq] at h3
      obtain ⟨⟨rfl, _⟩, _⟩ := h3
      exact ⟨by omega, h5⟩
  have HAP := Lib.hid (own_apart hvs hvc (by decide))
  have HSG : Hid (∀ j, (Value.slice a2' c.starts.length cap2).ownBlock = some j → g < j) := fun j hj => by
    have h1 := hvs.own_ge j hj
    have h2 := HCB.out.lt
    omega
  have hgwb : g + 1 ≤ wb.heap.size := HCB.out.lt
  have HVC := Lib.hid hvc
  have HVS := Lib.hid hvs
  have HCC := Lib.hid hcc
  have HG := Lib.hid hgood
  have HC1 := Lib.hid hc1
  have HC3 := Lib.hid hc3
  clear hvc hvs hcc hgood hgc hc1 hc3 HBB HCB
  obtain ⟨W1, hW1⟩ : ∃ W1, (wf.alloc (.cells #[.slice none 0 0, .slice none 0 0, .int .i64 0] 36)).setRow wf.heap.size #[.slice (some ⟨a, 0, none⟩) c.caps.length cap, .slice a2' c.starts.length cap2, .int .i64 c.threads] = W1 := ⟨_, rfl⟩
  have N1 : Hid ((wf.alloc (.cells #[.slice none 0 0, .slice none 0 0, .int .i64 0] 36)).heap[wf.heap.size]? = some (.cells #[.slice none 0 0, .slice none 0 0, .int .i64 0] 36 (0, 0))) := heap_alloc_new _ _
  have HB1 : Hid (Below wf.heap.size wf W1) := hW1 ▸ row_below (below_new (Below.refl _ _) _) (Nat.le_refl _) _
  have R1 : Hid (W1.heap[wf.heap.size]? = some (.cells #[.slice (some ⟨a, 0, none⟩) c.caps.length cap, .slice a2' c.starts.length cap2, .int .i64 c.threads] 36 (0, 0))) := hW1 ▸ setRow_heap _ _ _ _ _ (0, 0) N1.out
  have HW1 := Lib.hid hW1
  clear hW1
  go_upto_region 3 with (refine wpList_store_row rfl 36 _ _ rfl (wf.heap.size) _ rfl rfl 36 #[.slice none 0 0, .slice none 0 0, .int .i64 0] N1.out (by kernel_rfl) rfl (by simp [Value.oneCell']) ?_)
  rw [HW1.out]
  try simp only [Act.put]
  clear HW1 N1
  obtain ⟨X, hX⟩ : ∃ X, wf.heap.size = X := ⟨_, rfl⟩
  have hXw : Hid (wf.heap.size ≤ X) := by show _ ≤ _; omega
  rw [hX] at R1
  rw [hX]
  clear hX
  have HXW : Hid (wf.heap.size ≤ X) := hXw
  have HV1 := Lib.hid (HVC.out.below HB1.out)
  have HS1 := Lib.hid (HVS.out.below HB1.out)
  have HC1w := Lib.hid (HCC.out.kept HCC.out.lt HB1.out)
  have hX1 := (Array.getElem?_eq_some_iff.1 R1.out).1
  have hl0 : (0 : Int) < (c.caps.length : Int) := by have := HC1.out; omega
  have hl1 : 0 < c.caps.length := by have := HC1.out; omega
  have KS3 : Hid (∀ w', w'.heap[X]? = W1.heap[X]? → (fun w' : World => w'.cell? ⟨X, 0, none⟩ = some (.slice (some ⟨a, 0, none⟩) c.caps.length cap) ∧ w'.cell? ⟨X, 1, none⟩ = some (.slice a2' c.starts.length cap2) ∧ w'.cell? ⟨X, 2, none⟩ = some (.int .i64 c.threads)) w') := fun w' h1 => rowc3 (h1.trans R1.out)
  go_cut [] (fun wx => ∃ c2 : ConfM, Hid (wx.heap[X]? = some (.cells #[.slice (some ⟨a, 0, none⟩) c2.caps.length cap, .slice a2' c2.starts.length cap2, .int .i64 c2.threads] 36 (0, 0))) ∧ Hid (OwnI wx (g + 1) 3 .i64 (.slice (some ⟨a, 0, none⟩) c2.caps.length cap) c2.caps) ∧ Hid (OwnI wx (g + 1) 27 .u64 (.slice a2' c2.starts.length cap2) c2.starts) ∧ Hid c2.good ∧ Hid (1 ≤ c2.caps.getD 0 0 ∧ c2.caps.getD 0 0 ≤ 4 ∧ 1 ≤ c2.caps.length ∧ c2.caps.length ≤ 3) ∧ Hid (CodesE wx g) ∧ Hid (Below w.heap.size w wx) ∧ Hid (X < wx.heap.size))
  case first =>
    refine wp_region_until (fun w' : World => w'.cell? ⟨X, 0, none⟩ = some (.slice (some ⟨a, 0, none⟩) c.caps.length cap) ∧ w'.cell? ⟨X, 1, none⟩ = some (.slice a2' c.starts.length cap2) ∧ w'.cell? ⟨X, 2, none⟩ = some (.int .i64 c.threads)) 6 7 (by kernel_rfl) rfl ?_
    obtain ⟨u0, hu0, HU0⟩ := drew_pack W1
    rw [hu0]
    clear hu0
    have HU0C := Lib.hid (HC1w.out.kept HC1w.out.lt HU0.out)
    have hSU0 := KS3.out _ (HU0.out.block X hX1)
    refine tkU (v := ?_) 0 la0 hSU0 (by kernel_rfl) (fun _ _ _ h => h) rfl ?_ ?_
    rotate_left
    · (intro w hSw; (try dsimp only at hSw); go_simp <;> with_reducible rfl)
    simp only [Act.put, List.setIfInBounds_toArray, List.set_cons_zero, List.set_cons_succ]
    refine tkU (v := ?_) 1 la1 hSU0 (by kernel_rfl) (fun _ _ _ h => h) rfl ?_ ?_
    rotate_left
    · (intro w hSw; (try dsimp only at hSw); go_simp <;> with_reducible rfl)
    simp only [Act.put, List.setIfInBounds_toArray, List.set_cons_zero, List.set_cons_succ]
    refine tkU (v := ?_) 2 la2 hSU0 (by kernel_rfl) (fun _ _ _ h => h) rfl ?_ ?_
    rotate_left
    · (intro w hSw; (try dsimp only at hSw); go_simp <;> with_reducible rfl)
    simp only [Act.put, List.setIfInBounds_toArray, List.set_cons_zero, List.set_cons_succ]
    refine wpAnyU_ready (rs := [3]) (by kernel_rfl) rfl ?_
    refine AllReadyU.cons la3 rfl (fun K hK => ?_) ?_
    · go_simp
      go_at_call 14
      refine (nextE g 4 _ HU0C.out (by omega) (by omega)).mono ?_
      rintro e u1 ⟨z, rfl, hz0, hz1, hcd, hg1⟩
      have HCD1 := Lib.hid hcd
      have HG1 := Lib.hid hg1
      have hk1 : Hid (u1.heap[X]? = W1.heap[X]?) := (HG1.out.block X (Nat.lt_of_lt_of_le hX1 HU0.out.size) (by have := HAG.out; have := HXW.out; simp; omega)).trans (HU0.out.block X hX1)
      have hwz : IntKind.i64.wrap (1 + z) = 1 + z := by rw [IntKind.wrap_i64]; omega
      clear hcd hg1
      refine hK.out _ _ ?_ (fun hSU1 => ?_)
      · exact KS3.out _ hk1.out
      clear hK K hSU0
      try simp only [Act.put, List.setIfInBounds_toArray, List.set_cons_zero, List.set_cons_succ]
      refine tkU (v := ?_) 4 la4 hSU1 (by kernel_rfl) (fun _ _ _ h => h) rfl ?_ ?_
      rotate_left
      · (intro w hSw; (try dsimp only at hSw); go_simp <;> with_reducible rfl)
      simp only [Act.put, List.setIfInBounds_toArray, List.set_cons_zero, List.set_cons_succ]
      refine tkU (v := ?_) 5 la5 hSU1 (by kernel_rfl) (fun _ _ _ h => h) rfl ?_ ?_
      rotate_left
      · (intro w hSw; (try dsimp only at hSw); go_simp <;> with_reducible rfl)
      simp only [Act.put, List.setIfInBounds_toArray, List.set_cons_zero, List.set_cons_succ]
      refine wpAnyU_ready (rs := [6]) (by kernel_rfl) rfl ?_
      refine AllReadyU.free la6 rfl (by kernel_rfl) (fun K hK => ?_) ?_
      · have HV3 : Hid (OwnI u1 (g + 1) 3 .i64 (.slice (some ⟨a, 0, none⟩) c.caps.length cap) c.caps) := ((HV1.out.below HU0.out).kept HG1.out (.inr (by have := HAG.out; simp [Value.ownBlock]; omega))).mono_base hgwb
        have HS3 : Hid (OwnI u1 (g + 1) 27 .u64 (.slice a2' c.starts.length cap2) c.starts) := ((HS1.out.below HU0.out).kept HG1.out ((HS1.out.below HU0.out).ne (by omega))).mono_base hgwb
        obtain ⟨ca, fa⟩ := HV3.out.cell 0 (by have := HC1.out; omega)
        go_simp
        clear ca fa
        refine hK.out _ _ ?_
        clear hK K hSU1
        try simp only [Act.put, List.setIfInBounds_toArray, List.set_cons_zero, List.set_cons_succ]
        refine wpAnyU_done (by kernel_rfl) ?_ _
        have hg0 := HAG.out
        have HV4 := Lib.hid (HV3.out.store 0 (1 + z) rfl)
        have HS4 := Lib.hid (HS3.out.kept (grownBy_setCell u1 ⟨a, 0, none⟩ (.int .i64 (1 + z))) (HAP.out.imp id fun h => by simpa [Value.ownBlock] using h))
        have RX4 := Lib.hid ((heap_setCell_other u1 ⟨a, 0, none⟩ X (.int .i64 (1 + z)) (by have := HXW.out; show X ≠ a; omega)).trans (hk1.out.trans R1.out))
        have hlen : c.caps.length = (c.cap0 (1 + z)).caps.length := by show _ = (c.caps.set 0 (1 + z)).length; simp
        have HG4 := Lib.hid (HG.out.cap0 (1 + z) (by omega))
        have HC4 : Hid (1 ≤ (c.cap0 (1 + z)).caps.getD 0 0 ∧ (c.cap0 (1 + z)).caps.getD 0 0 ≤ 4 ∧ 1 ≤ (c.cap0 (1 + z)).caps.length ∧ (c.cap0 (1 + z)).caps.length ≤ 3) := by
          have e : (c.cap0 (1 + z)).caps.getD 0 0 = 1 + z := by show (c.caps.set 0 (1 + z)).getD 0 0 = _; rw [getD_setL, if_pos ⟨rfl, by have := HC1.out; omega⟩]
          rw [e, ← hlen]; exact ⟨by omega, by omega, HC1.out, HC3.out⟩
        have HCD4 := Lib.hid (HCD1.out.grown hg0.1 (grownBy_setCell u1 ⟨a, 0, none⟩ (.int .i64 (1 + z))))
        have HB4 : Hid (Below w.heap.size w (u1.setCell ⟨a, 0, none⟩ (.int .i64 (1 + z)))) := (((below_then HBC.out HB1.out).trans (HU0.out.mono (below_then HBC.out HB1.out).size)).grown HG1.out (Nat.le_trans (below_then HBC.out HB1.out).size HU0.out.size) (fun k hk => by cases hk; exact HGW.out)).setCell (p := ⟨a, 0, none⟩) (by have := HGW.out; show w.heap.size ≤ a; omega) _
        have HX4 : Hid (X < (u1.setCell ⟨a, 0, none⟩ (.int .i64 (1 + z))).heap.size) := by have := HU0.out.size; have := HG1.out.size; show X < _; simp; omega
        have HV5 : Hid (OwnI (u1.setCell ⟨a, 0, none⟩ (.int .i64 (1 + z))) (g + 1) 3 .i64 (.slice (some ⟨a, 0, none⟩) (c.cap0 (1 + z)).caps.length cap) (c.cap0 (1 + z)).caps) := by
          rw [← hlen]; exact HV4.out
        have HS5 : Hid (OwnI (u1.setCell ⟨a, 0, none⟩ (.int .i64 (1 + z))) (g + 1) 27 .u64 (.slice a2' c.starts.length cap2) c.starts) := HS4.out
        rw [hlen] at RX4
        clear hlen hwz hg0
        go_wp2_with fail
        go_meet
        exact ⟨c.cap0 (1 + z), RX4, HV5, HS5, HG4, HC4, HCD4, HB4, HX4⟩
      exact AllReadyU.nil
    exact AllReadyU.nil
  case rest =>
    obtain ⟨c2, RX2, HV2, HS2, HG2, HC2, HCD, HB2, HX2⟩ := hcut
    obtain ⟨w3, rfl⟩ : ∃ w3 : World, w3 = wc := ⟨_, rfl⟩
    have hcc2 := HC2.out
    have hl2 := HG2.out.len
    have HSC : Hid (∀ w2, OffS [some g] w3 w2 → SlI w2 .i64 (.slice (some ⟨a, 0, none⟩) c2.caps.length cap) c2.caps ∧ SlI w2 .u64 (.slice a2' c2.starts.length cap2) c2.starts) := fun w2 h2 =>
      ⟨HV2.out.readOff (by omega) (fun x hx => by have := HG2.out.caps x hx; rw [IntKind.wrap_i64]; omega) (fun j hj => by have := HV2.out.own_ge j hj; simp; omega) h2,
       HS2.out.readOff (by have := HG2.out.same; omega) (fun x hx => by have := HG2.out.starts x hx; rw [IntKind.wrap_u64]; omega) (fun j hj => by have := HS2.out.own_ge j hj; simp; omega) h2⟩
    have HCV : Hid (ConfV w3 (.agg #[.slice (some ⟨a, 0, none⟩) c2.caps.length cap, .slice a2' c2.starts.length cap2, .int .i64 c2.threads]) c2) := ⟨_, _, rfl, (HSC.out w3 (OffS.self _ _)).1, (HSC.out w3 (OffS.self _ _)).2⟩
    obtain ⟨x0, x1, x2⟩ := rowc3 RX2.out
    clear HV2 HS2 KS3 hl2 hcc2
    go_wp2_with fail
    refine (begin_any _ _ _ _ c2 _ HCV.out HG2.out).mono ?_; rintro e wd ⟨m1, n1, m2, n2, rfl, HM, HBD⟩
    have hgl := HCD.out.lt
    have HI0 := Lib.hid (WI.start (WT := 49) (w0 := w) (E := [some g]) HG2.out (fun j hj => by simp only [List.mem_singleton, Option.some.injEq] at hj; subst hj; exact ⟨HGW.out, hgl⟩) HSC.out HBD.out HM.out HB2.out)
    have HC0 := Lib.hid (HCD.out.kept hgl (below_new HBD.out (.cells #[.slice (some ⟨a, 0, none⟩) c2.caps.length cap, .slice a2' c2.starts.length cap2, .int .i64 c2.threads, .slice m1 (newE c2).words.length n1, .slice m2 (newE c2).lists.length n2, .int .i64 (newE c2).tick, .slice none 0 0, .slice none 0 0, .slice none 0 0, .slice none 0 0] 49)))
    have hgB : g < wd.heap.size := Nat.lt_of_lt_of_le hgl HBD.out.size
    clear HM HBD HSC HCV HCD x0 x1 x2 hgl RX2 HX2 HB2
    obtain ⟨B, hB⟩ : ∃ B, wd.heap.size = B := ⟨_, rfl⟩
    rw [hB] at HI0 hgB
    obtain ⟨w1, hw1⟩ : ∃ w1, wd.alloc (.cells #[.slice (some ⟨a, 0, none⟩) c2.caps.length cap, .slice a2' c2.starts.length cap2, .int .i64 c2.threads, .slice m1 (newE c2).words.length n1, .slice m2 (newE c2).lists.length n2, .int .i64 (newE c2).tick, .slice none 0 0, .slice none 0 0, .slice none 0 0, .slice none 0 0] 49) = w1 := ⟨_, rfl⟩
    rw [hw1] at HI0 HC0
    obtain ⟨w2, hw2⟩ : ∃ w2, w1.alloc (.cells #[.int .i64 3, .int .i64 3, .int .i64 4, .int .i64 4, .int .i64 5, .int .i64 6, .int .i64 3, .int .i64 4] 3) = w2 := ⟨_, rfl⟩
    have hb12 : Below w1.heap.size w1 w2 := hw2 ▸ below_new (Below.refl _ _) _
    have RK0 : Hid (w2.heap[w1.heap.size]? = some (.cells #[.int .i64 3, .int .i64 3, .int .i64 4, .int .i64 4, .int .i64 5, .int .i64 6, .int .i64 3, .int .i64 4] 3 (0, 0))) := hw2 ▸ heap_alloc_new _ _
    have hKB0 : Hid (g < w1.heap.size ∧ B < w1.heap.size) := ⟨HC0.out.lt, HI0.out.lt⟩
    have HI1 := Lib.hid (HI0.out.next hb12)
    have HC1' := Lib.hid (HC0.out.kept HC0.out.lt hb12)
    clear HI0 HC0 hb12
    obtain ⟨K, hK⟩ : ∃ K, w1.heap.size = K := ⟨_, rfl⟩
    rw [hK] at RK0 hKB0
    go_wp2_with fail
    try rw [hw1]
    try rw [hK]
    try rw [hw2]
    try rw [hB]
    clear hw1 hw2 hB hK
    go_loopw [9] (fun u9 wr => ∃ (i : Nat) (x : WV) (y : WM), u9 = .int .i64 i ∧ i ≤ most ∧ Hid (y.l.length = i ∧ y.t = [] ∧ y.p = [] ∧ y.m = newE y.c) ∧ Hid (y.c = c2) ∧ Hid (CodesE wr g) ∧ Hid (WI 49 w wr [some g] B (B + 1) x y) ∧ Hid (FrI PuR (OffS (x.S [some g] B) wr) y) ∧ Hid (∀ m ∈ y.l, rgK y.c m ∧ m.chan = 0 ∧ m.pl = 1) ∧ Hid (wr.heap[K]? = some (.cells #[.int .i64 3, .int .i64 3, .int .i64 4, .int .i64 4, .int .i64 5, .int .i64 6, .int .i64 3, .int .i64 4] 3 (0, 0)))) (fun u9 _ => most + 1 - (intOf u9).toNat)
    case atStart => exact ⟨0, ⟨some ⟨a, 0, none⟩, cap, a2', cap2, m1, n1, m2, n2, none, 0, none, 0, none, 0, none, 0⟩, ⟨c2, newE c2, [], [], [], []⟩, rfl, by omega, ⟨rfl, rfl, rfl, rfl⟩, rfl, HC1', HI1, ⟨rfl, fun j h1 _ => by simp at h1⟩, fun m hm => by simp at hm, RK0⟩
    case round =>
      clear HI1 HC1' RK0
      obtain ⟨i, x, y, rfl, hi, HYL, HYC, HC, HI, HF, HK, RK⟩ := hrel
      obtain ⟨wo, rfl⟩ : ∃ wo : World, wo = wr := ⟨_, rfl⟩
      by_cases hlt : i < most
      · have hltI : (i : Int) < (most : Int) := by omega
        go_wp2_with fail
        refine (leftE g _ HC.out).mono ?_
        rintro e w5 ⟨bl, rfl, hc5, hb5⟩
        have HC5 := Lib.hid hc5
        have HB5 := Lib.hid hb5
        have HI5 := Lib.hid (HI.out.next hb5)
        have HF5 := Lib.hid (HF.out.sub pu_sim fun w3 h3 => (OffS.below hb5).trans1 h3)
        have RK5 := Lib.hid ((hb5.block K (Array.getElem?_eq_some_iff.1 RK.out).1).trans RK.out)
        clear hc5 hb5 HC HI HF RK
        cases bl with
        | false =>
          have HLE : Hid (y.l.length ≤ most ∧ y.t = [] ∧ y.p = [] ∧ y.m = newE y.c) := ⟨by have := HYL.out.1; omega, HYL.out.2⟩
          have HCC2 : Hid (1 ≤ y.c.caps.getD 0 0 ∧ y.c.caps.getD 0 0 ≤ 4 ∧ 1 ≤ y.c.caps.length) := by rw [HYC.out]; exact ⟨HC2.out.1, HC2.out.2.1, HC2.out.2.2.1⟩
          clear HYL HYC HC2
          go_wp2_with fail
          go_ret
          exact ⟨B, g, x, y, rfl, HI5, HF5, HK, HLE, HCC2⟩
        | true =>
          go_wp2_with fail
          refine (nextE g 8 _ HC5.out (by omega) (by omega)).mono ?_
          rintro e w6 ⟨z, rfl, hz0, hz1, hc6, hg6⟩
          have HC6 := Lib.hid hc6
          have HI6 := Lib.hid (HI5.out.drawn (by simp) hgB hg6)
          have HF6 := Lib.hid (HF5.out.sub pu_sim fun w3 h3 => (OffS.grown hg6 (.inr (by simp [WV.S]))).trans1 h3)
          have RK6 := Lib.hid ((hg6.block K (Array.getElem?_eq_some_iff.1 RK5.out).1 (by have := hKB0.out; simp; omega)).trans RK5.out)
          obtain ⟨zn, hzn⟩ : ∃ zn : Nat, z = (zn : Int) := ⟨z.toNat, by omega⟩
          subst hzn
          have hq : ∃ q : Int, w6.cell? ⟨K, zn, none⟩ = some (.int .i64 q) ∧ (q = 3 ∨ q = 4 ∨ q = 5 ∨ q = 6) := by
            have h8 : zn = 0 ∨ zn = 1 ∨ zn = 2 ∨ zn = 3 ∨ zn = 4 ∨ zn = 5 ∨ zn = 6 ∨ zn = 7 := by omega
            rcases h8 with rfl | rfl | rfl | rfl | rfl | rfl | rfl | rfl
            all_goals exact ⟨_, cell_of_row _ _ _ _ _ _ RK6.out, by omega⟩
          obtain ⟨q, hqc, hq4⟩ := hq
          have hz8 : (zn : Int) < 8 := hz1
          have hw10 : IntKind.i64.wrap (10 + (i : Int)) = 10 + (i : Int) := by rw [IntKind.wrap_i64]; omega
          have hw11 : IntKind.u64.wrap (10 + (i : Int)) = 10 + (i : Int) := by rw [IntKind.wrap_u64]; omega
          have hU : U64 (10 + (i : Int)) := ⟨by omega, by omega⟩
          have hlen : y.l.length ≤ 1000 := by have := HYL.out.1; omega
          have hc1 : 0 < y.c.caps.length := by rw [HYC.out]; exact HC2.out.2.2.1
          have HADD : Hid (Calls Try.prog 8 #[.pointer (some ⟨B, 0, none⟩), .int .i64 q, .int .i64 0, .int .i64 0, .int .u64 (10 + (i : Int))] w6 (AddQ PuR w w6 [some g] B (B + 1) x y ⟨q, 1, 0, 0, (10 + (i : Int)) % 4, (10 + (i : Int)) % 8, 10 + (i : Int), 0, 0, 0, 0⟩)) := by
            by_cases ho : q = 6
            · subst ho
              exact wadd_own pu_sim HI6.out HF6.out 6 0 0 (10 + (i : Int)) rfl (by omega) (pu_starts HI6.out.good 0 0 (10 + (i : Int)) hU hc1 _ _ _ _) hlen
            · exact wadd_not pu_sim HI6.out HF6.out q 0 0 (10 + (i : Int)) (by unfold ownM; simpa using ho) (by omega) hlen
          have HKN : Hid (∀ m ∈ y.l ++ [⟨q, 1, 0, 0, (10 + (i : Int)) % 4, (10 + (i : Int)) % 8, 10 + (i : Int), 0, 0, 0, 0⟩], rgK y.c m ∧ m.chan = 0 ∧ m.pl = 1) := fun m hm => by
            rw [List.mem_append, List.mem_singleton] at hm
            rcases hm with hm | rfl
            · exact HK.out m hm
            · exact ⟨rgK_new y.c q 0 0 (10 + (i : Int)) hq4 hc1 hU, rfl, rfl⟩
          clear hc6 hg6 HC5 HI5 HF5 RK5 hU hlen hc1 HF6 HK
          go_wp2_with fail
          refine HADD.out.mono ?_
          rintro e w7 ⟨x2, f2, rfl, HI7, HF7, HB7, HO7⟩
          have HC7 := Lib.hid (HC6.out.kept hgB HB7.out)
          have RK7 := Lib.hid (((HO7.out _ (OffS.self _ _)).2 K (Array.getElem?_eq_some_iff.1 RK6.out).1 (HI6.out.notIn RK6.out (by have := hKB0.out; simp; omega) (by have := hKB0.out; omega) (by decide) (by decide) (by decide) (by decide))).trans RK6.out)
          clear HADD HC6 HI6 RK6 hqc HB7 HO7 hw10 hw11
          go_wp2_with fail
          go_roundw
          case rel => exact ⟨i + 1, x2, { y with l := y.l ++ [⟨q, 1, 0, 0, (10 + (i : Int)) % 4, (10 + (i : Int)) % 8, 10 + (i : Int), 0, 0, 0, 0⟩], f := y.f ++ [f2] }, by go_num, by omega, ⟨by show (y.l ++ [_]).length = _; rw [List.length_append, HYL.out.1]; rfl, HYL.out.2⟩, HYC, HC7, HI7, HF7, HKN, RK7⟩
          case measure => simp [intOf]; omega
      · have HLE : Hid (y.l.length ≤ most ∧ y.t = [] ∧ y.p = [] ∧ y.m = newE y.c) := ⟨by have := HYL.out.1; omega, HYL.out.2⟩
        have HCC2 : Hid (1 ≤ y.c.caps.getD 0 0 ∧ y.c.caps.getD 0 0 ≤ 4 ∧ 1 ≤ y.c.caps.length) := by rw [HYC.out]; exact ⟨HC2.out.1, HC2.out.2.1, HC2.out.2.2.1⟩
        have hge : ¬ (i : Int) < (most : Int) := by omega
        clear HYL HYC HC2 HC RK
        go_wp2_with fail
        go_ret
        first | exact ⟨B, g, x, y, rfl, HI, HF, HK, HLE, HCC2⟩ | exact ⟨B, rfl, g, x, y, HI, HF, HK, HLE, HCC2⟩
end Go.Proofs.Ytjnlkemdaffgbaa
