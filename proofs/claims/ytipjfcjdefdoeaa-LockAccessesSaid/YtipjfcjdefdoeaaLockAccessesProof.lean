/- Proved: LockAccesses returns true, and its arguments read afterwards as before, for every list of codes and every list of picks; no condition. -/
import Derived.Test.YtipjfcjdefdoeaaLaw
import Derived.Test.YtipjfcjdefdoeaaL7Awake
import Derived.Test.YtipjfcjdefdoeaaWk
import Derived.Test.YtipjfcjdefdoeaaWp
import Derived.Test.YtipjfcjdefdoeaaWorld0
import Derived.Deep.CutBlock
import Derived.LoopTactic
import Derived.WalkKit
import Derived.ProofKit
import Derived.OpenShut
import Derived.SizedLaws
namespace Go.Proofs.Ytipjfcjdefdoeaa.lockAccesses
open Go.ChangeShapes Go.WideShapes Go.ChangeAt Go.RowKit
set_option linter.unusedVariables false
set_option maxRecDepth 100000 in
set_option maxHeartbeats 16000000 in
theorem walk (w : World) (v0 : Value) (l0 : List Int) (s0 : SlI w .u8 v0 l0) (v1 : Value) (l1 : List Int) (s1 : SlI w .u8 v1 l1) :
    Calls Try.prog 4 #[v0, v1] w fun e w' => e = .returned (.bool true) ∧ Below w.heap.size w w' := by
  have HS0 := Lib.hid s0
  have HS1 := Lib.hid s1
  clear s0 s1
  go_enter Try.func4, Try.ntmps4
  go_wp2_with fail
  refine (awake7_any _).mono ?_; rintro e wa ⟨rfl, hba⟩
  have HBA := Lib.hid hba
  clear hba
  go_wp2_with fail
  refine (new_any _ l0 40 _ (HS0.out.below HBA.out) (by omega)).mono ?_; rintro e wb ⟨rfl, hcb, hbb⟩
  have HCB : Hid (CodesE wb wa.heap.size) := ⟨_, _, hcb⟩
  have HBB : Hid (Below wa.heap.size wa wb) := hbb
  clear hcb hbb HS0
  obtain ⟨g, hg⟩ : ∃ g, wa.heap.size = g := ⟨_, rfl⟩
  rw [hg] at HCB
  rw [hg]
  have hwg : w.heap.size ≤ g := by rw [← hg]; exact HBA.out.size
  go_wp2_with fail
  refine (configG _ _ HCB.out).mono ?_; rintro e wc ⟨vc, vs, c, rfl, hvc, hvs, ho1, ho2, hgood, hc1, hc3, hcc, hgc⟩
  have HBC : Hid (Below w.heap.size w wc) := below_then HBA.out (HBB.out.grown hgc HBB.out.size (fun k hk => by cases hk; omega))
  have HCC := Lib.hid hcc
  have hgl : g < wc.heap.size := hcc.lt
  obtain ⟨a, cap, rfl, -⟩ := hvc.len
  obtain ⟨a2', cap2, rfl, -⟩ := hvs.len
  have HV : Hid (ConfV wc (.agg #[.slice a c.caps.length cap, .slice a2' c.starts.length cap2, .int .i64 c.threads]) c) := ⟨_, _, rfl, hvc, hvs⟩
  have HG := Lib.hid hgood
  have HSC : Hid (∀ w2, OffS [some g] wc w2 → SlI w2 .i64 (.slice a c.caps.length cap) c.caps ∧ SlI w2 .u64 (.slice a2' c.starts.length cap2) c.starts) := fun w2 h2 => ⟨hvc.offG ho1 h2, hvs.offG ho2 h2⟩
  clear hvc hvs hgood hgc HBA HBB HCB ho1 ho2 hcc hg
  go_wp2_with fail
  refine (begin_any _ _ _ _ c _ HV.out HG.out).mono ?_; rintro e wd ⟨m1, n1, m2, n2, rfl, HM, HBD⟩
  have HI0 := Lib.hid (WI.start (WT := 61) (w0 := w) (E := [some g]) HG.out (fun j hj => by simp only [List.mem_singleton, Option.some.injEq] at hj; subst hj; exact ⟨hwg, hgl⟩) HSC.out HBD.out HM.out HBC.out)
  have HC0 := Lib.hid (HCC.out.kept hgl (below_new HBD.out (.cells #[.slice a c.caps.length cap, .slice a2' c.starts.length cap2, .int .i64 c.threads, .slice m1 (newE c).words.length n1, .slice m2 (newE c).lists.length n2, .int .i64 (newE c).tick, .slice none 0 0, .slice none 0 0, .slice none 0 0, .slice none 0 0] 61)))
  have hgB : g < wd.heap.size := Nat.lt_of_lt_of_le hgl HBD.out.size
  clear HM HBD HSC HV HBC HCC
  obtain ⟨B, hB⟩ : ∃ B, wd.heap.size = B := ⟨_, rfl⟩
  rw [hB] at HI0 hgB
  go_wp2_with fail
  try rw [hB]
  clear hB
  obtain ⟨w1, hw1⟩ : ∃ w1, wd.alloc (.cells #[.slice a c.caps.length cap, .slice a2' c.starts.length cap2, .int .i64 c.threads, .slice m1 (newE c).words.length n1, .slice m2 (newE c).lists.length n2, .int .i64 (newE c).tick, .slice none 0 0, .slice none 0 0, .slice none 0 0, .slice none 0 0] 61) = w1 := ⟨_, rfl⟩
  rw [hw1] at HI0 HC0
  rw [hw1]
  clear hw1
  have hcg := HG.out.len
  go_loopw [7] (fun u7 wr => ∃ (i : Nat) (x : WV) (y : WM), u7 = .int .i64 i ∧ i ≤ 6 ∧ y.l.length = i ∧ y.c = c ∧ Hid (CodesE wr g) ∧ Hid (WI 61 w wr [some g] B (B + 1) x y) ∧ Hid (FrI LkR (OffS (x.S [some g] B) wr) y) ∧ Hid (∀ m ∈ y.l, lkK y.c m ∧ m.what ≤ 2) ∧ Hid (y.t.length ≤ 0 ∧ y.p.length ≤ 0)) (fun u7 _ => 7 - (intOf u7).toNat)
  case atStart => exact ⟨0, _, _, rfl, by omega, rfl, rfl, HC0, HI0, ⟨rfl, fun j h1 _ => by simp at h1⟩, fun m hm => by simp at hm, ⟨Nat.le_refl _, Nat.le_refl _⟩⟩
  case round =>
    clear HI0 HC0
    obtain ⟨i, x, y, rfl, hi6, hyl, hyc, HC0, HI, HF, HK, HT⟩ := hrel
    obtain ⟨wo, rfl⟩ : ∃ wo : World, wo = wr := ⟨_, rfl⟩
    by_cases hlt : i < 6
    · have hltI : (i : Int) < 6 := by omega
      have hyc1 : 1 ≤ y.c.caps.length ∧ y.c.caps.length ≤ 3 := by rw [hyc]; exact ⟨hc1, hc3⟩
      obtain ⟨hyc2, hyc3⟩ := hyc1
      have HYL := Lib.hid hyl
      have HYC := Lib.hid hyc
      have hy20 : y.l.length ≤ 1000 := by omega
      clear hyl hyc
      have K8 : Hid (∀ w', w'.heap[B]? = some (.cells (x.row y) 61 (0, 0)) → (fun w' : World => w'.cell? ⟨B, 0, none⟩ = some (.slice x.cA y.c.caps.length x.cc)) w') := fun w' h1 => by
        unfold WV.row at h1
        exact cell_of_row _ _ 0 _ _ _ h1
      go_wp2_with fail
      refine wp_region_until (fun w' : World => w'.cell? ⟨B, 0, none⟩ = some (.slice x.cA y.c.caps.length x.cc)) 11 14 (by kernel_rfl) rfl ?_
      obtain ⟨u0, hu0, HU0⟩ := drew_pack wo
      rw [hu0]
      clear hu0
      have HI0 := Lib.hid (HI.out.next HU0.out)
      have HC0 := Lib.hid (HC0.out.kept HC0.out.lt HU0.out)
      have HG0 : Hid (OffS (x.S [some g] B) wo u0) := OffS.below HU0.out
      have hSU0 : (fun w' : World => w'.cell? ⟨B, 0, none⟩ = some (.slice x.cA y.c.caps.length x.cc)) (u0) := K8.out _ HI0.out.row
      refine wpAnyU_takeW (v := ?_) 0 ListAt.zero (by kernel_rfl) (by kernel_rfl) (by kernel_rfl) (by kernel_rfl) (fun _ _ _ h => h) (fun _ => hSU0) rfl ?_ ?_
      rotate_left
      · (intro w; go_simp <;> with_reducible rfl)
      simp only [Act.put, List.setIfInBounds_toArray, List.set_cons_zero, List.set_cons_succ]
      refine wpAnyU_takeW (v := ?_) 1 (ListAt.succ ListAt.zero) (by kernel_rfl) (by kernel_rfl) (by kernel_rfl) (by kernel_rfl) (fun _ _ _ h => h) (fun _ => hSU0) rfl ?_ ?_
      rotate_left
      · (intro w; go_simp <;> with_reducible rfl)
      simp only [Act.put, List.setIfInBounds_toArray, List.set_cons_zero, List.set_cons_succ]
      refine wpAnyU_takeW (v := ?_) 4 (ListAt.succ (ListAt.succ (ListAt.succ (ListAt.succ ListAt.zero)))) (by kernel_rfl) (by kernel_rfl) (by kernel_rfl) (by kernel_rfl) (fun _ _ _ h => h) (fun _ => hSU0) rfl ?_ ?_
      rotate_left
      · (intro w; go_simp <;> with_reducible rfl)
      simp only [Act.put, List.setIfInBounds_toArray, List.set_cons_zero, List.set_cons_succ]
      refine wpAnyU_takeW (v := ?_) 5 (ListAt.succ (ListAt.succ (ListAt.succ (ListAt.succ (ListAt.succ ListAt.zero))))) (by kernel_rfl) (by kernel_rfl) (by kernel_rfl) (by kernel_rfl) (fun _ _ _ h => h) (fun _ => hSU0) rfl ?_ ?_
      rotate_left
      · (intro w; go_simp <;> with_reducible rfl)
      simp only [Act.put, List.setIfInBounds_toArray, List.set_cons_zero, List.set_cons_succ]
      refine wpAnyU_takeW (v := ?_) 6 (ListAt.succ (ListAt.succ (ListAt.succ (ListAt.succ (ListAt.succ (ListAt.succ ListAt.zero)))))) (by kernel_rfl) (by kernel_rfl) (by kernel_rfl) (by kernel_rfl) (fun _ _ _ h => h) (fun _ => hSU0) rfl ?_ ?_
      rotate_left
      · (intro w; go_simp <;> with_reducible rfl)
      simp only [Act.put, List.setIfInBounds_toArray, List.set_cons_zero, List.set_cons_succ]
      refine wpAnyU_takeW (v := ?_) 7 (ListAt.succ (ListAt.succ (ListAt.succ (ListAt.succ (ListAt.succ (ListAt.succ (ListAt.succ ListAt.zero))))))) (by kernel_rfl) (by kernel_rfl) (by kernel_rfl) (by kernel_rfl) (fun _ _ _ h => h) (fun _ => hSU0) rfl ?_ ?_
      rotate_left
      · (intro w; go_simp <;> with_reducible rfl)
      simp only [Act.put, List.setIfInBounds_toArray, List.set_cons_zero, List.set_cons_succ]
      refine wpAnyU_takeW (v := ?_) 8 (ListAt.succ (ListAt.succ (ListAt.succ (ListAt.succ (ListAt.succ (ListAt.succ (ListAt.succ (ListAt.succ ListAt.zero)))))))) (by kernel_rfl) (by kernel_rfl) (by kernel_rfl) (by kernel_rfl) (fun _ _ _ h => h) (fun _ => hSU0) rfl ?_ ?_
      rotate_left
      · (intro w; go_simp <;> with_reducible rfl)
      simp only [Act.put, List.setIfInBounds_toArray, List.set_cons_zero, List.set_cons_succ]
      refine wpAnyU_takeW (v := ?_) 9 (ListAt.succ (ListAt.succ (ListAt.succ (ListAt.succ (ListAt.succ (ListAt.succ (ListAt.succ (ListAt.succ (ListAt.succ ListAt.zero))))))))) (by kernel_rfl) (by kernel_rfl) (by kernel_rfl) (by kernel_rfl) (fun _ _ _ h => h) (fun _ => hSU0) rfl ?_ ?_
      rotate_left
      · (intro w; go_simp <;> with_reducible rfl)
      simp only [Act.put, List.setIfInBounds_toArray, List.set_cons_zero, List.set_cons_succ]
      refine wpAnyU_take (v := ?_) 10 (ListAt.succ (ListAt.succ (ListAt.succ (ListAt.succ (ListAt.succ (ListAt.succ (ListAt.succ (ListAt.succ (ListAt.succ (ListAt.succ ListAt.zero)))))))))) (by kernel_rfl) (by kernel_rfl) (by kernel_rfl) (by kernel_rfl) (by kernel_rfl) (fun _ _ _ h => h) hSU0 rfl ?_ ?_
      rotate_left
      · (intro w hSw; (try dsimp only at hSw); go_simp <;> with_reducible rfl)
      simp only [Act.put, List.setIfInBounds_toArray, List.set_cons_zero, List.set_cons_succ]
      refine wpAnyU_ready (rs := [2, 11]) (by kernel_rfl) rfl ?_
      refine AllReadyU.cons (ListAt.succ (ListAt.succ ListAt.zero)) rfl (fun K hK => ?_) ?_
      · go_simp
        go_at_call 13
        refine (nextE g 2 _ HC0.out (by omega) (by omega)).mono ?_
        rintro e u1 ⟨z, rfl, hz0, hz1, hc1, hg1⟩
        have HC1 := Lib.hid hc1
        have HI1 := Lib.hid (HI0.out.drawn (by simp) hgB hg1)
        have HG1 : Hid (OffS (x.S [some g] B) wo u1) := HG0.out.trans1 (OffS.grown hg1 (.inr (by simp [WV.S])))
        have HZ0 := Lib.hid hz0
        have HZ1 := Lib.hid hz1
        have hwz : IntKind.i64.wrap (1 + z) = 1 + z := by rw [IntKind.wrap_i64]; omega
        clear hc1 hg1
        refine hK.out _ _ ?_ (fun hSU1 => ?_)
        · exact K8.out _ HI1.out.row
        clear hK K hSU0
        try simp only [Act.put, List.setIfInBounds_toArray, List.set_cons_zero, List.set_cons_succ]
        refine wpAnyU_takeW (v := ?_) 3 (ListAt.succ (ListAt.succ (ListAt.succ ListAt.zero))) (by kernel_rfl) (by kernel_rfl) (by kernel_rfl) (by kernel_rfl) (fun _ _ _ h => h) (fun _ => hSU1) rfl ?_ ?_
        rotate_left
        · (intro w; go_simp <;> with_reducible rfl)
        simp only [Act.put, List.setIfInBounds_toArray, List.set_cons_zero, List.set_cons_succ]
        refine wpAnyU_ready (rs := [11]) (by kernel_rfl) rfl ?_
        refine AllReadyU.free (ListAt.succ (ListAt.succ (ListAt.succ (ListAt.succ (ListAt.succ (ListAt.succ (ListAt.succ (ListAt.succ (ListAt.succ (ListAt.succ (ListAt.succ ListAt.zero))))))))))) rfl (by kernel_rfl) (fun K hK => ?_) ?_
        · go_simp
          refine hK.out _ _ ?_
          clear hK K hSU1
          try simp only [Act.put, List.setIfInBounds_toArray, List.set_cons_zero, List.set_cons_succ]
          refine wpAnyU_ready (rs := [12]) (by kernel_rfl) rfl ?_
          refine AllReadyU.free (ListAt.succ (ListAt.succ (ListAt.succ (ListAt.succ (ListAt.succ (ListAt.succ (ListAt.succ (ListAt.succ (ListAt.succ (ListAt.succ (ListAt.succ (ListAt.succ ListAt.zero)))))))))))) rfl (by kernel_rfl) (fun K hK => ?_) ?_
          · go_simp
            go_at_call 13
            refine (nextE g _ _ HC1.out (by omega) (by omega)).mono ?_
            rintro e u2 ⟨kz, rfl, hk0, hk1, hc1, hg1⟩
            obtain ⟨kk, rfl⟩ : ∃ kk : Nat, kz = kk := ⟨kz.toNat, by omega⟩
            have HC2 := Lib.hid hc1
            have HI2 := Lib.hid (HI1.out.drawn (by simp) hgB hg1)
            have HG2 : Hid (OffS (x.S [some g] B) wo u2) := HG1.out.trans1 (OffS.grown hg1 (.inr (by simp [WV.S])))
            have hkk : kk < y.c.caps.length := by omega
            clear hc1 hg1
            refine hK.out _ _ ?_
            clear hK K
            try simp only [Act.put, List.setIfInBounds_toArray, List.set_cons_zero, List.set_cons_succ]
            refine wpAnyU_ready (rs := [13]) (by kernel_rfl) rfl ?_
            refine AllReadyU.free (ListAt.succ (ListAt.succ (ListAt.succ (ListAt.succ (ListAt.succ (ListAt.succ (ListAt.succ (ListAt.succ (ListAt.succ (ListAt.succ (ListAt.succ (ListAt.succ (ListAt.succ ListAt.zero))))))))))))) rfl (by kernel_rfl) (fun K hK => ?_) ?_
            · go_simp
              go_at_call 21
              refine (wadd_any lk_sim HI2.out (HF.out.sub lk_sim fun w3 h3 => HG2.out.trans1 h3) (1 + z) kk 0 0 (by have := HZ1.out; omega) (by omega) (lk_starts HI2.out.good (1 + z) kk 0 0 (by have := HZ0.out; have := HZ1.out; omega) hkk _ _ _ _) (by omega)).mono ?_
              rintro e u3 ⟨x2, f2, rfl, HI9, HF9, HB9⟩
              refine hK.out _ _ ?_
              clear hK K
              try simp only [Act.put, List.setIfInBounds_toArray, List.set_cons_zero, List.set_cons_succ]
              refine wpAnyU_done (by kernel_rfl) ?_ _
              clear hwz
              have HCF := Lib.hid (HC2.out.kept hgB HB9.out)
              have HKF : Hid (∀ m ∈ y.l ++ [⟨1 + z, 1, kk, 0, 0, 0, 0, 0, 0, 0, 0⟩], lkK y.c m ∧ m.what ≤ 2) := fun m hm => by
                rw [List.mem_append, List.mem_singleton] at hm
                rcases hm with hm | rfl
                · exact HK.out m hm
                · exact ⟨⟨by show 1 + z = 1 ∨ 1 + z = 2; have := HZ0.out; have := HZ1.out; omega, .inr rfl, kk, hkk, rfl⟩, by show 1 + z ≤ 2; have := HZ1.out; omega⟩
              clear HC1 HC2 HI0 HI1 HI2 HG0 HG1 HG2 HB9 HF HK HI K8 HU0
              go_wp2_with fail
              go_roundw
              case rel => exact ⟨i + 1, x2, { y with l := y.l ++ [⟨1 + z, 1, kk, 0, 0 % 4, 0 % 8, 0, 0, 0, 0, 0⟩], f := y.f ++ [f2] }, by go_num, by omega, by show (y.l ++ [_]).length = _; rw [List.length_append, HYL.out]; rfl, HYC.out, HCF, HI9, HF9, HKF, HT⟩
              case measure => simp [intOf]; omega
            exact AllReadyU.nil
          exact AllReadyU.nil
        exact AllReadyU.nil
      refine AllReadyU.free (ListAt.succ (ListAt.succ (ListAt.succ (ListAt.succ (ListAt.succ (ListAt.succ (ListAt.succ (ListAt.succ (ListAt.succ (ListAt.succ (ListAt.succ ListAt.zero))))))))))) rfl (by kernel_rfl) (fun K hK => ?_) ?_
      · go_simp
        refine hK.out _ _ ?_
        clear hK K hSU0
        try simp only [Act.put, List.setIfInBounds_toArray, List.set_cons_zero, List.set_cons_succ]
        refine wpAnyU_ready (rs := [2]) (by kernel_rfl) rfl ?_
        refine AllReadyU.free (ListAt.succ (ListAt.succ ListAt.zero)) rfl (by kernel_rfl) (fun K hK => ?_) ?_
        · go_simp
          go_at_call 13
          refine (nextE g 2 _ HC0.out (by omega) (by omega)).mono ?_
          rintro e u1 ⟨z, rfl, hz0, hz1, hc1, hg1⟩
          have HC1 := Lib.hid hc1
          have HI1 := Lib.hid (HI0.out.drawn (by simp) hgB hg1)
          have HG1 : Hid (OffS (x.S [some g] B) wo u1) := HG0.out.trans1 (OffS.grown hg1 (.inr (by simp [WV.S])))
          have HZ0 := Lib.hid hz0
          have HZ1 := Lib.hid hz1
          have hwz : IntKind.i64.wrap (1 + z) = 1 + z := by rw [IntKind.wrap_i64]; omega
          clear hc1 hg1
          refine hK.out _ _ ?_
          clear hK K
          try simp only [Act.put, List.setIfInBounds_toArray, List.set_cons_zero, List.set_cons_succ]
          refine wpAnyU_takeW (v := ?_) 3 (ListAt.succ (ListAt.succ (ListAt.succ ListAt.zero))) (by kernel_rfl) (by kernel_rfl) (by kernel_rfl) (by kernel_rfl) (fun _ _ _ h => h) (past_k (by kernel_rfl)) rfl ?_ ?_
          rotate_left
          · (intro w; go_simp <;> with_reducible rfl)
          simp only [Act.put, List.setIfInBounds_toArray, List.set_cons_zero, List.set_cons_succ]
          refine wpAnyU_ready (rs := [12]) (by kernel_rfl) rfl ?_
          refine AllReadyU.free (ListAt.succ (ListAt.succ (ListAt.succ (ListAt.succ (ListAt.succ (ListAt.succ (ListAt.succ (ListAt.succ (ListAt.succ (ListAt.succ (ListAt.succ (ListAt.succ ListAt.zero)))))))))))) rfl (by kernel_rfl) (fun K hK => ?_) ?_
          · go_simp
            go_at_call 13
            refine (nextE g _ _ HC1.out (by omega) (by omega)).mono ?_
            rintro e u2 ⟨kz, rfl, hk0, hk1, hc1, hg1⟩
            obtain ⟨kk, rfl⟩ : ∃ kk : Nat, kz = kk := ⟨kz.toNat, by omega⟩
            have HC2 := Lib.hid hc1
            have HI2 := Lib.hid (HI1.out.drawn (by simp) hgB hg1)
            have HG2 : Hid (OffS (x.S [some g] B) wo u2) := HG1.out.trans1 (OffS.grown hg1 (.inr (by simp [WV.S])))
            have hkk : kk < y.c.caps.length := by omega
            clear hc1 hg1
            refine hK.out _ _ ?_
            clear hK K
            try simp only [Act.put, List.setIfInBounds_toArray, List.set_cons_zero, List.set_cons_succ]
            refine wpAnyU_ready (rs := [13]) (by kernel_rfl) rfl ?_
            refine AllReadyU.free (ListAt.succ (ListAt.succ (ListAt.succ (ListAt.succ (ListAt.succ (ListAt.succ (ListAt.succ (ListAt.succ (ListAt.succ (ListAt.succ (ListAt.succ (ListAt.succ (ListAt.succ ListAt.zero))))))))))))) rfl (by kernel_rfl) (fun K hK => ?_) ?_
            · go_simp
              go_at_call 21
              refine (wadd_any lk_sim HI2.out (HF.out.sub lk_sim fun w3 h3 => HG2.out.trans1 h3) (1 + z) kk 0 0 (by have := HZ1.out; omega) (by omega) (lk_starts HI2.out.good (1 + z) kk 0 0 (by have := HZ0.out; have := HZ1.out; omega) hkk _ _ _ _) (by omega)).mono ?_
              rintro e u3 ⟨x2, f2, rfl, HI9, HF9, HB9⟩
              refine hK.out _ _ ?_
              clear hK K
              try simp only [Act.put, List.setIfInBounds_toArray, List.set_cons_zero, List.set_cons_succ]
              refine wpAnyU_done (by kernel_rfl) ?_ _
              clear hwz
              have HCF := Lib.hid (HC2.out.kept hgB HB9.out)
              have HKF : Hid (∀ m ∈ y.l ++ [⟨1 + z, 1, kk, 0, 0, 0, 0, 0, 0, 0, 0⟩], lkK y.c m ∧ m.what ≤ 2) := fun m hm => by
                rw [List.mem_append, List.mem_singleton] at hm
                rcases hm with hm | rfl
                · exact HK.out m hm
                · exact ⟨⟨by show 1 + z = 1 ∨ 1 + z = 2; have := HZ0.out; have := HZ1.out; omega, .inr rfl, kk, hkk, rfl⟩, by show 1 + z ≤ 2; have := HZ1.out; omega⟩
              clear HC1 HC2 HI0 HI1 HI2 HG0 HG1 HG2 HB9 HF HK HI K8 HU0
              go_wp2_with fail
              go_roundw
              case rel => exact ⟨i + 1, x2, { y with l := y.l ++ [⟨1 + z, 1, kk, 0, 0 % 4, 0 % 8, 0, 0, 0, 0, 0⟩], f := y.f ++ [f2] }, by go_num, by omega, by show (y.l ++ [_]).length = _; rw [List.length_append, HYL.out]; rfl, HYC.out, HCF, HI9, HF9, HKF, HT⟩
              case measure => simp [intOf]; omega
            exact AllReadyU.nil
          exact AllReadyU.nil
        exact AllReadyU.nil
      exact AllReadyU.nil
    · obtain rfl : i = 6 := by omega
      have HP := Lib.hid (wplay_any lk_sim lk_doc HI.out HF.out HK.out (by omega) (by omega) (by have := HT.out.1; omega) (by have := HT.out.2; omega) v1 l1 HS1.out 60 2 (by omega) (by omega))
      clear HI HF HK HC0 hyl hyc
      go_wp2_with fail
      refine HP.out.mono ?_
      rintro e w5 ⟨x2, y2, rfl, HI2, -, -⟩
      have HBF := Lib.hid HI2.out.below
      clear HP HI2
      go_wp2_with fail
      go_ret
      exact ⟨rfl, HBF.out⟩
set_option maxRecDepth 100000 in
theorem lifted (os : Os) (started : os.Started) (H : Type) (enc : TypeId × Value → H) :
    ReturnsInHanded {} Try.checked os 4 .any (Rows.lockAccessesSpec.pre6 enc Try.prog Try.f4 Rows.lockAccessesRow.domain false) (Rows.lockAccessesSpec.post enc Try.prog Try.f4 false true false false) := by
  refine returnsInHanded_of_change_sized (C := Try.checked) own started (by kernel_rfl) Try.func4
    (ChangeSpec.witness6 (enc := enc) (C := Try.checked) false ⟨#[], #[.slice none 0 0, .slice none 0 0], []⟩ 8 (by kernel_rfl) (by kernel_rfl) (by kernel_rfl) (by kernel_rfl)) ?_
  intro W base args ds gs before hval0 hW _ hsz0 _
  have hsz : (DataW.weightsEach Try.prog (Try.f4.params.toList ++ Rows.lockAccessesSpec.plain.varTypes Try.prog) (ds ++ gs)).all (· ≤ reachBytes) = true := hsz0
  clear hsz0
  have hval : ∀ (j : Nat) t v, Try.f4.params[j]? = some t → args[j]? = some v → Value.okWide Try.prog W .any base t v := hval0
  have hW' := hW
  obtain ⟨p, q, hA0, hV, rfl, _, _⟩ := hW
  have hA : DataW.TrodAll enc Try.prog W 0 (fun _ => true) true Try.f4.params.toList args.toList ds p := hA0
  rw [Try.params4] at hA hval hsz
  obtain ⟨v0, vs0, d0, ds0, p0, q0, hargs, rfl, rfl, h0, r0⟩ := trodAll_cons hA
  obtain ⟨v1, vs1, d1, ds1, p1, q1, rfl, rfl, rfl, h1, r1⟩ := trodAll_cons r0
  obtain ⟨rfl, rfl, rfl⟩ := trodAll_nil r1
  obtain rfl : args = #[v0, v1] := by cases args; simp_all
  obtain ⟨rfl, rfl⟩ := trodVars_none hV
  have k0 := h0
  have k1 := h1
  obtain ⟨l0, s0⟩ := view_sl (k := .u8) Try.underlying22 Try.underlying5 (by kernel_rfl) (fun elems sp hd => sized_slice hsz (j := 0) (t := 22) (e := 5) rfl (by rw [hd]; rfl) Try.underlying22) (of_decide_eq_true (by kernel_rfl)) (hval 0 22 v0 rfl rfl) h0
  obtain ⟨l1, s1⟩ := view_sl (k := .u8) Try.underlying22 Try.underlying5 (by kernel_rfl) (fun elems sp hd => sized_slice hsz (j := 1) (t := 22) (e := 5) rfl (by rw [hd]; rfl) Try.underlying22) (of_decide_eq_true (by kernel_rfl)) (hval 1 22 v1 rfl rfl) h1
  clear hA0 hval0
  simp only [List.append_nil] at hW'
  have hlt := hW'.lt
  refine (walk W v0 l0 s0 v1 l1 s1).mono fun e W' ⟨he, hb⟩ => ?_
  subst he
  exact ⟨_, rfl, _, _, _, [], _, [], hW', trodAll_cons_mk (shut_bool Try.underlying4 _) trodAll_mk0, (trodAll_cons_mk (Below.trod Try.laidOut (by kernel_rfl) (of_decide_eq_true (by kernel_rfl)) k0 hb (fun x hx => by simpa using hlt x (by simp [hx]))) (trodAll_cons_mk (Below.trod Try.laidOut (by kernel_rfl) (of_decide_eq_true (by kernel_rfl)) k1 hb (fun x hx => by simpa using hlt x (by simp [hx]))) trodAll_mk0)), rfl, hb.frame _, fun h => by cases h⟩
theorem over : Rows.lockAccessesRow.holds Try.pinned (OpenSpec.ofChange Rows.lockAccessesSpec) :=
  OpenClaim.holds_of_wide 4 Try.f4 rfl rfl rfl rfl rfl rfl rfl ⟨rfl, rfl, rfl, rfl, rfl⟩ rfl rfl rfl rfl rfl (by kernel_rfl) Try.func4 (by kernel_rfl)
    (of_decide_eq_true (by kernel_rfl)) (by unfold Func.isWrapper; first | (rw [if_pos (by decide +kernel)]; kernel_rfl) | (rw [if_neg (by decide +kernel)]; exact ⟨rfl, rfl⟩))
    (fun os started H enc _ => lifted os started H enc)
/-- THE STATEMENT -/
theorem proved : Rows.LockAccessesSaid :=
  over
end Go.Proofs.Ytipjfcjdefdoeaa.lockAccesses
