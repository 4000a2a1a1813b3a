
import Derived.Test.YtmkngpjjimalhaaB08
import Derived.Test.YtmkngpjjimalhaaB13
import Derived.Test.YtmkngpjjimalhaaB30
import Derived.Test.YtmkngpjjimalhaaB17
import Derived.Test.YtmkngpjjimalhaaB15
import Derived.Test.YtmkngpjjimalhaaB05
set_option linter.unusedVariables false
set_option linter.unusedSimpArgs false
/- Layer 9: the law's example: a pop of an empty ring, a push, and a pop. -/
namespace Go.Proofs.Ytmkngpjjimalhaa
open Go.ChangeShapes Go.WideShapes Go.ChangeAt Go.RowKit
set_option maxRecDepth 100000

theorem SlI.offN {w w2 : World} {k : IntKind} {v : Value} {l : List Int} (h : SlI w k v l) (h2 : OffS [] w w2) : SlI w2 k v l := by
  have hb : Below w.heap.size w { w with heap := w2.heap } := ⟨rfl, rfl, rfl, h2.1, fun j hj => h2.2 j hj (by simp)⟩
  exact (h.below hb).heapEq (w := { w with heap := w2.heap }) rfl
def awA : MemM × List MachM := runE rgNE rgRE oneC (newE oneC, [⟨4, 1, 0, 0, 0, 0, 0, 0, 0, 0, 0⟩, ⟨3, 1, 0, 0, 1, 5, 5, 0, 0, 0, 0⟩]) [0, 0, 0]
def awB : MemM × List MachM := runE rgNE rgRE oneC awA (List.replicate 7 1)
def awC : MemM × List MachM := runE rgNE rgRE oneC (awB.1, awB.2 ++ [⟨4, 1, 0, 0, 0, 0, 0, 0, 0, 0, 0⟩]) (List.replicate 7 2)
theorem awA_at : awA.2[0]? = some ⟨4, 0, 0, 0, 0, 0, 0, 0, 0, 3, 0⟩ := by kernel_rfl
theorem awC_at : awC.2[2]? = some ⟨4, 0, 0, 0, 0, 0, 5, 2, 0, 6, 5⟩ := by kernel_rfl
set_option maxRecDepth 100000 in
set_option maxHeartbeats 16000000 in
theorem awake8_any (w : World) : Calls Try.prog 6 #[] w fun e w' => e = .returned (.bool true) ∧ Below w.heap.size w w' := by
  go_enter Try.func6, Try.ntmps6
  go_wp2_with fail
  refine (one_any _).mono ?_; rintro e wa ⟨a, a2, rfl, hcv, hba⟩
  have HCV := Lib.hid hcv
  have HBA := Lib.hid hba
  clear hcv hba
  go_wp2_with fail
  refine (begin_any a a2 1 1 oneC _ HCV.out oneC_good).mono ?_; rintro e wd ⟨m1, n1, m2, n2, rfl, HM, HBD⟩
  have HSC : Hid (∀ w2, OffS [] wa w2 → SlI w2 .i64 (.slice a oneC.caps.length 1) oneC.caps ∧ SlI w2 .u64 (.slice a2 oneC.starts.length 1) oneC.starts) := fun w2 h2 => by
    obtain ⟨vc, vs, e, h3, h4⟩ := HCV.out
    simp only [Value.agg.injEq, Array.mk.injEq, List.cons.injEq] at e
    obtain ⟨rfl, rfl, -⟩ := e
    exact ⟨h3.offN h2, h4.offN h2⟩
  have HI0 := Lib.hid (WI.start (WT := 50) (w0 := w) (E := []) oneC_good (fun j hj => by cases hj) HSC.out HBD.out HM.out HBA.out)
  have hBw : Hid (w.heap.size ≤ wd.heap.size) := by have h1 := HBA.out.size; have h2 := HBD.out.size; show _ ≤ _; omega
  have HDB : Hid (Below w.heap.size w wd) := below_then HBA.out HBD.out
  clear HM HBD HSC HCV HBA
  obtain ⟨B, hB⟩ : ∃ B, wd.heap.size = B := ⟨_, rfl⟩
  rw [hB] at HI0 hBw
  go_wp2_with fail
  try rw [hB]
  clear hB
  obtain ⟨w1, hw1⟩ : ∃ w1, wd.alloc (.cells #[.slice a oneC.caps.length 1, .slice a2 oneC.starts.length 1, .int .i64 oneC.threads, .slice m1 (newE oneC).words.length n1, .slice m2 (newE oneC).lists.length n2, .int .i64 (newE oneC).tick, .slice none 0 0, .slice none 0 0, .slice none 0 0, .slice none 0 0] 50) = w1 := ⟨_, rfl⟩
  rw [hw1] at HI0
  rw [hw1]
  clear hw1 HDB
  have HA1 : Hid (AL w w1 [] B _ _ oneC 0 0) := ⟨HI0.out, ⟨rfl, fun i h1 _ => by simp at h1⟩, rfl, (fun m hm => absurd hm (by simp)), rfl, ⟨Nat.le_refl _, Nat.le_refl _⟩, by decide⟩
  clear HI0
  have TA := Lib.hid (al_add HA1.out (by omega) 4 0 (.inr (.inl rfl)) U64.zero)
  clear HA1
  go_wp2_with fail
  refine TA.out.mono ?_
  rintro e w2 ⟨x2, y2, rfl, HA2, hm2, hl2, -⟩
  have E2 : Hid (y2.m = newE oneC ∧ y2.l = [⟨4, 1, 0, 0, 0, 0, 0, 0, 0, 0, 0⟩]) := ⟨hm2, hl2⟩
  clear hm2 hl2 TA
  have TA := Lib.hid (al_add HA2.out (by omega) 3 5 (.inl rfl) ⟨by omega, by omega⟩)
  clear HA2
  go_wp2_with fail
  refine TA.out.mono ?_
  rintro e w3 ⟨x3, y3, rfl, HA3, hm3, hl3, -⟩
  have E3 : Hid ((y3.m, y3.l) = runE rgNE rgRE oneC (newE oneC, [⟨4, 1, 0, 0, 0, 0, 0, 0, 0, 0, 0⟩, ⟨3, 1, 0, 0, 1, 5, 5, 0, 0, 0, 0⟩]) []) := by
    show (y3.m, y3.l) = (newE oneC, [⟨4, 1, 0, 0, 0, 0, 0, 0, 0, 0, 0⟩, ⟨3, 1, 0, 0, 1, 5, 5, 0, 0, 0, 0⟩])
    rw [hm3, hl3, E2.out.1, E2.out.2]; rfl
  clear hm3 hl3 TA E2
  have TS := Lib.hid (al_stepE HA3.out (by omega) (by omega) 0 (by omega))
  clear HA3
  go_wp2_with fail
  refine TS.out.mono ?_
  rintro e w4 ⟨x4, y4, rfl, HA4, he, -⟩
  have E4 := Lib.hid (run_next E3.out he)
  clear he TS E3
  have TS := Lib.hid (al_stepE HA4.out (by omega) (by omega) 0 (by omega))
  clear HA4
  go_wp2_with fail
  refine TS.out.mono ?_
  rintro e w5 ⟨x5, y5, rfl, HA5, he, -⟩
  have E5 := Lib.hid (run_next E4.out he)
  clear he TS E4
  have TS := Lib.hid (al_stepE HA5.out (by omega) (by omega) 0 (by omega))
  clear HA5
  go_wp2_with fail
  refine TS.out.mono ?_
  rintro e w6 ⟨x6, y6, rfl, HA6, he, -⟩
  have E6 := Lib.hid (run_next E5.out he)
  clear he TS E5
  have EA : Hid ((y6.m, y6.l) = awA) := E6.out
  have hm0 : y6.l[0]? = some ⟨4, 0, 0, 0, 0, 0, 0, 0, 0, 3, 0⟩ := by rw [show y6.l = awA.2 from congrArg Prod.snd EA.out]; exact awA_at
  have HM0 := Lib.hid hm0
  clear hm0 E6
  obtain ⟨fl, fc, r0, r1, s2, k2, l2, s3, k3, l3, s4, k4, l4, hin, hfl, hBl, c9, f0, f1, f2, f3, f4, TE⟩ := HA6.out.ends 0 _ HM0.out rfl
  go_wp2_with fail
  refine (TE.out _ (Below.refl _ _)).mono ?_; rintro e w6e ⟨rfl, hbe⟩
  have HA6e := Lib.hid (HA6.out.next hbe)
  have HBe7 := Lib.hid hbe
  clear hbe c9 f0 f1 f2 f3 f4 TE hin hfl hBl
  obtain ⟨W7, hW7⟩ : ∃ W7, (w6e.alloc (.cells #[.int .i64 0, .int .u64 0] 54)).setRow w6e.heap.size #[.int .i64 3, .int .u64 0] = W7 := ⟨_, rfl⟩
  have N7 : Hid ((w6e.alloc (.cells #[.int .i64 0, .int .u64 0] 54)).heap[w6e.heap.size]? = some (.cells #[.int .i64 0, .int .u64 0] 54 (0, 0))) := heap_alloc_new _ _
  have HB7 : Hid (Below w6e.heap.size w6e W7) := hW7 ▸ row_below (below_new (Below.refl _ _) _) (Nat.le_refl _) _
  have R7 : Hid (W7.heap[w6e.heap.size]? = some (.cells #[.int .i64 3, .int .u64 0] 54 (0, 0))) := hW7 ▸ setRow_heap _ _ _ _ _ (0, 0) N7.out
  have HW7 := Lib.hid hW7
  clear hW7
  go_upto_region 6 with (refine wpList_store_row rfl 54 _ _ rfl (w6e.heap.size) _ rfl rfl 54 #[.int .i64 0, .int .u64 0] N7.out (by kernel_rfl) rfl (by simp [Value.oneCell']) ?_)
  rw [HW7.out]
  try simp only [Act.put]
  clear HW7 N7
  have HA6o := Lib.hid (HA6e.out.next HB7.out)
  obtain ⟨O7, hO7⟩ : ∃ b, w6e.heap.size = b := ⟨_, rfl⟩
  have hBO7 : Hid (O7 ≠ B) := by have := HA6e.out.wi.lt; show _ ≠ _; omega
  rw [hO7] at R7
  rw [hO7]
  clear hO7 HA6e
  clear HBe7
  go_wp2_with fail
  go_loopw [5, 2] (fun u5 u2 wr => ∃ (j : Nat) (x : WV) (y : WM), u5 = .int .i64 j ∧ u2 = .bool true ∧ j ≤ 7 ∧ Hid (AL w wr [] B x y oneC 2 (3 + j)) ∧ Hid ((y.m, y.l) = runE rgNE rgRE oneC awA (List.replicate j 1)) ∧ Hid (wr.heap[O7]? = some (.cells #[.int .i64 3, .int .u64 0] 54 (0, 0)))) (fun u5 _ _ => 8 - (intOf u5).toNat)
  case atStart => exact ⟨0, x6, y6, rfl, rfl, by omega, HA6o, EA, R7⟩
  case round =>
    clear HA6o EA R7
    obtain ⟨j, x, y, rfl, rfl, hj, HAj, HEj, ROj⟩ := hrel
    obtain ⟨wo, rfl⟩ : ∃ wo : World, wo = wr := ⟨_, rfl⟩
    by_cases hlt : j < 7
    · have hltI : (j : Int) < 7 := by omega
      have TS := Lib.hid (al_stepE HAj.out (by omega) (by omega) 1 (by omega))
      go_wp2_with fail
      refine TS.out.mono ?_
      rintro e w9 ⟨x9, y9, rfl, HA9, he, ho⟩
      have HE9 := Lib.hid (run_rep HEj.out he)
      have RO9 := Lib.hid (HAj.out.keeps ROj.out (by simp) hBO7.out (by decide) (by decide) (by decide) (by decide) ho.out)
      clear he ho TS HAj HEj ROj
      go_wp2_with fail
      go_roundw
      case rel => exact ⟨j + 1, x9, y9, by go_num, rfl, by omega, HA9, HE9, RO9⟩
      case measure => simp [intOf]; omega
    · have hj7 : j = 7 := by omega
      subst hj7
      have EB : Hid ((y.m, y.l) = awB) := HEj.out
      clear HEj
      have TA := Lib.hid (al_add HAj.out (by omega) 4 0 (.inr (.inl rfl)) U64.zero)
      go_wp2_with fail
      refine TA.out.mono ?_
      rintro e wg ⟨xg, yg, rfl, HAg, hmg, hlg, hog⟩
      have ROg := Lib.hid (HAj.out.keeps ROj.out (by simp) hBO7.out (by decide) (by decide) (by decide) (by decide) hog.out)
      have EC : Hid ((yg.m, yg.l) = runE rgNE rgRE oneC (awB.1, awB.2 ++ [⟨4, 1, 0, 0, 0, 0, 0, 0, 0, 0, 0⟩]) (List.replicate 0 2)) := by
        show (yg.m, yg.l) = (awB.1, awB.2 ++ [⟨4, 1, 0, 0, 0, 0, 0, 0, 0, 0, 0⟩])
        rw [hmg, hlg, show y.m = awB.1 from congrArg Prod.fst EB.out, show y.l = awB.2 from congrArg Prod.snd EB.out]; rfl
      clear hmg hlg hog TA EB HAj ROj
      go_wp2_with fail
      go_loopw [6, 2] (fun u6 u2 wr => ∃ (j : Nat) (x : WV) (y : WM), u6 = .int .i64 j ∧ u2 = .bool true ∧ j ≤ 7 ∧ Hid (AL w wr [] B x y oneC 3 (3 + 7 + j)) ∧ Hid ((y.m, y.l) = runE rgNE rgRE oneC (awB.1, awB.2 ++ [⟨4, 1, 0, 0, 0, 0, 0, 0, 0, 0, 0⟩]) (List.replicate j 2)) ∧ Hid (wr.heap[O7]? = some (.cells #[.int .i64 3, .int .u64 0] 54 (0, 0)))) (fun u6 _ _ => 8 - (intOf u6).toNat)
      case atStart => exact ⟨0, xg, yg, rfl, rfl, by omega, HAg, EC, ROg⟩
      case round =>
        clear HAg EC ROg
        obtain ⟨j, x, y, rfl, rfl, hj, HAj, HEj, ROj⟩ := hrel
        obtain ⟨wo, rfl⟩ : ∃ wo : World, wo = wr := ⟨_, rfl⟩
        by_cases hlt : j < 7
        · have hltI : (j : Int) < 7 := by omega
          have TS := Lib.hid (al_stepE HAj.out (by omega) (by omega) 2 (by omega))
          go_wp2_with fail
          refine TS.out.mono ?_
          rintro e w9 ⟨x9, y9, rfl, HA9, he, ho⟩
          have HE9 := Lib.hid (run_rep HEj.out he)
          have RO9 := Lib.hid (HAj.out.keeps ROj.out (by simp) hBO7.out (by decide) (by decide) (by decide) (by decide) ho.out)
          clear he ho TS HAj HEj ROj
          go_wp2_with fail
          go_roundw
          case rel => exact ⟨j + 1, x9, y9, by go_num, rfl, by omega, HA9, HE9, RO9⟩
          case measure => simp [intOf]; omega
        · have hj7 : j = 7 := by omega
          subst hj7
          have ED : Hid ((y.m, y.l) = awC) := HEj.out
          have hm0 : y.l[2]? = some ⟨4, 0, 0, 0, 0, 0, 5, 2, 0, 6, 5⟩ := by rw [show y.l = awC.2 from congrArg Prod.snd ED.out]; exact awC_at
          have HM0 := Lib.hid hm0
          clear hm0 HEj ED
          obtain ⟨fl, fc, r0, r1, s2, k2, l2, s3, k3, l3, s4, k4, l4, hin, hfl, hBl, c9, f0, f1, f2, f3, f4, TE⟩ := HAj.out.ends 2 _ HM0.out rfl
          go_wp2_with fail
          refine (TE.out _ (Below.refl _ _)).mono ?_; rintro e woe ⟨rfl, hbe⟩
          have HAje := Lib.hid (HAj.out.next hbe)
          have HBe8 := Lib.hid hbe
          clear hbe c9 f0 f1 f2 f3 f4 TE hin hfl hBl
          obtain ⟨W8, hW8⟩ : ∃ W8, (woe.alloc (.cells #[.int .i64 0, .int .u64 0] 54)).setRow woe.heap.size #[.int .i64 6, .int .u64 5] = W8 := ⟨_, rfl⟩
          have N8 : Hid ((woe.alloc (.cells #[.int .i64 0, .int .u64 0] 54)).heap[woe.heap.size]? = some (.cells #[.int .i64 0, .int .u64 0] 54 (0, 0))) := heap_alloc_new _ _
          have HB8 : Hid (Below woe.heap.size woe W8) := hW8 ▸ row_below (below_new (Below.refl _ _) _) (Nat.le_refl _) _
          have R8 : Hid (W8.heap[woe.heap.size]? = some (.cells #[.int .i64 6, .int .u64 5] 54 (0, 0))) := hW8 ▸ setRow_heap _ _ _ _ _ (0, 0) N8.out
          have HW8 := Lib.hid hW8
          clear hW8
          go_upto_region 16 with (refine wpList_store_row rfl 54 _ _ rfl (woe.heap.size) _ rfl rfl 54 #[.int .i64 0, .int .u64 0] N8.out (by kernel_rfl) rfl (by simp [Value.oneCell']) ?_)
          rw [HW8.out]
          try simp only [Act.put]
          clear HW8 N8
          have HAjo := Lib.hid (HAje.out.next HB8.out)
          obtain ⟨O8, hO8⟩ : ∃ b, woe.heap.size = b := ⟨_, rfl⟩
          have hBO8 : Hid (O8 ≠ B) := by have := HAje.out.wi.lt; show _ ≠ _; omega
          rw [hO8] at R8
          rw [hO8]
          clear hO8 HAje
          have hOO : Hid (O7 < wo.heap.size) := (Array.getElem?_eq_some_iff.1 ROj.out).1
          have RO8 := Lib.hid ((HB8.out.block O7 (by have := HBe8.out.size; have := hOO.out; omega)).trans ((HBe8.out.block O7 hOO.out).trans ROj.out))
          have HBW := Lib.hid HAjo.out.wi.below
          clear HAjo HAj HBe8 HB8 ROj hOO
          obtain ⟨o0, o1⟩ := rowc2 RO8.out
          obtain ⟨p0, p1⟩ := rowc2 R8.out
          go_wp2
          go_ret
          exact ⟨rfl, HBW.out⟩
end Go.Proofs.Ytmkngpjjimalhaa
/- A configuration of a reader, owned: what changes its capacities. -/
namespace Go.Proofs.Ytmkngpjjimalhaa
open Go.ChangeShapes Go.WideShapes Go.ChangeAt Go.RowKit
set_option maxRecDepth 100000

theorem configO (g : Nat) (w : World) (h : CodesE w g) :
    Calls Try.prog 11 #[.pointer (some ⟨g, 0, none⟩)] w fun e w' => ∃ (vc vs : Value) (c : ConfM), e = .returned (.agg #[vc, vs, .int .i64 c.threads]) ∧ OwnI w' w.heap.size 3 .i64 vc c.caps ∧ OwnI w' w.heap.size 27 .u64 vs c.starts ∧ c.good ∧ 1 ≤ c.caps.length ∧ c.caps.length ≤ 3 ∧ CodesE w' g ∧ w.grownBy w' (some g) := by
  obtain ⟨r, val, h⟩ := h
  refine (config_own g r val w h).mono ?_
  rintro e w' ⟨vc, vs, t, caps, starts, r', rfl, h1, h2, h3, h4, h5, h6, h7, h8, h9, h10, h11, h12, h13, h14⟩
  exact ⟨vc, vs, ⟨caps, starts, t⟩, rfl, h13, h14, h12.good h5 (by omega), h4, h5, ⟨_, _, h8⟩, h9⟩
/-- the same configuration with another capacity of channel 0 -/
def ConfM.cap0 (c : ConfM) (k : Int) : ConfM := ⟨c.caps.set 0 k, c.starts, c.threads⟩
theorem ConfM.good.cap0 {c : ConfM} (h : c.good) (k : Int) (hk : 0 ≤ k ∧ k ≤ 16) : (c.cap0 k).good :=
  ⟨by show (c.caps.set 0 k).length ≤ 8; simpa using h.len, by show c.starts.length = (c.caps.set 0 k).length; simpa using h.same, fun x hx => by
    rcases List.mem_or_eq_of_mem_set hx with h1 | rfl
    · exact h.caps x h1
    · exact hk, h.starts, h.thr⟩
theorem OwnI.readOff {S : List (Option Nat)} {w w2 : World} {base : Nat} {e : TypeId} {k : IntKind} {v : Value} {l : List Int} (h : OwnI w base e k v l) (hl : l.length ≤ 1000000) (hw : ∀ x ∈ l, x = k.wrap x) (hS : ∀ j, v.ownBlock = some j → some j ∉ S) (h2 : OffS S w w2) : SlI w2 k v l := by
  have h3 : OwnI w2 base e k v l := by
    refine ⟨h.1, h.2.imp id fun ⟨g, cap, cur, hv, h3, h4, h5⟩ => ⟨g, cap, cur, hv, h3, (h2.2 g (Array.getElem?_eq_some_iff.1 h4).1 (hS g (by rw [hv]; rfl))).trans h4, h5⟩⟩
  exact h3.read (by omega) hw
end Go.Proofs.Ytmkngpjjimalhaa
/- A world of machines beside a block that the law writes. -/
namespace Go.Proofs.Ytmkngpjjimalhaa
open Go.ChangeShapes Go.WideShapes Go.ChangeAt Go.RowKit
set_option maxRecDepth 100000

theorem MemM.fits.wordU {m : MemM} (h : m.fits) (j : Nat) : U64 (m.words.getD j 0) := by
  by_cases hj : j < m.words.length
  · rw [List.getD_eq_getElem?_getD, List.getElem?_eq_getElem hj]; exact U64.of (h.wf _ (List.getElem_mem hj))
  · rw [List.getD_eq_getElem?_getD, List.getElem?_eq_none (by omega)]; exact U64.zero
theorem newE_len {c : ConfM} (hg : c.good) (h3 : c.caps.length ≤ 3) : 1 ≤ (newE c).words.length ∧ (newE c).words.length ≤ 256 := by
  have hb := hg.base c.caps.length (Nat.le_refl _)
  have ht := hg.thr
  unfold newE
  rw [if_pos (checkC_good hg)]
  show 1 ≤ (chansE c c.caps.length).length ∧ _
  rw [chansE_len]
  unfold ConfM.thrW
  omega
/-- the words of a world's memory -/
theorem WI.wordsAt {WT : TypeId} {w0 w : World} {E : List (Option Nat)} {B D : Nat} {x : WV} {y : WM} (h : WI WT w0 w E B D x y) (hn : 1 ≤ y.m.words.length) : ∃ mb mo, x.mA = some ⟨mb, mo, none⟩ ∧ ∀ w', OffS (x.S E B) w w' → ∀ j, j < y.m.words.length → w'.cell? ⟨mb, mo + j, none⟩ = some (.int .u64 (y.m.words.getD j 0)) := by
  have key : ∀ w', OffS (x.S E B) w w' → ∃ mb mo, x.mA = some ⟨mb, mo, none⟩ ∧ ∀ j, j < y.m.words.length → w'.cell? ⟨mb, mo + j, none⟩ = some (.int .u64 (y.m.words.getD j 0)) := fun w' hw => by
    obtain ⟨vw, vl, us, e, h1, -⟩ := h.mem.at hw
    unfold WV.mem at e
    simp only [Value.agg.injEq, Array.mk.injEq, List.cons.injEq] at e
    obtain ⟨rfl, -⟩ := e
    obtain ⟨b, off, cap, e2, -, -, hc⟩ := h1.open (by intro h0; rw [h0] at hn; simp at hn)
    simp only [Value.slice.injEq] at e2
    exact ⟨b, off, e2.1, hc⟩
  obtain ⟨mb, mo, e, -⟩ := key w (OffS.self _ _)
  refine ⟨mb, mo, e, fun w' hw => ?_⟩
  obtain ⟨mb', mo', e', hc⟩ := key w' hw
  rw [e] at e'
  simp only [Option.some.injEq, Addr.mk.injEq] at e'
  obtain ⟨rfl, rfl, -⟩ := e'
  exact hc
theorem OffS.exempt {S : List (Option Nat)} {w w2 : World} {A : Nat} (hb : Below w.heap.size w w2) (hA : w.heap.size ≤ A) : ∀ w3, OffS (some A :: S) w2 w3 → OffS S w w3 := fun w3 h3 => (OffS.below (S := S) hb).trans h3 fun j hj hm => by
  simp only [List.mem_cons, Option.some.injEq] at hm
  rcases hm with rfl | hm
  · omega
  · exact hm
/-- a block that may change was written -/
theorem WI.poke {WT AT : TypeId} {w0 wr w2 : World} {E : List (Option Nat)} {B D A : Nat} {x : WV} {y : WM} {cs : Array Value} (h : WI WT w0 wr E B D x y) (hAE : some A ∈ E) (hA : wr.heap[A]? = some (.cells cs AT (0, 0))) (hAB : A ≠ B) (hg : wr.grownBy w2 (some A)) (h1 : AT ≠ 56) (h2 : AT ≠ 106) (h3 : AT ≠ 41) (h4 : AT ≠ 60) : WI WT w0 w2 E B D x y := by
  have o1 : OffS (x.S E B) wr w2 := OffS.grown hg (.inr (by simp [WV.S, hAE]))
  have hin : ∀ w3, OffS (x.S E B) w2 w3 → OffS (x.S E B) wr w3 := fun w3 h5 => o1.trans1 h5
  have k : ∀ {e : TypeId} {s : Nat} {v : Value} {r : List (List Value)}, OwnS wr D e s v r → AT ≠ e → OwnS w2 D e s v r := fun ho he => ho.kept hg (by
    rcases ho.2.2 with ⟨rfl, _⟩ | ⟨b, cap, cur, rfl, _, hb, _⟩
    · exact .inl rfl
    · refine .inr ?_
      simp only [Value.ownBlock, ne_eq, Option.some.injEq]
      rintro rfl
      rw [hA] at hb
      simp at hb
      exact he hb.2)
  exact ⟨h.w0B, fun j hj => ⟨(h.eW j hj).1, Nat.lt_of_lt_of_le (h.eW j hj).2 hg.size⟩, h.BD, Nat.le_trans h.Dw hg.size, (hg.block B h.lt (by simp; omega)).trans h.row, fun w3 h5 => h.conf w3 (hin w3 h5), h.good, h.mem.sub hin, h.fits, k h.ol h1, k h.ot h2, k h.op h3, k h.of h4, fun z hz => (h.past z hz).sub hin, h.below.grown hg h.below.size (fun j hj => by cases hj; exact (h.eW A hAE).1)⟩
theorem U64.wrapped (x : Int) : U64 (IntKind.u64.wrap x) := by rw [IntKind.wrap_u64]; unfold U64; omega
theorem cell_heap {w w' : World} {b : Nat} (h : w'.heap[b]? = w.heap[b]?) (o : Nat) : w'.cell? ⟨b, o, none⟩ = w.cell? ⟨b, o, none⟩ := by
  simp [World.cell?, h]
theorem CodesE.grown2 {w : World} {g a b o1 o2 : Nat} {l1 l2 : List Value} (h : CodesE w g) (h1 : g < a) (h2 : g < b) : CodesE ((w.setCells a o1 l1).setCells b o2 l2) g :=
  (h.grown h1 (setCells_grown a l1 o1 w)).grown h2 (setCells_grown b l2 o2 _)
/-- the lists of machines and of frames lie in different blocks -/
theorem lists_apart {WT : TypeId} {w0 w : World} {E : List (Option Nat)} {B D : Nat} {x : WV} {y : WM} (h : WI WT w0 w E B D x y) {gl fl : Nat} (hl : x.lA = some ⟨gl, 0, none⟩) (hf : x.fA = some ⟨fl, 0, none⟩) : fl ≠ gl := by
  rintro rfl
  have h1 := h.ol
  have h2 := h.of
  unfold WV.vl at h1
  unfold WV.vf at h2
  rw [hl] at h1
  rw [hf] at h2
  rcases h1.2.2 with ⟨e, _⟩ | ⟨b, cap, cur, e, _, hb, _⟩
  · simp at e
  · rcases h2.2.2 with ⟨e', _⟩ | ⟨b', cap', cur', e', _, hb', _⟩
    · simp at e'
    · simp only [Value.slice.injEq, Option.some.injEq, Addr.mk.injEq] at e e'
      rw [← e.1.1] at hb
      rw [← e'.1.1, hb] at hb'
      simp at hb'
theorem there_keep {w u : World} {b o n a o1 : Nat} {l1 : List Value} (h : w.there b o n) (hb : Below w.heap.size w u) (hl : b < w.heap.size) (hne : b ≠ a) : (u.setCells a o1 l1).there b o n := fun j hj => by
  have h1 := there_below h hb hl j hj
  have h2 := setCells_other a l1 o1 u b hne
  have e1 : (u.setCells a o1 l1).cell? ⟨b, o + j, none⟩ = u.cell? ⟨b, o + j, none⟩ := cell_heap h2 _
  have e2 : (u.setCells a o1 l1).frozen? ⟨b, o + j, none⟩ = u.frozen? ⟨b, o + j, none⟩ := by simp [World.frozen?, h2]
  rw [e1, e2]
  exact h1
theorem SlA.elemAt {w : World} {v : Value} {l : List AnsC} (h : SlA w v l) (i : Nat) (hi : i < l.length) : ∃ b o c, v = .slice (some ⟨b, o, none⟩) l.length c ∧ b < w.heap.size ∧ w.cell? ⟨b, o + i * 4, none⟩ = some (.int .u64 (l.getD i noAns).val) ∧ w.cell? ⟨b, o + i * 4 + 1, none⟩ = some (.bool (l.getD i noAns).ok) ∧ w.cell? ⟨b, o + i * 4 + 2, none⟩ = some (.bool (l.getD i noAns).late) ∧ w.cell? ⟨b, o + i * 4 + 3, none⟩ = some (.slice (l.getD i noAns).a (l.getD i noAns).n (l.getD i noAns).c) := by
  obtain ⟨_, _, a, cap, rfl, _, h5⟩ := h
  obtain ⟨b, off, rfl, hlt, hc⟩ := h5 i hi
  exact ⟨b, off, cap, rfl, hlt, hc 0 (by omega), hc 1 (by omega), hc 2 (by omega), hc 3 (by omega)⟩
theorem SlA.valU {w : World} {v : Value} {l : List AnsC} (h : SlA w v l) (i : Nat) : U64 (l.getD i noAns).val := by
  by_cases hi : i < l.length
  · rw [List.getD_eq_getElem?_getD, List.getElem?_eq_getElem hi]; exact h.2.1 _ (List.getElem_mem hi)
  · rw [List.getD_eq_getElem?_getD, List.getElem?_eq_none (by omega)]; exact U64.zero
theorem nx_ans {S : List (Option Nat)} {w8 u1 u2 w3 : World} (h1 : Below w8.heap.size w8 u1) (hb : Below u1.heap.size u1 u2) (hS : ∀ j, some j ∈ S → j < w8.heap.size) (h3 : OffS S u2 w3) : Nx (OffS S w8) u1 u2 w3 := by
  have z1 := h1.size
  have z2 := hb.size
  exact ⟨(OffS.below (below_then h1 hb)).trans1 h3, ⟨h3.1, fun j hj hj2 => h3.2 j hj2 (fun e => by have := hS j e; omega)⟩⟩
end Go.Proofs.Ytmkngpjjimalhaa
