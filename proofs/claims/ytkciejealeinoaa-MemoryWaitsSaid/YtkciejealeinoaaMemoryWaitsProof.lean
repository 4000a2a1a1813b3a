/- Proved: MemoryWaits returns true for every word, old, tick, until and same; no condition. -/
import Derived.Test.YtkciejealeinoaaLaw
import Derived.Test.YtkciejealeinoaaL4Awake
import Derived.Test.YtkciejealeinoaaMmS
import Derived.Deep.DeepCutAuto
import Derived.LoopTactic
import Derived.WalkKit
import Derived.ProofKit
import Derived.OpenShut
import Derived.SizedLaws
namespace Go.Proofs.Ytkciejealeinoaa.memoryWaits
open Go.ChangeShapes Go.WideShapes Go.ChangeAt Go.RowKit
set_option linter.unusedVariables false
theorem one_mem {W : World} {b : Nat} {x t : Int} (h : W.heap[b]? = some (.cells #[.int .u64 x] 22 (0, 0))) (hx : x = IntKind.u64.wrap x) : MemV W (.agg #[.slice (some ⟨b, 0, none⟩) 1 1, .slice none 0 0, .int .i64 t]) ⟨[x], [], t⟩ :=
  ⟨_, _, [], rfl, ⟨by simp, by intro y hy; simp at hy; subst hy; exact hx, _, 1, rfl, Nat.le_refl _, fun t ht => ⟨b, 0, rfl, (Array.getElem?_eq_some_iff.1 h).1, by
    obtain rfl : t = 0 := by simp at ht; omega
    exact cell_of_row _ _ 0 _ _ _ h⟩⟩, SlL.nil W⟩
theorem i64_ok' (x : Int) (h0 : -2000 ≤ x) (h1 : x ≤ 2000) : x = IntKind.i64.wrap x := by rw [IntKind.wrap_i64]; omega
theorem acc_ok {k a o n u : Int} (h1 : k = IntKind.i64.wrap k) (h2 : a = IntKind.i64.wrap a) (h3 : o = IntKind.u64.wrap o) (h4 : n = IntKind.u64.wrap n) (h5 : u = IntKind.i64.wrap u) : AccM.ok ⟨k, a, o, n, u⟩ := ⟨h1, h2, h3, h4, h5⟩
theorem one_fits {x t : Int} (hx : x = IntKind.u64.wrap x) (ht : t = IntKind.i64.wrap t) : MemM.fits ⟨[x], [], t⟩ := ⟨by simp, by simp, by simp, by intro y hy; simp at hy; subst hy; exact hx, ht⟩
theorem wait_ne {x o t u : Int} (h : x ≠ o) : applyE ⟨[x], [], t⟩ ⟨4, 0, o, 0, u⟩ = (⟨[x], [], t⟩, ⟨x, false, false, []⟩, true) ∧ grantB ⟨[x], [], t⟩ ⟨4, 0, o, 0, u⟩ = true := by
  have hg : grantB ⟨[x], [], t⟩ ⟨4, 0, o, 0, u⟩ = true := by simp [grantB, hasB, h]
  exact ⟨by simp [applyE, hg, wordE, hasB, h], hg⟩
theorem wait_come {x t u : Int} (h : 0 < u) (h2 : u ≤ t + 1) : applyE ⟨[x], [], t⟩ ⟨4, 0, x, 0, u⟩ = (⟨[x], [], t⟩, ⟨x, false, true, []⟩, true) ∧ grantB ⟨[x], [], t⟩ ⟨4, 0, x, 0, u⟩ = true := by
  have hg : grantB ⟨[x], [], t⟩ ⟨4, 0, x, 0, u⟩ = true := by simp [grantB, hasB, comeB, h]; omega
  exact ⟨by simp [applyE, hg, wordE, hasB], hg⟩
theorem wait_not {x t u : Int} (h : (decide (0 < u) && decide (u ≤ t + 1)) = false) : applyE ⟨[x], [], t⟩ ⟨4, 0, x, 0, u⟩ = (⟨[x], [], t⟩, ansZ, false) ∧ grantB ⟨[x], [], t⟩ ⟨4, 0, x, 0, u⟩ = false := by
  have hg : grantB ⟨[x], [], t⟩ ⟨4, 0, x, 0, u⟩ = false := by
    simp only [Bool.and_eq_false_iff, decide_eq_false_iff_not] at h
    simp [grantB, hasB, comeB]; omega
  exact ⟨by simp [applyE, hg], hg⟩
theorem wait_off {x o t u z : Int} (hz : 0 ≤ z) : applyE ⟨[x], [], t⟩ ⟨4, 1 + z, o, 0, u⟩ = (⟨[x], [], t⟩, ⟨0, false, false, []⟩, true) := by
  have hh : hasB 1 (1 + z) = false := by simp [hasB]; omega
  have hg : grantB ⟨[x], [], t⟩ ⟨4, 1 + z, o, 0, u⟩ = true := by simp [grantB, hh]
  simp [applyE, hg, wordE, hh, ansZ]
set_option maxRecDepth 100000 in
set_option maxHeartbeats 8000000 in
theorem walk (w : World) (a0 : Int) (w0 : (Lit.int .u64 a0).wf = true) (a1 : Int) (w1 : (Lit.int .u64 a1).wf = true) (a2 : Int) (w2 : (Lit.int .i64 a2).wf = true) (a3 : Int) (w3 : (Lit.int .i64 a3).wf = true) (a4 : Bool) :
    Calls Try.prog 8 #[.int .u64 a0, .int .u64 a1, .int .i64 a2, .int .i64 a3, .bool a4] w fun e w' => e = .returned (.bool true) ∧ Below w.heap.size w w' := by
  have AW := Lib.hid fun w' => awake4_any w'
  have HX : Hid (a0 = IntKind.u64.wrap a0) := wrap_of_wf w0
  have HO : Hid (a1 = IntKind.u64.wrap a1) := wrap_of_wf w1
  have HU0 : Hid (a3 = IntKind.i64.wrap a3) := wrap_of_wf w3
  obtain ⟨t, ht⟩ : ∃ t, a2 % 1000 = t := ⟨_, rfl⟩
  have ht01 : 0 ≤ t ∧ t < 1000 := by omega
  have HT := Lib.hid ht
  clear ht w0 w1 w2 w3
  obtain ⟨ht0, ht1⟩ := ht01
  obtain ⟨z, hz⟩ : ∃ z, a3 % 5 = z := ⟨_, rfl⟩
  have hz01 : 0 ≤ z ∧ z < 5 := by omega
  have HZ := Lib.hid hz
  clear hz
  obtain ⟨hz0, hz1⟩ := hz01
  go_enter Try.func8, Try.ntmps8
  go_wp2_with fail
  refine (AW.out _).mono ?_; rintro e wa ⟨rfl, hba⟩
  have HBA := Lib.hid hba
  clear hba AW
  go_wp2_with fail
  refine (mod_any a2 1000 _ (by omega) (by omega)).mono ?_; rintro e wm ⟨rfl, rfl⟩
  rw [HT.out]
  clear HT
  go_upto_if 26 with (fail)
  go_cut [1] (fun s1 wx => ∃ old, s1 = .int .u64 old ∧ Hid (old = IntKind.u64.wrap old) ∧ Hid (Below w.heap.size w wx))
  case first =>
    cases a4 with
    | true =>
      go_wp2_with fail
      go_meet
      exact ⟨_, rfl, HX, HBA⟩
    | false =>
      go_wp2_with fail
      go_meet
      exact ⟨_, rfl, HO, HBA⟩
  case rest =>
    obtain ⟨old, rfl, HOLD, HBC⟩ := hcut
    clear HO HBA
    obtain ⟨wd, rfl⟩ : ∃ wd : World, wd = wc := ⟨_, rfl⟩
    have H1 : Hid (((wd.alloc (.cells #[.int .u64 a0] 22)).alloc (.cells zeroMem 48)).heap[wd.heap.size + 1]? = some (.cells zeroMem 48 (0, 0))) := heap_alloc2_new _ _ _
    obtain ⟨W, hW⟩ : ∃ W, (((wd.alloc (.cells #[.int .u64 a0] 22)).alloc (.cells zeroMem 48)).setRow (wd.heap.size + 1) #[.slice (some ⟨wd.heap.size, 0, none⟩) 1 1, .slice none 0 0, .int .i64 t]).alloc (.cells #[.int .i64 a3, .int .i64 t, .int .i64 (t + 1), .int .i64 (t + 2), .int .i64 0] 3) = W := ⟨_, rfl⟩
    have HW := Lib.hid hW
    have q1 := setRow_heap _ _ _ #[.slice (some ⟨wd.heap.size, 0, none⟩) 1 1, .slice none 0 0, .int .i64 t] _ (0, 0) H1.out
    have b1 := below_new (Below.refl _ (((wd.alloc (.cells #[.int .u64 a0] 22)).alloc (.cells zeroMem 48)).setRow (wd.heap.size + 1) #[.slice (some ⟨wd.heap.size, 0, none⟩) 1 1, .slice none 0 0, .int .i64 t])) (.cells #[.int .i64 a3, .int .i64 t, .int .i64 (t + 1), .int .i64 (t + 2), .int .i64 0] 3)
    have RM : Hid (W.heap[wd.heap.size + 1]? = some (.cells #[.slice (some ⟨wd.heap.size, 0, none⟩) 1 1, .slice none 0 0, .int .i64 t] 48 (0, 0))) := hW ▸ (b1.block _ (by simp)).trans q1
    have RB : W.heap[wd.heap.size]? = some (.cells #[.int .u64 a0] 22 (0, 0)) := hW ▸ (b1.block _ (by simp; omega)).trans ((setRow_other _ _ _ _ (by omega)).trans (heap_alloc2_old _ _ _))
    have RL : Hid (W.heap[wd.heap.size + 2]? = some (.cells #[.int .i64 a3, .int .i64 t, .int .i64 (t + 1), .int .i64 (t + 2), .int .i64 0] 3 (0, 0))) := hW ▸ box_new (by simp)
    have hz : W.heap.size = wd.heap.size + 3 := by rw [← hW]; simp
    have HB : Hid (Below w.heap.size w W) := hW ▸ below_new (row_below (below_new (below_new HBC.out _) _) (by have := HBC.out.size; omega) _) _
    have HSM : Hid (StM (Over W) (.agg #[.slice (some ⟨wd.heap.size, 0, none⟩) 1 1, .slice none 0 0, .int .i64 t]) ⟨[a0], [], t⟩) := (one_mem RB HX.out).over
    have htw : t = IntKind.i64.wrap t := by rw [IntKind.wrap_i64]; omega
    have HFI := Lib.hid (one_fits HX.out htw)
    have hza : (0 : Int) = IntKind.i64.wrap 0 := by decide
    have hzu : (0 : Int) = IntKind.u64.wrap 0 := by decide
    have HZA := Lib.hid hza
    have HZU := Lib.hid hzu
    have HTW := Lib.hid htw
    clear q1 b1 hW RB htw hza hzu
    go_upto_region 8 with (first
      | (refine wpList_store_row rfl 48 _ _ rfl (wd.heap.size + 1) _ rfl rfl 48 zeroMem H1.out (by kernel_rfl) rfl (by simp [Value.oneCell']) ?_))
    rw [show (#[.slice none 0 0, .slice none 0 0, .int .i64 0] : Array Value) = zeroMem from rfl, HW.out]
    clear HW H1 HBC
    generalize wd.heap.size = D at *
    go_loopw [40] (fun c wr => ∃ k : Nat, k ≤ 5 ∧ c = .int .i64 k ∧ Hid (Below W.heap.size W wr)) (fun c _ => 5 - (intOf c).toNat)
    case atStart => exact ⟨0, by omega, rfl, Below.refl _ _⟩
    case round =>
      obtain ⟨k, hk, rfl, hb⟩ := hrel
      obtain ⟨wo, rfl⟩ : ∃ wo : World, wo = wr := ⟨_, rfl⟩
      have hzo := hb.out.size
      by_cases hlt : k < 5
      · have hc : ∃ u : Int, Hid (u = IntKind.i64.wrap u) ∧ wo.cell? ⟨D + 2, k, none⟩ = some (.int .i64 u) := by
          have hr := cell_of_row _ _ k _ _ _ ((hb.out.block (D + 2) (by omega)).trans RL.out)
          obtain rfl | rfl | rfl | rfl | rfl : k = 0 ∨ k = 1 ∨ k = 2 ∨ k = 3 ∨ k = 4 := by omega
          · exact ⟨_, HU0, hr⟩
          · exact ⟨_, HTW, hr⟩
          · exact ⟨t + 1, i64_ok' _ (by omega) (by omega), hr⟩
          · exact ⟨t + 2, i64_ok' _ (by omega) (by omega), hr⟩
          · exact ⟨_, HZA, hr⟩
        obtain ⟨u, HUW, hcell⟩ := hc
        have HA1 := Lib.hid (show AccM.ok ⟨4, 0, old, 0, u⟩ from acc_ok (by decide) (by decide) HOLD.out HZU.out HUW.out)
        have HAZ := Lib.hid (show AccM.ok ⟨4, 1 + z, old, 0, u⟩ from acc_ok (by decide) (i64_ok' _ (by omega) (by omega)) HOLD.out HZU.out HUW.out)
        obtain ⟨w1, hw1⟩ : ∃ w1, (wo.alloc (.cells zeroAcc 50)).setRow wo.heap.size #[.int .i64 4, .int .i64 0, .int .u64 old, .int .u64 0, .int .i64 u] = w1 := ⟨_, rfl⟩
        have N1 : Hid ((wo.alloc (.cells zeroAcc 50)).heap[wo.heap.size]? = some (.cells zeroAcc 50 (0, 0))) := heap_alloc_new _ _
        have SA : Hid (w1.heap[wo.heap.size]? = some (.cells #[.int .i64 4, .int .i64 0, .int .u64 old, .int .u64 0, .int .i64 u] 50 (0, 0))) := hw1 ▸ setRow_heap _ _ _ _ _ (0, 0) N1.out
        have HB1 : Hid (Below W.heap.size W w1) := hw1 ▸ row_below (below_new hb.out _) hzo _
        have hz1 : wo.heap.size + 1 = w1.heap.size := by rw [← hw1]; simp
        have SM := Lib.hid ((HB1.out.block (D + 1) (by omega)).trans RM.out)
        have HW1 := Lib.hid hw1
        have HRW := Lib.hid hb
        have hltB : decide ((k : Int) < 5) = true := decide_eq_true (by omega)
        clear hw1 hb
        go_upto_region 11 with (first
          | (refine wpList_store_row rfl 50 _ _ rfl (wo.heap.size) _ rfl rfl 50 zeroAcc N1.out (by kernel_rfl) rfl (by simp [Value.oneCell']) ?_))
        rw [show (#[.int .i64 0, .int .i64 0, .int .u64 0, .int .u64 0, .int .i64 0] : Array Value) = zeroAcc from rfl, HW1.out]
        clear HW1 N1 hcell
        simp only [Act.put]
        go_cut [15] (fun s15 wx => s15 = .bool (decide (0 < u) && decide (u ≤ t + 1)) ∧ w1 = wx)
        case first =>
          by_cases h0 : 0 < u
          · have hd : decide (0 < u) = true := by simpa using h0
            go_wp2
            go_meet
            exact ⟨by rw [hd]; simp, rfl⟩
          · have hd : decide (0 < u) = false := by simpa using h0
            go_wp2
            go_meet
            exact ⟨by rw [hd]; simp, rfl⟩
        case rest =>
          obtain ⟨rfl, rfl⟩ := hcut
          have CASES : ∃ (x : Int) (late gr : Bool), Hid (applyE ⟨[a0], [], t⟩ ⟨4, 0, old, 0, u⟩ = (⟨[a0], [], t⟩, ⟨x, false, late, []⟩, gr) ∧ grantB ⟨[a0], [], t⟩ ⟨4, 0, old, 0, u⟩ = gr) ∧
              ((((a0 != old) = true ∧ (a0 == old) = false) ∧ x = a0 ∧ late = false ∧ gr = true) ∨ (a0 = old ∧ (decide (0 < u) && decide (u ≤ t + 1)) = true ∧ x = a0 ∧ late = true ∧ gr = true) ∨ (a0 = old ∧ (decide (0 < u) && decide (u ≤ t + 1)) = false ∧ x = 0 ∧ late = false ∧ gr = false)) := by
            by_cases hq : a0 = old
            · cases hc : (decide (0 < u) && decide (u ≤ t + 1)) with
              | true =>
                have hc' := hc
                simp only [Bool.and_eq_true, decide_eq_true_eq] at hc'
                exact ⟨a0, true, true, hq ▸ wait_come hc'.1 hc'.2, .inr (.inl ⟨hq, rfl, rfl, rfl, rfl⟩)⟩
              | false => exact ⟨0, false, false, hq ▸ wait_not hc, .inr (.inr ⟨hq, rfl, rfl, rfl, rfl⟩)⟩
            · exact ⟨a0, false, true, wait_ne hq, .inl ⟨⟨by simpa using hq, by simpa using hq⟩, rfl, rfl, rfl⟩⟩
          obtain ⟨x, late, gr, HE, hcase⟩ := CASES
          have AP := Lib.hid (apply_any (Over W) _ _ ⟨4, 0, old, 0, u⟩ w1 HB1.out (Over.wide W) HSM.out HFI.out HA1.out)
          rw [HE.out.1] at AP
          have GR := Lib.hid fun w' (h : Over W w') => granted_any _ _ ⟨4, 0, old, 0, u⟩ w' (HSM.out.at h) HFI.out HA1.out
          rw [HE.out.2] at GR
          have HCS := Lib.hid hcase
          clear hcase HE
          generalize (decide (0 < u) && decide (u ≤ t + 1)) = cm at *
          obtain ⟨x0, x1, x2⟩ := rowc3 SM.out
          obtain ⟨y0, y1, y2, y3, y4⟩ := rowc5 SA.out
          go_wp2_with fail
          refine AP.out.mono ?_; rintro e w2 ⟨v2, b2, rfl, hs2, ha2, hb2⟩
          obtain ⟨A5, n5, c5, A6, n6, c6, t5, rfl⟩ := hs2.shape w2 (Nx.at HB1.out (Over.wide W) hb2)
          obtain ⟨A7, rfl, hA7⟩ := ha2
          obtain ⟨a7, c7, rfl, -⟩ := (hA7 w2 (Nx.at HB1.out (Over.wide W) hb2)).len
          have hz2 := hb2.size
          have hw2 := below_new (below_new (Below.refl w2.heap.size w2) (.cells zeroMem 48)) (.cells zeroAns 55)
          have V0 : Hid (((w2.alloc (.cells zeroMem 48)).alloc (.cells zeroAns 55)).heap[w2.heap.size]? = some (.cells zeroMem 48 (0, 0))) := heap_alloc2_old _ _ _
          have V1 : Hid (∀ cs, (((w2.alloc (.cells zeroMem 48)).alloc (.cells zeroAns 55)).setRow w2.heap.size cs).heap[w2.heap.size + 1]? = some (.cells zeroAns 55 (0, 0))) := fun cs => (setRow_other _ _ _ _ (by omega)).trans (heap_alloc2_new _ _ _)
          obtain ⟨W3, hW3⟩ : ∃ W3, (((w2.alloc (.cells zeroMem 48)).alloc (.cells zeroAns 55)).setRow w2.heap.size #[.slice A5 n5 c5, .slice A6 n6 c6, .int .i64 t5]).setRow (w2.heap.size + 1) #[.int .u64 x, .bool false, .bool late, .slice a7 0 c7] = W3 := ⟨_, rfl⟩
          have HB23 : Below w2.heap.size w2 W3 := hW3 ▸ row_below (row_below hw2 (Nat.le_refl _) _) (by omega) _
          have T0 : Hid (W3.heap[w2.heap.size]? = some (.cells #[.slice A5 n5 c5, .slice A6 n6 c6, .int .i64 t5] 48 (0, 0))) := hW3 ▸ (setRow_other _ _ _ _ (by omega)).trans (setRow_heap _ _ _ _ _ (0, 0) V0.out)
          have T1 : Hid (W3.heap[w2.heap.size + 1]? = some (.cells #[.int .u64 x, .bool false, .bool late, .slice a7 0 c7] 55 (0, 0))) := hW3 ▸ setRow_heap _ _ _ _ _ (0, 0) (V1.out _)
          have hzW3 : W3.heap.size = w2.heap.size + 2 := by rw [← hW3]; simp
          have HB13 := below_then hb2 HB23
          have TM := Lib.hid ((HB13.block (D + 1) (by omega)).trans SM.out)
          have TA := Lib.hid ((HB13.block wo.heap.size (by omega)).trans SA.out)
          have HW3B : Hid (Below W.heap.size W W3) := below_then HB1.out HB13
          have HP3 : Hid (MemV W3 (.agg #[.slice A5 n5 c5, .slice A6 n6 c6, .int .i64 t5]) ⟨[a0], [], t⟩) := (hs2.at (Nx.at HB1.out (Over.wide W) hb2)).below HB23
          have HW3 := Lib.hid hW3
          clear hs2 hA7 hb2 hw2 HB23 HB13 hW3 x0 x1 x2 y0 y1 y2 y3 y4 AP
          go_upto_region 13 with (first
            | (refine wpList_store_row rfl 48 _ _ rfl (w2.heap.size) _ rfl rfl 48 zeroMem V0.out (by kernel_rfl) rfl (by simp [Value.oneCell']) ?_)
            | (refine wpList_store_row rfl 55 _ _ rfl (w2.heap.size + 1) _ rfl rfl 55 zeroAns (V1.out _) (by kernel_rfl) rfl (by simp [Value.oneCell']) ?_))
          rw [show (#[.slice none 0 0, .slice none 0 0, .int .i64 0] : Array Value) = zeroMem from rfl, show (#[.int .u64 0, .bool false, .bool false, .slice none 0 0] : Array Value) = zeroAns from rfl, HW3.out]
          clear HW3 V0 V1
          obtain ⟨x0, x1, x2⟩ := rowc3 TM.out
          obtain ⟨y0, y1, y2, y3, y4⟩ := rowc5 TA.out
          obtain ⟨z0, z1, z2⟩ := rowc3 T0.out
          go_cut [82] (fun s82 wx => s82 = .bool false ∧ Hid (Below W3.heap.size W3 wx))
          case first =>
            have SMT := Lib.hid fun w' h1 h2 => sameMem_true (.agg #[.slice A5 n5 c5, .slice A6 n6 c6, .int .i64 t5]) (.agg #[.slice (some ⟨D, 0, none⟩) 1 1, .slice none 0 0, .int .i64 t]) ⟨[a0], [], t⟩ w' h1 h2
            rcases HCS.out with ⟨⟨hq1, hq2⟩, rfl, rfl, rfl⟩ | ⟨rfl, rfl, rfl, rfl, rfl⟩ | ⟨rfl, rfl, rfl, rfl, rfl⟩
            all_goals
              go_wp2_with fail
              refine (GR.out _ HW3B.out).mono ?_; rintro e w4 ⟨rfl, hb4⟩
              have HB4 := Lib.hid hb4
              have U0 := Lib.hid ((hb4.block w2.heap.size (by omega)).trans T0.out)
              have UM := Lib.hid ((hb4.block (D + 1) (by omega)).trans TM.out)
              have HP4 := Lib.hid (HP3.out.below hb4)
              have HM4 := Lib.hid ((HSM.out.at HW3B.out).below hb4)
              clear hb4 x0 x1 x2 y0 y1 y2 y3 y4 z0 z1 z2
              obtain ⟨x0, x1, x2⟩ := rowc3 UM.out
              obtain ⟨z0, z1, z2⟩ := rowc3 U0.out
              go_wp2_with fail
              refine (SMT.out _ HP4.out HM4.out).mono ?_; rintro e w5 ⟨rfl, hb5⟩
              have HB5 := Lib.hid (below_then HB4.out hb5)
              clear hb5
              go_wp2_with fail
              go_meet
              exact ⟨by simp, HB5⟩
          case rest =>
            obtain ⟨rfl, hB5⟩ := hcut
            obtain ⟨w5, rfl⟩ : ∃ w5 : World, w5 = wc := ⟨_, rfl⟩
            have hz5 := hB5.out.size
            have R1 := Lib.hid ((hB5.out.block (w2.heap.size + 1) (by omega)).trans T1.out)
            have RA := Lib.hid ((hB5.out.block wo.heap.size (by omega)).trans TA.out)
            have RM5 := Lib.hid ((hB5.out.block (D + 1) (by omega)).trans TM.out)
            have HBW5 : Hid (Below W.heap.size W w5) := below_then HW3B.out hB5.out
            clear x0 x1 x2 y0 y1 y2 y3 y4 z0 z1 z2 T0 T1 TA TM HP3 HW3B hB5 GR SA SM
            obtain ⟨r0, r1, r2, r3⟩ := rowc4 R1.out
            go_upto_region 15 with fail
            go_cut [101] (fun s101 wx => s101 = .bool false ∧ w5 = wx)
            case first =>
              rcases HCS.out with ⟨⟨hq1, hq2⟩, rfl, rfl, rfl⟩ | ⟨rfl, rfl, rfl, rfl, rfl⟩ | ⟨rfl, rfl, rfl, rfl, rfl⟩
              all_goals
                go_wp2
                go_meet
                exact ⟨by simp, rfl⟩
            case rest =>
              obtain ⟨rfl, rfl⟩ := hcut
              clear HCS r0 r1 r2 r3 R1
              have fA := frozen_of_row _ _ 1 _ _ RA.out
              obtain ⟨y0, y1, y2, y3, y4⟩ := rowc5 RA.out
              go_upto_region 17 with fail
              go_wp2_with fail
              refine (mod_any a3 5 _ (by omega) (by omega)).mono ?_; rintro e wm ⟨rfl, rfl⟩
              rw [HZ.out]
              have T6 := Lib.hid (heap_setCell_same w5 wo.heap.size 1 _ _ (.int .i64 (1 + z)) RA.out)
              simp at T6
              obtain ⟨w6, hw6⟩ : ∃ w6, w5.setCell ⟨wo.heap.size, 1, none⟩ (.int .i64 (1 + z)) = w6 := ⟨_, rfl⟩
              have HB6 : Hid (Below W.heap.size W w6) := hw6 ▸ HBW5.out.setCell (p := ⟨wo.heap.size, 1, none⟩) hzo _
              have SA6 : Hid (w6.heap[wo.heap.size]? = some (.cells #[.int .i64 4, .int .i64 (1 + z), .int .u64 old, .int .u64 0, .int .i64 u] 50 (0, 0))) := hw6 ▸ T6.out
              have SM6 := Lib.hid ((HB6.out.block (D + 1) (by omega)).trans RM.out)
              have hz6 : w6.heap.size = w5.heap.size := by rw [← hw6]; simp
              have HW6 := Lib.hid hw6
              have AP := Lib.hid (apply_any (Over W) _ _ ⟨4, 1 + z, old, 0, u⟩ w6 HB6.out (Over.wide W) HSM.out HFI.out HAZ.out)
              rw [wait_off hz0] at AP
              clear hw6 T6
              go_upto_region 18 with fail
              rw [HW6.out]
              clear HW6 fA y0 y1 y2 y3 y4
              obtain ⟨x0, x1, x2⟩ := rowc3 SM6.out
              obtain ⟨y0, y1, y2, y3, y4⟩ := rowc5 SA6.out
              go_wp2_with fail
              refine AP.out.mono ?_; rintro e w7 ⟨v7, b7, rfl, hs7, ha7, hb7⟩
              obtain ⟨B5, m5, d5, B6, m6, d6, s5, rfl⟩ := hs7.shape w7 (Nx.at HB6.out (Over.wide W) hb7)
              obtain ⟨C7, rfl, hC7⟩ := ha7
              have hC7' := hC7 w7 (Nx.at HB6.out (Over.wide W) hb7)
              obtain ⟨e7, d7, rfl, -⟩ := hC7'.len
              have hz7 := hb7.size
              have hw7 := below_new (below_new (Below.refl w7.heap.size w7) (.cells zeroMem 48)) (.cells zeroAns 55)
              have V0 : Hid (((w7.alloc (.cells zeroMem 48)).alloc (.cells zeroAns 55)).heap[w7.heap.size]? = some (.cells zeroMem 48 (0, 0))) := heap_alloc2_old _ _ _
              have V1 : Hid (∀ cs, (((w7.alloc (.cells zeroMem 48)).alloc (.cells zeroAns 55)).setRow w7.heap.size cs).heap[w7.heap.size + 1]? = some (.cells zeroAns 55 (0, 0))) := fun cs => (setRow_other _ _ _ _ (by omega)).trans (heap_alloc2_new _ _ _)
              obtain ⟨W8, hW8⟩ : ∃ W8, (((w7.alloc (.cells zeroMem 48)).alloc (.cells zeroAns 55)).setRow w7.heap.size #[.slice B5 m5 d5, .slice B6 m6 d6, .int .i64 s5]).setRow (w7.heap.size + 1) #[.int .u64 0, .bool false, .bool false, .slice e7 0 d7] = W8 := ⟨_, rfl⟩
              have HB78 : Below w7.heap.size w7 W8 := hW8 ▸ row_below (row_below hw7 (Nat.le_refl _) _) (by omega) _
              have T1 : Hid (W8.heap[w7.heap.size + 1]? = some (.cells #[.int .u64 0, .bool false, .bool false, .slice e7 0 d7] 55 (0, 0))) := hW8 ▸ setRow_heap _ _ _ _ _ (0, 0) (V1.out _)
              have HB8 : Hid (Below W.heap.size W W8) := below_then HB6.out (below_then hb7 HB78)
              have SAA := Lib.hid (sameAns_true (.agg #[.int .u64 0, .bool false, .bool false, .slice e7 0 d7]) (.agg #[.int .u64 0, .bool false, .bool false, .slice none 0 0]) ansZ W8 ⟨_, rfl, hC7'.below HB78⟩ ⟨_, rfl, SlI.nil _ _⟩)
              have HW8 := Lib.hid hW8
              clear hs7 hC7 hC7' hb7 hw7 HB78 hW8 x0 x1 x2 y0 y1 y2 y3 y4 AP
              go_upto_region 19 with (first
                | (refine wpList_store_row rfl 48 _ _ rfl (w7.heap.size) _ rfl rfl 48 zeroMem V0.out (by kernel_rfl) rfl (by simp [Value.oneCell']) ?_)
                | (refine wpList_store_row rfl 55 _ _ rfl (w7.heap.size + 1) _ rfl rfl 55 zeroAns (V1.out _) (by kernel_rfl) rfl (by simp [Value.oneCell']) ?_))
              rw [show (#[.slice none 0 0, .slice none 0 0, .int .i64 0] : Array Value) = zeroMem from rfl, show (#[.int .u64 0, .bool false, .bool false, .slice none 0 0] : Array Value) = zeroAns from rfl, HW8.out]
              clear HW8 V0 V1
              obtain ⟨q0, q1, q2, q3⟩ := rowc4 T1.out
              go_wp2_with fail
              refine SAA.out.mono ?_; rintro e w9 ⟨rfl, hb9⟩
              have HB9 := Lib.hid (below_then HB8.out hb9)
              clear hb9
              go_wp2
              go_roundw
              case rel => exact ⟨k + 1, by omega, by go_num, HB9⟩
              case measure => simp [intOf]; omega
      · go_wp2
        go_ret
        exact ⟨rfl, HB.out.trans (hb.out.mono HB.out.size)⟩
set_option maxRecDepth 100000 in
theorem lifted (os : Os) (started : os.Started) (H : Type) (enc : TypeId × Value → H) :
    ReturnsInHanded {} Try.checked os 8 .any (Rows.memoryWaitsSpec.pre6 enc Try.prog Try.f8 Rows.memoryWaitsRow.domain false) (Rows.memoryWaitsSpec.post enc Try.prog Try.f8 false true false false) := by
  refine returnsInHanded_of_change_sized (C := Try.checked) own started (by kernel_rfl) Try.func8
    (ChangeSpec.witness6 (enc := enc) (C := Try.checked) false ⟨#[], #[.int .u64 0, .int .u64 0, .int .i64 0, .int .i64 0, .bool false], []⟩ 8 (by kernel_rfl) (by kernel_rfl) (by kernel_rfl) (by kernel_rfl)) ?_
  intro W base args ds gs before hval0 hW _ hsz0 _
  have hsz : (DataW.weightsEach Try.prog (Try.f8.params.toList ++ Rows.memoryWaitsSpec.plain.varTypes Try.prog) (ds ++ gs)).all (· ≤ reachBytes) = true := hsz0
  clear hsz0
  have hval : ∀ (j : Nat) t v, Try.f8.params[j]? = some t → args[j]? = some v → Value.okWide Try.prog W .any base t v := hval0
  have hW' := hW
  obtain ⟨p, q, hA0, hV, rfl, _, _⟩ := hW
  have hA : DataW.TrodAll enc Try.prog W 0 (fun _ => true) true Try.f8.params.toList args.toList ds p := hA0
  rw [Try.params8] at hA hval hsz
  obtain ⟨v0, vs0, d0, ds0, p0, q0, hargs, rfl, rfl, h0, r0⟩ := trodAll_cons hA
  obtain ⟨v1, vs1, d1, ds1, p1, q1, rfl, rfl, rfl, h1, r1⟩ := trodAll_cons r0
  obtain ⟨v2, vs2, d2, ds2, p2, q2, rfl, rfl, rfl, h2, r2⟩ := trodAll_cons r1
  obtain ⟨v3, vs3, d3, ds3, p3, q3, rfl, rfl, rfl, h3, r3⟩ := trodAll_cons r2
  obtain ⟨v4, vs4, d4, ds4, p4, q4, rfl, rfl, rfl, h4, r4⟩ := trodAll_cons r3
  obtain ⟨rfl, rfl, rfl⟩ := trodAll_nil r4
  obtain rfl : args = #[v0, v1, v2, v3, v4] := by cases args; simp_all
  obtain ⟨rfl, rfl⟩ := trodVars_none hV
  have k0 := h0
  have k1 := h1
  have k2 := h2
  have k3 := h3
  have k4 := h4
  obtain ⟨a0, rfl, -, -, w0⟩ := open_int Try.underlying22 (hval 0 22 v0 rfl rfl) h0
  obtain ⟨a1, rfl, -, -, w1⟩ := open_int Try.underlying22 (hval 1 22 v1 rfl rfl) h1
  obtain ⟨a2, rfl, -, -, w2⟩ := open_int Try.underlying3 (hval 2 3 v2 rfl rfl) h2
  obtain ⟨a3, rfl, -, -, w3⟩ := open_int Try.underlying3 (hval 3 3 v3 rfl rfl) h3
  obtain ⟨a4, rfl, -, -⟩ := open_bool Try.underlying4 (hval 4 4 v4 rfl rfl) h4
  clear hA0 hval0
  simp only [List.append_nil] at hW'
  have hlt := hW'.lt
  refine (walk W a0 w0 a1 w1 a2 w2 a3 w3 a4).mono fun e W' ⟨he, hb⟩ => ?_
  subst he
  exact ⟨_, rfl, _, _, _, [], _, [], hW', trodAll_cons_mk (shut_bool Try.underlying4 _) trodAll_mk0, (trodAll_cons_mk (Below.trod Try.laidOut (by kernel_rfl) (of_decide_eq_true (by kernel_rfl)) k0 hb (fun x hx => by simpa using hlt x (by simp [hx]))) (trodAll_cons_mk (Below.trod Try.laidOut (by kernel_rfl) (of_decide_eq_true (by kernel_rfl)) k1 hb (fun x hx => by simpa using hlt x (by simp [hx]))) (trodAll_cons_mk (Below.trod Try.laidOut (by kernel_rfl) (of_decide_eq_true (by kernel_rfl)) k2 hb (fun x hx => by simpa using hlt x (by simp [hx]))) (trodAll_cons_mk (Below.trod Try.laidOut (by kernel_rfl) (of_decide_eq_true (by kernel_rfl)) k3 hb (fun x hx => by simpa using hlt x (by simp [hx]))) (trodAll_cons_mk (Below.trod Try.laidOut (by kernel_rfl) (of_decide_eq_true (by kernel_rfl)) k4 hb (fun x hx => by simpa using hlt x (by simp [hx]))) trodAll_mk0))))), rfl, hb.frame _, fun h => by cases h⟩
theorem over : Rows.memoryWaitsRow.holds Try.pinned (OpenSpec.ofChange Rows.memoryWaitsSpec) :=
  OpenClaim.holds_of_wide 8 Try.f8 rfl rfl rfl rfl rfl rfl rfl ⟨rfl, rfl, rfl, rfl, rfl⟩ rfl rfl rfl rfl rfl (by kernel_rfl) Try.func8 (by kernel_rfl)
    (of_decide_eq_true (by kernel_rfl)) (by unfold Func.isWrapper; first | (rw [if_pos (by decide +kernel)]; kernel_rfl) | (rw [if_neg (by decide +kernel)]; exact ⟨rfl, rfl⟩))
    (fun os started H enc _ => lifted os started H enc)
/-- THE STATEMENT -/
theorem proved : Rows.MemoryWaitsSaid :=
  over
end Go.Proofs.Ytkciejealeinoaa.memoryWaits
