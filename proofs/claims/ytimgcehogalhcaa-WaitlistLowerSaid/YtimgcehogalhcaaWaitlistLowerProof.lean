/- Proved: WaitlistLower returns true for all records a and b; no condition. -/
import Derived.Test.YtimgcehogalhcaaLaw
import Derived.Test.YtimgcehogalhcaaAwk
import Derived.Deep.CutBlock
import Derived.LoopTactic
import Derived.WalkKit
import Derived.ProofKit
import Derived.OpenShut
import Derived.SizedLaws
namespace Go.Proofs.Ytimgcehogalhcaa.waitlistLower
open Go.ChangeShapes Go.WideShapes Go.ChangeAt Go.RowKit
set_option linter.unusedVariables false
set_option linter.unusedSimpArgs false
set_option maxRecDepth 100000 in
set_option maxHeartbeats 8000000 in
theorem walk (w : World) (a0 : Int) (w0 : (Lit.int .i64 a0).wf = true) (a1 : Int) (w1 : (Lit.int .i64 a1).wf = true) :
    Calls Try.prog 6 #[.int .i64 a0, .int .i64 a1] w fun e w' => e = .returned (.bool true) ∧ Below w.heap.size w w' := by
  have ha : I64 a0 := I64.of (wrap_of_wf w0)
  have hb : I64 a1 := I64.of (wrap_of_wf w1)
  have HA := Lib.hid ha
  have HBb := Lib.hid hb
  have M1 := Lib.hid fun w' => mod_any a0 50 w' (by omega) (by omega)
  have M2 := Lib.hid fun w' => mod_any a1 50 w' (by omega) (by omega)
  obtain ⟨m0, hm0⟩ : ∃ m, a0 % 50 = m := ⟨_, rfl⟩
  obtain ⟨m1, hm1⟩ : ∃ m, a1 % 50 = m := ⟨_, rfl⟩
  have HM0 : Hid (I64 m0) := by show I64 m0; unfold I64; omega
  have HM1 : Hid (I64 m1) := by show I64 m1; unfold I64; omega
  rw [hm0] at M1
  rw [hm1] at M2
  clear hm0 hm1 ha hb w0 w1
  go_enter Try.func6, Try.ntmps6
  go_wp2_with fail
  refine (awake_any _).mono ?_; rintro e wa ⟨rfl, hba⟩
  have HB := Lib.hid hba
  clear hba
  go_wp2_with fail
  refine (M1.out _).mono ?_; rintro e w' ⟨rfl, rfl⟩
  go_wp2_with fail
  refine (M2.out _).mono ?_; rintro e w' ⟨rfl, rfl⟩
  clear M1 M2
  go_upto_region 4 with fail
  obtain ⟨w1, K, hv1, hX, RK0, hbn, ltn⟩ := alloc_pack wa (.cells #[.int .i64 a0, .int .i64 a1, .int .i64 m0, .int .i64 m1, .int .i64 a0, .int .i64 a0] 23)
  have HB1 := Lib.hid (below_then HB.out hbn.out)
  rw [hv1, hX]
  clear hv1 hX hbn ltn HB
  go_loopw [26] (fun u26 wr => ∃ i : Nat, u26 = .int .i64 i ∧ i ≤ 3 ∧ Hid (wr.heap[K]? = some (.cells #[.int .i64 a0, .int .i64 a1, .int .i64 m0, .int .i64 m1, .int .i64 a0, .int .i64 a0] 23 (0, 0))) ∧ Hid (Below w.heap.size w wr)) (fun u26 _ => 4 - (intOf u26).toNat)
  case atStart => exact ⟨0, rfl, by omega, RK0, HB1⟩
  case round =>
    clear RK0 HB1
    obtain ⟨i, rfl, hi, RK, HB⟩ := hrel
    obtain ⟨wo, rfl⟩ : ∃ wo : World, wo = wr := ⟨_, rfl⟩
    by_cases hlt : i < 3
    · have hltI : (i : Int) < 3 := by omega
      have HPQ : ∃ p q, Hid (I64 p) ∧ Hid (I64 q) ∧ wo.cell? ⟨K, i * 2, none⟩ = some (.int .i64 p) ∧ wo.cell? ⟨K, i * 2 + 1, none⟩ = some (.int .i64 q) := by
        have hi3 : i = 0 ∨ i = 1 ∨ i = 2 := by omega
        rcases hi3 with rfl | rfl | rfl
        · exact ⟨a0, a1, HA, HBb, cell_of_row _ _ 0 _ _ _ RK.out, cell_of_row _ _ 1 _ _ _ RK.out⟩
        · exact ⟨m0, m1, HM0, HM1, cell_of_row _ _ 2 _ _ _ RK.out, cell_of_row _ _ 3 _ _ _ RK.out⟩
        · exact ⟨a0, a0, HA, HA, cell_of_row _ _ 4 _ _ _ RK.out, cell_of_row _ _ 5 _ _ _ RK.out⟩
      obtain ⟨p, q, HP, HQ, c0, c1⟩ := HPQ
      obtain ⟨x, y, hxy⟩ : ∃ x y, lowerE p q = (x, y) := ⟨_, _, rfl⟩
      have HXY : Hid (I64 x ∧ I64 y ∧ threadE x ≤ threadE y) := by
        have h1 := lowerE_le p q
        rw [hxy] at h1
        unfold lowerE at hxy
        split at hxy
        · cases hxy; exact ⟨HQ.out, HP.out, h1⟩
        · cases hxy; exact ⟨HP.out, HQ.out, h1⟩
      have T1 := Lib.hid fun w' => plower_any p q w' HP.out HQ.out
      have T2 := Lib.hid fun w' => rlower_any p q w' HP.out HQ.out
      have T3 := Lib.hid fun w' => pthread_any x w' HXY.out.1
      have T4 := Lib.hid fun w' => pthread_any y w' HXY.out.2.1
      rw [hxy] at T1 T2
      try dsimp only at T1 T2
      obtain ⟨tx, htx⟩ : ∃ z, threadE x = z := ⟨_, rfl⟩
      obtain ⟨ty, hty⟩ : ∃ z, threadE y = z := ⟨_, rfl⟩
      have hle : tx ≤ ty := by rw [← htx, ← hty]; exact HXY.out.2.2
      have hgt : ¬ ty < tx := by omega
      rw [htx] at T3
      rw [hty] at T4
      have HGT := Lib.hid hgt
      clear hxy htx hty hle hgt
      obtain ⟨Wx, hWx⟩ : ∃ Wx, (wo.alloc (.cells #[.int .i64 0, .int .i64 0] 23)).setRow wo.heap.size #[.int .i64 p, .int .i64 q] = Wx := ⟨_, rfl⟩
      have Nx : Hid ((wo.alloc (.cells #[.int .i64 0, .int .i64 0] 23)).heap[wo.heap.size]? = some (.cells #[.int .i64 0, .int .i64 0] 23 (0, 0))) := heap_alloc_new _ _
      have HBx : Hid (Below wo.heap.size wo Wx) := hWx ▸ row_below (below_new (Below.refl _ _) _) (Nat.le_refl _) _
      have Rx : Hid (Wx.heap[wo.heap.size]? = some (.cells #[.int .i64 p, .int .i64 q] 23 (0, 0))) := hWx ▸ setRow_heap _ _ _ _ _ (0, 0) Nx.out
      have HWx := Lib.hid hWx
      clear hWx
      go_upto_region 6 with (refine wpList_store_row rfl 23 _ _ rfl (wo.heap.size) _ rfl rfl 23 #[.int .i64 0, .int .i64 0] Nx.out (by kernel_rfl) rfl (by simp [Value.oneCell']) ?_)
      rw [HWx.out]
      try simp only [Act.put]
      clear HWx Nx
      obtain ⟨P, hP⟩ : ∃ P, wo.heap.size = P := ⟨_, rfl⟩
      rw [hP] at Rx
      rw [hP]
      clear hP
      have HBX := Lib.hid (below_then HB.out HBx.out)
      have RKx := Lib.hid ((HBx.out.block K (Array.getElem?_eq_some_iff.1 RK.out).1).trans RK.out)
      clear c0 c1 RK
      have x0 := cell_of_row _ _ 0 _ _ _ Rx.out
      have x1 := cell_of_row _ _ 1 _ _ _ Rx.out
      go_wp2_with fail
      refine (T1.out _).mono ?_; rintro e w3 ⟨rfl, hb3⟩
      have HB3 := Lib.hid (below_then HBX.out hb3)
      have R3 := Lib.hid ((hb3.block P (Array.getElem?_eq_some_iff.1 Rx.out).1).trans Rx.out)
      have RK3 := Lib.hid ((hb3.block K (Array.getElem?_eq_some_iff.1 RKx.out).1).trans RKx.out)
      clear x0 x1 hb3 T1
      have x0 := cell_of_row _ _ 0 _ _ _ R3.out
      have x1 := cell_of_row _ _ 1 _ _ _ R3.out
      go_wp2_with fail
      refine (T2.out _).mono ?_; rintro e w' ⟨rfl, rfl⟩
      clear x0 x1 T2
      go_wp2_with fail
      refine (T3.out _).mono ?_; rintro e w5 ⟨rfl, hb5⟩
      have HB5 := Lib.hid (below_then HB3.out hb5)
      have RK5 := Lib.hid ((hb5.block K (Array.getElem?_eq_some_iff.1 RK3.out).1).trans RK3.out)
      clear hb5 T3
      go_wp2_with fail
      refine (T4.out _).mono ?_; rintro e w6 ⟨rfl, hb6⟩
      have HB6 := Lib.hid (below_then HB5.out hb6)
      have RK6 := Lib.hid ((hb6.block K (Array.getElem?_eq_some_iff.1 RK5.out).1).trans RK5.out)
      clear hb6 T4
      have hgt := HGT.out
      go_wp2_with fail
      go_roundw
      case rel => exact ⟨i + 1, by go_num, by omega, RK6, HB6⟩
      case measure => simp [intOf]; omega
    · have hge : ¬ (i : Int) < 3 := by omega
      go_wp2
      go_ret
      exact ⟨rfl, HB.out⟩
set_option maxRecDepth 100000 in
theorem lifted (os : Os) (started : os.Started) (H : Type) (enc : TypeId × Value → H) :
    ReturnsInHanded {} Try.checked os 6 .any (Rows.waitlistLowerSpec.pre6 enc Try.prog Try.f6 Rows.waitlistLowerRow.domain false) (Rows.waitlistLowerSpec.post enc Try.prog Try.f6 false true false false) := by
  refine returnsInHanded_of_change_sized (C := Try.checked) own started (by kernel_rfl) Try.func6
    (ChangeSpec.witness6 (enc := enc) (C := Try.checked) false ⟨#[], #[.int .i64 0, .int .i64 0], []⟩ 8 (by kernel_rfl) (by kernel_rfl) (by kernel_rfl) (by kernel_rfl)) ?_
  intro W base args ds gs before hval0 hW _ hsz0 _
  have hsz : (DataW.weightsEach Try.prog (Try.f6.params.toList ++ Rows.waitlistLowerSpec.plain.varTypes Try.prog) (ds ++ gs)).all (· ≤ reachBytes) = true := hsz0
  clear hsz0
  have hval : ∀ (j : Nat) t v, Try.f6.params[j]? = some t → args[j]? = some v → Value.okWide Try.prog W .any base t v := hval0
  have hW' := hW
  obtain ⟨p, q, hA0, hV, rfl, _, _⟩ := hW
  have hA : DataW.TrodAll enc Try.prog W 0 (fun _ => true) true Try.f6.params.toList args.toList ds p := hA0
  rw [Try.params6] at hA hval hsz
  obtain ⟨v0, vs0, d0, ds0, p0, q0, hargs, rfl, rfl, h0, r0⟩ := trodAll_cons hA
  obtain ⟨v1, vs1, d1, ds1, p1, q1, rfl, rfl, rfl, h1, r1⟩ := trodAll_cons r0
  obtain ⟨rfl, rfl, rfl⟩ := trodAll_nil r1
  obtain rfl : args = #[v0, v1] := by cases args; simp_all
  obtain ⟨rfl, rfl⟩ := trodVars_none hV
  have k0 := h0
  have k1 := h1
  obtain ⟨a0, rfl, -, -, w0⟩ := open_int Try.underlying3 (hval 0 3 v0 rfl rfl) h0
  obtain ⟨a1, rfl, -, -, w1⟩ := open_int Try.underlying3 (hval 1 3 v1 rfl rfl) h1
  clear hA0 hval0
  simp only [List.append_nil] at hW'
  have hlt := hW'.lt
  refine (walk W a0 w0 a1 w1).mono fun e W' ⟨he, hb⟩ => ?_
  subst he
  exact ⟨_, rfl, _, _, _, [], _, [], hW', trodAll_cons_mk (shut_bool Try.underlying4 _) trodAll_mk0, (trodAll_cons_mk (Below.trod Try.laidOut (by kernel_rfl) (of_decide_eq_true (by kernel_rfl)) k0 hb (fun x hx => by simpa using hlt x (by simp [hx]))) (trodAll_cons_mk (Below.trod Try.laidOut (by kernel_rfl) (of_decide_eq_true (by kernel_rfl)) k1 hb (fun x hx => by simpa using hlt x (by simp [hx]))) trodAll_mk0)), rfl, hb.frame _, fun h => by cases h⟩
theorem over : Rows.waitlistLowerRow.holds Try.pinned (OpenSpec.ofChange Rows.waitlistLowerSpec) :=
  OpenClaim.holds_of_wide 6 Try.f6 rfl rfl rfl rfl rfl rfl rfl ⟨rfl, rfl, rfl, rfl, rfl⟩ rfl rfl rfl rfl rfl (by kernel_rfl) Try.func6 (by kernel_rfl)
    (of_decide_eq_true (by kernel_rfl)) (by unfold Func.isWrapper; first | (rw [if_pos (by decide +kernel)]; kernel_rfl) | (rw [if_neg (by decide +kernel)]; exact ⟨rfl, rfl⟩))
    (fun os started H enc _ => lifted os started H enc)
/-- THE STATEMENT -/
theorem proved : Rows.WaitlistLowerSaid :=
  over
end Go.Proofs.Ytimgcehogalhcaa.waitlistLower
