/- Proved: WaitlistFirst returns true, and its arguments read afterwards as before, for every list of numbers, every list of codes and every thread; no condition. -/
import Derived.Test.YtimgcehogalhcaaLaw
import Derived.Test.YtimgcehogalhcaaAwk
import Derived.Deep.CutBlock
import Derived.LoopTactic
import Derived.WalkKit
import Derived.ProofKit
import Derived.OpenShut
import Derived.SizedLaws
namespace Go.Proofs.Ytimgcehogalhcaa.waitlistFirst
open Go.ChangeShapes Go.WideShapes Go.ChangeAt Go.RowKit
set_option linter.unusedVariables false
set_option linter.unusedSimpArgs false
set_option maxRecDepth 100000 in
set_option maxHeartbeats 16000000 in
theorem walk (w : World) (v0 : Value) (l0 : List Int) (s0 : SlI w .i64 v0 l0) (v1 : Value) (l1 : List Int) (s1 : SlI w .u8 v1 l1) (a2 : Int) (w2 : (Lit.int .i64 a2).wf = true) :
    Calls Try.prog 4 #[v0, v1, .int .i64 a2] w fun e w' => e = .returned (.bool true) ∧ Below w.heap.size w w' := by
  have HS0 := Lib.hid s0
  have HS1 := Lib.hid s1
  have M1 := Lib.hid fun w' => mod_any a2 6 w' (by omega) (by omega)
  obtain ⟨m0, hm0⟩ : ∃ m, a2 % 6 = m := ⟨_, rfl⟩
  rw [hm0] at M1
  have hmw : IntKind.i64.wrap (m0 - 1) = m0 - 1 := by rw [IntKind.wrap_i64]; omega
  have HMW := Lib.hid hmw
  obtain ⟨ar, cr, hve, -⟩ := s0.len
  subst hve
  clear hm0 w2 hmw s0 s1
  go_enter Try.func4, Try.ntmps4
  go_wp2_with fail
  refine (awake_any _).mono ?_; rintro e wa ⟨rfl, hba⟩
  have HB := Lib.hid hba
  clear hba
  by_cases hbig : 40 < l0.length
  · have hbI : (40 : Int) < (l0.length : Int) := by omega
    go_wp2
    go_ret
    exact ⟨rfl, HB.out⟩
  have hbI : ¬ (40 : Int) < (l0.length : Int) := by omega
  go_wp2_with fail
  clear hbI
  refine (records_any _ l1 _ (HS1.out.below HB.out)).mono ?_; rintro e wb ⟨u, lu, rfl, hou, HRu, hbb⟩
  have HB1 := Lib.hid (below_then HB.out hbb)
  have HSU : Hid (SlI wb .i64 u lu) := hou.read (by have := HRu.out.1; omega) (fun x hx => by have := HRu.out.2 x hx; rw [IntKind.wrap_i64]; omega)
  have HSV : Hid (SlI wb .i64 (.slice ar l0.length cr) l0) := HS0.out.below HB1.out
  obtain ⟨au, cu, hue⟩ := hou.lenS
  subst hue
  have HLu : Hid (lu.length ≤ 40) := by have := HRu.out.1; show _ ≤ _; omega
  clear hou hbb HRu HB
  go_upto_region 6 with fail
  obtain ⟨w1, K, hv1, hX, RK0, hbn, ltn⟩ := alloc_pack wb (.cells #[.slice ar l0.length cr, .slice au lu.length cu] 27)
  have HB2 := Lib.hid (below_then HB1.out hbn.out)
  have HSU1 := Lib.hid (HSU.out.below hbn.out)
  have HSV1 := Lib.hid (HSV.out.below hbn.out)
  rw [hv1, hX]
  clear hv1 hX hbn ltn HB1 HSU HSV
  have HBS : Hid (∀ w', Below w1.heap.size w1 w' → SlI w' .i64 (.slice au lu.length cu) lu ∧ SlI w' .i64 (.slice ar l0.length cr) l0) := fun w' h => ⟨HSU1.out.below h, HSV1.out.below h⟩
  clear HSU1 HSV1
  go_loopw [26] (fun u26 wr => ∃ j : Nat, u26 = .int .i64 j ∧ j ≤ 2 ∧ Hid (wr.heap[K]? = some (.cells #[.slice ar l0.length cr, .slice au lu.length cu] 27 (0, 0))) ∧ Hid (Below w1.heap.size w1 wr)) (fun u26 _ => 3 - (intOf u26).toNat)
  case atStart => exact ⟨0, rfl, by omega, RK0, Below.refl _ _⟩
  case round =>
    clear RK0
    obtain ⟨j, rfl, hj, RK, HB⟩ := hrel
    obtain ⟨wo, rfl⟩ : ∃ wo : World, wo = wr := ⟨_, rfl⟩
    by_cases hlj : j < 2
    · have hljI : (j : Int) < 2 := by omega
      have HEL : ∃ le ll, wo.cell? ⟨K, j, none⟩ = some le ∧ Hid (∀ w', Below w1.heap.size w1 w' → SlI w' .i64 le ll) ∧ Hid (ll.length ≤ 40) := by
        have hj2 : j = 0 ∨ j = 1 := by omega
        rcases hj2 with rfl | rfl
        · exact ⟨_, l0, cell_of_row _ _ 0 _ _ _ RK.out, fun w' h => (HBS.out w' h).2, by show _ ≤ _; omega⟩
        · exact ⟨_, lu, cell_of_row _ _ 1 _ _ _ RK.out, fun w' h => (HBS.out w' h).1, HLu⟩
      obtain ⟨le, ll, c0, HLE, HLL⟩ := HEL
      obtain ⟨al, cl, hle, -⟩ := (HLE.out wo HB.out).len
      subst hle
      have hmw := HMW.out
      go_wp2_with fail
      refine (M1.out _).mono ?_; rintro e w' ⟨rfl, rfl⟩
      go_upto_region 9 with fail
      clear hmw c0
      obtain ⟨w2, K2, hv1, hX, RJ0, hbn, ltn⟩ := alloc_pack wo (.cells #[.int .i64 a2, .int .i64 (m0 - 1)] 3)
      have HB2' := Lib.hid (below_then HB.out hbn.out)
      have RK2 := Lib.hid ((hbn.out.block K (Array.getElem?_eq_some_iff.1 RK.out).1).trans RK.out)
      rw [hv1, hX]
      clear hv1 hX hbn ltn HB RK
      go_loopw [36] (fun u36 wr => ∃ i : Nat, u36 = .int .i64 i ∧ i ≤ 2 ∧ Hid (wr.heap[K]? = some (.cells #[.slice ar l0.length cr, .slice au lu.length cu] 27 (0, 0))) ∧ Hid (wr.heap[K2]? = some (.cells #[.int .i64 a2, .int .i64 (m0 - 1)] 3 (0, 0))) ∧ Hid (Below w1.heap.size w1 wr)) (fun u36 _ => 3 - (intOf u36).toNat)
      case atStart => exact ⟨0, rfl, by omega, RK2, RJ0, HB2'⟩
      case round =>
        clear RK2 RJ0 HB2'
        obtain ⟨i, rfl, hi, RK, RJ, HB⟩ := hrel
        obtain ⟨wo, rfl⟩ : ∃ wo : World, wo = wr := ⟨_, rfl⟩
        by_cases hlt : i < 2
        · have hltI : (i : Int) < 2 := by omega
          have HPQ : ∃ t, wo.cell? ⟨K2, i, none⟩ = some (.int .i64 t) := by
            have hi3 : i = 0 ∨ i = 1 := by omega
            rcases hi3 with rfl | rfl
            · exact ⟨a2, cell_of_row _ _ 0 _ _ _ RJ.out⟩
            · exact ⟨m0 - 1, cell_of_row _ _ 1 _ _ _ RJ.out⟩
          obtain ⟨t, c0⟩ := HPQ
          have HLV : Hid (SlI w1 .i64 (.slice al ll.length cl) ll) := HLE.out _ (Below.refl _ _)
          have HLW : Hid ((withoutE ll t).length ≤ 40) := Nat.le_trans (List.length_filter_le _ _) HLL.out
          have T1 := Lib.hid fun w' (h : Below w1.heap.size w1 w') => pfirst_any _ ll t w' (HLE.out w' h)
          have T2 := Lib.hid fun w' (h : Below w1.heap.size w1 w') => rfirst_any _ ll t w' (HLE.out w' h)
          have T3 := Lib.hid fun w' (h : Below w1.heap.size w1 w') => pwithout_any _ ll t w' (HLE.out w' h) (by have := HLL.out; omega)
          have T4 := Lib.hid fun w' (h : Below w1.heap.size w1 w') => rwithout_any _ ll t w' (HLE.out w' h) (by have := HLL.out; omega)
          have HFH : Hid ((withoutE ll t).head? = firstE ll t) := firstE_head ll t
          have HFN : Hid (firstE ll t = none ↔ withoutE ll t = []) := firstE_none
          obtain ⟨ff, hff⟩ : ∃ f, firstE ll t = f := ⟨_, rfl⟩
          rw [hff] at T1 T2 HFH HFN
          obtain ⟨fx, hfx⟩ : ∃ x, ff.getD 0 = x := ⟨_, rfl⟩
          obtain ⟨fb, hfb⟩ : ∃ x, ff.isSome = x := ⟨_, rfl⟩
          rw [hfx, hfb] at T1 T2
          have HFX := Lib.hid (And.intro hfx hfb)
          clear hff hfx hfb
          go_wp2_with fail
          refine (T1.out _ HB.out).mono ?_; rintro e w3 ⟨rfl, hb3⟩
          have HB3 := Lib.hid (below_then HB.out hb3)
          have RK3 := Lib.hid ((hb3.block K (Array.getElem?_eq_some_iff.1 RK.out).1).trans RK.out)
          have RJ3 := Lib.hid ((hb3.block K2 (Array.getElem?_eq_some_iff.1 RJ.out).1).trans RJ.out)
          clear c0 hb3 T1
          go_wp2_with fail
          refine (T2.out _ HB3.out).mono ?_; rintro e w' ⟨rfl, rfl⟩
          clear T2
          go_wp2_with fail
          refine (T3.out _ HB3.out).mono ?_; rintro e w5 ⟨uw, rfl, hw5, hb5⟩
          have HB5 := Lib.hid (below_then HB3.out hb5)
          have HW5 := Lib.hid hw5
          have RK5 := Lib.hid ((hb5.block K (Array.getElem?_eq_some_iff.1 RK3.out).1).trans RK3.out)
          have RJ5 := Lib.hid ((hb5.block K2 (Array.getElem?_eq_some_iff.1 RJ3.out).1).trans RJ3.out)
          clear hw5 hb5 T3
          have TW := Lib.hid fun w' (h : Below w5.heap.size w5 w') => T4.out w' (below_then HB5.out h)
          clear T4
          cases hffc : ff with
          | none =>
            rw [hffc] at HFX HFN
            obtain ⟨rfl, rfl⟩ := HFX.out
            have HWE : Hid (withoutE ll t = []) := HFN.out.1 rfl
            clear HFX HFN HFH hffc
            simp only [Option.getD_none, Option.isSome_none] at *
            go_wp2_with fail
            refine (TW.out _ (Below.refl _ _)).mono ?_; rintro e w6 ⟨u2, rfl, ho2, hb6⟩
            have HS2 : Hid (SlI w6 .i64 u2 (withoutE ll t)) := ho2.read (by have := HLW.out; omega) (fun x hx => (HLV.out.2.1 x (List.mem_filter.1 hx).1))
            have HB6 := Lib.hid (below_then HB5.out hb6)
            have HW6 := Lib.hid (HW5.out.below hb6)
            have RK6 := Lib.hid ((hb6.block K (Array.getElem?_eq_some_iff.1 RK5.out).1).trans RK5.out)
            have RJ6 := Lib.hid ((hb6.block K2 (Array.getElem?_eq_some_iff.1 RJ5.out).1).trans RJ5.out)
            clear ho2 hb6 TW
            go_wp2_with fail
            refine (same_any _ _ _ _ w6 HW6.out HS2.out).mono ?_; rintro e w7 ⟨n7, rfl, hw7⟩
            have hbd : Below w6.heap.size w6 w7 := hw7 ▸ below_drewN (Below.refl _ _) n7
            have HB7 := Lib.hid (below_then HB6.out hbd)
            have HW7 := Lib.hid (HW6.out.below hbd)
            have RK7 := Lib.hid ((hbd.block K (Array.getElem?_eq_some_iff.1 RK6.out).1).trans RK6.out)
            have RJ7 := Lib.hid ((hbd.block K2 (Array.getElem?_eq_some_iff.1 RJ6.out).1).trans RJ6.out)
            have hdd : decide (withoutE ll t = withoutE ll t) = true := decide_eq_true rfl
            rw [hdd]
            clear hbd hw7 hdd
            obtain ⟨aw, cw, hwe, -⟩ := HW7.out.len
            rw [HWE.out] at hwe
            subst hwe
            go_wp2_with fail
            go_roundw
            case rel => exact ⟨i + 1, by go_num, by omega, RK7, RJ7, HB7⟩
            case measure => simp [intOf]; omega
          | some x =>
            rw [hffc] at HFX HFH
            obtain ⟨rfl, rfl⟩ := HFX.out
            obtain ⟨tl, htl⟩ := List.head?_eq_some_iff.1 HFH.out
            have HWE : Hid (withoutE ll t = x :: tl) := htl
            clear HFX HFN HFH hffc htl
            simp only [Option.getD_some, Option.isSome_some] at *
            go_wp2_with fail
            refine (TW.out _ (Below.refl _ _)).mono ?_; rintro e w6 ⟨u2, rfl, ho2, hb6⟩
            have HS2 : Hid (SlI w6 .i64 u2 (withoutE ll t)) := ho2.read (by have := HLW.out; omega) (fun x hx => (HLV.out.2.1 x (List.mem_filter.1 hx).1))
            have HB6 := Lib.hid (below_then HB5.out hb6)
            have HW6 := Lib.hid (HW5.out.below hb6)
            have RK6 := Lib.hid ((hb6.block K (Array.getElem?_eq_some_iff.1 RK5.out).1).trans RK5.out)
            have RJ6 := Lib.hid ((hb6.block K2 (Array.getElem?_eq_some_iff.1 RJ5.out).1).trans RJ5.out)
            clear ho2 hb6 TW
            go_wp2_with fail
            refine (same_any _ _ _ _ w6 HW6.out HS2.out).mono ?_; rintro e w7 ⟨n7, rfl, hw7⟩
            have hbd : Below w6.heap.size w6 w7 := hw7 ▸ below_drewN (Below.refl _ _) n7
            have HB7 := Lib.hid (below_then HB6.out hbd)
            have HW7 := Lib.hid (HW6.out.below hbd)
            have RK7 := Lib.hid ((hbd.block K (Array.getElem?_eq_some_iff.1 RK6.out).1).trans RK6.out)
            have RJ7 := Lib.hid ((hbd.block K2 (Array.getElem?_eq_some_iff.1 RJ6.out).1).trans RJ6.out)
            have hdd : decide (withoutE ll t = withoutE ll t) = true := decide_eq_true rfl
            rw [hdd]
            clear hbd hw7 hdd
            obtain ⟨bw, ow, cw, hwe, -, -, hcw⟩ := HW7.out.open (by rw [HWE.out]; simp)
            have cw0 := hcw 0 (by rw [HWE.out]; simp)
            rw [HWE.out] at cw0 hwe
            rw [List.getD_cons_zero, Nat.add_zero] at cw0
            rw [List.length_cons] at hwe
            subst hwe
            have hpos : (0 : Int) < ((tl.length + 1 : Nat) : Int) := by omega
            clear hcw
            go_wp2_with fail
            clear cw0 hpos
            go_roundw
            case rel => exact ⟨i + 1, by go_num, by omega, RK7, RJ7, HB7⟩
            case measure => simp [intOf]; omega
        · have hge : ¬ (i : Int) < 2 := by omega
          clear RJ
          go_wp2_with fail
          go_roundw
          case rel => exact ⟨j + 1, by go_num, by omega, RK, HB⟩
          case measure => simp [intOf]; omega
    · have hge : ¬ (j : Int) < 2 := by omega
      have HBF := Lib.hid (below_then HB2.out HB.out)
      go_wp2
      go_ret
      exact ⟨rfl, HBF.out⟩
set_option maxRecDepth 100000 in
theorem lifted (os : Os) (started : os.Started) (H : Type) (enc : TypeId × Value → H) :
    ReturnsInHanded {} Try.checked os 4 .any (Rows.waitlistFirstSpec.pre6 enc Try.prog Try.f4 Rows.waitlistFirstRow.domain false) (Rows.waitlistFirstSpec.post enc Try.prog Try.f4 false true false false) := by
  refine returnsInHanded_of_change_sized (C := Try.checked) own started (by kernel_rfl) Try.func4
    (ChangeSpec.witness6 (enc := enc) (C := Try.checked) false ⟨#[], #[.slice none 0 0, .slice none 0 0, .int .i64 0], []⟩ 8 (by kernel_rfl) (by kernel_rfl) (by kernel_rfl) (by kernel_rfl)) ?_
  intro W base args ds gs before hval0 hW _ hsz0 _
  have hsz : (DataW.weightsEach Try.prog (Try.f4.params.toList ++ Rows.waitlistFirstSpec.plain.varTypes Try.prog) (ds ++ gs)).all (· ≤ reachBytes) = true := hsz0
  clear hsz0
  have hval : ∀ (j : Nat) t v, Try.f4.params[j]? = some t → args[j]? = some v → Value.okWide Try.prog W .any base t v := hval0
  have hW' := hW
  obtain ⟨p, q, hA0, hV, rfl, _, _⟩ := hW
  have hA : DataW.TrodAll enc Try.prog W 0 (fun _ => true) true Try.f4.params.toList args.toList ds p := hA0
  rw [Try.params4] at hA hval hsz
  obtain ⟨v0, vs0, d0, ds0, p0, q0, hargs, rfl, rfl, h0, r0⟩ := trodAll_cons hA
  obtain ⟨v1, vs1, d1, ds1, p1, q1, rfl, rfl, rfl, h1, r1⟩ := trodAll_cons r0
  obtain ⟨v2, vs2, d2, ds2, p2, q2, rfl, rfl, rfl, h2, r2⟩ := trodAll_cons r1
  obtain ⟨rfl, rfl, rfl⟩ := trodAll_nil r2
  obtain rfl : args = #[v0, v1, v2] := by cases args; simp_all
  obtain ⟨rfl, rfl⟩ := trodVars_none hV
  have k0 := h0
  have k1 := h1
  have k2 := h2
  obtain ⟨l0, s0⟩ := view_sl (k := .i64) Try.underlying27 Try.underlying3 (by kernel_rfl) (fun elems sp hd => sized_slice hsz (j := 0) (t := 27) (e := 3) rfl (by rw [hd]; rfl) Try.underlying27) (of_decide_eq_true (by kernel_rfl)) (hval 0 27 v0 rfl rfl) h0
  obtain ⟨l1, s1⟩ := view_sl (k := .u8) Try.underlying29 Try.underlying5 (by kernel_rfl) (fun elems sp hd => sized_slice hsz (j := 1) (t := 29) (e := 5) rfl (by rw [hd]; rfl) Try.underlying29) (of_decide_eq_true (by kernel_rfl)) (hval 1 29 v1 rfl rfl) h1
  obtain ⟨a2, rfl, -, -, w2⟩ := open_int Try.underlying3 (hval 2 3 v2 rfl rfl) h2
  clear hA0 hval0
  simp only [List.append_nil] at hW'
  have hlt := hW'.lt
  refine (walk W v0 l0 s0 v1 l1 s1 a2 w2).mono fun e W' ⟨he, hb⟩ => ?_
  subst he
  exact ⟨_, rfl, _, _, _, [], _, [], hW', trodAll_cons_mk (shut_bool Try.underlying4 _) trodAll_mk0, (trodAll_cons_mk (Below.trod Try.laidOut (by kernel_rfl) (of_decide_eq_true (by kernel_rfl)) k0 hb (fun x hx => by simpa using hlt x (by simp [hx]))) (trodAll_cons_mk (Below.trod Try.laidOut (by kernel_rfl) (of_decide_eq_true (by kernel_rfl)) k1 hb (fun x hx => by simpa using hlt x (by simp [hx]))) (trodAll_cons_mk (Below.trod Try.laidOut (by kernel_rfl) (of_decide_eq_true (by kernel_rfl)) k2 hb (fun x hx => by simpa using hlt x (by simp [hx]))) trodAll_mk0))), rfl, hb.frame _, fun h => by cases h⟩
theorem over : Rows.waitlistFirstRow.holds Try.pinned (OpenSpec.ofChange Rows.waitlistFirstSpec) :=
  OpenClaim.holds_of_wide 4 Try.f4 rfl rfl rfl rfl rfl rfl rfl ⟨rfl, rfl, rfl, rfl, rfl⟩ rfl rfl rfl rfl rfl (by kernel_rfl) Try.func4 (by kernel_rfl)
    (of_decide_eq_true (by kernel_rfl)) (by unfold Func.isWrapper; first | (rw [if_pos (by decide +kernel)]; kernel_rfl) | (rw [if_neg (by decide +kernel)]; exact ⟨rfl, rfl⟩))
    (fun os started H enc _ => lifted os started H enc)
/-- THE STATEMENT -/
theorem proved : Rows.WaitlistFirstSaid :=
  over
end Go.Proofs.Ytimgcehogalhcaa.waitlistFirst
