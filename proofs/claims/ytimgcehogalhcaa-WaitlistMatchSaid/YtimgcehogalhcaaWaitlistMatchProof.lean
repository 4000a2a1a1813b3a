/- Proved: WaitlistMatch returns true, and its arguments read afterwards as before, for every two lists of codes; no condition. -/
import Derived.Test.YtimgcehogalhcaaLaw
import Derived.Test.YtimgcehogalhcaaAwk
import Derived.Deep.CutBlock
import Derived.LoopTactic
import Derived.WalkKit
import Derived.ProofKit
import Derived.OpenShut
import Derived.SizedLaws
namespace Go.Proofs.Ytimgcehogalhcaa.waitlistMatch
open Go.ChangeShapes Go.WideShapes Go.ChangeAt Go.RowKit
set_option linter.unusedVariables false
set_option linter.unusedSimpArgs false
set_option maxRecDepth 100000 in
set_option maxHeartbeats 16000000 in
theorem walk (w : World) (v0 : Value) (l0 : List Int) (s0 : SlI w .u8 v0 l0) (v1 : Value) (l1 : List Int) (s1 : SlI w .u8 v1 l1) :
    Calls Try.prog 7 #[v0, v1] w fun e w' => e = .returned (.bool true) ∧ Below w.heap.size w w' := by
  have HS0 := Lib.hid s0
  have HS1 := Lib.hid s1
  clear s0 s1
  go_enter Try.func7, Try.ntmps7
  go_wp2_with fail
  refine (awake_any _).mono ?_; rintro e wa ⟨rfl, hba⟩
  have HB := Lib.hid hba
  clear hba
  go_wp2_with fail
  refine (records_any _ l0 _ (HS0.out.below HB.out)).mono ?_; rintro e wb ⟨ux, rx, rfl, hox, HRx, hbx⟩
  obtain ⟨ax, cx, hux⟩ := hox.lenS
  subst hux
  have HSxr : Hid (SlI wb .i64 (.slice ax rx.length cx) rx) := hox.read (by have := HRx.out.1; omega) (fun x hx => by have := HRx.out.2 x hx; rw [IntKind.wrap_i64]; omega)
  have HBxr := Lib.hid (below_then HB.out hbx)
  clear hox
  go_wp2_with fail
  refine (records_any _ l1 _ (HS1.out.below HBxr.out)).mono ?_; rintro e wc ⟨uy, ry, rfl, hoy, HRy, hby⟩
  obtain ⟨ay, cy, huy⟩ := hoy.lenS
  subst huy
  have HSyr : Hid (SlI wc .i64 (.slice ay ry.length cy) ry) := hoy.read (by have := HRy.out.1; omega) (fun x hx => by have := HRy.out.2 x hx; rw [IntKind.wrap_i64]; omega)
  have HByr := Lib.hid (below_then HBxr.out hby)
  have HSX := Lib.hid (HSxr.out.below hby)
  have HLX : Hid (rx.length ≤ 24) := HRx.out.1
  have HLY : Hid (ry.length ≤ 24) := HRy.out.1
  clear hoy hby hbx HSxr HRx HRy HS0 HS1 HB HBxr
  go_wp2_with fail
  refine (ppairs_any _ _ rx ry wc HSX.out HSyr.out (Nat.le_trans HLY.out (by omega))).mono ?_; rintro e w1 ⟨up, rfl, hp, hb1⟩
  have HP := Lib.hid hp
  have HB1 := Lib.hid (below_then HByr.out hb1)
  have HSX1 := Lib.hid (HSX.out.below hb1)
  have HSY1 := Lib.hid (HSyr.out.below hb1)
  clear hp hb1 HSX HSyr HByr
  go_wp2_with fail
  go_loopw [23] (fun u23 wr => ∃ i : Nat, u23 = .int .i64 i ∧ i ≤ rx.length ∧ Hid (∀ j, j < i → firstE ry (threadE (rx.getD j 0)) = none) ∧ Hid (Below w1.heap.size w1 wr)) (fun u23 _ => 25 - (intOf u23).toNat)
  case atStart => exact ⟨0, rfl, by omega, fun j hj => by omega, Below.refl _ _⟩
  case round =>
    obtain ⟨i, rfl, hi, HN, HB⟩ := hrel
    obtain ⟨wo, rfl⟩ : ∃ wo : World, wo = wr := ⟨_, rfl⟩
    have hl24 : rx.length ≤ 24 := HLX.out
    by_cases hlt : i < rx.length
    · have hltI : (i : Int) < (rx.length : Int) := by omega
      obtain ⟨b, o, c, he, -, hbb, hc⟩ := (HSX1.out.below HB.out).open (by intro h0; rw [h0] at hlt; simp at hlt)
      simp only [Value.slice.injEq] at he
      obtain ⟨rfl, -, rfl⟩ := he
      have c0 := hc i hlt
      obtain ⟨r, hr⟩ : ∃ r, rx.getD i 0 = r := ⟨_, rfl⟩
      rw [hr] at c0
      have HRI : Hid (I64 r) := hr ▸ HSX1.out.i64 i
      have HRG := Lib.hid hr
      have T1 := Lib.hid fun w' => pthread_any r w' HRI.out
      obtain ⟨t, ht⟩ : ∃ t, threadE r = t := ⟨_, rfl⟩
      rw [ht] at T1
      have HT := Lib.hid ht
      have T2 := Lib.hid fun w' (h : Below w1.heap.size w1 w') => pfirst_any _ ry t w' (HSY1.out.below h)
      clear hc hr ht
      go_wp2_with fail
      refine (T1.out _).mono ?_; rintro e w3 ⟨rfl, hb3⟩
      have HB3 := Lib.hid (below_then HB.out hb3)
      clear c0 hb3 T1
      cases hf : firstE ry t with
      | none =>
        rw [hf] at T2
        simp only [Option.getD_none, Option.isSome_none] at T2
        have HF : Hid (firstE ry t = none) := hf
        clear hf
        go_wp2_with fail
        refine (T2.out _ HB3.out).mono ?_; rintro e w4 ⟨rfl, hb4⟩
        have HB4 := Lib.hid (below_then HB3.out hb4)
        clear hb4 T2
        go_wp2_with fail
        go_roundw
        case rel => exact ⟨i + 1, by go_num, by omega, fun j hj => by
          by_cases e : j = i
          · rw [e, HRG.out, HT.out]; exact HF.out
          · exact HN.out j (by omega), HB4⟩
        case measure => simp [intOf]; omega
      | some s =>
        rw [hf] at T2
        simp only [Option.getD_some, Option.isSome_some] at T2
        have HM : Hid ((pairsE rx ry).head? = some (r, s)) := by
          have h1 := match_some (ss := ry) hlt HN.out (s := s) (by rw [HRG.out, HT.out]; exact hf)
          rw [HRG.out] at h1
          exact h1
        clear hf
        go_wp2_with fail
        refine (T2.out _ HB3.out).mono ?_; rintro e w4 ⟨rfl, hb4⟩
        have HB4 := Lib.hid (below_then HB3.out hb4)
        clear hb4 T2
        obtain ⟨tl, htl⟩ := List.head?_eq_some_iff.1 HM.out
        obtain ⟨ap, cp, hup, hcp⟩ := HP.out.below HB4.out
        rw [htl] at hup hcp
        obtain ⟨bp, op, hap, hbp, d0, d1⟩ := hcp 0 (by simp)
        rw [List.getD_cons_zero, Nat.zero_mul, Nat.add_zero] at d0 d1
        rw [List.length_cons] at hup
        subst hup
        subst hap
        have hpos : (0 : Int) < ((tl.length + 1 : Nat) : Int) := by omega
        have HBF := Lib.hid (below_then HB1.out HB4.out)
        clear htl hcp hbp HM
        try dsimp only at d0 d1
        have hq := eq_pair r s r s w4
        simp only [BEq.rfl, Bool.and_self] at hq
        go_wp2
        go_ret
        exact ⟨rfl, HBF.out⟩
    · have hge : ¬ (i : Int) < (rx.length : Int) := by omega
      have HE : Hid (pairsE rx ry = []) := match_none fun r hr => by
        obtain ⟨j, hj, rfl⟩ := List.mem_iff_getElem.1 hr
        have h1 := HN.out j (by omega)
        rw [List.getD_eq_getElem?_getD, List.getElem?_eq_getElem hj] at h1
        exact h1
      obtain ⟨ap, cp, hup, -⟩ := HP.out
      rw [HE.out] at hup
      subst hup
      have HBF := Lib.hid (below_then HB1.out HB.out)
      clear HE HN
      go_wp2
      go_ret
      exact ⟨rfl, HBF.out⟩
set_option maxRecDepth 100000 in
theorem lifted (os : Os) (started : os.Started) (H : Type) (enc : TypeId × Value → H) :
    ReturnsInHanded {} Try.checked os 7 .any (Rows.waitlistMatchSpec.pre6 enc Try.prog Try.f7 Rows.waitlistMatchRow.domain false) (Rows.waitlistMatchSpec.post enc Try.prog Try.f7 false true false false) := by
  refine returnsInHanded_of_change_sized (C := Try.checked) own started (by kernel_rfl) Try.func7
    (ChangeSpec.witness6 (enc := enc) (C := Try.checked) false ⟨#[], #[.slice none 0 0, .slice none 0 0], []⟩ 8 (by kernel_rfl) (by kernel_rfl) (by kernel_rfl) (by kernel_rfl)) ?_
  intro W base args ds gs before hval0 hW _ hsz0 _
  have hsz : (DataW.weightsEach Try.prog (Try.f7.params.toList ++ Rows.waitlistMatchSpec.plain.varTypes Try.prog) (ds ++ gs)).all (· ≤ reachBytes) = true := hsz0
  clear hsz0
  have hval : ∀ (j : Nat) t v, Try.f7.params[j]? = some t → args[j]? = some v → Value.okWide Try.prog W .any base t v := hval0
  have hW' := hW
  obtain ⟨p, q, hA0, hV, rfl, _, _⟩ := hW
  have hA : DataW.TrodAll enc Try.prog W 0 (fun _ => true) true Try.f7.params.toList args.toList ds p := hA0
  rw [Try.params7] at hA hval hsz
  obtain ⟨v0, vs0, d0, ds0, p0, q0, hargs, rfl, rfl, h0, r0⟩ := trodAll_cons hA
  obtain ⟨v1, vs1, d1, ds1, p1, q1, rfl, rfl, rfl, h1, r1⟩ := trodAll_cons r0
  obtain ⟨rfl, rfl, rfl⟩ := trodAll_nil r1
  obtain rfl : args = #[v0, v1] := by cases args; simp_all
  obtain ⟨rfl, rfl⟩ := trodVars_none hV
  have k0 := h0
  have k1 := h1
  obtain ⟨l0, s0⟩ := view_sl (k := .u8) Try.underlying29 Try.underlying5 (by kernel_rfl) (fun elems sp hd => sized_slice hsz (j := 0) (t := 29) (e := 5) rfl (by rw [hd]; rfl) Try.underlying29) (of_decide_eq_true (by kernel_rfl)) (hval 0 29 v0 rfl rfl) h0
  obtain ⟨l1, s1⟩ := view_sl (k := .u8) Try.underlying29 Try.underlying5 (by kernel_rfl) (fun elems sp hd => sized_slice hsz (j := 1) (t := 29) (e := 5) rfl (by rw [hd]; rfl) Try.underlying29) (of_decide_eq_true (by kernel_rfl)) (hval 1 29 v1 rfl rfl) h1
  clear hA0 hval0
  simp only [List.append_nil] at hW'
  have hlt := hW'.lt
  refine (walk W v0 l0 s0 v1 l1 s1).mono fun e W' ⟨he, hb⟩ => ?_
  subst he
  exact ⟨_, rfl, _, _, _, [], _, [], hW', trodAll_cons_mk (shut_bool Try.underlying4 _) trodAll_mk0, (trodAll_cons_mk (Below.trod Try.laidOut (by kernel_rfl) (of_decide_eq_true (by kernel_rfl)) k0 hb (fun x hx => by simpa using hlt x (by simp [hx]))) (trodAll_cons_mk (Below.trod Try.laidOut (by kernel_rfl) (of_decide_eq_true (by kernel_rfl)) k1 hb (fun x hx => by simpa using hlt x (by simp [hx]))) trodAll_mk0)), rfl, hb.frame _, fun h => by cases h⟩
theorem over : Rows.waitlistMatchRow.holds Try.pinned (OpenSpec.ofChange Rows.waitlistMatchSpec) :=
  OpenClaim.holds_of_wide 7 Try.f7 rfl rfl rfl rfl rfl rfl rfl ⟨rfl, rfl, rfl, rfl, rfl⟩ rfl rfl rfl rfl rfl (by kernel_rfl) Try.func7 (by kernel_rfl)
    (of_decide_eq_true (by kernel_rfl)) (by unfold Func.isWrapper; first | (rw [if_pos (by decide +kernel)]; kernel_rfl) | (rw [if_neg (by decide +kernel)]; exact ⟨rfl, rfl⟩))
    (fun os started H enc _ => lifted os started H enc)
/-- THE STATEMENT -/
theorem proved : Rows.WaitlistMatchSaid :=
  over
end Go.Proofs.Ytimgcehogalhcaa.waitlistMatch
