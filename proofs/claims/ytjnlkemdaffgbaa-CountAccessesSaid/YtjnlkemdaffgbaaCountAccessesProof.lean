/- Proved: CountAccesses returns true, and its arguments read afterwards as before, for every list of codes and every list of picks; no condition. -/
import Derived.LoopTactic
import Derived.WalkKit
import Derived.ProofKit
import Derived.OpenShut
import Derived.SizedLaws
import Derived.Test.YtjnlkemdaffgbaaB01
import Derived.Test.YtjnlkemdaffgbaaB29
namespace Go.Proofs.Ytjnlkemdaffgbaa.countAccesses
open Go.ChangeShapes Go.WideShapes Go.ChangeAt Go.RowKit
set_option linter.unusedVariables false
set_option linter.unusedSimpArgs false
set_option maxRecDepth 100000 in
set_option maxHeartbeats 16000000 in
theorem walk (w : World) (v0 : Value) (l0 : List Int) (s0 : SlI w .u8 v0 l0) (v1 : Value) (l1 : List Int) (s1 : SlI w .u8 v1 l1) :
    Calls Try.prog 3 #[v0, v1] w fun e w' => e = .returned (.bool true) ∧ Below w.heap.size w w' := by
  have HS0 := Lib.hid s0
  have HS1 := Lib.hid s1
  clear s0 s1
  go_enter Try.func3, Try.ntmps3
  go_wp2_with fail
  refine (awake8_any _).mono ?_; rintro e wa ⟨rfl, hba⟩
  have HBA := Lib.hid hba
  clear hba
  have HO := Lib.hid (others_any v0 l0 6 (by omega) wa (HS0.out.below HBA.out))
  go_wp2_with fail
  refine HO.out.mono ?_
  rintro e wb ⟨B, g, x, y, rfl, HI, HF, HK, HL, HC⟩
  clear HO
  have HA1 := Lib.hid (wadd_own pu_sim HI.out HF.out 6 0 0 0 rfl (by omega) (pu_starts HI.out.good 0 0 0 ⟨by omega, by omega⟩ HC.out.2.2 _ _ _ _) (by have := HL.out.1; omega))
  go_wp2_with fail
  refine HA1.out.mono ?_
  rintro e wc ⟨x2, f2, rfl, HI2, HF2, -⟩
  have HK2 : Hid (∀ m ∈ y.l ++ [⟨6, 1, 0, 0, 0 % 4, 0 % 8, 0, 0, 0, 0, 0⟩], rgK y.c m) := fun m hm => by
    rw [List.mem_append, List.mem_singleton] at hm
    rcases hm with hm | rfl
    · exact (HK.out m hm).1
    · exact rgK_new y.c 6 0 0 0 (by omega) HC.out.2.2 ⟨by omega, by omega⟩
  have hl6 : y.l.length ≤ 6 := HL.out.1
  clear HA1 HI HF HK
  have HA2 := Lib.hid (wadd_own pu_sim HI2.out HF2.out 6 0 0 0 rfl (by omega) (pu_starts HI2.out.good 0 0 0 ⟨by omega, by omega⟩ HC.out.2.2 _ _ _ _) (by simp; omega))
  go_wp2_with fail
  refine HA2.out.mono ?_
  rintro e wd ⟨x3, f3, rfl, HI3, HF3, -⟩
  have HK3 : Hid (∀ m ∈ y.l ++ [⟨6, 1, 0, 0, 0 % 4, 0 % 8, 0, 0, 0, 0, 0⟩] ++ [⟨6, 1, 0, 0, 0 % 4, 0 % 8, 0, 0, 0, 0, 0⟩], rgK y.c m) := fun m hm => by
    rw [List.mem_append, List.mem_singleton] at hm
    rcases hm with hm | rfl
    · exact HK2.out m hm
    · exact rgK_new y.c 6 0 0 0 (by omega) HC.out.2.2 ⟨by omega, by omega⟩
  clear HA2 HI2 HF2 HK2
  have HBW : Hid (SlI wa .u8 v1 l1) := HS1.out.below HBA.out
  have HP := Lib.hid (wplay_any pu_sim rg_doc HI3.out HF3.out HK3.out (by simp) (by simp; omega) (by show y.t.length ≤ 1000; rw [HL.out.2.1]; simp) (by show y.p.length ≤ 1000; rw [HL.out.2.2.1]; simp) v1 l1 HBW.out 150 25 (by omega) (by omega))
  clear HI3 HF3 HK3 hl6
  go_wp2_with fail
  refine HP.out.mono ?_
  rintro e we ⟨x4, y4, rfl, HI4, -, -⟩
  have HBF := Lib.hid (below_then HBA.out HI4.out.below)
  clear HP HI4
  go_wp2_with fail
  go_ret
  exact ⟨rfl, HBF.out⟩
set_option maxRecDepth 100000 in
theorem lifted (os : Os) (started : os.Started) (H : Type) (enc : TypeId × Value → H) :
    ReturnsInHanded {} Try.checked os 3 .any (Rows.countAccessesSpec.pre6 enc Try.prog Try.f3 Rows.countAccessesRow.domain false) (Rows.countAccessesSpec.post enc Try.prog Try.f3 false true false false) := by
  refine returnsInHanded_of_change_sized (C := Try.checked) own started (by kernel_rfl) Try.func3
    (ChangeSpec.witness6 (enc := enc) (C := Try.checked) false ⟨#[], #[.slice none 0 0, .slice none 0 0], []⟩ 8 (by kernel_rfl) (by kernel_rfl) (by kernel_rfl) (by kernel_rfl)) ?_
  intro W base args ds gs before hval0 hW _ hsz0 _
  have hsz : (DataW.weightsEach Try.prog (Try.f3.params.toList ++ Rows.countAccessesSpec.plain.varTypes Try.prog) (ds ++ gs)).all (· ≤ reachBytes) = true := hsz0
  clear hsz0
  have hval : ∀ (j : Nat) t v, Try.f3.params[j]? = some t → args[j]? = some v → Value.okWide Try.prog W .any base t v := hval0
  have hW' := hW
  obtain ⟨p, q, hA0, hV, rfl, _, _⟩ := hW
  have hA : DataW.TrodAll enc Try.prog W 0 (fun _ => true) true Try.f3.params.toList args.toList ds p := hA0
  rw [Try.params3] at hA hval hsz
  obtain ⟨v0, vs0, d0, ds0, p0, q0, hargs, rfl, rfl, h0, r0⟩ := trodAll_cons hA
  obtain ⟨v1, vs1, d1, ds1, p1, q1, rfl, rfl, rfl, h1, r1⟩ := trodAll_cons r0
  obtain ⟨rfl, rfl, rfl⟩ := trodAll_nil r1
  obtain rfl : args = #[v0, v1] := by cases args; simp_all
  obtain ⟨rfl, rfl⟩ := trodVars_none hV
  have k0 := h0
  have k1 := h1
  obtain ⟨l0, s0⟩ := view_sl (k := .u8) Try.underlying22 Try.underlying5 (by kernel_rfl) (fun elems sp hd => sized_slice hsz (j := 0) (t := 22) (e := 5) rfl (by rw [hd]; rfl) Try.underlying22) (of_decide_eq_true (by kernel_rfl)) (hval 0 22 v0 rfl rfl) h0
  obtain ⟨l1, s1⟩ := view_sl (k := .u8) Try.underlying22 Try.underlying5 (by kernel_rfl) (fun elems sp hd => sized_slice hsz (j := 1) (t := 22) (e := 5) rfl (by rw [hd]; rfl) Try.underlying22) (of_decide_eq_true (by kernel_rfl)) (hval 1 22 v1 rfl rfl) h1
  clear hA0 hval0
  simp only [List.append_nil] at hW'
  have hlt := hW'.lt
  refine (walk W v0 l0 s0 v1 l1 s1).mono fun e W' ⟨he, hb⟩ => ?_
  subst he
  exact ⟨_, rfl, _, _, _, [], _, [], hW', trodAll_cons_mk (shut_bool Try.underlying4 _) trodAll_mk0, (trodAll_cons_mk (Below.trod Try.laidOut (by kernel_rfl) (of_decide_eq_true (by kernel_rfl)) k0 hb (fun x hx => by simpa using hlt x (by simp [hx]))) (trodAll_cons_mk (Below.trod Try.laidOut (by kernel_rfl) (of_decide_eq_true (by kernel_rfl)) k1 hb (fun x hx => by simpa using hlt x (by simp [hx]))) trodAll_mk0)), rfl, hb.frame _, fun h => by cases h⟩
theorem over : Rows.countAccessesRow.holds Try.pinned (OpenSpec.ofChange Rows.countAccessesSpec) :=
  OpenClaim.holds_of_wide 3 Try.f3 rfl rfl rfl rfl rfl rfl rfl ⟨rfl, rfl, rfl, rfl, rfl⟩ rfl rfl rfl rfl rfl (by kernel_rfl) Try.func3 (by kernel_rfl)
    (of_decide_eq_true (by kernel_rfl)) (by unfold Func.isWrapper; first | (rw [if_pos (by decide +kernel)]; kernel_rfl) | (rw [if_neg (by decide +kernel)]; exact ⟨rfl, rfl⟩))
    (fun os started H enc _ => lifted os started H enc)
/-- THE STATEMENT -/
theorem proved : Rows.CountAccessesSaid :=
  over
end Go.Proofs.Ytjnlkemdaffgbaa.countAccesses
