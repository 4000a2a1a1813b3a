/- Proved: MemoryKinds returns true for every int kind; no condition. -/
import Derived.Test.YtkciejealeinoaaLaw
import Derived.Test.YtkciejealeinoaaL4Awake
import Derived.Test.YtkciejealeinoaaL4Kinds
import Derived.Test.YtkciejealeinoaaReads
import Derived.LoopTactic
import Derived.WalkKit
import Derived.ProofKit
import Derived.OpenShut
import Derived.SizedLaws
namespace Go.Proofs.Ytkciejealeinoaa.memoryKinds
open Go.ChangeShapes Go.WideShapes Go.ChangeAt Go.RowKit
set_option linter.unusedVariables false
set_option maxRecDepth 100000 in
set_option maxHeartbeats 2000000 in
theorem walk (w : World) (a0 : Int) (w0 : (Lit.int .i64 a0).wf = true) :
    Calls Try.prog 4 #[.int .i64 a0] w fun e w' => e = .returned (.bool true) ∧ Below w.heap.size w w' := by
  have AW := Lib.hid fun w' => awake4_any w'
  obtain ⟨z, hz⟩ : ∃ z, a0 % 12 = z := ⟨_, rfl⟩
  have hz01 : 0 ≤ z ∧ z < 12 := by omega
  have HZ := Lib.hid hz
  clear hz
  obtain ⟨hz0, hz1⟩ := hz01
  go_enter Try.func4, Try.ntmps4
  go_wp2_with fail
  refine (AW.out _).mono ?_; rintro e w1 ⟨rfl, hb1⟩
  have HB1 := Lib.hid hb1
  clear hb1
  go_wp2_with fail
  refine (mod_any a0 12 _ (by omega) (by omega)).mono ?_; rintro e w2 ⟨rfl, rfl⟩
  rw [HZ.out]
  clear HZ
  obtain ⟨W, hW⟩ : ∃ W, w1.alloc (.cells #[.int .i64 a0, .int .i64 (z - 1)] 3) = W := ⟨_, rfl⟩
  have HB : Hid (Below w.heap.size w W) := hW ▸ below_new HB1.out _
  have HR : Hid (W.heap[w1.heap.size]? = some (.cells #[.int .i64 a0, .int .i64 (z - 1)] 3 (0, 0))) := hW ▸ heap_alloc_new _ _
  have HW := Lib.hid hW
  clear hW
  go_upto_region 4 with fail
  rw [HW.out]
  clear HW
  go_loop [13] (fun c => ∃ k : Nat, k ≤ 2 ∧ c = .int .i64 k) (fun c => 2 - (intOf c).toNat)
  case atStart => exact ⟨0, by omega, rfl⟩
  case round =>
    obtain ⟨k, hk, rfl⟩ := hrel
    by_cases hlt : k < 2
    · have hc : ∃ x : Int, W.cell? ⟨w1.heap.size, k, none⟩ = some (.int .i64 x) := by
        have hr := cell_of_row _ _ k _ _ _ HR.out
        obtain rfl | rfl : k = 0 ∨ k = 1 := by omega
        · exact ⟨_, hr⟩
        · exact ⟨_, hr⟩
      obtain ⟨x, hc⟩ := hc
      go_wp2_with (first
        | (go_at_call 24; refine (atomic_any x _).mono ?_; rintro e w' ⟨rfl, rfl⟩)
        | (go_at_call 25; refine (ratomic_any x _).mono ?_; rintro e w' ⟨rfl, rfl⟩)
        | (go_at_call 26; refine (writes_any x _).mono ?_; rintro e w' ⟨rfl, rfl⟩)
        | (go_at_call 27; refine (rwrites_any x _).mono ?_; rintro e w' ⟨rfl, rfl⟩))
      go_round
      case rel => exact ⟨k + 1, by omega, by go_num⟩
      case measure => simp [intOf]; omega
    · go_wp2
      go_ret
      exact ⟨rfl, HB.out⟩
set_option maxRecDepth 100000 in
theorem lifted (os : Os) (started : os.Started) (H : Type) (enc : TypeId × Value → H) :
    ReturnsInHanded {} Try.checked os 4 .any (Rows.memoryKindsSpec.pre6 enc Try.prog Try.f4 Rows.memoryKindsRow.domain false) (Rows.memoryKindsSpec.post enc Try.prog Try.f4 false true false false) := by
  refine returnsInHanded_of_change_sized (C := Try.checked) own started (by kernel_rfl) Try.func4
    (ChangeSpec.witness6 (enc := enc) (C := Try.checked) false ⟨#[], #[.int .i64 0], []⟩ 8 (by kernel_rfl) (by kernel_rfl) (by kernel_rfl) (by kernel_rfl)) ?_
  intro W base args ds gs before hval0 hW _ hsz0 _
  have hsz : (DataW.weightsEach Try.prog (Try.f4.params.toList ++ Rows.memoryKindsSpec.plain.varTypes Try.prog) (ds ++ gs)).all (· ≤ reachBytes) = true := hsz0
  clear hsz0
  have hval : ∀ (j : Nat) t v, Try.f4.params[j]? = some t → args[j]? = some v → Value.okWide Try.prog W .any base t v := hval0
  have hW' := hW
  obtain ⟨p, q, hA0, hV, rfl, _, _⟩ := hW
  have hA : DataW.TrodAll enc Try.prog W 0 (fun _ => true) true Try.f4.params.toList args.toList ds p := hA0
  rw [Try.params4] at hA hval hsz
  obtain ⟨v0, vs0, d0, ds0, p0, q0, hargs, rfl, rfl, h0, r0⟩ := trodAll_cons hA
  obtain ⟨rfl, rfl, rfl⟩ := trodAll_nil r0
  obtain rfl : args = #[v0] := by cases args; simp_all
  obtain ⟨rfl, rfl⟩ := trodVars_none hV
  have k0 := h0
  obtain ⟨a0, rfl, -, -, w0⟩ := open_int Try.underlying3 (hval 0 3 v0 rfl rfl) h0
  clear hA0 hval0
  simp only [List.append_nil] at hW'
  have hlt := hW'.lt
  refine (walk W a0 w0).mono fun e W' ⟨he, hb⟩ => ?_
  subst he
  exact ⟨_, rfl, _, _, _, [], _, [], hW', trodAll_cons_mk (shut_bool Try.underlying4 _) trodAll_mk0, (trodAll_cons_mk (Below.trod Try.laidOut (by kernel_rfl) (of_decide_eq_true (by kernel_rfl)) k0 hb (fun x hx => by simpa using hlt x (by simp [hx]))) trodAll_mk0), rfl, hb.frame _, fun h => by cases h⟩
theorem over : Rows.memoryKindsRow.holds Try.pinned (OpenSpec.ofChange Rows.memoryKindsSpec) :=
  OpenClaim.holds_of_wide 4 Try.f4 rfl rfl rfl rfl rfl rfl rfl ⟨rfl, rfl, rfl, rfl, rfl⟩ rfl rfl rfl rfl rfl (by kernel_rfl) Try.func4 (by kernel_rfl)
    (of_decide_eq_true (by kernel_rfl)) (by unfold Func.isWrapper; first | (rw [if_pos (by decide +kernel)]; kernel_rfl) | (rw [if_neg (by decide +kernel)]; exact ⟨rfl, rfl⟩))
    (fun os started H enc _ => lifted os started H enc)
/-- THE STATEMENT -/
theorem proved : Rows.MemoryKindsSaid :=
  over
end Go.Proofs.Ytkciejealeinoaa.memoryKinds
