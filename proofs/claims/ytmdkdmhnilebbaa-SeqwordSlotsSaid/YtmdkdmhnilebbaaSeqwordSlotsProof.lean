/- Proved: SeqwordSlots returns true, and its arguments read afterwards as before, for every uint64 a and all ints size and power; no condition. -/
import Derived.Test.YtmdkdmhnilebbaaRows
import Derived.Test.YtmdkdmhnilebbaaL1Calls
import Derived.LoopTactic
import Derived.Deep.QuietTactic
import Derived.BigQuiet
import Derived.WalkKit
import Derived.ProofKit
import Derived.OpenShut
namespace Go.Proofs.Ytmdkdmhnilebbaa.seqwordSlots
open Go.ChangeShapes Go.WideShapes Go.ChangeAt Go.RowKit
set_option linter.unusedVariables false      -- a walk need not use every 'w<i>' (that an integer argument fits its kind)

theorem own : ownKnob Try.prog.godebug = none := by kernel_rfl

theorem and31 (x : Int) : ∃ m : Nat, m ≤ 31 ∧ bits BinOp.and IntKind.i64 x 31 = (m : Int) := by
  refine ⟨(BitVec.ofInt 64 x &&& BitVec.ofInt 64 31).toNat, ?_, ?_⟩
  · rw [BitVec.toNat_and]
    have : (BitVec.ofInt 64 31).toNat = 31 := by decide
    rw [this]; exact Nat.and_le_right
  · have h : (BitVec.ofInt 64 x &&& BitVec.ofInt 64 31).toNat ≤ 31 := by
      rw [BitVec.toNat_and]
      have : (BitVec.ofInt 64 31).toNat = 31 := by decide
      rw [this]; exact Nat.and_le_right
    show IntKind.i64.wrap (((BitVec.ofInt 64 x &&& BitVec.ofInt 64 31).toNat : Nat) : Int) = _
    generalize (BitVec.ofInt 64 x &&& BitVec.ofInt 64 31).toNat = t at h ⊢
    simp [IntKind.wrap, IntKind.bits, IntKind.signed]
    omega
theorem pow31 (x : Int) : ∃ p : Int, wrap64 (2 ^ min (IntKind.u64.wrap (bits BinOp.and IntKind.i64 x 31)).toNat 64) = p ∧ 1 ≤ p ∧ p ≤ 2147483648 ∧ p ∣ 9223372036854775808 := by
  obtain ⟨m, hm, e⟩ := and31 x
  have h1 : (IntKind.u64.wrap (bits BinOp.and IntKind.i64 x 31)).toNat = m := by
    rw [e, IntKind.wrap_u64]; omega
  have h2 : min m 64 = m := by omega
  rw [h1, h2]
  have p1 : 1 ≤ 2 ^ m := Nat.one_le_two_pow
  have p2 : 2 ^ m ≤ 2 ^ 31 := Nat.pow_le_pow_right (by omega) hm
  have e2 : ((2 ^ m : Nat) : Int) = (2 : Int) ^ m := by simp
  have e3 : (2 : Int) ^ m * 2 ^ (63 - m) = 9223372036854775808 := by
    rw [← Int.pow_add, show m + (63 - m) = 63 by omega]; rfl
  have h3 : wrap64 (2 ^ m) = 2 ^ m := by unfold wrap64; omega
  rw [h3]
  exact ⟨_, rfl, by omega, by omega, ⟨_, e3.symm⟩⟩
theorem nextI_lo (a n : Int) : 0 ≤ nextI a n ∧ nextI a n < 18446744073709551616 := by unfold nextI; omega
theorem slot_lo (x p : Int) (h : 1 ≤ p) : 0 ≤ slotI x p ∧ slotI x p < p := by
  unfold slotI; rw [if_neg (by omega)]
  exact ⟨Int.emod_nonneg _ (by omega), Int.emod_lt_of_pos _ (by omega)⟩
theorem slot_step (x p : Int) (h : 1 ≤ p) (hd : p ∣ 9223372036854775808) : slotI (nextI x 1) p = (slotI x p + 1).tmod p := by
  have b := slot_lo x p h
  rw [Int.tmod_eq_emod_of_nonneg (by omega)]
  unfold slotI nextI
  rw [if_neg (by omega), if_neg (by omega), Int.emod_emod_of_dvd _ (Int.dvd_refl _), Int.emod_emod_of_dvd _ hd, Int.emod_emod_of_dvd _ hd, Int.emod_add_emod]
theorem key (x p : Int) (h : 1 ≤ p) (hd : p ∣ 9223372036854775808) : (slotI (nextI x 1) p != (slotI x p + 1) % p) = false := by
  have b := slot_lo x p h
  have e0 := slot_step x p h hd
  rw [Int.tmod_eq_emod_of_nonneg (by omega)] at e0
  rw [← e0]
  simp

/-! ### STEP 1: THE WALK: the Go text returns true. 'Grown w w'': the world has at most new blocks (Derived/RowKit3.lean). Part the cases AHEAD of 'go_enter' where a test parts the walk; take each callee by a contract of your own. -/
theorem walk (a0 : Int) (a1 : Int) (a2 : Int) (w0 : (Lit.int .u64 a0).wf = true) (w1 : (Lit.int .i64 a1).wf = true) (w2 : (Lit.int .i64 a2).wf = true) (w : World) :
    Calls Try.prog 8 #[.int .u64 a0, .int .i64 a1, .int .i64 a2] w fun e w' => e = .returned (.bool true) ∧ Grown w w' := by
  have b0 := bounds_u64 w0
  have b1 := bounds_i64 w1
  obtain ⟨p, hp, p1, p2, p3⟩ := pow31 a2
  have K : Hid (∀ x, (slotI (nextI x 1) p != (slotI x p + 1) % p) = false) := Lib.hid fun x => key x p p1 p3
  have L : Hid (∀ x, 0 ≤ slotI x p ∧ slotI x p < p) := Lib.hid fun x => slot_lo x p p1
  clear w0 w1 w2 p3
  go_enter Try.func8, Try.ntmps8
  go_wp2_with (first | (go_at_call 9; refine (awake_any _).mono ?_; rintro e w' ⟨rfl, rfl⟩))
  rw [hp]
  clear hp
  go_loopw [20] (fun i wr => ∃ k : Nat, k ≤ 4 ∧ i = .int .i64 k ∧ ∃ q, wr = (w.alloc (.cells #[.int .u64 a0, .int .u64 9223372036854775807, .int .u64 9223372036854775806, .int .u64 0] 22)).drewN q) (fun i _ => 4 - (intOf i).toNat)
  case atStart => exact ⟨0, by omega, rfl, 0, rfl⟩
  case round =>
    obtain ⟨k, hk, rfl, q, rfl⟩ := hrel
    obtain rfl | rfl | rfl | rfl | rfl : k = 0 ∨ k = 1 ∨ k = 2 ∨ k = 3 ∨ k = 4 := by omega
    case inr.inr.inr.inr =>
      go_wp2
      go_ret
      exact ⟨rfl, (((Grown.refl w).alloc _ _) : Grown w (w.alloc _))⟩
    case inl =>
      have e1 := K.out a0
      have e2 := L.out a0
      go_wp2_with (first | (go_at_call 21; refine (slot_any _ _ _ (by omega) (by omega) (by omega) (by omega)).mono ?_; rintro e w' ⟨rfl, rfl⟩) | (go_at_call 22; refine (rslot_any _ _ _ (by omega) (by omega) (by omega) (by omega)).mono ?_; rintro e w' ⟨rfl, rfl⟩))
      generalize hW : World.drewN (w.alloc _) q = W1
      have HW := Lib.hid hW
      clear hW
      go_quiet ((first | (go_at_call 10; exact Calls.quiet_of_same ((next_any _ _ _).mono fun _ _ h => ⟨h.1, h.2.symm⟩)) | (go_at_call 21; exact Calls.quiet_of_same ((slot_any _ _ _ (nextI_lo _ _).1 (nextI_lo _ _).2 (by omega) (by omega)).mono fun _ _ h => ⟨h.1, h.2.symm⟩))))
      go_wp2
      go_roundw
      case rel => exact ⟨_, by decide, rfl, q + nq, by rw [← HW.out, World.drewN_drewN]⟩
      case measure => simp [intOf]
    case inr.inl =>
      have e1 := K.out 9223372036854775807
      have e2 := L.out 9223372036854775807
      go_wp2_with (first | (go_at_call 21; refine (slot_any _ _ _ (by omega) (by omega) (by omega) (by omega)).mono ?_; rintro e w' ⟨rfl, rfl⟩) | (go_at_call 22; refine (rslot_any _ _ _ (by omega) (by omega) (by omega) (by omega)).mono ?_; rintro e w' ⟨rfl, rfl⟩))
      generalize hW : World.drewN (w.alloc _) q = W1
      have HW := Lib.hid hW
      clear hW
      go_quiet ((first | (go_at_call 10; exact Calls.quiet_of_same ((next_any _ _ _).mono fun _ _ h => ⟨h.1, h.2.symm⟩)) | (go_at_call 21; exact Calls.quiet_of_same ((slot_any _ _ _ (nextI_lo _ _).1 (nextI_lo _ _).2 (by omega) (by omega)).mono fun _ _ h => ⟨h.1, h.2.symm⟩))))
      go_wp2
      go_roundw
      case rel => exact ⟨_, by decide, rfl, q + nq, by rw [← HW.out, World.drewN_drewN]⟩
      case measure => simp [intOf]
    case inr.inr.inl =>
      have e1 := K.out 9223372036854775806
      have e2 := L.out 9223372036854775806
      go_wp2_with (first | (go_at_call 21; refine (slot_any _ _ _ (by omega) (by omega) (by omega) (by omega)).mono ?_; rintro e w' ⟨rfl, rfl⟩) | (go_at_call 22; refine (rslot_any _ _ _ (by omega) (by omega) (by omega) (by omega)).mono ?_; rintro e w' ⟨rfl, rfl⟩))
      generalize hW : World.drewN (w.alloc _) q = W1
      have HW := Lib.hid hW
      clear hW
      go_quiet ((first | (go_at_call 10; exact Calls.quiet_of_same ((next_any _ _ _).mono fun _ _ h => ⟨h.1, h.2.symm⟩)) | (go_at_call 21; exact Calls.quiet_of_same ((slot_any _ _ _ (nextI_lo _ _).1 (nextI_lo _ _).2 (by omega) (by omega)).mono fun _ _ h => ⟨h.1, h.2.symm⟩))))
      go_wp2
      go_roundw
      case rel => exact ⟨_, by decide, rfl, q + nq, by rw [← HW.out, World.drewN_drewN]⟩
      case measure => simp [intOf]
    case inr.inr.inr.inl =>
      have e1 := K.out 0
      have e2 := L.out 0
      go_wp2_with (first | (go_at_call 21; refine (slot_any _ _ _ (by omega) (by omega) (by omega) (by omega)).mono ?_; rintro e w' ⟨rfl, rfl⟩) | (go_at_call 22; refine (rslot_any _ _ _ (by omega) (by omega) (by omega) (by omega)).mono ?_; rintro e w' ⟨rfl, rfl⟩))
      generalize hW : World.drewN (w.alloc _) q = W1
      have HW := Lib.hid hW
      clear hW
      go_quiet ((first | (go_at_call 10; exact Calls.quiet_of_same ((next_any _ _ _).mono fun _ _ h => ⟨h.1, h.2.symm⟩)) | (go_at_call 21; exact Calls.quiet_of_same ((slot_any _ _ _ (nextI_lo _ _).1 (nextI_lo _ _).2 (by omega) (by omega)).mono fun _ _ h => ⟨h.1, h.2.symm⟩))))
      go_wp2
      go_roundw
      case rel => exact ⟨_, by decide, rfl, q + nq, by rw [← HW.out, World.drewN_drewN]⟩
      case measure => simp [intOf]

/-! ### THE ROW's STEP: WRITTEN OUT: LEAVE IT -/
set_option maxRecDepth 100000 in
theorem lifted (os : Os) (started : os.Started) (H : Type) (enc : TypeId × Value → H) :
    ReturnsInHanded {} Try.checked os 8 .any (Rows.seqwordSlotsSpec.pre6 enc Try.prog Try.f8 Rows.seqwordSlotsRow.domain false) (Rows.seqwordSlotsSpec.post enc Try.prog Try.f8 false true false false) := by
  refine returnsInHanded_of_change (C := Try.checked) own started (by kernel_rfl) Try.func8
    (ChangeSpec.witness6 (enc := enc) (C := Try.checked) false ⟨#[], #[.int .u64 0, .int .i64 0, .int .i64 0], []⟩ 8 (by kernel_rfl) (by kernel_rfl) (by kernel_rfl) (by kernel_rfl)) ?_
  intro W base args ds gs before hval0 hW hcnd _
  have hval : ∀ (j : Nat) t v, Try.f8.params[j]? = some t → args[j]? = some v → Value.okWide Try.prog W .any base t v := hval0
  have hW' := hW
  obtain ⟨p, q, hA0, hV, rfl, hfz, hnd⟩ := hW
  have hA : DataW.TrodAll enc Try.prog W 0 (fun _ => true) true Try.f8.params.toList args.toList ds p := hA0
  rw [Try.params8] at hA hval
  obtain ⟨v0, vs0, d0, ds0, p0, q0, hargs, rfl, rfl, h0, r0⟩ := trodAll_cons hA
  obtain ⟨v1, vs1, d1, ds1, p1, q1, rfl, rfl, rfl, h1, r1⟩ := trodAll_cons r0
  obtain ⟨v2, vs2, d2, ds2, p2, q2, rfl, rfl, rfl, h2, r2⟩ := trodAll_cons r1
  obtain ⟨rfl, rfl, rfl⟩ := trodAll_nil r2
  obtain rfl : args = #[v0, v1, v2] := by cases args; simp_all
  obtain ⟨rfl, rfl⟩ := trodVars_none hV
  obtain ⟨a0, rfl, rfl, rfl, w0⟩ := open_int Try.underlying22 (hval 0 22 v0 rfl rfl) h0
  obtain ⟨a1, rfl, rfl, rfl, w1⟩ := open_int Try.underlying3 (hval 1 3 v1 rfl rfl) h1
  obtain ⟨a2, rfl, rfl, rfl, w2⟩ := open_int Try.underlying3 (hval 2 3 v2 rfl rfl) h2
  clear hA0 hval0
  simp only [List.append_nil] at hW'
  refine (walk a0 a1 a2 w0 w1 w2 W).mono fun e W' ⟨he, hg⟩ => ?_
  subst he
  exact ⟨_, rfl, post_of_same (pa := []) (pv := []) hW' (fun _ _ _ => (trodAll_cons_mk (shut_bool Try.underlying4 _) trodAll_mk0)) (fun sp _ => (trodAll_cons_mk (shut_int Try.underlying22 w0) (trodAll_cons_mk (shut_int Try.underlying3 w1) (trodAll_cons_mk (shut_int Try.underlying3 w2) trodAll_mk0)))) (fun _ _ => rfl) rfl
    (hg.frame _) hg.2.1 (ok_one (by kernel_rfl) rfl (okWide_bool_mk Try.underlying4 _))⟩

theorem over : Rows.seqwordSlotsRow.holds Try.pinned (OpenSpec.ofChange Rows.seqwordSlotsSpec) :=
  OpenClaim.holds_of_wide 8 Try.f8 rfl rfl rfl rfl rfl rfl rfl ⟨rfl, rfl, rfl, rfl, rfl⟩ rfl rfl rfl rfl rfl (by kernel_rfl) Try.func8 (by kernel_rfl)
    (of_decide_eq_true (by kernel_rfl)) (by unfold Func.isWrapper; first | (rw [if_pos (by decide +kernel)]; kernel_rfl) | (rw [if_neg (by decide +kernel)]; exact ⟨rfl, rfl⟩))
    (fun os started H enc _ => lifted os started H enc)

/-- ████ THE STATEMENT ████ -/
theorem proved : Rows.SeqwordSlotsSaid :=
  over
end Go.Proofs.Ytmdkdmhnilebbaa.seqwordSlots
