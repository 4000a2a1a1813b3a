/- Proved: TraceThreads returns true, and its arguments read afterwards as before, for every list of codes and every thread; no condition. -/
import Derived.Test.YtkpnakomlfjndaaLaw
import Derived.Test.YtkpnakomlfjndaaL6Awake
import Derived.Test.YtkpnakomlfjndaaOf
import Derived.Deep.DeepCutAuto
import Derived.LoopTactic
import Derived.WalkKit
import Derived.ProofKit
import Derived.OpenShut
import Derived.SizedLaws
namespace Go.Proofs.Ytkpnakomlfjndaa.traceThreads
open Go.ChangeShapes Go.WideShapes Go.ChangeAt Go.RowKit
set_option linter.unusedVariables false
theorem sum3 : ∀ l : List ItemM, (∀ x ∈ l, 0 ≤ x.thr ∧ x.thr < 3) → (ofE l 0).length + (ofE l 1).length + (ofE l 2).length = l.length
  | [], _ => rfl
  | x :: l, h => by
    have ih := sum3 l fun y hy => h y (List.mem_cons_of_mem _ hy)
    have hx := h x (List.mem_cons_self ..)
    unfold ofE at ih ⊢
    rcases (show x.thr = 0 ∨ x.thr = 1 ∨ x.thr = 2 by omega) with e | e | e
    all_goals
      simp [List.filter_cons, e]
      omega
theorem of_read {w : World} {base : Nat} {v : Value} {l : List ItemM} {t : Int} (h : OwnT w base v (ofE l t)) (hl : l.length ≤ 1000) (hg : ∀ x ∈ l, x.good) : SlT w v (ofE l t) :=
  h.read (by have := List.length_filter_le (fun x : ItemM => x.thr == t) l; unfold ofE; omega) fun x hx => hg x (List.mem_filter.1 hx).1
theorem of_le (l : List ItemM) (t : Int) : (ofE l t).length ≤ l.length := List.length_filter_le _ _
def cntE (l : List ItemM) : Nat → Nat
  | 0 => 0
  | t + 1 => cntE l t + (ofE l t).length
theorem cnt_le {l : List ItemM} {m : Nat} (hl : l.length ≤ m) : ∀ t, t ≤ 3 → cntE l t ≤ t * m
  | 0, _ => by simp [cntE]
  | t + 1, h => by
    have := cnt_le hl t (by omega)
    have h2 := of_le l t
    show cntE l t + (ofE l t).length ≤ (t + 1) * m
    rw [Nat.succ_mul]
    omega
set_option maxRecDepth 100000 in
set_option maxHeartbeats 8000000 in
theorem walk (w : World) (v0 : Value) (l0 : List Int) (s0 : SlI w .u8 v0 l0) (a1 : Int) (w1 : (Lit.int .i64 a1).wf = true) :
    Calls Try.prog 8 #[v0, .int .i64 a1] w fun e w' => e = .returned (.bool true) ∧ Below w.heap.size w w' := by
  have AW := Lib.hid fun w' => awake6_any w'
  have HS0 := Lib.hid s0
  clear s0 w1
  go_enter Try.func8, Try.ntmps8
  go_wp2_with fail
  refine (AW.out _).mono ?_; rintro e wa ⟨rfl, hba⟩
  have HBA := Lib.hid hba
  clear hba AW
  go_wp2_with fail
  refine (new_any _ l0 200 _ (HS0.out.below HBA.out) (by omega)).mono ?_; rintro e wb ⟨rfl, hcb, hbb⟩
  have HBB := Lib.hid (below_then HBA.out hbb)
  have hgz := HBA.out.size
  have HCB : Hid (CodesE wb wa.heap.size) := ⟨_, _, hcb⟩
  clear hcb hbb HS0
  generalize wa.heap.size = g at *
  go_wp2_with fail
  refine (itemsE g 3 40 _ HCB.out (by omega) (by omega)).mono ?_; rintro e w3 ⟨v3, l, rfl, ho3, hl3, hgood, hc3, hg3⟩
  have HB3 : Hid (Below w.heap.size w w3) := (HBB.out).grown hg3 HBB.out.size (fun k hk => by cases hk; exact hgz)
  have HGA : Hid (∀ x ∈ l, x.good) := fun x hx => (hgood x hx).1
  have HG := Lib.hid hgood
  have hl40 : l.length ≤ 40 := by omega
  have HL : Hid (SlT w3 v3 l) := ho3.read (by omega) HGA.out
  obtain ⟨A, c, rfl, -⟩ := HL.out.len
  clear ho3 hl3 hgood hc3 hg3 HCB HBB HBA
  have HSUM : Hid (cntE l 3 = l.length) := by
    have := sum3 l fun x hx => (HG.out x hx).2
    show 0 + (ofE l (0 : Nat)).length + (ofE l (1 : Nat)).length + (ofE l (2 : Nat)).length = l.length
    simpa using this
  have HCL := Lib.hid (cnt_le hl40)
  go_wp2_with fail
  go_loopw [6, 7] (fun u6 u7 wr => ∃ t : Nat, t ≤ 3 ∧ u6 = .int .i64 (cntE l t) ∧ u7 = .int .i64 t ∧ Hid (Below w3.heap.size w3 wr)) (fun _ u7 _ => 4 - (intOf u7).toNat)
  case atStart => exact ⟨0, by omega, rfl, rfl, Below.refl _ _⟩
  case round =>
    obtain ⟨t, ht, rfl, rfl, HBo⟩ := hrel
    obtain ⟨wo, rfl⟩ : ∃ wo : World, wo = wr := ⟨_, rfl⟩
    have hcl := HCL.out t ht
    by_cases hlt : t < 3
    · have hltI : (t : Int) < 3 := by omega
      go_wp2_with fail
      refine (of_any _ l t _ (HL.out.below HBo.out) (by omega)).mono ?_; rintro e w4 ⟨v4, rfl, ho4, hb4⟩
      obtain ⟨A4, c4, rfl⟩ := ho4.len
      have HO4 := Lib.hid (of_read ho4 (by omega) HGA.out)
      have HB4 := Lib.hid (below_then HBo.out hb4)
      clear ho4 hb4 HBo
      go_wp2_with fail
      refine (rof_any _ l t _ (HL.out.below HB4.out) (by omega)).mono ?_; rintro e w5 ⟨v5, rfl, ho5, hb5⟩
      have HO5 := Lib.hid (of_read ho5 (by omega) HGA.out)
      have HO45 := Lib.hid (HO4.out.below hb5)
      have HB5 := Lib.hid (below_then HB4.out hb5)
      clear ho5 hb5 HB4 HO4
      have hle := of_le l t
      go_wp2_with fail
      refine (sameItems_true _ _ (ofE l t) _ HO45.out HO5.out (by omega)).mono ?_; rintro e w6 ⟨rfl, hb6⟩
      have HB6 := Lib.hid (below_then HB5.out hb6)
      have HN : Hid ((cntE l t : Int) + ((ofE l t).length : Nat) = (cntE l (t + 1) : Nat)) := by
        show (cntE l t : Int) + ((ofE l t).length : Nat) = ((cntE l t + (ofE l t).length : Nat) : Int)
        omega
      have hnw : IntKind.i64.wrap ((cntE l t : Int) + ((ofE l t).length : Nat)) = (cntE l t : Int) + ((ofE l t).length : Nat) := by rw [IntKind.wrap_i64]; omega
      clear hb6
      go_wp2
      go_roundw
      case rel => exact ⟨t + 1, by omega, by rw [HN.out], by go_num, HB6⟩
      case measure => simp [intOf]; omega
    · obtain rfl : t = 3 := by omega
      rw [HSUM.out]
      go_wp2_with fail
      refine (of_any _ l a1 _ (HL.out.below HBo.out) (by omega)).mono ?_; rintro e w4 ⟨v4, rfl, ho4, hb4⟩
      have HO4 := Lib.hid (of_read ho4 (by omega) HGA.out)
      have HB4 := Lib.hid (below_then HBo.out hb4)
      clear ho4 hb4 HBo
      go_wp2_with fail
      refine (rof_any _ l a1 _ (HL.out.below HB4.out) (by omega)).mono ?_; rintro e w5 ⟨v5, rfl, ho5, hb5⟩
      have HO5 := Lib.hid (of_read ho5 (by omega) HGA.out)
      have HO45 := Lib.hid (HO4.out.below hb5)
      have HB5 := Lib.hid (below_then HB4.out hb5)
      clear ho5 hb5 HB4 HO4
      have hle := of_le l a1
      go_wp2_with fail
      refine (sameItems_true _ _ (ofE l a1) _ HO45.out HO5.out (by omega)).mono ?_; rintro e w6 ⟨rfl, hb6⟩
      have HB6 := Lib.hid (below_then HB3.out (below_then HB5.out hb6))
      go_wp2
      go_ret
      exact ⟨rfl, HB6.out⟩
set_option maxRecDepth 100000 in
theorem lifted (os : Os) (started : os.Started) (H : Type) (enc : TypeId × Value → H) :
    ReturnsInHanded {} Try.checked os 8 .any (Rows.traceThreadsSpec.pre6 enc Try.prog Try.f8 Rows.traceThreadsRow.domain false) (Rows.traceThreadsSpec.post enc Try.prog Try.f8 false true false false) := by
  refine returnsInHanded_of_change_sized (C := Try.checked) own started (by kernel_rfl) Try.func8
    (ChangeSpec.witness6 (enc := enc) (C := Try.checked) false ⟨#[], #[.slice none 0 0, .int .i64 0], []⟩ 8 (by kernel_rfl) (by kernel_rfl) (by kernel_rfl) (by kernel_rfl)) ?_
  intro W base args ds gs before hval0 hW _ hsz0 _
  have hsz : (DataW.weightsEach Try.prog (Try.f8.params.toList ++ Rows.traceThreadsSpec.plain.varTypes Try.prog) (ds ++ gs)).all (· ≤ reachBytes) = true := hsz0
  clear hsz0
  have hval : ∀ (j : Nat) t v, Try.f8.params[j]? = some t → args[j]? = some v → Value.okWide Try.prog W .any base t v := hval0
  have hW' := hW
  obtain ⟨p, q, hA0, hV, rfl, _, _⟩ := hW
  have hA : DataW.TrodAll enc Try.prog W 0 (fun _ => true) true Try.f8.params.toList args.toList ds p := hA0
  rw [Try.params8] at hA hval hsz
  obtain ⟨v0, vs0, d0, ds0, p0, q0, hargs, rfl, rfl, h0, r0⟩ := trodAll_cons hA
  obtain ⟨v1, vs1, d1, ds1, p1, q1, rfl, rfl, rfl, h1, r1⟩ := trodAll_cons r0
  obtain ⟨rfl, rfl, rfl⟩ := trodAll_nil r1
  obtain rfl : args = #[v0, v1] := by cases args; simp_all
  obtain ⟨rfl, rfl⟩ := trodVars_none hV
  have k0 := h0
  have k1 := h1
  obtain ⟨l0, s0⟩ := view_sl (k := .u8) Try.underlying29 Try.underlying5 (by kernel_rfl) (fun elems sp hd => sized_slice hsz (j := 0) (t := 29) (e := 5) rfl (by rw [hd]; rfl) Try.underlying29) (of_decide_eq_true (by kernel_rfl)) (hval 0 29 v0 rfl rfl) h0
  obtain ⟨a1, rfl, -, -, w1⟩ := open_int Try.underlying3 (hval 1 3 v1 rfl rfl) h1
  clear hA0 hval0
  simp only [List.append_nil] at hW'
  have hlt := hW'.lt
  refine (walk W v0 l0 s0 a1 w1).mono fun e W' ⟨he, hb⟩ => ?_
  subst he
  exact ⟨_, rfl, _, _, _, [], _, [], hW', trodAll_cons_mk (shut_bool Try.underlying4 _) trodAll_mk0, (trodAll_cons_mk (Below.trod Try.laidOut (by kernel_rfl) (of_decide_eq_true (by kernel_rfl)) k0 hb (fun x hx => by simpa using hlt x (by simp [hx]))) (trodAll_cons_mk (Below.trod Try.laidOut (by kernel_rfl) (of_decide_eq_true (by kernel_rfl)) k1 hb (fun x hx => by simpa using hlt x (by simp [hx]))) trodAll_mk0)), rfl, hb.frame _, fun h => by cases h⟩
theorem over : Rows.traceThreadsRow.holds Try.pinned (OpenSpec.ofChange Rows.traceThreadsSpec) :=
  OpenClaim.holds_of_wide 8 Try.f8 rfl rfl rfl rfl rfl rfl rfl ⟨rfl, rfl, rfl, rfl, rfl⟩ rfl rfl rfl rfl rfl (by kernel_rfl) Try.func8 (by kernel_rfl)
    (of_decide_eq_true (by kernel_rfl)) (by unfold Func.isWrapper; first | (rw [if_pos (by decide +kernel)]; kernel_rfl) | (rw [if_neg (by decide +kernel)]; exact ⟨rfl, rfl⟩))
    (fun os started H enc _ => lifted os started H enc)
/-- THE STATEMENT -/
theorem proved : Rows.TraceThreadsSaid :=
  over
end Go.Proofs.Ytkpnakomlfjndaa.traceThreads
