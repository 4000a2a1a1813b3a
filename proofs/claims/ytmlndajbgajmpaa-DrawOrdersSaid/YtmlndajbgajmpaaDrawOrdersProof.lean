/- Proved: DrawOrders returns true, and its arguments read afterwards as before, for every int n, every list raw of ints and every list codes of bytes; no condition. -/
import Derived.Test.YtmlndajbgajmpaaLaw
import Derived.Test.YtmlndajbgajmpaaL2Awake
import Derived.LoopTactic
import Derived.WalkKit
import Derived.ProofKit
import Derived.OpenShut
import Derived.SizedLaws
namespace Go.Proofs.Ytmlndajbgajmpaa.drawOrders
open Go.ChangeShapes Go.WideShapes Go.ChangeAt Go.RowKit
set_option linter.unusedVariables false
theorem walk (w : World) (a0 : Int) (w0 : (Lit.int .i64 a0).wf = true) (v1 : Value) (l1 : List Int) (s1 : SlI w .i64 v1 l1) (v2 : Value) (l2 : List Int) (s2 : SlI w .u8 v2 l2) :
    Calls Try.prog 3 #[.int .i64 a0, v1, v2] w fun e w' => e = .returned (.bool true) ∧ Below w.heap.size w w' := by
  by_cases h40 : 40 < l1.length
  · obtain ⟨a, cap, rfl, _⟩ := s1.len
    have := s1.1
    have A := Lib.hid (awake_any w)
    clear s1 s2
    go_enter Try.func3, Try.ntmps3
    go_wp2_with (go_at_call 9; refine A.out.mono ?_; rintro e w' ⟨rfl, hb⟩)
    go_ret
    exact ⟨rfl, by assumption⟩
  · have hlen := s1.len
    obtain ⟨a, cap, rfl, _⟩ := hlen
    have hl1 := s1.1
    have A := Lib.hid (awake_any w)
    have S1 := Lib.hid s1
    have S2 := Lib.hid s2
    have NB := nxt_bd (l2.take 30) 23 (by omega)
    clear s1 s2
    generalize hX : nxt (l2.take 30) 23 = x at *
    have HX := Lib.hid hX
    clear hX
    obtain ⟨nb0, nb1⟩ := NB
    go_enter Try.func3, Try.ntmps3
    go_wp2_with (first
      | (go_at_call 9; refine A.out.mono ?_; rintro e w1 ⟨rfl, hb1⟩)
      | (go_at_call 10; refine (new_any _ l2 30 w1 (S2.out.below hb1) (by omega)).mono ?_; rintro e w2 ⟨rfl, hc2, hb2⟩)
      | (go_at_call 11; refine (next_any _ _ 0 _ w2 hc2 (by omega) (by omega)).mono ?_; rintro e w3 ⟨rfl, hc3, hb3⟩; rw [HX.out])
      | (go_at_call 12; refine (draws_get _ _ 0 _ w3 hc3 (by omega) (by omega)).mono ?_; rintro e w4 ⟨u, rfl, hu, hc4, hb4⟩))
    all_goals
      have hB : Below w.heap.size w w4 := below_grown (below_grown (below_then hb1 hb2) hb3 hb1.size) hb4 hb1.size
      generalize drawsL _ _ _ = D at hu
      clear hc2 hc3 hc4 hb1 hb2 hb3 hb4 HX A S2
      refine (order_read _ _ l1 _ (S1.out.below hB)).mono ?_; rintro e w5 ⟨u1, rfl, hu1, hb5⟩
      go_wp2_with fail
      refine (rorder_read _ _ l1 _ (S1.out.below (below_then hB hb5))).mono ?_; rintro e w6 ⟨u2, rfl, hu2, hb6⟩
      go_wp2_with fail
      refine (same_any _ _ _ _ _ (hu1.below hb6) hu2).mono ?_; rintro e w7 ⟨n7, rfl, rfl⟩; rw [decide_eq_true rfl]
      have hB6 := below_drewN (below_then (below_then hB hb5) hb6) n7
      have hu6 := ((hu.below hb5).below hb6).drew n7
      clear hu1 hu2
      generalize w6.drewN n7 = w7 at *
      go_wp2_with fail
      refine (order_read _ _ l1 _ (S1.out.below hB6)).mono ?_; rintro e w8 ⟨u1, rfl, hu1, hb8⟩
      go_wp2_with fail
      refine (rorder_read _ _ l1 _ (S1.out.below (below_then hB6 hb8))).mono ?_; rintro e w9 ⟨u2, rfl, hu2, hb9⟩
      go_wp2_with fail
      refine (same_any _ _ _ _ _ (hu1.below hb9) hu2).mono ?_; rintro e wa ⟨na, rfl, rfl⟩; rw [decide_eq_true rfl]
      have hB9 := below_drewN (below_then (below_then hB6 hb8) hb9) na
      have hu9 := ((hu6.below hb8).below hb9).drew na
      clear hu1 hu2
      generalize w9.drewN na = wa at *
      go_wp2_with fail
      refine (order_read _ _ D _ hu9).mono ?_; rintro e wb ⟨u1, rfl, hu1, hbb⟩
      go_wp2_with fail
      refine (rorder_read _ _ D _ (hu9.below hbb)).mono ?_; rintro e wc ⟨u2, rfl, hu2, hbc⟩
      go_wp2_with fail
      refine (same_any _ _ _ _ _ (hu1.below hbc) hu2).mono ?_; rintro e wd ⟨nd, rfl, rfl⟩; rw [decide_eq_true rfl]
      have hBc := below_drewN (below_then (below_then hB9 hbb) hbc) nd
      clear hu1 hu2
      generalize wc.drewN nd = we at *
      go_wp2
      go_ret
      exact ⟨rfl, hBc⟩
set_option maxRecDepth 100000 in
theorem lifted (os : Os) (started : os.Started) (H : Type) (enc : TypeId × Value → H) :
    ReturnsInHanded {} Try.checked os 3 .any (Rows.drawOrdersSpec.pre6 enc Try.prog Try.f3 Rows.drawOrdersRow.domain false) (Rows.drawOrdersSpec.post enc Try.prog Try.f3 false true false false) := by
  refine returnsInHanded_of_change_sized (C := Try.checked) own started (by kernel_rfl) Try.func3
    (ChangeSpec.witness6 (enc := enc) (C := Try.checked) false ⟨#[], #[.int .i64 0, .slice none 0 0, .slice none 0 0], []⟩ 8 (by kernel_rfl) (by kernel_rfl) (by kernel_rfl) (by kernel_rfl)) ?_
  intro W base args ds gs before hval0 hW _ hsz0 _
  have hsz : (DataW.weightsEach Try.prog (Try.f3.params.toList ++ Rows.drawOrdersSpec.plain.varTypes Try.prog) (ds ++ gs)).all (· ≤ reachBytes) = true := hsz0
  clear hsz0
  have hval : ∀ (j : Nat) t v, Try.f3.params[j]? = some t → args[j]? = some v → Value.okWide Try.prog W .any base t v := hval0
  have hW' := hW
  obtain ⟨p, q, hA0, hV, rfl, _, _⟩ := hW
  have hA : DataW.TrodAll enc Try.prog W 0 (fun _ => true) true Try.f3.params.toList args.toList ds p := hA0
  rw [Try.params3] at hA hval hsz
  obtain ⟨v0, vs0, d0, ds0, p0, q0, hargs, rfl, rfl, h0, r0⟩ := trodAll_cons hA
  obtain ⟨v1, vs1, d1, ds1, p1, q1, rfl, rfl, rfl, h1, r1⟩ := trodAll_cons r0
  obtain ⟨v2, vs2, d2, ds2, p2, q2, rfl, rfl, rfl, h2, r2⟩ := trodAll_cons r1
  obtain ⟨rfl, rfl, rfl⟩ := trodAll_nil r2
  obtain rfl : args = #[v0, v1, v2] := by cases args; simp_all
  obtain ⟨rfl, rfl⟩ := trodVars_none hV
  have k0 := h0
  have k1 := h1
  have k2 := h2
  obtain ⟨a0, rfl, -, -, w0⟩ := open_int Try.underlying3 (hval 0 3 v0 rfl rfl) h0
  obtain ⟨l1, s1⟩ := view_sl (k := .i64) Try.underlying22 Try.underlying3 (by kernel_rfl) (fun elems sp hd => sized_slice hsz (j := 1) (t := 22) (e := 3) rfl (by rw [hd]; rfl) Try.underlying22) (of_decide_eq_true (by kernel_rfl)) (hval 1 22 v1 rfl rfl) h1
  obtain ⟨l2, s2⟩ := view_sl (k := .u8) Try.underlying23 Try.underlying5 (by kernel_rfl) (fun elems sp hd => sized_slice hsz (j := 2) (t := 23) (e := 5) rfl (by rw [hd]; rfl) Try.underlying23) (of_decide_eq_true (by kernel_rfl)) (hval 2 23 v2 rfl rfl) h2
  clear hA0 hval0
  simp only [List.append_nil] at hW'
  have hlt := hW'.lt
  refine (walk W a0 w0 v1 l1 s1 v2 l2 s2).mono fun e W' ⟨he, hb⟩ => ?_
  subst he
  exact ⟨_, rfl, _, _, _, [], _, [], hW', trodAll_cons_mk (shut_bool Try.underlying4 _) trodAll_mk0, (trodAll_cons_mk (Below.trod Try.laidOut (by kernel_rfl) (of_decide_eq_true (by kernel_rfl)) k0 hb (fun x hx => by simpa using hlt x (by simp [hx]))) (trodAll_cons_mk (Below.trod Try.laidOut (by kernel_rfl) (of_decide_eq_true (by kernel_rfl)) k1 hb (fun x hx => by simpa using hlt x (by simp [hx]))) (trodAll_cons_mk (Below.trod Try.laidOut (by kernel_rfl) (of_decide_eq_true (by kernel_rfl)) k2 hb (fun x hx => by simpa using hlt x (by simp [hx]))) trodAll_mk0))), rfl, hb.frame _, fun h => by cases h⟩
theorem over : Rows.drawOrdersRow.holds Try.pinned (OpenSpec.ofChange Rows.drawOrdersSpec) :=
  OpenClaim.holds_of_wide 3 Try.f3 rfl rfl rfl rfl rfl rfl rfl ⟨rfl, rfl, rfl, rfl, rfl⟩ rfl rfl rfl rfl rfl (by kernel_rfl) Try.func3 (by kernel_rfl)
    (of_decide_eq_true (by kernel_rfl)) (by unfold Func.isWrapper; first | (rw [if_pos (by decide +kernel)]; kernel_rfl) | (rw [if_neg (by decide +kernel)]; exact ⟨rfl, rfl⟩))
    (fun os started H enc _ => lifted os started H enc)
/-- THE STATEMENT -/
theorem proved : Rows.DrawOrdersSaid :=
  over
end Go.Proofs.Ytmlndajbgajmpaa.drawOrders
