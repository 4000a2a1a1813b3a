/- Proved: DrawTrip returns true, and its argument reads afterwards as before, for every list codes of bytes; no condition. -/
import Derived.Test.YtmlndajbgajmpaaLaw
import Derived.Test.YtmlndajbgajmpaaL2Awake
import Derived.Test.YtmlndajbgajmpaaL2Draws
import Derived.LoopTactic
import Derived.WalkKit
import Derived.ProofKit
import Derived.OpenShut
import Derived.SizedLaws
namespace Go.Proofs.Ytmlndajbgajmpaa.drawTrip
open Go.ChangeShapes Go.WideShapes Go.ChangeAt Go.RowKit
set_option linter.unusedVariables false
theorem walk (w : World) (v0 : Value) (l0 : List Int) (s0 : SlI w .u8 v0 l0) :
    Calls Try.prog 5 #[v0] w fun e w' => e = .returned (.bool true) ∧ Below w.heap.size w w' := by
  have A := Lib.hid (awake_any w)
  have S0 := Lib.hid s0
  have NB := nxt_bd (l0.take 30) 20 (by omega)
  clear s0
  generalize hX : nxt (l0.take 30) 20 = x at *
  have HX := Lib.hid hX
  clear hX
  obtain ⟨nb0, nb1⟩ := NB
  obtain ⟨n, rfl⟩ : ∃ n : Nat, x = n := ⟨x.toNat, by omega⟩
  have hn : n < 20 := by omega
  clear nb0 nb1
  go_enter Try.func5, Try.ntmps5
  go_wp2_with (first
    | (go_at_call 9; refine A.out.mono ?_; rintro e w1 ⟨rfl, hb1⟩)
    | (go_at_call 10; refine (new_any _ l0 30 w1 (S0.out.below hb1) (by omega)).mono ?_; rintro e w2 ⟨rfl, hc2, hb2⟩)
    | (go_at_call 11; refine (next_any _ _ 0 _ w2 hc2 (by omega) (by omega)).mono ?_; rintro e w3 ⟨rfl, hc3, hb3⟩; rw [HX.out])
    | (go_at_call 12; refine (draws_get _ _ 0 _ w3 hc3 (by omega) (by omega)).mono ?_; rintro e w4 ⟨u, rfl, hu, hc4, hb4⟩))
  have hB : Below w.heap.size w w4 := below_grown (below_grown (below_then hb1 hb2) hb3 hb1.size) hb4 hb1.size
  have OK := drawsL_ok (l0.take 30).tail (1 + (n : Int)).toNat
  have DL := drawsL_length (l0.take 30).tail 0 (1 + (n : Int)).toNat
  generalize drawsL _ _ _ = D at hu OK DL
  clear hc2 hc3 hc4 hb1 hb2 hb3 hb4 HX A S0
  refine (order_any _ _ D _ hu (by omega) (by omega)).mono ?_; rintro e w5 ⟨rfl, ho5, hb5⟩
  rw [show (1 + (n : Int)).toNat = n + 1 by omega] at *
  have FU := shuf_full D (n + 1) (n + 1 - 1) (asc (n + 1)) (full_asc _) (by omega)
  have UB := Lib.hid (un_back D (n + 1) (by omega) OK DL)
  have DI := Lib.hid (show ordL (1 + (n : Int)) D = shuf D (n + 1 - 1) (asc (n + 1)) by unfold ordL; rw [if_pos (by omega), show (1 + (n : Int)).toNat = n + 1 by omega])
  generalize shuf D (n + 1 - 1) (asc (n + 1)) = L at *
  have hL := FU.1
  have hS5 := Lib.hid (ho5.read (by omega) (fun x hx => i64_ok x (by have := FU.range x hx; omega) (by have := FU.range x hx; omega)))
  have hB5 := Lib.hid (below_then hB hb5)
  have hU5 := Lib.hid (hu.below hb5)
  have hqq : (((n : Int) + 1) != (1 + (n : Int))) = false := by simp; omega
  clear hB hb5 hu ho5 hL
  go_wp2_with (at_make; refine wp_make_bool w5 rfl _ _ rfl (n + 1) _ _ rfl rfl ?_ ?_ ?_ ?_; omega; omega; omega; intro w6 ho6 hb6)
  have hS6 := Lib.hid (hS5.out.below hb6)
  have hU6 := Lib.hid (hU5.out.below hb6)
  have hB6 := Lib.hid (below_then hB5.out hb6)
  have HB56 := Lib.hid hb6
  rw [← seenL_zero (n + 1) L] at ho6
  have hw6 : w.heap.size ≤ w5.heap.size := hB5.out.size
  have FUH := Lib.hid FU
  have OKH := Lib.hid OK
  have DLH := Lib.hid DL
  have hs5 := hS5.out
  obtain ⟨_, _, aL, capL, eL, _, hcL⟩ := hs5
  simp only [Value.slice.injEq] at eL
  obtain ⟨rfl, hLn, rfl⟩ := eL
  have hcL : ∀ t, t < n + 1 → w4.heap.size < w5.heap.size ∧ w5.cell? ⟨w4.heap.size, t, none⟩ = some (.int .i64 (L.getD t 0)) := fun t ht => by
    obtain ⟨b, off, e, h1, h2⟩ := hcL t (by omega)
    simp only [Option.some.injEq, Addr.mk.injEq, and_true] at e
    obtain ⟨rfl, rfl⟩ := e
    rw [Nat.zero_add] at h2
    exact ⟨h1, h2⟩
  have HC := Lib.hid hcL
  clear hb6 FU OK DL hcL hLn
  go_loopw [8, 32] (fun _ c wr => ∃ k : Nat, k ≤ n + 1 ∧ c = .int .i64 k ∧ Hid (OwnB wr w5.heap.size 4 (.slice (some ⟨w5.heap.size, 0, none⟩) (n + 1) (n + 1)) (seenL (n + 1) L k)) ∧ Hid (Below w5.heap.size w5 wr)) (fun _ c _ => n + 1 - (intOf c).toNat)
  case atStart => exact ⟨0, by omega, rfl, ho6, HB56⟩
  case round =>
    clear ho6
    obtain ⟨k, hk, rfl, ho, hb⟩ := hrel
    by_cases hlt : k < n + 1
    · obtain ⟨h45, hc⟩ := HC.out k hlt
      have hc := (hb.out.cell (p := ⟨w4.heap.size, k, none⟩) h45).trans hc
      have hr := FUH.out.range _ (mem_of_getD L k (by rw [FUH.out.1]; exact hlt))
      obtain ⟨p, hp⟩ : ∃ p : Nat, L.getD k 0 = p := ⟨(L.getD k 0).toNat, by omega⟩
      rw [hp] at hc hr
      obtain ⟨hr0, hr1⟩ := hr
      have hpn : p < n + 1 := by omega
      obtain ⟨c1, c2⟩ := ho.out.cell p (by rw [seenL_length]; exact hpn)
      have hno := seen_no (n + 1) L FUH.out k hlt
      rw [seenL_get _ _ _ _ hpn, decide_eq_false (by rw [← hp]; exact hno)] at c1
      have ST := ho.out.store p true (by rw [seenL_length])
      rw [seenL_step (n + 1) L k p (by rw [FUH.out.1]; exact hlt) hp hpn] at ST
      have ST := Lib.hid ST
      have BL := Lib.hid (hb.out.setCell (p := ⟨w5.heap.size, p, none⟩) (Nat.le_refl _) (.bool true))
      have h54 : ¬ w4.heap.size = w5.heap.size := by omega
      have h4n : ¬ w5.heap.size = w4.heap.size := by omega
      clear hno hp
      go_wp2
      go_roundw
      case rel => exact ⟨k + 1, by omega, by go_num, ST, BL⟩
      case measure => simp [intOf]; omega
    · have HS := Lib.hid (hS5.out.below hb.out)
      have HU := Lib.hid (hU5.out.below hb.out)
      have HB := Lib.hid (below_then hB5.out hb.out)
      have YES := Lib.hid (drw_yes L (by rw [FUH.out.1]; omega) (by rw [FUH.out.1]; exact FUH.out))
      have UP := Lib.hid (unperm_any (.slice (some ⟨w4.heap.size, 0, none⟩) (n + 1) (n + 1)) L)
      clear hk
      go_wp2_with fail
      refine (UP.out _ HS.out).mono ?_; rintro e wa ⟨ue, rfl, hue, hba⟩
      rw [YES.out.1]
      rw [YES.out.2, FUH.out.1, UB.out] at hue
      go_wp2_with fail
      refine (same_any _ _ D D _ (HU.out.below hba) hue).mono ?_; rintro e wb ⟨nb, rfl, rfl⟩; rw [decide_eq_true rfl]
      have hue := hue.drew nb
      have hS7 := (HS.out.below hba).drew nb
      have hB7 := below_drewN (below_then HB.out hba) nb
      generalize wa.drewN nb = wb at *
      clear hba
      go_wp2_with fail
      refine (order_read _ _ D _ hue).mono ?_; rintro e wc ⟨uo, rfl, huo, hbc⟩
      rw [DI.out] at huo
      go_wp2_with fail
      refine (same_any _ _ L L _ huo (hS7.below hbc)).mono ?_; rintro e wd ⟨nd, rfl, rfl⟩; rw [decide_eq_true rfl]
      have hB8 := Lib.hid (below_drewN (below_then hB7 hbc) nd)
      clear huo hbc hB7 hS7 hue
      go_wp2
      go_ret
      exact ⟨rfl, hB8.out⟩
set_option maxRecDepth 100000 in
theorem lifted (os : Os) (started : os.Started) (H : Type) (enc : TypeId × Value → H) :
    ReturnsInHanded {} Try.checked os 5 .any (Rows.drawTripSpec.pre6 enc Try.prog Try.f5 Rows.drawTripRow.domain false) (Rows.drawTripSpec.post enc Try.prog Try.f5 false true false false) := by
  refine returnsInHanded_of_change_sized (C := Try.checked) own started (by kernel_rfl) Try.func5
    (ChangeSpec.witness6 (enc := enc) (C := Try.checked) false ⟨#[], #[.slice none 0 0], []⟩ 8 (by kernel_rfl) (by kernel_rfl) (by kernel_rfl) (by kernel_rfl)) ?_
  intro W base args ds gs before hval0 hW _ hsz0 _
  have hsz : (DataW.weightsEach Try.prog (Try.f5.params.toList ++ Rows.drawTripSpec.plain.varTypes Try.prog) (ds ++ gs)).all (· ≤ reachBytes) = true := hsz0
  clear hsz0
  have hval : ∀ (j : Nat) t v, Try.f5.params[j]? = some t → args[j]? = some v → Value.okWide Try.prog W .any base t v := hval0
  have hW' := hW
  obtain ⟨p, q, hA0, hV, rfl, _, _⟩ := hW
  have hA : DataW.TrodAll enc Try.prog W 0 (fun _ => true) true Try.f5.params.toList args.toList ds p := hA0
  rw [Try.params5] at hA hval hsz
  obtain ⟨v0, vs0, d0, ds0, p0, q0, hargs, rfl, rfl, h0, r0⟩ := trodAll_cons hA
  obtain ⟨rfl, rfl, rfl⟩ := trodAll_nil r0
  obtain rfl : args = #[v0] := by cases args; simp_all
  obtain ⟨rfl, rfl⟩ := trodVars_none hV
  have k0 := h0
  obtain ⟨l0, s0⟩ := view_sl (k := .u8) Try.underlying23 Try.underlying5 (by kernel_rfl) (fun elems sp hd => sized_slice hsz (j := 0) (t := 23) (e := 5) rfl (by rw [hd]; rfl) Try.underlying23) (of_decide_eq_true (by kernel_rfl)) (hval 0 23 v0 rfl rfl) h0
  clear hA0 hval0
  simp only [List.append_nil] at hW'
  have hlt := hW'.lt
  refine (walk W v0 l0 s0).mono fun e W' ⟨he, hb⟩ => ?_
  subst he
  exact ⟨_, rfl, _, _, _, [], _, [], hW', trodAll_cons_mk (shut_bool Try.underlying4 _) trodAll_mk0, (trodAll_cons_mk (Below.trod Try.laidOut (by kernel_rfl) (of_decide_eq_true (by kernel_rfl)) k0 hb (fun x hx => by simpa using hlt x (by simp [hx]))) trodAll_mk0), rfl, hb.frame _, fun h => by cases h⟩
theorem over : Rows.drawTripRow.holds Try.pinned (OpenSpec.ofChange Rows.drawTripSpec) :=
  OpenClaim.holds_of_wide 5 Try.f5 rfl rfl rfl rfl rfl rfl rfl ⟨rfl, rfl, rfl, rfl, rfl⟩ rfl rfl rfl rfl rfl (by kernel_rfl) Try.func5 (by kernel_rfl)
    (of_decide_eq_true (by kernel_rfl)) (by unfold Func.isWrapper; first | (rw [if_pos (by decide +kernel)]; kernel_rfl) | (rw [if_neg (by decide +kernel)]; exact ⟨rfl, rfl⟩))
    (fun os started H enc _ => lifted os started H enc)
/-- THE STATEMENT -/
theorem proved : Rows.DrawTripSaid :=
  over
end Go.Proofs.Ytmlndajbgajmpaa.drawTrip
