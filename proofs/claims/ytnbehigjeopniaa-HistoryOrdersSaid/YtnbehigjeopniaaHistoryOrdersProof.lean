/- Proved: HistoryOrders returns true, and its argument reads afterwards as before, for every list of codes; no condition. -/
import Derived.Deep.DeepCutAuto
import Derived.Deep.CutBlock
import Derived.LoopTactic
import Derived.WalkKit
import Derived.ProofKit
import Derived.OpenShut
import Derived.SizedLaws
import Derived.Test.YtnbehigjeopniaaB01
import Derived.Test.YtnbehigjeopniaaB15
import Derived.Test.YtnbehigjeopniaaB18
namespace Go.Proofs.Ytnbehigjeopniaa.historyOrders
open Go.ChangeShapes Go.WideShapes Go.ChangeAt Go.RowKit
set_option linter.unusedVariables false
set_option linter.unusedSimpArgs false
set_option maxRecDepth 100000 in
set_option maxHeartbeats 16000000 in
theorem walk (w : World) (v0 : Value) (l0 : List Int) (s0 : SlI w .u8 v0 l0) :
    Calls Try.prog 6 #[v0] w fun e w' => e = .returned (.bool true) ∧ Below w.heap.size w w' := by
  have AW := Lib.hid (awake_any w)
  have HS0 := Lib.hid s0
  clear s0
  go_enter Try.func6, Try.ntmps6
  go_wp2_with fail
  refine AW.out.mono ?_; rintro e w1 ⟨rfl, hb1⟩
  have HB1 := Lib.hid hb1
  clear hb1 AW
  go_wp2_with fail
  refine (made_any v0 l0 w1 (HS0.out.below HB1.out)).mono ?_; rintro e w2 ⟨vo, ns, vl, L, rfl, hso, hsl, hhis, hlen, hns, hb2⟩
  have HB2 := Lib.hid (below_then HB1.out hb2)
  have HHIS := Lib.hid hhis
  have HSO := Lib.hid hso
  have HSL := Lib.hid hsl
  obtain ⟨al, kl, rfl, -⟩ := hsl.lenE
  obtain ⟨ao, ko, rfl⟩ := hso.len
  clear hso hsl hhis hb2 HS0 HB1
  have TC := Lib.hid fun w' (hb : Below w2.heap.size w2 w') => ercalls_any _ L w' (HSL.out.below hb) (by omega)
  have hcl : (callsE L).length ≤ 40 := Nat.le_trans (callsE_le _) (by omega)
  obtain ⟨cl, hcle⟩ : ∃ x, callsE L = x := ⟨_, rfl⟩
  rw [hcle] at TC hcl
  have HLN := Lib.hid hlen
  obtain ⟨nl, hnl⟩ : ∃ n, L.length = n := ⟨_, rfl⟩
  rw [hnl] at HSL TC
  rw [hnl]
  clear hcle hnl hlen hns HSO
  go_wp2_with fail
  refine (TC.out _ (Below.refl _ _)).mono ?_; rintro e w3 ⟨uc, rfl, hoc, hb3⟩
  have HSC : Hid (SlS w3 2 uc (caRows cl)) := hoc.sls (by rw [caRows_length]; omega)
  obtain ⟨ac, kc, hve⟩ := hoc.lenC
  subst hve
  have HB3 := Lib.hid (below_then HB2.out hb3)
  have HX3 := Lib.hid (HSL.out.below hb3)
  clear TC hoc hb3 HSL HB2
  go_wp2_with fail
  go_loopw [21] (fun u21 wr => ∃ i : Nat, u21 = .int .i64 i ∧ i ≤ cl.length ∧ Hid (Below w3.heap.size w3 wr)) (fun u21 _ => cl.length - (intOf u21).toNat)
  case atStart => exact ⟨0, rfl, by omega, Below.refl _ _⟩
  case round =>
    obtain ⟨i, rfl, hi, HBi⟩ := hrel
    obtain ⟨wq, rfl⟩ : ∃ wo : World, wo = wr := ⟨_, rfl⟩
    by_cases hlti : i < cl.length
    · have hltI : (i : Int) < (cl.length : Int) := by omega
      have HXq := Lib.hid (HX3.out.below HBi.out)
      have HCq := Lib.hid (HSC.out.below HBi.out)
      obtain ⟨⟨i1, i2⟩, he⟩ : ∃ e, cl.getD i (0, 0) = e := ⟨_, rfl⟩
      have HEi := Lib.hid he
      obtain ⟨b2, off2, cp2, hve, hb2, ci0, ci1⟩ := (HCq.out).ca i hlti he
      simp only [Value.slice.injEq] at hve
      obtain ⟨rfl, -, rfl⟩ := hve
      dsimp only at ci0 ci1
      clear he

      have T1 := Lib.hid fun w' (hb : Below wq.heap.size wq w') => hprec_any _ L (i1, i2) (i1, i2) w' (HXq.out.below hb)

      rw [prec_irrefl HHIS.out (i1, i2)] at T1
      unfold caV at T1
      dsimp only at T1
      go_upto_region 8 with fail
      have Xci0 := ext_cell _ _ hb2 _ ci0
      have Xci1 := ext_cell _ _ hb2 _ ci1
      clear ci0 ci1

      refine wp_region_ext wq (by kernel_rfl) (by kernel_rfl) (Below.refl _ _) ?_
      repeat (go_big_quiet_step (first
        | (go_at_call 25; with_reducible exact calls_ext (T1.out _ (Ext.below _)))))
      refine wpQuiet_nil ?_
      intro _ hw'
      obtain ⟨n9, rfl⟩ := hw'
      have HN9 := Lib.hid n9.below
      generalize n9.wd = wp at *

      have HBp := Lib.hid (below_then HBi.out HN9.out)
      clear Xci0 Xci1 T1 hb2 HXq HCq HN9 HBi
      go_wp2_with fail
      go_loopw [36] (fun u36 wr => ∃ k : Nat, u36 = .int .i64 k ∧ k ≤ cl.length ∧ Hid (Below w3.heap.size w3 wr)) (fun u36 _ => cl.length - (intOf u36).toNat)
      case atStart => exact ⟨0, rfl, by omega, HBp⟩
      case round =>
        clear HBp
        obtain ⟨k, rfl, hk, HBk⟩ := hrel
        obtain ⟨wq, rfl⟩ : ∃ wo : World, wo = wr := ⟨_, rfl⟩
        by_cases hltk : k < cl.length
        · have hltkI : (k : Int) < (cl.length : Int) := by omega
          have HXq := Lib.hid (HX3.out.below HBk.out)
          have HCq := Lib.hid (HSC.out.below HBk.out)
          obtain ⟨b2, off2, cp2, hve, hb2, ci0, ci1⟩ := HCq.out.ca i hlti HEi.out
          simp only [Value.slice.injEq, Option.some.injEq, Addr.mk.injEq] at hve
          obtain ⟨⟨rfl, rfl, -⟩, -, rfl⟩ := hve
          dsimp only at ci0 ci1
          obtain ⟨⟨k1, k2⟩, he⟩ : ∃ e, cl.getD k (0, 0) = e := ⟨_, rfl⟩
          have HEk := Lib.hid he
          obtain ⟨bq, offq, cpq, hve, hbq, ck0, ck1⟩ := HCq.out.ca k hltk he
          simp only [Value.slice.injEq, Option.some.injEq, Addr.mk.injEq] at hve
          obtain ⟨⟨rfl, rfl, -⟩, -, rfl⟩ := hve
          dsimp only at ck0 ck1
          clear he hbq

          have T1 := Lib.hid fun w' (hb : Below wq.heap.size wq w') => hprec_any _ L (i1, i2) (k1, k2) w' (HXq.out.below hb)

          obtain ⟨p0, hp0⟩ : ∃ q, precE L (i1, i2) (k1, k2) = q := ⟨_, rfl⟩
          rw [hp0] at T1
          have HP0 := Lib.hid hp0
          unfold caV at T1
          dsimp only at T1
          clear hp0
          go_upto_region 13 with fail
          have Xci0 := ext_cell _ _ hb2 _ ci0
          have Xci1 := ext_cell _ _ hb2 _ ci1
          have Xck0 := ext_cell _ _ hb2 _ ck0
          have Xck1 := ext_cell _ _ hb2 _ ck1
          clear ci0 ci1 ck0 ck1

          refine wp_region_ext wq (by kernel_rfl) (by kernel_rfl) (Below.refl _ _) ?_
          repeat (go_big_quiet_step (first
            | (go_at_call 25; with_reducible exact calls_ext (T1.out _ (Ext.below _)))))
          refine wpQuiet_nil ?_
          intro _ hw'
          obtain ⟨n9, rfl⟩ := hw'
          have HN9 := Lib.hid n9.below
          generalize n9.wd = wp at *

          have HBn := Lib.hid (below_then HBk.out HN9.out)
          clear Xci0 Xci1 Xck0 Xck1 T1 hb2 HXq HCq HN9 HBk
          cases p0 with
          | false =>
            go_wp2_with fail
            go_roundw
            case rel => exact ⟨k + 1, by go_num, by omega, HBn⟩
            case measure => simp [intOf]; omega

          | true =>
            go_wp2_with fail
            go_loopw [52] (fun u52 wr => ∃ m : Nat, u52 = .int .i64 m ∧ m ≤ cl.length ∧ Hid (Below w3.heap.size w3 wr)) (fun u52 _ => cl.length - (intOf u52).toNat)
            case atStart => exact ⟨0, rfl, by omega, HBn⟩
            case round =>
              clear HBn
              obtain ⟨m, rfl, hm, HBm⟩ := hrel
              obtain ⟨wm, rfl⟩ : ∃ wo : World, wo = wr := ⟨_, rfl⟩
              by_cases hltm : m < cl.length
              · have hltmI : (m : Int) < (cl.length : Int) := by omega
                go_wp2_with fail
                go_loopw [57] (fun u57 wr => ∃ n : Nat, u57 = .int .i64 n ∧ n ≤ cl.length ∧ Hid (Below w3.heap.size w3 wr)) (fun u57 _ => cl.length - (intOf u57).toNat)
                case atStart => exact ⟨0, rfl, by omega, HBm⟩
                case round =>
                  clear HBm
                  obtain ⟨n, rfl, hn, HBn⟩ := hrel
                  obtain ⟨wq, rfl⟩ : ∃ wo : World, wo = wr := ⟨_, rfl⟩
                  by_cases hltn : n < cl.length
                  · have hltnI : (n : Int) < (cl.length : Int) := by omega
                    have HXq := Lib.hid (HX3.out.below HBn.out)
                    have HCq := Lib.hid (HSC.out.below HBn.out)
                    obtain ⟨b2, off2, cp2, hve, hb2, ci0, ci1⟩ := HCq.out.ca i hlti HEi.out
                    simp only [Value.slice.injEq, Option.some.injEq, Addr.mk.injEq] at hve
                    obtain ⟨⟨rfl, rfl, -⟩, -, rfl⟩ := hve
                    obtain ⟨bq, offq, cpq, hve, hbq, ck0, ck1⟩ := HCq.out.ca k hltk HEk.out
                    simp only [Value.slice.injEq, Option.some.injEq, Addr.mk.injEq] at hve
                    obtain ⟨⟨rfl, rfl, -⟩, -, rfl⟩ := hve
                    dsimp only at ci0 ci1 ck0 ck1
                    clear hbq
                    obtain ⟨⟨m1, m2⟩, he⟩ : ∃ e, cl.getD m (0, 0) = e := ⟨_, rfl⟩
                    have HEm := Lib.hid he
                    obtain ⟨bq, offq, cpq, hve, hbq, cm0, cm1⟩ := HCq.out.ca m hltm he
                    simp only [Value.slice.injEq, Option.some.injEq, Addr.mk.injEq] at hve
                    obtain ⟨⟨rfl, rfl, -⟩, -, rfl⟩ := hve
                    dsimp only at cm0 cm1
                    clear he hbq

                    obtain ⟨⟨n1, n2⟩, he⟩ : ∃ e, cl.getD n (0, 0) = e := ⟨_, rfl⟩
                    have HEn := Lib.hid he
                    obtain ⟨bq, offq, cpq, hve, hbq, cn0, cn1⟩ := HCq.out.ca n hltn he
                    simp only [Value.slice.injEq, Option.some.injEq, Addr.mk.injEq] at hve
                    obtain ⟨⟨rfl, rfl, -⟩, -, rfl⟩ := hve
                    dsimp only at cn0 cn1
                    clear he hbq

                    have T1 := Lib.hid fun w' (hb : Below wq.heap.size wq w') => hprec_any _ L (m1, m2) (n1, n2) w' (HXq.out.below hb)
                    have T2 := Lib.hid fun w' (hb : Below wq.heap.size wq w') => hprec_any _ L (i1, i2) (n1, n2) w' (HXq.out.below hb)
                    have T3 := Lib.hid fun w' (hb : Below wq.heap.size wq w') => hprec_any _ L (m1, m2) (k1, k2) w' (HXq.out.below hb)

                    obtain ⟨p1, hp1⟩ : ∃ q, precE L (m1, m2) (n1, n2) = q := ⟨_, rfl⟩
                    obtain ⟨p2, hp2⟩ : ∃ q, precE L (i1, i2) (n1, n2) = q := ⟨_, rfl⟩
                    obtain ⟨p3, hp3⟩ : ∃ q, precE L (m1, m2) (k1, k2) = q := ⟨_, rfl⟩
                    rw [hp1] at T1
                    rw [hp2] at T2
                    rw [hp3] at T3
                    have HIV : Hid (p1 = true → p2 = false → p3 = true ∧ m ≠ k) := fun h1 h2 => by
                      rw [← hp1] at h1
                      rw [← hp2] at h2
                      refine ⟨by rw [← hp3]; exact prec_interval HP0.out h1 h2, fun e => ?_⟩
                      have e2 := HEm.out
                      rw [e, HEk.out] at e2
                      rw [← e2] at h1
                      rw [prec_trans HHIS.out HP0.out h1] at h2
                      cases h2
                    unfold caV at T1 T2 T3
                    dsimp only at T1 T2 T3
                    clear hp1 hp2 hp3
                    go_upto_region 20 with fail
                    have Xci0 := ext_cell _ _ hb2 _ ci0
                    have Xci1 := ext_cell _ _ hb2 _ ci1
                    have Xck0 := ext_cell _ _ hb2 _ ck0
                    have Xck1 := ext_cell _ _ hb2 _ ck1
                    have Xcm0 := ext_cell _ _ hb2 _ cm0
                    have Xcm1 := ext_cell _ _ hb2 _ cm1
                    have Xcn0 := ext_cell _ _ hb2 _ cn0
                    have Xcn1 := ext_cell _ _ hb2 _ cn1
                    clear ci0 ci1 ck0 ck1 cm0 cm1 cn0 cn1

                    cases p1 with
                    | false =>
                      refine wp_region_ext wq (by kernel_rfl) (by kernel_rfl) (Below.refl _ _) ?_
                      repeat (go_big_quiet_step (first
                        | (go_at_call 25; with_reducible exact calls_ext (T1.out _ (Ext.below _)))))
                      refine wpQuiet_nil ?_
                      intro _ hw'
                      obtain ⟨n9, rfl⟩ := hw'
                      have HN9 := Lib.hid n9.below
                      generalize n9.wd = wp at *

                      have HBn := Lib.hid (below_then HBn.out HN9.out)
                      go_wp2_with fail
                      go_roundw
                      case rel => exact ⟨n + 1, by go_num, by omega, HBn⟩
                      case measure => simp [intOf]; omega

                    | true =>
                      cases p2 with
                      | true =>
                        by_cases hmk : m = k
                        · have hq : ((m : Int) == (k : Int)) = true := by rw [hmk]; simp
                          clear HIV hmk
                          refine wp_region_ext wq (by kernel_rfl) (by kernel_rfl) (Below.refl _ _) ?_
                          repeat (go_big_quiet_step (first
                            | (go_at_call 25; with_reducible exact calls_ext (T1.out _ (Ext.below _)))
                            | (go_at_call 25; with_reducible exact calls_ext (T2.out _ (Ext.below _)))))
                          refine wpQuiet_nil ?_
                          intro _ hw'
                          obtain ⟨n9, rfl⟩ := hw'
                          have HN9 := Lib.hid n9.below
                          generalize n9.wd = wp at *

                          have HBn := Lib.hid (below_then HBn.out HN9.out)
                          go_wp2_with fail
                          go_roundw
                          case rel => exact ⟨n + 1, by go_num, by omega, HBn⟩
                          case measure => simp [intOf]; omega

                        · have hq : ((m : Int) == (k : Int)) = false := by simp; omega
                          clear HIV hmk
                          refine wp_region_ext wq (by kernel_rfl) (by kernel_rfl) (Below.refl _ _) ?_
                          repeat (go_big_quiet_step (first
                            | (go_at_call 25; with_reducible exact calls_ext (T1.out _ (Ext.below _)))
                            | (go_at_call 25; with_reducible exact calls_ext (T2.out _ (Ext.below _)))))
                          refine wpQuiet_nil ?_
                          intro _ hw'
                          obtain ⟨n9, rfl⟩ := hw'
                          have HN9 := Lib.hid n9.below
                          generalize n9.wd = wp at *

                          have HBn := Lib.hid (below_then HBn.out HN9.out)
                          go_wp2_with fail
                          go_roundw
                          case rel => exact ⟨n + 1, by go_num, by omega, HBn⟩
                          case measure => simp [intOf]; omega

                      | false =>
                        obtain ⟨rfl, hmk⟩ := HIV.out rfl rfl
                        have hq : ((m : Int) == (k : Int)) = false := by simp; omega
                        clear HIV hmk
                        refine wp_region_ext wq (by kernel_rfl) (by kernel_rfl) (Below.refl _ _) ?_
                        repeat (go_big_quiet_step (first
                          | (go_at_call 25; with_reducible exact calls_ext (T1.out _ (Ext.below _)))
                          | (go_at_call 25; with_reducible exact calls_ext (T2.out _ (Ext.below _)))
                          | (go_at_call 25; with_reducible exact calls_ext (T3.out _ (Ext.below _)))))
                        refine wpQuiet_nil ?_
                        intro _ hw'
                        obtain ⟨n9, rfl⟩ := hw'
                        have HN9 := Lib.hid n9.below
                        generalize n9.wd = wp at *

                        have HBn := Lib.hid (below_then HBn.out HN9.out)
                        go_wp2_with fail
                        go_roundw
                        case rel => exact ⟨n + 1, by go_num, by omega, HBn⟩
                        case measure => simp [intOf]; omega

                  · have hge : ¬ (n : Int) < (cl.length : Int) := by omega
                    go_wp2_with fail
                    go_roundw
                    case rel => exact ⟨m + 1, by go_num, by omega, HBn⟩
                    case measure => simp [intOf]; omega

              · have hge : ¬ (m : Int) < (cl.length : Int) := by omega
                have HBn := HBm
                go_wp2_with fail
                go_roundw
                case rel => exact ⟨k + 1, by go_num, by omega, HBn⟩
                case measure => simp [intOf]; omega

        · have hge : ¬ (k : Int) < (cl.length : Int) := by omega
          have HBn := HBk
          go_wp2_with fail
          go_roundw
          case rel => exact ⟨i + 1, by go_num, by omega, HBn⟩
          case measure => simp [intOf]; omega

    · have hge : ¬ (i : Int) < (cl.length : Int) := by omega
      go_wp2
      go_ret
      exact ⟨rfl, below_then HB3.out HBi.out⟩
set_option maxRecDepth 100000 in
theorem lifted (os : Os) (started : os.Started) (H : Type) (enc : TypeId × Value → H) :
    ReturnsInHanded {} Try.checked os 6 .any (Rows.historyOrdersSpec.pre6 enc Try.prog Try.f6 Rows.historyOrdersRow.domain false) (Rows.historyOrdersSpec.post enc Try.prog Try.f6 false true false false) := by
  refine returnsInHanded_of_change_sized (C := Try.checked) own started (by kernel_rfl) Try.func6
    (ChangeSpec.witness6 (enc := enc) (C := Try.checked) false ⟨#[], #[.slice none 0 0], []⟩ 8 (by kernel_rfl) (by kernel_rfl) (by kernel_rfl) (by kernel_rfl)) ?_
  intro W base args ds gs before hval0 hW _ hsz0 _
  have hsz : (DataW.weightsEach Try.prog (Try.f6.params.toList ++ Rows.historyOrdersSpec.plain.varTypes Try.prog) (ds ++ gs)).all (· ≤ reachBytes) = true := hsz0
  clear hsz0
  have hval : ∀ (j : Nat) t v, Try.f6.params[j]? = some t → args[j]? = some v → Value.okWide Try.prog W .any base t v := hval0
  have hW' := hW
  obtain ⟨p, q, hA0, hV, rfl, _, _⟩ := hW
  have hA : DataW.TrodAll enc Try.prog W 0 (fun _ => true) true Try.f6.params.toList args.toList ds p := hA0
  rw [Try.params6] at hA hval hsz
  obtain ⟨v0, vs0, d0, ds0, p0, q0, hargs, rfl, rfl, h0, rr0⟩ := trodAll_cons hA
  obtain ⟨rfl, rfl, rfl⟩ := trodAll_nil rr0
  obtain rfl : args = #[v0] := by cases args; simp_all
  obtain ⟨rfl, rfl⟩ := trodVars_none hV
  have k0 := h0
  obtain ⟨l0, s0⟩ := view_sl (k := .u8) Try.underlying22 Try.underlying5 (by kernel_rfl) (fun elems sp hd => sized_slice hsz (j := 0) (t := 22) (e := 5) rfl (by rw [hd]; rfl) Try.underlying22) (of_decide_eq_true (by kernel_rfl)) (hval 0 22 v0 rfl rfl) h0
  clear hA0 hval0
  simp only [List.append_nil] at hW'
  have hlt := hW'.lt
  refine (walk W v0 l0 s0).mono fun e W' ⟨he, hb⟩ => ?_
  subst he
  exact ⟨_, rfl, _, _, _, [], _, [], hW', trodAll_cons_mk (shut_bool Try.underlying4 _) trodAll_mk0, (trodAll_cons_mk (Below.trod Try.laidOut (by kernel_rfl) (of_decide_eq_true (by kernel_rfl)) k0 hb (fun x hx => by simpa using hlt x (by simp [hx]))) trodAll_mk0), rfl, hb.frame _, fun h => by cases h⟩
theorem over : Rows.historyOrdersRow.holds Try.pinned (OpenSpec.ofChange Rows.historyOrdersSpec) :=
  OpenClaim.holds_of_wide 6 Try.f6 rfl rfl rfl rfl rfl rfl rfl ⟨rfl, rfl, rfl, rfl, rfl⟩ rfl rfl rfl rfl rfl (by kernel_rfl) Try.func6 (by kernel_rfl)
    (of_decide_eq_true (by kernel_rfl)) (by unfold Func.isWrapper; first | (rw [if_pos (by decide +kernel)]; kernel_rfl) | (rw [if_neg (by decide +kernel)]; exact ⟨rfl, rfl⟩))
    (fun os started H enc _ => lifted os started H enc)
/-- THE STATEMENT -/
theorem proved : Rows.HistoryOrdersSaid :=
  over
end Go.Proofs.Ytnbehigjeopniaa.historyOrders
