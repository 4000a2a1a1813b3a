/- Proved: CasesFair returns true, and its arguments read afterwards as before, for every int n and every uint8 ready; no condition. -/
import Derived.Test.YtggnomnfcdibeaaLaw
import Derived.Test.YtggnomnfcdibeaaL3Fair
import Derived.LoopTactic
import Derived.WalkKit
import Derived.ProofKit
import Derived.OpenShut
import Derived.SizedLaws
namespace Go.Proofs.Ytggnomnfcdibeaa.casesFair
open Go.ChangeShapes Go.WideShapes Go.ChangeAt Go.RowKit
set_option linter.unusedVariables false
set_option maxRecDepth 100000 in
set_option maxHeartbeats 1000000 in
theorem walk (w : World) (a0 : Int) (w0 : (Lit.int .i64 a0).wf = true) (a1 : Int) (w1 : (Lit.int .u8 a1).wf = true) :
    Calls Try.prog 6 #[.int .i64 a0, .int .u8 a1] w fun e w' => e = .returned (.bool true) ∧ Below w.heap.size w w' := by
  have A := Lib.hid (awake_any w)
  have B0 : 0 ≤ a0 % 4 := Int.emod_nonneg _ (by omega)
  have B1 : a0 % 4 < 4 := Int.emod_lt_of_pos _ (by omega)
  obtain ⟨q, hq⟩ : ∃ q : Nat, a0 % 4 = q := ⟨(a0 % 4).toNat, by omega⟩
  have HQ := Lib.hid hq
  rw [hq] at B0 B1
  have hq5 : q < 4 := by omega
  have hs := bounds_u8 w1
  obtain ⟨s, rfl⟩ : ∃ s : Nat, a1 = s := ⟨a1.toNat, by omega⟩
  clear hq B0 B1 w0 w1
  have hc1 : cntI (1 + (q : Int)) = (fact (q + 1) : Int) := by rw [show (1 + (q : Int)) = ((q + 1 : Nat) : Int) by omega]; exact cntI_in _ (by omega)
  have hf : fact (q + 1) ≤ 120 := by have := fact_le (q + 1) 5 (by omega); exact this
  have CN := Lib.hid fun w' => rcount_any (1 + (q : Int)) w'
  rw [hc1] at CN
  go_enter Try.func6, Try.ntmps6
  go_wp2_with (first
    | (go_at_call 7; refine A.out.mono ?_; rintro e w1 ⟨rfl, hb1⟩)
    | (go_at_call 19; refine (mod_any _ _ _ (by omega) (by omega)).mono ?_; rintro e wm ⟨rfl, rfl⟩; rw [HQ.out])
    | (at_make; refine wp_make_i64 w1 rfl _ _ rfl (q + 1) _ _ rfl rfl ?_ ?_ ?_ ?_; omega; omega; omega; intro w2 ho2 hb2))
  have hB2 := Lib.hid (below_then hb1 hb2)
  have hFw : w.heap.size ≤ w1.heap.size := hb1.size
  have hsz2 : w1.heap.size + 1 ≤ w2.heap.size := by
    rcases ho2.shape with ⟨h, _⟩ | ⟨g, c, h, _, h2, _⟩
    · cases h
    · simp at h; omega
  have HO2 := Lib.hid ho2
  have hn1 : 1 ≤ q + 1 := by omega
  have PF := Lib.hid fun k => perm_full (q + 1) k hn1
  have NO := Lib.hid fun k h => ordL_nth (q + 1) k hn1 (by omega) h
  have T := Lib.hid fun k => bit_test s k (by omega)
  have FP := fact_pos (q + 1)
  have HZ : Hid (winsL (q + 1) s 0 = List.replicate (q + 1) 0) := rfl
  have WA := Lib.hid fun i h1 h2 => win_set (q + 1) s i hn1 (by omega) h1 h2
  clear hb1 hb2 ho2 hc1 A HQ hs
  generalize hfq : fact (q + 1) = f at *
  have HFQ := Lib.hid hfq
  clear hfq
  generalize hF : w1.heap.size = F at *
  clear hF
  go_loop [7, 8] (fun z c => ∃ k : Nat, k ≤ q + 1 ∧ c = .int .i64 k ∧ Hid (sizeS s k ≤ k) ∧ z = .int .i64 (sizeS s k)) (fun _ c => q + 1 - (intOf c).toNat)
  case atStart => exact ⟨0, by omega, rfl, Nat.le_refl _, rfl⟩
  case round =>
    obtain ⟨k, hk, rfl, hz, rfl⟩ := hrel
    by_cases hlt : k < q + 1
    · have hz' := hz.out
      have t := T.out k
      cases hi : inS s k with
      | true =>
        rw [hi] at t
        have e : sizeS s (k + 1) = sizeS s k + 1 := by rw [sizeS, hi]; rfl
        have E := Lib.hid e
        clear e hi
        generalize sizeS s k = z at *
        go_wp2
        go_round
        case rel => exact ⟨k + 1, by omega, by go_num, Lib.hid (by rw [E.out]; omega), by rw [E.out]; go_num⟩
        case measure => simp [intOf]; omega
      | false =>
        rw [hi] at t
        have e : sizeS s (k + 1) = sizeS s k := by rw [sizeS, hi]; rfl
        have E := Lib.hid e
        clear e hi
        generalize sizeS s k = z at *
        go_wp2
        go_round
        case rel => exact ⟨k + 1, by omega, by go_num, Lib.hid (by rw [E.out]; omega), by rw [E.out]⟩
        case measure => simp [intOf]; omega
    · obtain rfl : k = q + 1 := by omega
      obtain ⟨z, hzz⟩ : ∃ z, sizeS s (q + 1) = z := ⟨_, rfl⟩
      have HZZ := Lib.hid hzz
      have hz' := hz.out
      rw [hzz] at hz'
      rw [hzz]
      clear hzz hz hlt hk
      go_wp2
      rw [show decide ((q : Int) + 1 < 1 + (q : Int)) = false from decide_eq_false (by omega)]
      go_loopw [6, 9] (fun al c wr => ∃ k : Nat, k ≤ f ∧ al = .int .i64 k ∧ c = .int .i64 k ∧ Hid (OwnI wr F 3 .i64 (.slice (some ⟨F, 0, none⟩) (q + 1) (q + 1)) (winsL (q + 1) s k)) ∧ Hid (Below w.heap.size w wr) ∧ F + 1 ≤ wr.heap.size) (fun _ c _ => f - (intOf c).toNat)
      case atStart => exact ⟨0, by omega, rfl, rfl, by rw [HZ.out]; exact HO2.out, hB2, hsz2⟩
      case round =>
        obtain ⟨k, hk, rfl, rfl, hfo, hB, hsz⟩ := hrel
        obtain ⟨wo, rfl⟩ : ∃ wo : World, wo = wr := ⟨_, rfl⟩
        by_cases hlt : k < f
        · obtain ⟨n1, n2, n3⟩ := NO.out k hlt
          have hcast : ((q + 1 : Nat) : Int) = 1 + (q : Int) := by omega
          rw [hcast] at n1 n2 n3
          have N1 := Lib.hid fun w' => rnth_any (1 + (q : Int)) k w'
          rw [n1, n2] at N1
          clear n1 n2 n3 hcast
          go_wp2_with (go_at_call 27; refine (CN.out _).mono ?_; rintro e w' ⟨rfl, rfl⟩)
          refine (N1.out _).mono ?_; rintro e wa ⟨ua, rfl, hua, hba⟩
          have GO := Lib.hid (fairOp_good (q + 1) k hn1 (by omega) (by rw [HFQ.out]; exact hlt))
          have HUA := Lib.hid hua
          have hBa := Lib.hid (below_then hB.out hba)
          have hfa := Lib.hid (hfo.out.below hba)
          have hza : F + 1 ≤ wa.heap.size := Nat.le_trans hsz hba.size
          obtain ⟨aa, ca, rfl, -⟩ := hua.len
          rw [nthR_length]
          clear hba hua hfo hB hsz
          go_wp2_with (at_make; refine wp_make_case wa rfl _ _ rfl (q + 1) _ _ rfl rfl ?_ ?_ ?_ ?_ ?_; omega; omega; omega; omega; intro wc hoc hbc)
          have hco : ∀ x ∈ List.replicate (q + 1) noCase, x.ok := fun x hx => by rw [List.eq_of_mem_replicate hx]; exact ⟨by decide, by decide⟩
          have HOC := Lib.hid (hoc.read (by simp; omega) hco)
          have hBc := Lib.hid (below_then hBa.out hbc)
          have hfc := Lib.hid (hfa.out.below hbc)
          have hzc : F + 1 ≤ wc.heap.size := Nat.le_trans hza hbc.size
          have HUC := Lib.hid (HUA.out.below hbc)
          clear hoc hbc HUA hBa hfa hco hza
          generalize wa.heap.size = G at *
          obtain ⟨wd, hwd⟩ : ∃ wd, wc.alloc (.cells #[.int .i64 4, .int .i64 0, .int .i64 0, .int .u64 0, .int .i64 0, .slice (some ⟨G, 0, none⟩) (q + 1) (q + 1), .slice aa (q + 1) ca] 26) = wd := ⟨_, rfl⟩
          have hbd : Below wc.heap.size wc wd := hwd ▸ below_new (Below.refl _ _) _
          have hrd : wd.heap[wc.heap.size]? = some (.cells #[.int .i64 4, .int .i64 0, .int .i64 0, .int .u64 0, .int .i64 0, .slice (some ⟨G, 0, none⟩) (q + 1) (q + 1), .slice aa (q + 1) ca] 26 (0, 0)) := hwd ▸ heap_alloc_new _ _
          rw [hwd]
          have HOP : Hid (OpV wd (.agg #[.int .i64 4, .int .i64 0, .int .i64 0, .int .u64 0, .int .i64 0, .slice (some ⟨G, 0, none⟩) (q + 1) (q + 1), .slice aa (q + 1) ca]) ⟨4, 0, 0, 0, 0, List.replicate (q + 1) noCase, nthR (q + 1) k⟩) := ⟨_, _, rfl, HOC.out.below hbd, by have := HUC.out.below hbd; rwa [nthR_length] at this⟩
          have hBd := Lib.hid (below_then hBc.out hbd)
          have hfd := Lib.hid (hfc.out.below hbd)
          have hzd : F + 1 ≤ wd.heap.size := Nat.le_trans hzc hbd.size
          obtain ⟨o0, o1, o2, o3, o4, o5, o6⟩ := row7 hrd
          have HRD := Lib.hid hrd
          clear hbd hwd HOC HUC hBc hfc hrd
          refine (ownOrder_any _ ⟨4, 0, 0, 0, 0, List.replicate (q + 1) noCase, nthR (q + 1) k⟩ _ HOP.out).mono ?_; rintro e we ⟨uo, rfl, hu, hbe⟩
          rw [show ((⟨4, 0, 0, 0, 0, List.replicate (q + 1) noCase, nthR (q + 1) k⟩ : OpM).cases.length : Int) = ((q + 1 : Nat) : Int) by simp, (NO.out k hlt).2.2] at hu
          have HE := Lib.hid (HOP.out.below hbe)
          have hBe := Lib.hid (below_then hBd.out hbe)
          have hfe := Lib.hid (hfd.out.below hbe)
          have hze : F + 1 ≤ we.heap.size := Nat.le_trans hzd hbe.size
          have hre := (hbe.block wc.heap.size (Array.getElem?_eq_some_iff.1 HRD.out).1).trans HRD.out
          clear o0 o1 o2 o3 o4 o5 o6
          obtain ⟨o0, o1, o2, o3, o4, o5, o6⟩ := row7 hre
          have HU := Lib.hid hu
          clear hbe hBd hfd hzd HOP HRD hre hu
          go_wp2_with fail
          refine (ownCheck_any _ ⟨4, 0, 0, 0, 0, List.replicate (q + 1) noCase, nthR (q + 1) k⟩ _ HE.out GO.out.ok (by have := GO.out.cases; omega)).mono ?_; rintro e wb ⟨rfl, hbb⟩
          rw [GO.out.check]
          have HUb := HU.out.below hbb
          have hfb := Lib.hid (hfe.out.below hbb)
          have hB' := Lib.hid (below_then hBe.out hbb)
          have hszb : F + 1 ≤ wb.heap.size := Nat.le_trans hze hbb.size
          have pf := Lib.hid (PF.out k)
          have HW1 : Hid (winsL (q + 1) s (k + 1) = match hit s (perm (q + 1) k) with | some p => inc (winsL (q + 1) s k) p | none => winsL (q + 1) s k) := rfl
          generalize perm (q + 1) k = P at *
          obtain ⟨ob, oo, oc, rfl, -, -, hcell⟩ := HUb.open (fun e => by have := pf.out.1; rw [e] at this; simp at this)
          have HCELL : Hid (∀ t, t < q + 1 → wb.cell? ⟨ob, oo + t, none⟩ = some (.int .i64 (P.getD t 0))) := fun t ht => hcell t (by rw [pf.out.1]; exact ht)
          rw [pf.out.1]
          have hq1 : (((q : Int) + 1) != (1 + (q : Int))) = false := by simp; omega
          clear hbb hfe hBe hze HU HUb hcell HE GO o0 o1 o2 o3 o4 o5 o6
          go_wp2_with fail
          go_loopw [67] (fun c wr => ∃ j : Nat, j ≤ q + 1 ∧ c = .int .i64 j ∧ wb = wr ∧ Hid (∀ i, i < j → inS s (P.getD i 0).toNat = false)) (fun c _ => q + 1 - (intOf c).toNat)
          case atStart => exact ⟨0, by omega, rfl, rfl, fun i hi => by omega⟩
          case round =>
            obtain ⟨j, hj, rfl, rfl, hno⟩ := hrel
            by_cases hjq : j < q + 1
            · have c0 := HCELL.out j hjq
              have hr := pf.out.range _ (mem_of_getD P j (by rw [pf.out.1]; omega))
              obtain ⟨p, hp⟩ : ∃ p : Nat, P.getD j 0 = p := ⟨(P.getD j 0).toNat, by omega⟩
              rw [hp] at c0 hr
              obtain ⟨-, hr1⟩ := hr
              have hpI : (p : Int) < 1 + (q : Int) := by omega
              have hpq : p < q + 1 := by omega
              have HP := Lib.hid hp
              have t := T.out p
              clear hp
              cases hi : inS s p with
              | true =>
                rw [hi] at t
                have hh := hit_at s P j (by rw [pf.out.1]; exact hjq) hno.out (by rw [HP.out]; simpa using hi)
                rw [HP.out, Int.toNat_natCast] at hh
                have hW := HW1.out
                rw [hh] at hW
                obtain ⟨c6, c7⟩ := hfb.out.cell p (by rw [winsL_length]; omega)
                have FB := winsL_bound (q + 1) s k _ (mem_of_getD _ p (by rw [winsL_length]; omega))
                obtain ⟨x, hx⟩ : ∃ x, (winsL (q + 1) s k).getD p 0 = x := ⟨_, rfl⟩
                rw [hx] at c6 FB
                have ST := hfb.out.store p (x + 1) (by rw [winsL_length])
                have ES : (winsL (q + 1) s k).set p (x + 1) = winsL (q + 1) s (k + 1) := by rw [hW]; simp only [inc, hx]
                rw [ES] at ST
                have SS := Lib.hid (And.intro ST (And.intro (hB'.out.setCell (p := ⟨F, p, none⟩) hFw (.int .i64 (x + 1))) (show F + 1 ≤ (wb.setCell ⟨F, p, none⟩ (.int .i64 (x + 1))).heap.size by simpa using hszb)))
                obtain ⟨fb0, fb1⟩ := FB
                have fb2 : x ≤ 120 := by omega
                clear hx ES ST hW hh hi fb1
                go_wp2
                go_roundw
                case rel => exact ⟨k + 1, by omega, by go_num, by go_num, SS.out.1, SS.out.2.1, SS.out.2.2⟩
                case measure => simp [intOf]; omega
              | false =>
                rw [hi] at t
                have hno2 : Hid (∀ i, i < j + 1 → inS s (P.getD i 0).toNat = false) := fun i h => by
                  by_cases e : i = j
                  · rw [e, HP.out]; simpa using hi
                  · exact hno.out i (by omega)
                clear hi
                go_wp2
                go_roundw
                case rel => exact ⟨j + 1, by omega, by go_num, trivial, hno2⟩
                case measure => simp [intOf]; omega
            · obtain rfl : j = q + 1 := by omega
              have hn := hit_none s P (by rw [pf.out.1]; exact hno.out)
              have hW := HW1.out
              rw [hn] at hW
              have HWN := Lib.hid hW
              clear hn hW
              go_wp2
              go_roundw
              case rel => exact ⟨k + 1, by omega, by go_num, by go_num, by rw [HWN.out]; exact hfb, hB', hszb⟩
              case measure => simp [intOf]; omega
        · obtain rfl : k = f := by omega
          go_wp2_with (go_at_call 27; refine (CN.out _).mono ?_; rintro e w' ⟨rfl, rfl⟩)
          go_loopw [15] (fun c wr => ∃ j m : Nat, j ≤ q + 1 ∧ c = .int .i64 j ∧ wo.drewN m = wr) (fun c _ => q + 1 - (intOf c).toNat)
          case atStart => exact ⟨0, 0, by omega, rfl, rfl⟩
          case round =>
            obtain ⟨j, m, hj, rfl, rfl⟩ := hrel
            by_cases hlt2 : j < q + 1
            · obtain ⟨c6, -⟩ := hfo.out.cell j (by rw [winsL_length]; exact hlt2)
              have c6 : (wo.drewN m).cell? ⟨F, j, none⟩ = some (.int .i64 ((winsL (q + 1) s k).getD j 0)) := c6
              have t := T.out j
              generalize hWW : wo.drewN m = W at *
              have HWW := Lib.hid hWW
              clear hWW
              cases hi : inS s j with
              | true =>
                rw [hi] at t
                have E := WA.out j hlt2 hi
                rw [HZZ.out] at E
                obtain ⟨x, hx⟩ : ∃ x, (winsL (q + 1) s k).getD j 0 = x := ⟨_, rfl⟩
                rw [hx] at c6 E
                have EW : wrap64 (x * (z : Int)) = (k : Int) := by
                  rw [E]
                  unfold wrap64; omega
                have hqq : ((k : Int) != (k : Int)) = false := by simp
                clear E hx hi
                go_wp2
                go_roundw
                case rel => exact ⟨j + 1, m, by omega, by go_num, HWW.out⟩
                case measure => simp [intOf]; omega
              | false =>
                rw [hi] at t
                clear c6 hi
                go_wp2
                go_roundw
                case rel => exact ⟨j + 1, m, by omega, by go_num, HWW.out⟩
                case measure => simp [intOf]; omega
            · obtain rfl : j = q + 1 := by omega
              go_wp2
              go_ret
              exact ⟨rfl, below_drewN hB.out m⟩
set_option maxRecDepth 100000 in
theorem lifted (os : Os) (started : os.Started) (H : Type) (enc : TypeId × Value → H) :
    ReturnsInHanded {} Try.checked os 6 .any (Rows.casesFairSpec.pre6 enc Try.prog Try.f6 Rows.casesFairRow.domain false) (Rows.casesFairSpec.post enc Try.prog Try.f6 false true false false) := by
  refine returnsInHanded_of_change_sized (C := Try.checked) own started (by kernel_rfl) Try.func6
    (ChangeSpec.witness6 (enc := enc) (C := Try.checked) false ⟨#[], #[.int .i64 0, .int .u8 0], []⟩ 8 (by kernel_rfl) (by kernel_rfl) (by kernel_rfl) (by kernel_rfl)) ?_
  intro W base args ds gs before hval0 hW _ hsz0 _
  have hsz : (DataW.weightsEach Try.prog (Try.f6.params.toList ++ Rows.casesFairSpec.plain.varTypes Try.prog) (ds ++ gs)).all (· ≤ reachBytes) = true := hsz0
  clear hsz0
  have hval : ∀ (j : Nat) t v, Try.f6.params[j]? = some t → args[j]? = some v → Value.okWide Try.prog W .any base t v := hval0
  have hW' := hW
  obtain ⟨p, q, hA0, hV, rfl, _, _⟩ := hW
  have hA : DataW.TrodAll enc Try.prog W 0 (fun _ => true) true Try.f6.params.toList args.toList ds p := hA0
  rw [Try.params6] at hA hval hsz
  obtain ⟨v0, vs0, d0, ds0, p0, q0, hargs, rfl, rfl, h0, r0⟩ := trodAll_cons hA
  obtain ⟨v1, vs1, d1, ds1, p1, q1, rfl, rfl, rfl, h1, r1⟩ := trodAll_cons r0
  obtain ⟨rfl, rfl, rfl⟩ := trodAll_nil r1
  obtain rfl : args = #[v0, v1] := by cases args; simp_all
  obtain ⟨rfl, rfl⟩ := trodVars_none hV
  have k0 := h0
  have k1 := h1
  obtain ⟨a0, rfl, -, -, w0⟩ := open_int Try.underlying3 (hval 0 3 v0 rfl rfl) h0
  obtain ⟨a1, rfl, -, -, w1⟩ := open_int Try.underlying5 (hval 1 5 v1 rfl rfl) h1
  clear hA0 hval0
  simp only [List.append_nil] at hW'
  have hlt := hW'.lt
  refine (walk W a0 w0 a1 w1).mono fun e W' ⟨he, hb⟩ => ?_
  subst he
  exact ⟨_, rfl, _, _, _, [], _, [], hW', trodAll_cons_mk (shut_bool Try.underlying4 _) trodAll_mk0, (trodAll_cons_mk (Below.trod Try.laidOut (by kernel_rfl) (of_decide_eq_true (by kernel_rfl)) k0 hb (fun x hx => by simpa using hlt x (by simp [hx]))) (trodAll_cons_mk (Below.trod Try.laidOut (by kernel_rfl) (of_decide_eq_true (by kernel_rfl)) k1 hb (fun x hx => by simpa using hlt x (by simp [hx]))) trodAll_mk0)), rfl, hb.frame _, fun h => by cases h⟩
theorem over : Rows.casesFairRow.holds Try.pinned (OpenSpec.ofChange Rows.casesFairSpec) :=
  OpenClaim.holds_of_wide 6 Try.f6 rfl rfl rfl rfl rfl rfl rfl ⟨rfl, rfl, rfl, rfl, rfl⟩ rfl rfl rfl rfl rfl (by kernel_rfl) Try.func6 (by kernel_rfl)
    (of_decide_eq_true (by kernel_rfl)) (by unfold Func.isWrapper; first | (rw [if_pos (by decide +kernel)]; kernel_rfl) | (rw [if_neg (by decide +kernel)]; exact ⟨rfl, rfl⟩))
    (fun os started H enc _ => lifted os started H enc)
/-- THE STATEMENT -/
theorem proved : Rows.CasesFairSaid :=
  over
end Go.Proofs.Ytggnomnfcdibeaa.casesFair
