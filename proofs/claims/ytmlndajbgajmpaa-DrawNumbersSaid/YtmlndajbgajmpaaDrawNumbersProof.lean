/- Proved: DrawNumbers returns true, and its arguments read afterwards as before, for all ints n and k, every list raw of ints and every list codes of bytes; no condition. -/
import Derived.Test.YtmlndajbgajmpaaLaw
import Derived.Test.YtmlndajbgajmpaaL2Awake
import Derived.Test.YtmlndajbgajmpaaL2Perm
import Derived.LoopTactic
import Derived.WalkKit
import Derived.ProofKit
import Derived.OpenShut
import Derived.SizedLaws
namespace Go.Proofs.Ytmlndajbgajmpaa.drawNumbers
open Go.ChangeShapes Go.WideShapes Go.ChangeAt Go.RowKit
set_option linter.unusedVariables false
set_option maxRecDepth 100000 in
set_option maxHeartbeats 1000000 in
theorem walk (w : World) (a0 : Int) (w0 : (Lit.int .i64 a0).wf = true) (a1 : Int) (w1 : (Lit.int .i64 a1).wf = true) (v2 : Value) (l2 : List Int) (s2 : SlI w .i64 v2 l2) (v3 : Value) (l3 : List Int) (s3 : SlI w .u8 v3 l3) :
    Calls Try.prog 6 #[.int .i64 a0, .int .i64 a1, v2, v3] w fun e w' => e = .returned (.bool true) ∧ Below w.heap.size w w' := by
  by_cases h40 : 40 < l2.length
  · obtain ⟨a, cap, rfl, _⟩ := s2.len
    have := s2.1
    have A := Lib.hid (awake_any w)
    clear s2 s3
    go_enter Try.func6, Try.ntmps6
    go_wp2_with (go_at_call 9; refine A.out.mono ?_; rintro e w' ⟨rfl, hb⟩)
    go_ret
    exact ⟨rfl, by assumption⟩
  · obtain ⟨a, cap, rfl, _⟩ := s2.len
    have hl2 := s2.1
    have A := Lib.hid (awake_any w)
    have S2 := Lib.hid s2
    have S3 := Lib.hid s3
    have NB := nxt_bd (l3.take 30) 23 (by omega)
    clear s2 s3 w0 w1
    generalize hX : nxt (l3.take 30) 23 = x at *
    have HX := Lib.hid hX
    clear hX
    obtain ⟨nb0, nb1⟩ := NB
    go_enter Try.func6, Try.ntmps6
    go_wp2_with (first
      | (go_at_call 9; refine A.out.mono ?_; rintro e w1 ⟨rfl, hb1⟩)
      | (go_at_call 10; refine (new_any _ l3 30 w1 (S3.out.below hb1) (by omega)).mono ?_; rintro e w2 ⟨rfl, hc2, hb2⟩)
      | (go_at_call 11; refine (next_any _ _ 0 _ w2 hc2 (by omega) (by omega)).mono ?_; rintro e w3 ⟨rfl, hc3, hb3⟩; rw [HX.out])
      | (go_at_call 12; refine (draws_get _ _ 0 _ w3 hc3 (by omega) (by omega)).mono ?_; rintro e w4 ⟨u, rfl, hu, hc4, hb4⟩; have hB : Hid (Below w.heap.size w w4) := below_grown (below_grown (below_then hb1 hb2) hb3 hb1.size) hb4 hb1.size; have hU := Lib.hid hu; clear hu hc2 hc3 hc4 hb1 hb2 hb3 hb4))
    all_goals
      generalize drawsL _ _ _ = D at hU
      clear A S3
      have S2' := Lib.hid (S2.out.below hB.out)
      have hDl := hU.out.1
      obtain ⟨au, cu, rfl, _⟩ := hU.out.len
      clear S2
      obtain ⟨x1, hx1⟩ : ∃ x1, x - 1 = x1 := ⟨_, rfl⟩
      rw [hx1]
      clear hx1 nb0 nb1 HX
      have cX0 := World.cell?_alloc_at (w := w4) #[.int .i64 a0, .int .i64 x1] 3 w4.heap.size 0 rfl
      have cX1 := World.cell?_alloc_at (w := w4) #[.int .i64 a0, .int .i64 x1] 3 w4.heap.size 1 rfl
      have SX := Lib.hid (S2'.out.below (below_new (Below.refl w4.heap.size w4) (.cells #[.int .i64 a0, .int .i64 x1] 3)))
      have UX := Lib.hid (hU.out.below (below_new (Below.refl w4.heap.size w4) (.cells #[.int .i64 a0, .int .i64 x1] 3)))
      have BX := Lib.hid (below_new hB.out (.cells #[.int .i64 a0, .int .i64 x1] 3))
      have szX : w4.heap.size < (w4.alloc (.cells #[.int .i64 a0, .int .i64 x1] 3)).heap.size := by simp
      generalize w4.alloc (.cells #[.int .i64 a0, .int .i64 x1] 3) = wX at *
      generalize w4.heap.size = B0 at *
      simp at cX0 cX1
      have CX : Hid (∀ k : Nat, k < 2 → ∃ y, wX.cell? ⟨B0, k, none⟩ = some (.int .i64 y)) := fun k hk => by
        obtain rfl | rfl : k = 0 ∨ k = 1 := by omega
        · exact ⟨_, cX0⟩
        · exact ⟨_, cX1⟩
      clear cX0 cX1 S2' hU hB
      go_loopw [46] (fun c wr => ∃ k : Nat, k ≤ 2 ∧ c = .int .i64 k ∧ Hid (Below wX.heap.size wX wr)) (fun c _ => 2 - (intOf c).toNat)
      case atStart => exact ⟨0, by omega, rfl, Below.refl _ _⟩
      case round =>
        obtain ⟨k, hk, rfl, hbr⟩ := hrel
        by_cases hlt : k < 2
        · obtain ⟨y, cy⟩ := CX.out k hlt
          have cy := (hbr.out.cell (p := ⟨B0, k, none⟩) szX).trans cy
          have hq1 : (cntI y != cntI y) = false := by simp
          obtain ⟨wo, rfl⟩ : ∃ wo : World, wo = wr := ⟨_, rfl⟩
          go_wp2_with (first
            | (go_at_call 19; refine (count_any _ _).mono ?_; rintro e w' ⟨rfl, rfl⟩)
            | (go_at_call 20; refine (rcount_any _ _).mono ?_; rintro e w' ⟨rfl, rfl⟩)
            | (go_at_call 16; refine (mod_any _ _ _ (by omega) (by omega)).mono ?_; rintro e w' ⟨rfl, rfl⟩))
          generalize wrap64 (cntI y - 1) = z3
          generalize a1 % 5041 = z2
          have cI0 := World.cell?_alloc_at (w := wo) #[.int .i64 a1, .int .i64 z2, .int .i64 z3] 3 wo.heap.size 0 rfl
          have cI1 := World.cell?_alloc_at (w := wo) #[.int .i64 a1, .int .i64 z2, .int .i64 z3] 3 wo.heap.size 1 rfl
          have cI2 := World.cell?_alloc_at (w := wo) #[.int .i64 a1, .int .i64 z2, .int .i64 z3] 3 wo.heap.size 2 rfl
          have BI := Lib.hid (below_new hbr.out (.cells #[.int .i64 a1, .int .i64 z2, .int .i64 z3] 3))
          have szI : wo.heap.size < (wo.alloc (.cells #[.int .i64 a1, .int .i64 z2, .int .i64 z3] 3)).heap.size := by simp
          generalize wo.alloc (.cells #[.int .i64 a1, .int .i64 z2, .int .i64 z3] 3) = wI at *
          generalize wo.heap.size = B1 at *
          simp at cI0 cI1 cI2
          have CI : Hid (∀ k : Nat, k < 3 → ∃ z, wI.cell? ⟨B1, k, none⟩ = some (.int .i64 z)) := fun k hk => by
            obtain rfl | rfl | rfl : k = 0 ∨ k = 1 ∨ k = 2 := by omega
            · exact ⟨_, cI0⟩
            · exact ⟨_, cI1⟩
            · exact ⟨_, cI2⟩
          clear cI0 cI1 cI2 cy hq1
          go_loopw [63] (fun c wr => ∃ j : Nat, j ≤ 3 ∧ c = .int .i64 j ∧ Hid (Below wI.heap.size wI wr)) (fun c _ => 3 - (intOf c).toNat)
          case atStart => exact ⟨0, by omega, rfl, Below.refl _ _⟩
          case round =>
            obtain ⟨j, hj, rfl, hbi⟩ := hrel
            by_cases hlt3 : j < 3
            · obtain ⟨z, cz⟩ := CI.out j hlt3
              have cz := (hbi.out.cell (p := ⟨B1, j, none⟩) szI).trans cz
              have N1 := Lib.hid (nth_any y z)
              have N2 := Lib.hid (rnth_any y z)
              have IN := Lib.hid (index_nth y z)
              have IA := Lib.hid fun u w' h => index_any u (nthL y z) w' h
              have hq2 : (z != z) = false := by simp
              obtain ⟨w9, rfl⟩ : ∃ w9 : World, w9 = wr := ⟨_, rfl⟩
              generalize nthL y z = NL at *
              generalize nthB y z = NB at *
              cases NB with
              | false =>
                go_wp2_with fail
                refine (N1.out _).mono ?_; rintro e wa ⟨ua, rfl, hua, hba⟩
                go_wp2_with fail
                refine (N2.out _).mono ?_; rintro e wb ⟨ub, rfl, hub, hbb⟩
                go_wp2_with fail
                refine (same_any _ _ NL NL _ (hua.below hbb) hub).mono ?_; rintro e wc ⟨nc, rfl, rfl⟩; rw [decide_eq_true rfl]
                have F := Lib.hid (below_drewN (below_then (below_then hbi.out hba) hbb) nc)
                clear hua hub hba hbb
                go_wp2
                go_roundw
                case rel => exact ⟨j + 1, by omega, by go_num, F⟩
                case measure => simp [intOf]; omega
              | true =>
                obtain ⟨i1, i2⟩ := IN.out rfl
                have I1 := Lib.hid (And.intro i1 i2)
                clear i1 i2
                go_wp2_with fail
                refine (N1.out _).mono ?_; rintro e wa ⟨ua, rfl, hua, hba⟩
                go_wp2_with fail
                refine (N2.out _).mono ?_; rintro e wb ⟨ub, rfl, hub, hbb⟩
                go_wp2_with fail
                refine (same_any _ _ NL NL _ (hua.below hbb) hub).mono ?_; rintro e wc ⟨nc, rfl, rfl⟩; rw [decide_eq_true rfl]
                have hua2 := (hua.below hbb).drew nc
                have F := Lib.hid (below_drewN (below_then (below_then hbi.out hba) hbb) nc)
                clear hua hub hba hbb
                go_wp2_with fail
                refine (IA.out _ _ hua2).mono ?_; rintro e wd ⟨rfl, rfl⟩; rw [I1.out.1, I1.out.2]
                clear hua2
                go_wp2
                go_roundw
                case rel => exact ⟨j + 1, by omega, by go_num, F⟩
                case measure => simp [intOf]; omega
            · obtain rfl : j = 3 := by omega
              have F := Lib.hid (below_then BI.out hbi.out)
              go_wp2
              go_roundw
              case rel => exact ⟨k + 1, by omega, by go_num, F⟩
              case measure => simp [intOf]; omega
        · obtain rfl : k = 2 := by omega
          obtain ⟨wo, rfl⟩ : ∃ wo : World, wo = wr := ⟨_, rfl⟩
          have SO := Lib.hid (SX.out.below hbr.out)
          have UO := Lib.hid (UX.out.below hbr.out)
          have BO := Lib.hid (below_then BX.out hbr.out)
          go_wp2
          have SI := Lib.hid (SO.out.below (below_new (Below.refl wo.heap.size wo) (.cells #[.slice a l2.length cap, .slice au D.length cu] 22)))
          have UI := Lib.hid (UO.out.below (below_new (Below.refl wo.heap.size wo) (.cells #[.slice a l2.length cap, .slice au D.length cu] 22)))
          have BI := Lib.hid (below_new BO.out (.cells #[.slice a l2.length cap, .slice au D.length cu] 22))
          have cI0 := World.cell?_alloc_at (w := wo) #[.slice a l2.length cap, .slice au D.length cu] 22 wo.heap.size 0 rfl
          have cI1 := World.cell?_alloc_at (w := wo) #[.slice a l2.length cap, .slice au D.length cu] 22 wo.heap.size 1 rfl
          have szI : wo.heap.size < (wo.alloc (.cells #[.slice a l2.length cap, .slice au D.length cu] 22)).heap.size := by simp
          generalize wo.alloc (.cells #[.slice a l2.length cap, .slice au D.length cu] 22) = wI at *
          generalize wo.heap.size = B1 at *
          simp at cI0 cI1
          have CI : Hid (∀ k : Nat, k < 2 → ∃ z L, wI.cell? ⟨B1, k, none⟩ = some z ∧ SlI wI .i64 z L) := fun k hk => by
            obtain rfl | rfl : k = 0 ∨ k = 1 := by omega
            · exact ⟨_, _, cI0, SI.out⟩
            · exact ⟨_, _, cI1, UI.out⟩
          clear cI0 cI1 SO UO SI UI SX UX hbr BX
          go_loopw [107] (fun c wr => ∃ j : Nat, j ≤ 2 ∧ c = .int .i64 j ∧ Hid (Below wI.heap.size wI wr)) (fun c _ => 2 - (intOf c).toNat)
          case atStart => exact ⟨0, by omega, rfl, Below.refl _ _⟩
          case round =>
            obtain ⟨j, hj, rfl, hbi⟩ := hrel
            by_cases hlt3 : j < 2
            · obtain ⟨z, L, cz, hz⟩ := CI.out j hlt3
              have cz := (hbi.out.cell (p := ⟨B1, j, none⟩) szI).trans cz
              have hz := Lib.hid (hz.below hbi.out)
              obtain ⟨az, cz2, rfl, _⟩ := hz.out.len
              have hLl := hz.out.1
              have hq1 : (idxI L != idxI L) = false := by simp
              have hq2 : (idxB L != idxB L) = false := by simp
              go_wp2_with (first
                | (go_at_call 23; refine (index_any _ L _ hz.out).mono ?_; rintro e w' ⟨rfl, rfl⟩)
                | (go_at_call 24; refine (rindex_any _ L _ hz.out).mono ?_; rintro e w' ⟨rfl, rfl⟩))
              go_roundw
              case rel => first | exact ⟨j + 1, by omega, by go_num, hbi⟩ | ((repeat apply Exists.intro); exact ⟨⟨j + 1, by omega, by go_num, hbi⟩, rfl⟩)
              case measure => simp [intOf]; omega
            · obtain rfl : j = 2 := by omega
              have F := Lib.hid (below_then BI.out hbi.out)
              go_wp2
              go_ret
              exact ⟨rfl, F.out⟩
set_option maxRecDepth 100000 in
theorem lifted (os : Os) (started : os.Started) (H : Type) (enc : TypeId × Value → H) :
    ReturnsInHanded {} Try.checked os 6 .any (Rows.drawNumbersSpec.pre6 enc Try.prog Try.f6 Rows.drawNumbersRow.domain false) (Rows.drawNumbersSpec.post enc Try.prog Try.f6 false true false false) := by
  refine returnsInHanded_of_change_sized (C := Try.checked) own started (by kernel_rfl) Try.func6
    (ChangeSpec.witness6 (enc := enc) (C := Try.checked) false ⟨#[], #[.int .i64 0, .int .i64 0, .slice none 0 0, .slice none 0 0], []⟩ 8 (by kernel_rfl) (by kernel_rfl) (by kernel_rfl) (by kernel_rfl)) ?_
  intro W base args ds gs before hval0 hW _ hsz0 _
  have hsz : (DataW.weightsEach Try.prog (Try.f6.params.toList ++ Rows.drawNumbersSpec.plain.varTypes Try.prog) (ds ++ gs)).all (· ≤ reachBytes) = true := hsz0
  clear hsz0
  have hval : ∀ (j : Nat) t v, Try.f6.params[j]? = some t → args[j]? = some v → Value.okWide Try.prog W .any base t v := hval0
  have hW' := hW
  obtain ⟨p, q, hA0, hV, rfl, _, _⟩ := hW
  have hA : DataW.TrodAll enc Try.prog W 0 (fun _ => true) true Try.f6.params.toList args.toList ds p := hA0
  rw [Try.params6] at hA hval hsz
  obtain ⟨v0, vs0, d0, ds0, p0, q0, hargs, rfl, rfl, h0, r0⟩ := trodAll_cons hA
  obtain ⟨v1, vs1, d1, ds1, p1, q1, rfl, rfl, rfl, h1, r1⟩ := trodAll_cons r0
  obtain ⟨v2, vs2, d2, ds2, p2, q2, rfl, rfl, rfl, h2, r2⟩ := trodAll_cons r1
  obtain ⟨v3, vs3, d3, ds3, p3, q3, rfl, rfl, rfl, h3, r3⟩ := trodAll_cons r2
  obtain ⟨rfl, rfl, rfl⟩ := trodAll_nil r3
  obtain rfl : args = #[v0, v1, v2, v3] := by cases args; simp_all
  obtain ⟨rfl, rfl⟩ := trodVars_none hV
  have k0 := h0
  have k1 := h1
  have k2 := h2
  have k3 := h3
  obtain ⟨a0, rfl, -, -, w0⟩ := open_int Try.underlying3 (hval 0 3 v0 rfl rfl) h0
  obtain ⟨a1, rfl, -, -, w1⟩ := open_int Try.underlying3 (hval 1 3 v1 rfl rfl) h1
  obtain ⟨l2, s2⟩ := view_sl (k := .i64) Try.underlying22 Try.underlying3 (by kernel_rfl) (fun elems sp hd => sized_slice hsz (j := 2) (t := 22) (e := 3) rfl (by rw [hd]; rfl) Try.underlying22) (of_decide_eq_true (by kernel_rfl)) (hval 2 22 v2 rfl rfl) h2
  obtain ⟨l3, s3⟩ := view_sl (k := .u8) Try.underlying23 Try.underlying5 (by kernel_rfl) (fun elems sp hd => sized_slice hsz (j := 3) (t := 23) (e := 5) rfl (by rw [hd]; rfl) Try.underlying23) (of_decide_eq_true (by kernel_rfl)) (hval 3 23 v3 rfl rfl) h3
  clear hA0 hval0
  simp only [List.append_nil] at hW'
  have hlt := hW'.lt
  refine (walk W a0 w0 a1 w1 v2 l2 s2 v3 l3 s3).mono fun e W' ⟨he, hb⟩ => ?_
  subst he
  exact ⟨_, rfl, _, _, _, [], _, [], hW', trodAll_cons_mk (shut_bool Try.underlying4 _) trodAll_mk0, (trodAll_cons_mk (Below.trod Try.laidOut (by kernel_rfl) (of_decide_eq_true (by kernel_rfl)) k0 hb (fun x hx => by simpa using hlt x (by simp [hx]))) (trodAll_cons_mk (Below.trod Try.laidOut (by kernel_rfl) (of_decide_eq_true (by kernel_rfl)) k1 hb (fun x hx => by simpa using hlt x (by simp [hx]))) (trodAll_cons_mk (Below.trod Try.laidOut (by kernel_rfl) (of_decide_eq_true (by kernel_rfl)) k2 hb (fun x hx => by simpa using hlt x (by simp [hx]))) (trodAll_cons_mk (Below.trod Try.laidOut (by kernel_rfl) (of_decide_eq_true (by kernel_rfl)) k3 hb (fun x hx => by simpa using hlt x (by simp [hx]))) trodAll_mk0)))), rfl, hb.frame _, fun h => by cases h⟩
theorem over : Rows.drawNumbersRow.holds Try.pinned (OpenSpec.ofChange Rows.drawNumbersSpec) :=
  OpenClaim.holds_of_wide 6 Try.f6 rfl rfl rfl rfl rfl rfl rfl ⟨rfl, rfl, rfl, rfl, rfl⟩ rfl rfl rfl rfl rfl (by kernel_rfl) Try.func6 (by kernel_rfl)
    (of_decide_eq_true (by kernel_rfl)) (by unfold Func.isWrapper; first | (rw [if_pos (by decide +kernel)]; kernel_rfl) | (rw [if_neg (by decide +kernel)]; exact ⟨rfl, rfl⟩))
    (fun os started H enc _ => lifted os started H enc)
/-- THE STATEMENT -/
theorem proved : Rows.DrawNumbersSaid :=
  over
end Go.Proofs.Ytmlndajbgajmpaa.drawNumbers
