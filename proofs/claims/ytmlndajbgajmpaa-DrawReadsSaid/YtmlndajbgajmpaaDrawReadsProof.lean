/- Proved: DrawReads returns true, and its arguments read afterwards as before, for every list raw of ints, every list codes of bytes and all ints at and to; no condition. -/
import Derived.Test.YtmlndajbgajmpaaLaw
import Derived.Test.YtmlndajbgajmpaaL2Awake
import Derived.Test.YtmlndajbgajmpaaL2Draws
import Derived.LoopTactic
import Derived.WalkKit
import Derived.ProofKit
import Derived.OpenShut
import Derived.SizedLaws
namespace Go.Proofs.Ytmlndajbgajmpaa.drawReads
open Go.ChangeShapes Go.WideShapes Go.ChangeAt Go.RowKit
set_option linter.unusedVariables false
theorem walk (w : World) (v0 : Value) (l0 : List Int) (s0 : SlI w .i64 v0 l0) (v1 : Value) (l1 : List Int) (s1 : SlI w .u8 v1 l1) (a2 : Int) (w2 : (Lit.int .i64 a2).wf = true) (a3 : Int) (w3 : (Lit.int .i64 a3).wf = true) :
    Calls Try.prog 4 #[v0, v1, .int .i64 a2, .int .i64 a3] w fun e w' => e = .returned (.bool true) ∧ Below w.heap.size w w' := by
  by_cases h40 : 40 < l0.length
  · obtain ⟨a, cap, rfl, _⟩ := s0.len
    have := s0.1
    have A := Lib.hid (awake_any w)
    clear s1 s0
    go_enter Try.func4, Try.ntmps4
    go_wp2_with (go_at_call 9; refine A.out.mono ?_; rintro e w' ⟨rfl, hb⟩)
    go_ret
    exact ⟨rfl, by assumption⟩
  · have hlen := s0.len
    obtain ⟨a, cap, rfl, _⟩ := hlen
    have hl0 := s0.1
    have A := Lib.hid (awake_any w)
    have S0 := Lib.hid s0
    have S1 := Lib.hid s1
    have NB := nxt_bd (l1.take 30) 20 (by omega)
    clear s0 s1
    generalize hX : nxt (l1.take 30) 20 = x at *
    have HX := Lib.hid hX
    clear hX
    obtain ⟨nb0, nb1⟩ := NB
    obtain ⟨n, rfl⟩ : ∃ n : Nat, x = n := ⟨x.toNat, by omega⟩
    have hn : n < 20 := by omega
    clear nb0 nb1 w2 w3
    go_enter Try.func4, Try.ntmps4
    go_wp2_with (first
      | (go_at_call 9; refine A.out.mono ?_; rintro e w1 ⟨rfl, hb1⟩)
      | (go_at_call 10; refine (new_any _ l1 30 w1 (S1.out.below hb1) (by omega)).mono ?_; rintro e w2 ⟨rfl, hc2, hb2⟩)
      | (go_at_call 11; refine (next_any _ _ 0 _ w2 hc2 (by omega) (by omega)).mono ?_; rintro e w3 ⟨rfl, hc3, hb3⟩; rw [HX.out])
      | (go_at_call 12; refine (draws_get _ _ 0 _ w3 hc3 (by omega) (by omega)).mono ?_; rintro e w4 ⟨u, rfl, hu, hc4, hb4⟩))
    have hB : Below w.heap.size w w4 := below_grown (below_grown (below_then hb1 hb2) hb3 hb1.size) hb4 hb1.size
    generalize drawsL _ _ _ = D at hu
    clear hc2 hc3 hc4 hb1 hb2 hb3 hb4 HX A S1
    refine (rorder_any _ _ D _ hu (by omega) (by omega)).mono ?_; rintro e w5 ⟨rfl, ho5, hb5⟩
    have hL : (shuf D ((1 + (n : Int)).toNat - 1) (asc (1 + (n : Int)).toNat)).length = n + 1 := by rw [shuf_length, asc_length]; omega
    have hM : ∀ x ∈ shuf D ((1 + (n : Int)).toNat - 1) (asc (1 + (n : Int)).toNat), 0 ≤ x ∧ x < (n : Int) + 1 := fun x hx => by
      have := asc_mem _ _ (shuf_mem D _ _ (by rw [asc_length]; omega) x hx); omega
    rw [show (1 + (n : Int)).toNat = n + 1 by omega] at *
    generalize shuf D (n + 1 - 1) (asc (n + 1)) = L at *
    have hS5 := ho5.read (by omega) (fun x hx => i64_ok x (by have := hM x hx; omega) (by have := hM x hx; omega))
    have HL := Lib.hid hL
    have hB5 := below_then hB hb5
    have B1 : 0 ≤ a2 % (1 + (n : Int)) := Int.emod_nonneg _ (by omega)
    have B2 : a2 % (1 + (n : Int)) < 1 + (n : Int) := Int.emod_lt_of_pos _ (by omega)
    have B3 : 0 ≤ a3 % (1 + (n : Int) + 1) := Int.emod_nonneg _ (by omega)
    have B4 : a3 % (1 + (n : Int) + 1) < 1 + (n : Int) + 1 := Int.emod_lt_of_pos _ (by omega)
    obtain ⟨p, hp⟩ : ∃ p : Nat, a2 % (1 + (n : Int)) = p := ⟨(a2 % (1 + (n : Int))).toNat, by omega⟩
    generalize ht : a3 % (1 + (n : Int) + 1) = t at *
    have HP := Lib.hid hp
    have HT := Lib.hid ht
    rw [hp] at B1 B2
    have hpn : p < n + 1 := by omega
    have HM := Lib.hid hM
    clear ho5 hb5 hB hu hL hp ht hM
    go_wp2_with (at_builtin; refine wp_copy_i64 w5 rfl _ _ rfl _ L rfl rfl hS5 ?hne ?hle ?_)
    case hne => intro h; rw [h] at HL; exact absurd HL.out (by simp)
    case hle => rw [HL.out]; omega
    intro g cg w6 ho6 hb6 hg6
    rw [HL.out]
    rw [HL.out] at ho6
    obtain ⟨c1, c2⟩ := ho6.cell p (by rw [HL.out]; exact hpn)
    generalize L.getD p 0 = lp at c1
    have ho7 := ho6.store p t HL.out.symm
    have hS6 : SlI (w6.setCell ⟨g, p, none⟩ (.int .i64 t)) .i64 (.slice (some ⟨g, 0, none⟩) (n + 1) cg) (L.set p t) := by
      refine ho7.read (by rw [List.length_set, HL.out]; omega) fun x hx => ?_
      rcases List.mem_or_eq_of_mem_set hx with h | rfl
      · have := HM.out x h; exact i64_ok x (by omega) (by omega)
      · exact i64_ok x (by omega) (by omega)
    have hS5' := (hS5.below hb6)
    have HW := Lib.hid (And.intro (((below_then hB5 hb6).setCell (p := ⟨g, p, none⟩) (Nat.le_trans hB5.size hg6) (.int .i64 t))) (And.intro (S0.out.below ((below_then hB5 hb6).setCell (p := ⟨g, p, none⟩) (Nat.le_trans hB5.size hg6) (.int .i64 t))) (And.intro (hS5.below (hb6.setCell (p := ⟨g, p, none⟩) hg6 (.int .i64 t))) hS6)))
    clear ho6 ho7 hS6 hS5' hS5 hb6 hB5
    go_wp2_with (go_at_call 16; refine (mod_any _ _ _ (by omega) (by omega)).mono ?_; rintro e wm ⟨rfl, rfl⟩; first | rw [HP.out] | rw [HT.out])
    have HX : Hid (w6.heap.size = (w6.setCell ⟨g, p, none⟩ (.int .i64 t)).heap.size) := Lib.hid (by simp)
    clear c1 c2
    generalize w6.setCell ⟨g, p, none⟩ (.int .i64 t) = w7 at *
    have S0x := Lib.hid (HW.out.2.1.below (below_new (Below.refl w7.heap.size w7) (.cells #[Value.slice a l0.length cap, Value.slice (some ⟨w4.heap.size, 0, none⟩) (n + 1) (n + 1), Value.slice (some ⟨g, 0, none⟩) (n + 1) cg] 22)))
    have S1x := Lib.hid (HW.out.2.2.1.below (below_new (Below.refl w7.heap.size w7) (.cells #[Value.slice a l0.length cap, Value.slice (some ⟨w4.heap.size, 0, none⟩) (n + 1) (n + 1), Value.slice (some ⟨g, 0, none⟩) (n + 1) cg] 22)))
    have S2x := Lib.hid (HW.out.2.2.2.below (below_new (Below.refl w7.heap.size w7) (.cells #[Value.slice a l0.length cap, Value.slice (some ⟨w4.heap.size, 0, none⟩) (n + 1) (n + 1), Value.slice (some ⟨g, 0, none⟩) (n + 1) cg] 22)))
    have HZ := Lib.hid (below_new HW.out.1 (.cells #[Value.slice a l0.length cap, Value.slice (some ⟨w4.heap.size, 0, none⟩) (n + 1) (n + 1), Value.slice (some ⟨g, 0, none⟩) (n + 1) cg] 22))
    have hle : w.heap.size ≤ w7.heap.size + 1 := by have := HW.out.1.size; omega
    go_loopw [14, 15, 16, 17, 18, 50] (fun _ _ _ _ _ c wr => ∃ k : Nat, k ≤ 3 ∧ c = .int .i64 k ∧ Below (w7.alloc (.cells #[Value.slice a l0.length cap, Value.slice (some ⟨w4.heap.size, 0, none⟩) (n + 1) (n + 1), Value.slice (some ⟨g, 0, none⟩) (n + 1) cg] 22)).heap.size (w7.alloc (.cells #[Value.slice a l0.length cap, Value.slice (some ⟨w4.heap.size, 0, none⟩) (n + 1) (n + 1), Value.slice (some ⟨g, 0, none⟩) (n + 1) cg] 22)) wr) (fun _ _ _ _ _ c _ => 3 - (intOf c).toNat)
    case atStart => exact ⟨0, by omega, rfl, Below.refl _ _⟩
    case round =>
      obtain ⟨k, hk, rfl, hbr⟩ := hrel
      obtain rfl | rfl | rfl | rfl : k = 0 ∨ k = 1 ∨ k = 2 ∨ k = 3 := by omega
      · have c0 : wr.cell? ⟨w6.heap.size, 0, none⟩ = some (Value.slice a l0.length cap) := (hbr.cell (p := ⟨w6.heap.size, 0, none⟩) (by rw [HX.out]; simp)).trans (World.cell?_alloc_at _ _ _ _ HX.out)
        have sx : Hid (SlI wr .i64 (Value.slice a l0.length cap) (l0)) := Lib.hid (S0x.out.below hbr)
        have HB := Lib.hid hbr
        clear hbr
        go_wp2_with fail
        refine (unperm_any _ (l0) _ sx.out).mono ?_; rintro e wa ⟨ua, rfl, hua, hba⟩
        go_wp2_with fail
        refine (runperm_any _ (l0) _ (sx.out.below hba)).mono ?_; rintro e wb ⟨ub, rfl, hub, hbb⟩
        generalize drwB (l0) = bb at *
        generalize drwL (l0) = ll at *
        have hq : (bb != bb) = false := by simp
        go_wp2_with fail
        refine (same_any _ _ _ _ _ (hua.below hbb) hub).mono ?_; rintro e wc ⟨nc, rfl, rfl⟩; rw [decide_eq_true rfl]
        have HB2 := Lib.hid (below_drewN (below_then (below_then HB.out hba) hbb) nc)
        clear hua hub hba hbb
        go_wp2
        go_roundw
        case rel => exact ⟨1, by omega, rfl, HB2.out⟩
        case measure => simp [intOf]
      · have c0 : wr.cell? ⟨w6.heap.size, 1, none⟩ = some (Value.slice (some ⟨w4.heap.size, 0, none⟩) (n + 1) (n + 1)) := (hbr.cell (p := ⟨w6.heap.size, 1, none⟩) (by rw [HX.out]; simp)).trans (World.cell?_alloc_at _ _ _ _ HX.out)
        have sx : Hid (SlI wr .i64 (Value.slice (some ⟨w4.heap.size, 0, none⟩) (n + 1) (n + 1)) (L)) := Lib.hid (S1x.out.below hbr)
        have HB := Lib.hid hbr
        clear hbr
        go_wp2_with fail
        refine (unperm_any _ (L) _ sx.out).mono ?_; rintro e wa ⟨ua, rfl, hua, hba⟩
        go_wp2_with fail
        refine (runperm_any _ (L) _ (sx.out.below hba)).mono ?_; rintro e wb ⟨ub, rfl, hub, hbb⟩
        generalize drwB (L) = bb at *
        generalize drwL (L) = ll at *
        have hq : (bb != bb) = false := by simp
        go_wp2_with fail
        refine (same_any _ _ _ _ _ (hua.below hbb) hub).mono ?_; rintro e wc ⟨nc, rfl, rfl⟩; rw [decide_eq_true rfl]
        have HB2 := Lib.hid (below_drewN (below_then (below_then HB.out hba) hbb) nc)
        clear hua hub hba hbb
        go_wp2
        go_roundw
        case rel => exact ⟨2, by omega, rfl, HB2.out⟩
        case measure => simp [intOf]
      · have c0 : wr.cell? ⟨w6.heap.size, 2, none⟩ = some (Value.slice (some ⟨g, 0, none⟩) (n + 1) cg) := (hbr.cell (p := ⟨w6.heap.size, 2, none⟩) (by rw [HX.out]; simp)).trans (World.cell?_alloc_at _ _ _ _ HX.out)
        have sx : Hid (SlI wr .i64 (Value.slice (some ⟨g, 0, none⟩) (n + 1) cg) (L.set p t)) := Lib.hid (S2x.out.below hbr)
        have HB := Lib.hid hbr
        clear hbr
        go_wp2_with fail
        refine (unperm_any _ (L.set p t) _ sx.out).mono ?_; rintro e wa ⟨ua, rfl, hua, hba⟩
        go_wp2_with fail
        refine (runperm_any _ (L.set p t) _ (sx.out.below hba)).mono ?_; rintro e wb ⟨ub, rfl, hub, hbb⟩
        generalize drwB (L.set p t) = bb at *
        generalize drwL (L.set p t) = ll at *
        have hq : (bb != bb) = false := by simp
        go_wp2_with fail
        refine (same_any _ _ _ _ _ (hua.below hbb) hub).mono ?_; rintro e wc ⟨nc, rfl, rfl⟩; rw [decide_eq_true rfl]
        have HB2 := Lib.hid (below_drewN (below_then (below_then HB.out hba) hbb) nc)
        clear hua hub hba hbb
        go_wp2
        go_roundw
        case rel => exact ⟨3, by omega, rfl, HB2.out⟩
        case measure => simp [intOf]
      · have HB := Lib.hid (below_then HZ.out hbr)
        clear hbr
        go_wp2
        go_ret
        exact ⟨rfl, HB.out⟩
set_option maxRecDepth 100000 in
theorem lifted (os : Os) (started : os.Started) (H : Type) (enc : TypeId × Value → H) :
    ReturnsInHanded {} Try.checked os 4 .any (Rows.drawReadsSpec.pre6 enc Try.prog Try.f4 Rows.drawReadsRow.domain false) (Rows.drawReadsSpec.post enc Try.prog Try.f4 false true false false) := by
  refine returnsInHanded_of_change_sized (C := Try.checked) own started (by kernel_rfl) Try.func4
    (ChangeSpec.witness6 (enc := enc) (C := Try.checked) false ⟨#[], #[.slice none 0 0, .slice none 0 0, .int .i64 0, .int .i64 0], []⟩ 8 (by kernel_rfl) (by kernel_rfl) (by kernel_rfl) (by kernel_rfl)) ?_
  intro W base args ds gs before hval0 hW _ hsz0 _
  have hsz : (DataW.weightsEach Try.prog (Try.f4.params.toList ++ Rows.drawReadsSpec.plain.varTypes Try.prog) (ds ++ gs)).all (· ≤ reachBytes) = true := hsz0
  clear hsz0
  have hval : ∀ (j : Nat) t v, Try.f4.params[j]? = some t → args[j]? = some v → Value.okWide Try.prog W .any base t v := hval0
  have hW' := hW
  obtain ⟨p, q, hA0, hV, rfl, _, _⟩ := hW
  have hA : DataW.TrodAll enc Try.prog W 0 (fun _ => true) true Try.f4.params.toList args.toList ds p := hA0
  rw [Try.params4] at hA hval hsz
  obtain ⟨v0, vs0, d0, ds0, p0, q0, hargs, rfl, rfl, h0, r0⟩ := trodAll_cons hA
  obtain ⟨v1, vs1, d1, ds1, p1, q1, rfl, rfl, rfl, h1, r1⟩ := trodAll_cons r0
  obtain ⟨v2, vs2, d2, ds2, p2, q2, rfl, rfl, rfl, h2, r2⟩ := trodAll_cons r1
  obtain ⟨v3, vs3, d3, ds3, p3, q3, rfl, rfl, rfl, h3, r3⟩ := trodAll_cons r2
  obtain ⟨rfl, rfl, rfl⟩ := trodAll_nil r3
  obtain rfl : args = #[v0, v1, v2, v3] := by cases args; simp_all
  obtain ⟨rfl, rfl⟩ := trodVars_none hV
  have k0 := h0
  have k1 := h1
  have k2 := h2
  have k3 := h3
  obtain ⟨l0, s0⟩ := view_sl (k := .i64) Try.underlying22 Try.underlying3 (by kernel_rfl) (fun elems sp hd => sized_slice hsz (j := 0) (t := 22) (e := 3) rfl (by rw [hd]; rfl) Try.underlying22) (of_decide_eq_true (by kernel_rfl)) (hval 0 22 v0 rfl rfl) h0
  obtain ⟨l1, s1⟩ := view_sl (k := .u8) Try.underlying23 Try.underlying5 (by kernel_rfl) (fun elems sp hd => sized_slice hsz (j := 1) (t := 23) (e := 5) rfl (by rw [hd]; rfl) Try.underlying23) (of_decide_eq_true (by kernel_rfl)) (hval 1 23 v1 rfl rfl) h1
  obtain ⟨a2, rfl, -, -, w2⟩ := open_int Try.underlying3 (hval 2 3 v2 rfl rfl) h2
  obtain ⟨a3, rfl, -, -, w3⟩ := open_int Try.underlying3 (hval 3 3 v3 rfl rfl) h3
  clear hA0 hval0
  simp only [List.append_nil] at hW'
  have hlt := hW'.lt
  refine (walk W v0 l0 s0 v1 l1 s1 a2 w2 a3 w3).mono fun e W' ⟨he, hb⟩ => ?_
  subst he
  exact ⟨_, rfl, _, _, _, [], _, [], hW', trodAll_cons_mk (shut_bool Try.underlying4 _) trodAll_mk0, (trodAll_cons_mk (Below.trod Try.laidOut (by kernel_rfl) (of_decide_eq_true (by kernel_rfl)) k0 hb (fun x hx => by simpa using hlt x (by simp [hx]))) (trodAll_cons_mk (Below.trod Try.laidOut (by kernel_rfl) (of_decide_eq_true (by kernel_rfl)) k1 hb (fun x hx => by simpa using hlt x (by simp [hx]))) (trodAll_cons_mk (Below.trod Try.laidOut (by kernel_rfl) (of_decide_eq_true (by kernel_rfl)) k2 hb (fun x hx => by simpa using hlt x (by simp [hx]))) (trodAll_cons_mk (Below.trod Try.laidOut (by kernel_rfl) (of_decide_eq_true (by kernel_rfl)) k3 hb (fun x hx => by simpa using hlt x (by simp [hx]))) trodAll_mk0)))), rfl, hb.frame _, fun h => by cases h⟩
theorem over : Rows.drawReadsRow.holds Try.pinned (OpenSpec.ofChange Rows.drawReadsSpec) :=
  OpenClaim.holds_of_wide 4 Try.f4 rfl rfl rfl rfl rfl rfl rfl ⟨rfl, rfl, rfl, rfl, rfl⟩ rfl rfl rfl rfl rfl (by kernel_rfl) Try.func4 (by kernel_rfl)
    (of_decide_eq_true (by kernel_rfl)) (by unfold Func.isWrapper; first | (rw [if_pos (by decide +kernel)]; kernel_rfl) | (rw [if_neg (by decide +kernel)]; exact ⟨rfl, rfl⟩))
    (fun os started H enc _ => lifted os started H enc)
/-- THE STATEMENT -/
theorem proved : Rows.DrawReadsSaid :=
  over
end Go.Proofs.Ytmlndajbgajmpaa.drawReads
