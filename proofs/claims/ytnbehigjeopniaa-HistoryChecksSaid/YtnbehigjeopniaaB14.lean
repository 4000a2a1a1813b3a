import Derived.Deep.DeepCutAuto
import Derived.Deep.CutBlock
import Derived.Test.YtnbehigjeopniaaB07
import Derived.Test.YtnbehigjeopniaaB12
set_option linter.unusedVariables false
set_option linter.unusedSimpArgs false
/- Layer 16: the program's find, Called, Returned, Precedes. -/
namespace Go.Proofs.Ytnbehigjeopniaa
open Go.ChangeShapes Go.WideShapes Go.ChangeAt Go.RowKit
set_option maxRecDepth 100000

theorem rowc1 {w : World} {g : Nat} {T : TypeId} {v0 : Value} (h : w.heap[g]? = some (.cells #[v0] T (0, 0))) : w.cell? ⟨g, 0, none⟩ = some v0 := cell_of_row _ _ 0 _ _ _ h
theorem isE_of2 {et eo t o : Int} {er bk q3 : Bool} {r : ResM} (h3 : (er == bk) = q3) : isE t o bk ⟨et, eo, er, r⟩ = (((et == t) && (eo == o)) && q3) := by
  unfold isE
  dsimp only
  rw [h3]
set_option maxRecDepth 100000 in
set_option maxHeartbeats 16000000 in
theorem hcallOf_any (e : EvM) (w : World) : Calls Try.prog 35 #[evV e] w fun x w' => x = .returned (.agg #[.int .i64 e.thr, .int .i64 e.op]) ∧ Below w.heap.size w w' := by
  obtain ⟨et, eo, er, ⟨rk, rc, rv, ro, rn⟩⟩ := e
  unfold evV
  dsimp only
  obtain ⟨W, hW, HB, R0, R1, hz⟩ := two_new w (.cells #[.int .i64 et, .int .i64 eo, .bool er, .int .i64 rk, .int .i64 rc, .int .u64 rv, .bool ro, .int .i64 rn] 34) (.cells #[.int .i64 0, .int .i64 0] 47)
  have HW := Lib.hid hW
  clear hW
  go_enter Try.func35, Try.ntmps35
  go_upto_region 1 with fail
  rw [HW.out]
  clear HW
  obtain ⟨x0_0, x0_1, x0_2, x0_3, x0_4, x0_5, x0_6, x0_7⟩ := rowc8 R0.out
  go_wp2_with (refine wpList_store_row rfl 47 _ _ rfl (w.heap.size + 1) _ rfl rfl 47 #[.int .i64 0, .int .i64 0] R1.out (by kernel_rfl) rfl (by simp [Value.oneCell']) ?_)
  refine bodyPost_ret (v := .agg #[.int .i64 et, .int .i64 eo]) (results_cell_row Try.results35 _ _ (w.heap.size + 1) 47 _ (0, 0) _ rfl (setRow_heap _ _ _ _ 47 (0, 0) R1.out) Try.underlying47 rfl (by kernel_rfl)) rfl ?_
  exact ⟨rfl, row_below HB.out (by omega) _⟩
set_option maxRecDepth 100000 in
set_option maxHeartbeats 16000000 in
theorem hfind1_any (e : EvM) (t o : Int) (bk : Bool) (B1 B2 : Nat) (w : World) (h1 : w.heap[B1]? = some (.cells #[.bool bk] 4 (0, 0))) (h2 : w.heap[B2]? = some (.cells #[.int .i64 t, .int .i64 o] 47 (0, 0))) : Calls Try.prog 38 #[evV e, .pointer (some ⟨B1, 0, none⟩), .pointer (some ⟨B2, 0, none⟩)] w fun x w' => x = .returned (.bool (isE t o bk e)) ∧ Below w.heap.size w w' := by
  have hl1 := (Array.getElem?_eq_some_iff.1 h1).1
  have hl2 := (Array.getElem?_eq_some_iff.1 h2).1
  have TC := Lib.hid fun w' => hcallOf_any e w'
  obtain ⟨et, eo, er, ⟨rk, rc, rv, ro, rn⟩⟩ := e
  obtain ⟨q3, hq3⟩ : ∃ q, (er == bk) = q := ⟨_, rfl⟩
  rw [isE_of2 hq3]
  unfold evV at TC ⊢
  dsimp only at TC ⊢
  have heq := fun w => run_eql_ca et eo t o w
  obtain ⟨q, hq⟩ : ∃ q, (et == t && eo == o) = q := ⟨_, rfl⟩
  rw [hq] at heq
  rw [hq]
  have k1 := rowc1 h1
  obtain ⟨k2, k3⟩ := rowc2 h2
  clear h1 h2 hq
  have HQ3 := Lib.hid hq3
  clear hq3
  have HK0 := Lib.hid (k1)
  have hbk0 : B1 < w.heap.size := hl1
  have HK1 := Lib.hid (k2)
  have hbk1 : B2 < w.heap.size := hl2
  have HK2 := Lib.hid (k3)
  have hbk2 : B2 < w.heap.size := hl2
  obtain ⟨W, hW, HB, R0, hz⟩ := one_new w (.cells #[.int .i64 et, .int .i64 eo, .bool er, .int .i64 rk, .int .i64 rc, .int .u64 rv, .bool ro, .int .i64 rn] 34)
  have HW := Lib.hid hW
  clear hW
  go_enter Try.func38, Try.ntmps38
  go_upto_region 1 with fail
  rw [HW.out]
  clear HW
  obtain ⟨x0_0, x0_1, x0_2, x0_3, x0_4, x0_5, x0_6, x0_7⟩ := rowc8 R0.out
  have ck0 := (HB.out.cell (p := ⟨B1, 0, none⟩) hbk0).trans HK0.out
  have ck1 := (HB.out.cell (p := ⟨B2, 0, none⟩) hbk1).trans HK1.out
  have ck2 := (HB.out.cell (p := ⟨B2, 1, none⟩) hbk2).trans HK2.out
  clear k1 k2 k3
  have hq3 := HQ3.out
  cases q3 with
  | false =>
    go_upto_region 1 with fail
    have Xx0_0 := ext_cell _ _ (Array.getElem?_eq_some_iff.1 R0.out).1 _ x0_0
    have Xx0_1 := ext_cell _ _ (Array.getElem?_eq_some_iff.1 R0.out).1 _ x0_1
    have Xx0_2 := ext_cell _ _ (Array.getElem?_eq_some_iff.1 R0.out).1 _ x0_2
    have Xx0_3 := ext_cell _ _ (Array.getElem?_eq_some_iff.1 R0.out).1 _ x0_3
    have Xx0_4 := ext_cell _ _ (Array.getElem?_eq_some_iff.1 R0.out).1 _ x0_4
    have Xx0_5 := ext_cell _ _ (Array.getElem?_eq_some_iff.1 R0.out).1 _ x0_5
    have Xx0_6 := ext_cell _ _ (Array.getElem?_eq_some_iff.1 R0.out).1 _ x0_6
    have Xx0_7 := ext_cell _ _ (Array.getElem?_eq_some_iff.1 R0.out).1 _ x0_7
    have Xck0 := ext_cell _ _ (Nat.lt_of_lt_of_le hbk0 HB.out.size) _ ck0
    have Xck1 := ext_cell _ _ (Nat.lt_of_lt_of_le hbk1 HB.out.size) _ ck1
    have Xck2 := ext_cell _ _ (Nat.lt_of_lt_of_le hbk2 HB.out.size) _ ck2
    clear x0_0 x0_1 x0_2 x0_3 x0_4 x0_5 x0_6 x0_7 ck0 ck1 ck2
    refine wp_region_ext W (by kernel_rfl) (by kernel_rfl) (Below.refl _ _) ?_
    repeat (go_big_quiet_step (first
      | (go_at_call 35; with_reducible exact calls_ext (TC.out _))))
    refine wpQuiet_nil ?_
    intro _ hw'
    obtain ⟨n9, rfl⟩ := hw'
    have P1_0 := Lib.hid ((n9.below.block w.heap.size (Array.getElem?_eq_some_iff.1 R0.out).1).trans R0.out)
    have HB1 := Lib.hid (below_then HB.out n9.below)
    generalize n9.wd = w1 at *
    clear Xx0_0 Xx0_1 Xx0_2 Xx0_3 Xx0_4 Xx0_5 Xx0_6 Xx0_7 Xck0 Xck1 Xck2
    obtain ⟨x0_0, x0_1, x0_2, x0_3, x0_4, x0_5, x0_6, x0_7⟩ := rowc8 P1_0.out
    have ck0 := (HB1.out.cell (p := ⟨B1, 0, none⟩) hbk0).trans HK0.out
    have ck1 := (HB1.out.cell (p := ⟨B2, 0, none⟩) hbk1).trans HK1.out
    have ck2 := (HB1.out.cell (p := ⟨B2, 1, none⟩) hbk2).trans HK2.out
    clear x0_0 x0_1 x0_2 x0_3 x0_4 x0_5 x0_6 x0_7 ck0 ck1 ck2
    go_wp2_with fail
    go_ret
    exact ⟨by rw [Bool.and_false]; rfl, HB1.out⟩
  | true =>
    go_upto_region 1 with fail
    have Xx0_0 := ext_cell _ _ (Array.getElem?_eq_some_iff.1 R0.out).1 _ x0_0
    have Xx0_1 := ext_cell _ _ (Array.getElem?_eq_some_iff.1 R0.out).1 _ x0_1
    have Xx0_2 := ext_cell _ _ (Array.getElem?_eq_some_iff.1 R0.out).1 _ x0_2
    have Xx0_3 := ext_cell _ _ (Array.getElem?_eq_some_iff.1 R0.out).1 _ x0_3
    have Xx0_4 := ext_cell _ _ (Array.getElem?_eq_some_iff.1 R0.out).1 _ x0_4
    have Xx0_5 := ext_cell _ _ (Array.getElem?_eq_some_iff.1 R0.out).1 _ x0_5
    have Xx0_6 := ext_cell _ _ (Array.getElem?_eq_some_iff.1 R0.out).1 _ x0_6
    have Xx0_7 := ext_cell _ _ (Array.getElem?_eq_some_iff.1 R0.out).1 _ x0_7
    have Xck0 := ext_cell _ _ (Nat.lt_of_lt_of_le hbk0 HB.out.size) _ ck0
    have Xck1 := ext_cell _ _ (Nat.lt_of_lt_of_le hbk1 HB.out.size) _ ck1
    have Xck2 := ext_cell _ _ (Nat.lt_of_lt_of_le hbk2 HB.out.size) _ ck2
    clear x0_0 x0_1 x0_2 x0_3 x0_4 x0_5 x0_6 x0_7 ck0 ck1 ck2
    refine wp_region_ext W (by kernel_rfl) (by kernel_rfl) (Below.refl _ _) ?_
    repeat (go_big_quiet_step (first
      | (go_at_call 35; with_reducible exact calls_ext (TC.out _))))
    refine wpQuiet_nil ?_
    intro _ hw'
    obtain ⟨n9, rfl⟩ := hw'
    have P1_0 := Lib.hid ((n9.below.block w.heap.size (Array.getElem?_eq_some_iff.1 R0.out).1).trans R0.out)
    have HB1 := Lib.hid (below_then HB.out n9.below)
    generalize n9.wd = w1 at *
    clear Xx0_0 Xx0_1 Xx0_2 Xx0_3 Xx0_4 Xx0_5 Xx0_6 Xx0_7 Xck0 Xck1 Xck2
    obtain ⟨x0_0, x0_1, x0_2, x0_3, x0_4, x0_5, x0_6, x0_7⟩ := rowc8 P1_0.out
    have ck0 := (HB1.out.cell (p := ⟨B1, 0, none⟩) hbk0).trans HK0.out
    have ck1 := (HB1.out.cell (p := ⟨B2, 0, none⟩) hbk1).trans HK1.out
    have ck2 := (HB1.out.cell (p := ⟨B2, 1, none⟩) hbk2).trans HK2.out
    clear x0_0 x0_1 x0_2 x0_3 x0_4 x0_5 x0_6 x0_7 ck0 ck1 ck2
    go_wp2_with fail
    go_ret
    exact ⟨by rw [Bool.and_true]; rfl, HB1.out⟩
set_option maxRecDepth 100000 in
set_option maxHeartbeats 16000000 in
theorem hindexF_any (v : Value) (l : List EvM) (t o : Int) (bk : Bool) (B1 B2 : Nat) (w : World) (hv : SlS w 8 v (evRows l)) (h1 : w.heap[B1]? = some (.cells #[.bool bk] 4 (0, 0))) (h2 : w.heap[B2]? = some (.cells #[.int .i64 t, .int .i64 o] 47 (0, 0))) : Calls Try.prog 37 #[v, (.func (.func 38) #[] #[.pointer (some ⟨B1, 0, none⟩), .pointer (some ⟨B2, 0, none⟩)])] w fun e w' => e = .returned (.int .i64 (findI l t o bk)) ∧ Below w.heap.size w w' := by
  have HV := Lib.hid hv
  have hbd := hv.boundE
  obtain ⟨a, cap, rfl, -⟩ := hv.lenE
  have TC := Lib.hid fun (e : EvM) w' (hb : Below w.heap.size w w') => hfind1_any e t o bk B1 B2 w' ((hb.block _ (Array.getElem?_eq_some_iff.1 h1).1).trans h1) ((hb.block _ (Array.getElem?_eq_some_iff.1 h2).1).trans h2)
  have HHIT := Lib.hid fun (i : Nat) (hi : i < l.length) hm h => findI_hit (t := t) (o := o) (b := bk) (l := l) (i := i) hi hm h
  have HMISS := Lib.hid fun hm => findI_miss (t := t) (o := o) (b := bk) (l := l) hm
  obtain ⟨R, hR⟩ : ∃ R, findI l t o bk = R := ⟨_, rfl⟩
  rw [hR] at HHIT HMISS ⊢
  clear hv hR h1 h2
  go_enter Try.func37, Try.ntmps37
  go_wp2_with fail
  go_loopw [8] (fun u8 wr => ∃ i : Nat, u8 = .int .i64 i ∧ i ≤ l.length ∧ Hid (∀ j, j < i → isE t o bk (l.getD j evZ) = false) ∧ Hid (Below w.heap.size w wr)) (fun u8 _ => l.length - (intOf u8).toNat)
  case atStart => exact ⟨0, rfl, by omega, fun j hj => by omega, Below.refl _ _⟩
  case round =>
    obtain ⟨i, rfl, hi, HM, HB⟩ := hrel
    obtain ⟨wo, rfl⟩ : ∃ wo : World, wo = wr := ⟨_, rfl⟩
    by_cases hlt : i < l.length
    · have hltI : (i : Int) < (l.length : Int) := by omega
      obtain ⟨⟨et, eo, er, ⟨rk, rc, rv, ro, rn⟩⟩, he⟩ : ∃ e, l.getD i evZ = e := ⟨_, rfl⟩
      have HE := Lib.hid he
      obtain ⟨b, off, cp, hve, hb, c0, c1, c2, c3, c4, c5, c6, c7⟩ := (HV.out.below HB.out).ev i hlt he
      simp only [Value.slice.injEq] at hve
      obtain ⟨rfl, -, rfl⟩ := hve
      dsimp only at c0 c1 c2 c3 c4 c5 c6 c7
      clear he

      have TE := Lib.hid (TC.out ⟨et, eo, er, ⟨rk, rc, rv, ro, rn⟩⟩ wo HB.out)
      obtain ⟨q, hq⟩ : ∃ q, isE t o bk ⟨et, eo, er, ⟨rk, rc, rv, ro, rn⟩⟩ = q := ⟨_, rfl⟩
      rw [hq] at TE
      have HQ := Lib.hid hq
      unfold evV at TE
      dsimp only at TE
      clear hq
      go_wp2_with fail
      refine TE.out.mono ?_; rintro e w2 ⟨rfl, hb2⟩
      have HB2 := Lib.hid (below_then HB.out hb2)
      clear hb2 TE c0 c1 c2 c3 c4 c5 c6 c7
      cases q with
      | false =>
        go_wp2
        go_roundw
        case rel => exact ⟨i + 1, by go_num, by omega, fun j hj => by
          rcases Nat.lt_or_ge j i with h | h
          · exact HM.out j h
          · rw [show j = i by omega, HE.out, HQ.out], HB2⟩
        case measure => simp [intOf]; omega
      | true =>
        have hr := HHIT.out i hlt HM.out (by rw [HE.out, HQ.out])
        clear HHIT HMISS
        subst hr
        go_wp2
        go_ret
        exact ⟨rfl, HB2.out⟩
    · have hge : ¬ (i : Int) < (l.length : Int) := by omega
      have hr := HMISS.out (fun j hj => HM.out j (by omega))
      clear HHIT HMISS
      subst hr
      go_wp2
      go_ret
      exact ⟨rfl, HB.out⟩
set_option maxRecDepth 100000 in
set_option maxHeartbeats 16000000 in
theorem hfind_any (v : Value) (l : List EvM) (t o : Int) (bk : Bool) (w : World) (hv : SlS w 8 v (evRows l)) : Calls Try.prog 33 #[v, .agg #[.int .i64 t, .int .i64 o], .bool bk] w fun e w' => e = .returned (.int .i64 (findI l t o bk)) ∧ Below w.heap.size w w' := by
  have TI := Lib.hid fun (B1 B2 : Nat) w' (hb : Below w.heap.size w w') => hindexF_any v l t o bk B1 B2 w' (hv.below hb)
  obtain ⟨a, cap, rfl, -⟩ := hv.lenE
  clear hv
  obtain ⟨W, hW, HB, R0, R1, hz⟩ := two_new w (.cells #[.int .i64 t, .int .i64 o] 47) (.cells #[.bool bk] 4)
  have HW := Lib.hid hW
  clear hW
  go_enter Try.func33, Try.ntmps33
  go_upto_region 1 with fail
  rw [HW.out]
  clear HW
  obtain ⟨x0_0, x0_1⟩ := rowc2 R0.out
  have x1_0 := rowc1 R1.out
  go_wp2_with fail
  refine (TI.out (w.heap.size + 1) w.heap.size _ HB.out R1.out R0.out).mono ?_; rintro e w2 ⟨rfl, hb2⟩
  have HB2 := Lib.hid (below_then HB.out hb2)
  clear hb2 TI x0_0 x0_1 x1_0
  go_wp2
  go_ret
  exact ⟨rfl, HB2.out⟩
set_option maxRecDepth 100000 in
set_option maxHeartbeats 16000000 in
theorem hcalled_any (v : Value) (l : List EvM) (t o : Int) (w : World) (hv : SlS w 8 v (evRows l)) : Calls Try.prog 15 #[v, .int .i64 t, .int .i64 o] w fun e w' => e = .returned (.int .i64 (findI l t o false)) ∧ Below w.heap.size w w' := by
  have TF := Lib.hid (hfind_any v l t o false w hv)
  obtain ⟨a, cap, rfl, -⟩ := hv.lenE
  clear hv
  go_enter Try.func15, Try.ntmps15
  go_wp2_with fail
  refine TF.out.mono ?_; rintro e w2 ⟨rfl, hb2⟩
  have HB2 := Lib.hid hb2
  clear hb2 TF
  go_wp2
  go_ret
  exact ⟨rfl, HB2.out⟩
set_option maxRecDepth 100000 in
set_option maxHeartbeats 16000000 in
theorem hret_any (v : Value) (l : List EvM) (t o : Int) (w : World) (hv : SlS w 8 v (evRows l)) : Calls Try.prog 13 #[v, .int .i64 t, .int .i64 o] w fun e w' => e = .returned (.tuple #[resW (retR l t o), .int .i64 (findI l t o true)]) ∧ Below w.heap.size w w' := by
  have HV := Lib.hid hv
  have TF := Lib.hid fun w' (hb : Below w.heap.size w w') => hfind_any v l t o true w' (hv.below hb)
  have hbd := hv.boundE
  obtain ⟨a, cap, rfl, -⟩ := hv.lenE
  obtain ⟨⟨k1, k2, k3, k4, k5⟩, hk⟩ : ∃ r, retR l t o = r := ⟨_, rfl⟩
  rw [hk]
  unfold retR at hk
  have HC := Lib.hid (findI_cases l t o true)
  obtain ⟨R, hR⟩ : ∃ R, findI l t o true = R := ⟨_, rfl⟩
  rw [hR] at hk HC TF ⊢
  have HK := Lib.hid hk
  unfold resW
  dsimp only
  clear hv hR hk
  obtain ⟨W, hW, HB, R0, hz⟩ := one_new w (.cells #[.int .i64 0, .int .i64 0, .int .u64 0, .bool false, .int .i64 0] 32)
  have HW := Lib.hid hW
  clear hW
  go_enter Try.func13, Try.ntmps13
  go_upto_region 1 with fail
  rw [HW.out]
  clear HW
  go_wp2_with fail
  refine (TF.out _ HB.out).mono ?_; rintro e w1 ⟨rfl, hb1⟩
  have HB1 := Lib.hid (below_then HB.out hb1)
  have R01 := Lib.hid ((hb1.block _ (Array.getElem?_eq_some_iff.1 R0.out).1).trans R0.out)
  clear hb1
  rcases HC.out with hm | ⟨i, hi, hlt, -⟩
  · subst hm
    have hk := HK.out
    rw [if_neg (by decide)] at hk
    unfold resZ16 at hk
    cases hk
    clear HK HC TF
    go_wp2_with (refine wpList_store_row rfl 32 _ _ rfl w.heap.size _ rfl rfl 32 #[.int .i64 0, .int .i64 0, .int .u64 0, .bool false, .int .i64 0] R01.out (by kernel_rfl) rfl (by simp [Value.oneCell']) ?_)
    refine bodyPost_ret (v := .tuple #[.agg #[.int .i64 0, .int .i64 0, .int .u64 0, .bool false, .int .i64 0], .int .i64 (-1)]) (results_cell_tmp3 Try.results13 _ _ (w.heap.size) 32 _ (0, 0) _ rfl (setRow_heap _ _ _ _ 32 (0, 0) R01.out) Try.underlying32 rfl (by kernel_rfl) _ rfl) rfl ?_
    exact ⟨rfl, row_below HB1.out (by omega) _⟩
  · subst hi
    have hk := HK.out
    rw [if_pos (by omega), Int.toNat_natCast] at hk
    have hltI : (i : Int) < (l.length : Int) := by omega
    have hi0 : ¬ (i : Int) < 0 := by omega
    have hi1 : ((i : Int) == -1) = false := beq_eq_false_iff_ne.2 (by omega)
    obtain ⟨⟨et, eo, er, ⟨rk, rc, rv, ro, rn⟩⟩, he⟩ : ∃ e, l.getD i evZ = e := ⟨_, rfl⟩
    have HE := Lib.hid he
    obtain ⟨b, off, cp, hve, hb, c0, c1, c2, c3, c4, c5, c6, c7⟩ := (HV.out.below HB1.out).ev i hlt he
    simp only [Value.slice.injEq] at hve
    obtain ⟨rfl, -, rfl⟩ := hve
    dsimp only at c0 c1 c2 c3 c4 c5 c6 c7
    clear he

    rw [HE.out] at hk
    dsimp only at hk
    cases hk
    clear HK HC TF c0 c1 c2
    go_wp2_with (refine wpList_store_row rfl 32 _ _ rfl w.heap.size _ rfl rfl 32 #[.int .i64 0, .int .i64 0, .int .u64 0, .bool false, .int .i64 0] R01.out (by kernel_rfl) rfl (by simp [Value.oneCell']) ?_)
    refine bodyPost_ret (v := .tuple #[.agg #[.int .i64 k1, .int .i64 k2, .int .u64 k3, .bool k4, .int .i64 k5], .int .i64 i]) (results_cell_tmp3 Try.results13 _ _ (w.heap.size) 32 _ (0, 0) _ rfl (setRow_heap _ _ _ _ 32 (0, 0) R01.out) Try.underlying32 rfl (by kernel_rfl) _ rfl) rfl ?_
    exact ⟨rfl, row_below HB1.out (by omega) _⟩
set_option maxRecDepth 100000 in
set_option maxHeartbeats 16000000 in
theorem hprec_any (v : Value) (l : List EvM) (a b : Int × Int) (w : World) (hv : SlS w 8 v (evRows l)) : Calls Try.prog 25 #[v, caV a, caV b] w fun e w' => e = .returned (.bool (precE l a b)) ∧ Below w.heap.size w w' := by
  obtain ⟨a1, a2⟩ := a
  obtain ⟨b1, b2⟩ := b
  have T1 := Lib.hid fun w' (hb : Below w.heap.size w w') => hfind_any v l a1 a2 true w' (hv.below hb)
  have T2 := Lib.hid fun w' (hb : Below w.heap.size w w') => hfind_any v l b1 b2 false w' (hv.below hb)
  obtain ⟨ad, cap, rfl, -⟩ := hv.lenE
  unfold precE caV
  dsimp only
  have HG := (findI_ge l a1 a2 true).1
  obtain ⟨x, hx⟩ : ∃ R, findI l a1 a2 true = R := ⟨_, rfl⟩
  obtain ⟨y, hy⟩ : ∃ R, findI l b1 b2 false = R := ⟨_, rfl⟩
  rw [hx] at T1 HG
  rw [hy] at T2
  rw [hx, hy]
  obtain ⟨z, hzz⟩ : ∃ z, ((decide (0 ≤ x) && decide (0 ≤ y)) && decide (x < y)) = z := ⟨_, rfl⟩
  rw [hzz]
  have HZZ := Lib.hid hzz
  have HG2 := Lib.hid HG
  clear hv hx hy hzz HG
  obtain ⟨W, hW, HB, R0, R1, hz⟩ := two_new w (.cells #[.int .i64 a1, .int .i64 a2] 47) (.cells #[.int .i64 b1, .int .i64 b2] 47)
  have HW := Lib.hid hW
  clear hW
  go_enter Try.func25, Try.ntmps25
  go_upto_region 1 with fail
  rw [HW.out]
  clear HW
  obtain ⟨x0_0, x0_1⟩ := rowc2 R0.out
  obtain ⟨x1_0, x1_1⟩ := rowc2 R1.out
  go_upto_region 1 with fail
  have Xx0_0 := ext_cell _ _ (Array.getElem?_eq_some_iff.1 R0.out).1 _ x0_0
  have Xx0_1 := ext_cell _ _ (Array.getElem?_eq_some_iff.1 R0.out).1 _ x0_1
  have Xx1_0 := ext_cell _ _ (Array.getElem?_eq_some_iff.1 R1.out).1 _ x1_0
  have Xx1_1 := ext_cell _ _ (Array.getElem?_eq_some_iff.1 R1.out).1 _ x1_1
  clear x0_0 x0_1 x1_0 x1_1
  refine wp_region_ext W (by kernel_rfl) (by kernel_rfl) (Below.refl _ _) ?_
  repeat (go_big_quiet_step (first
    | (go_at_call 33; with_reducible exact calls_ext (T1.out _ (below_then HB.out (Ext.below _))))
    | (go_at_call 33; with_reducible exact calls_ext (T2.out _ (below_then HB.out (Ext.below _))))))
  refine wpQuiet_nil ?_
  intro _ hw'
  obtain ⟨n9, rfl⟩ := hw'
  have P1_0 := Lib.hid ((n9.below.block w.heap.size (Array.getElem?_eq_some_iff.1 R0.out).1).trans R0.out)
  have P1_1 := Lib.hid ((n9.below.block (w.heap.size + 1) (Array.getElem?_eq_some_iff.1 R1.out).1).trans R1.out)
  have HB1 := Lib.hid (below_then HB.out n9.below)
  generalize n9.wd = w1 at *
  clear Xx0_0 Xx0_1 Xx1_0 Xx1_1
  obtain ⟨x0_0, x0_1⟩ := rowc2 P1_0.out
  obtain ⟨x1_0, x1_1⟩ := rowc2 P1_1.out
  clear x0_0 x0_1 x1_0 x1_1
  have HBZ := HB1
  by_cases h0 : x = -1
  · have e : z = false := by rw [← HZZ.out, h0]; rfl
    have hq : (x != -1) = false := by rw [h0]; rfl
    subst e
    clear HZZ T1 T2 h0 HG2
    go_wp2
    go_ret
    exact ⟨rfl, HBZ.out⟩
  · have hq : (x != -1) = true := by simpa using h0
    have hx0 : 0 ≤ x := by have := HG2.out; omega
    by_cases h2 : x < y
    · have e : z = true := by rw [← HZZ.out, decide_eq_true hx0, decide_eq_true h2, decide_eq_true (show 0 ≤ y by omega)]; rfl
      subst e
      clear HZZ T1 T2 h0 HG2 hx0
      go_wp2
      go_ret
      exact ⟨rfl, HBZ.out⟩
    · have e : z = false := by rw [← HZZ.out, decide_eq_false h2, Bool.and_false]
      have hq2 : decide (x < y) = false := decide_eq_false h2
      subst e
      clear HZZ T1 T2 h0 HG2 hx0 h2
      go_wp2
      go_ret
      exact ⟨rfl, HBZ.out⟩
end Go.Proofs.Ytnbehigjeopniaa
/- Layer 16: the program's Calls, Without. -/
namespace Go.Proofs.Ytnbehigjeopniaa
open Go.ChangeShapes Go.WideShapes Go.ChangeAt Go.RowKit
set_option maxRecDepth 100000

set_option maxRecDepth 100000 in
set_option maxHeartbeats 16000000 in
theorem hcalls_any (v : Value) (l : List EvM) (w : World) (hv : SlS w 8 v (evRows l)) (hl : l.length ≤ 1000000) : Calls Try.prog 21 #[v] w fun e w' => ∃ u, e = .returned u ∧ OwnS w' w.heap.size 47 2 u (caRows (callsE l)) ∧ Below w.heap.size w w' := by
  have HV := Lib.hid hv
  obtain ⟨a, cap, rfl, -⟩ := hv.lenE
  clear hv
  go_enter Try.func21, Try.ntmps21
  go_wp2_with fail
  go_loopw [3, 8] (fun u3 u8 wr => ∃ (i : Nat) (u : Value), u = u3 ∧ u8 = .int .i64 i ∧ i ≤ l.length ∧ Hid (OwnS wr w.heap.size 47 2 u (caRows (callsE (l.take i)))) ∧ Hid (Below w.heap.size w wr)) (fun _ u8 _ => l.length - (intOf u8).toNat)
  case atStart => exact ⟨0, _, rfl, rfl, by omega, OwnS.nil _ _ _ _, Below.refl _ _⟩
  case round =>
    obtain ⟨i, u, rfl, rfl, hi, HO, HB⟩ := hrel
    obtain ⟨wo, rfl⟩ : ∃ wo : World, wo = wr := ⟨_, rfl⟩
    by_cases hlt : i < l.length
    · have hltI : (i : Int) < (l.length : Int) := by omega
      have HS := Lib.hid (callsE_take hlt)
      have HLW : Hid ((callsE (l.take i)).length ≤ 1000000) := Nat.le_trans (callsE_le _) (by rw [List.length_take]; omega)
      obtain ⟨⟨et, eo, er, ⟨rk, rc, rv, ro, rn⟩⟩, he⟩ : ∃ e, l.getD i evZ = e := ⟨_, rfl⟩
      have HE := Lib.hid he
      obtain ⟨b, off, cp, hve, hb, c0, c1, c2, c3, c4, c5, c6, c7⟩ := (HV.out.below HB.out).ev i hlt he
      simp only [Value.slice.injEq] at hve
      obtain ⟨rfl, -, rfl⟩ := hve
      dsimp only at c0 c1 c2 c3 c4 c5 c6 c7
      clear he

      rw [HE.out] at HS
      dsimp only [callOf] at HS
      have TC := Lib.hid fun w' => hcallOf_any ⟨et, eo, er, ⟨rk, rc, rv, ro, rn⟩⟩ w'
      unfold evV at TC
      dsimp only at TC
      obtain ⟨Wy, hWy⟩ : ∃ Wy, (wo.alloc (.cells #[.int .i64 0, .int .i64 0, .bool false, .int .i64 0, .int .i64 0, .int .u64 0, .bool false, .int .i64 0] 34)).setRow wo.heap.size #[.int .i64 et, .int .i64 eo, .bool er, .int .i64 rk, .int .i64 rc, .int .u64 rv, .bool ro, .int .i64 rn] = Wy := ⟨_, rfl⟩
      have Ny : Hid ((wo.alloc (.cells #[.int .i64 0, .int .i64 0, .bool false, .int .i64 0, .int .i64 0, .int .u64 0, .bool false, .int .i64 0] 34)).heap[wo.heap.size]? = some (.cells #[.int .i64 0, .int .i64 0, .bool false, .int .i64 0, .int .i64 0, .int .u64 0, .bool false, .int .i64 0] 34 (0, 0))) := heap_alloc_new _ _
      have HBy : Hid (Below wo.heap.size wo Wy) := hWy ▸ row_below (below_new (Below.refl _ _) _) (Nat.le_refl _) _
      have Ry : Hid (Wy.heap[wo.heap.size]? = some (.cells #[.int .i64 et, .int .i64 eo, .bool er, .int .i64 rk, .int .i64 rc, .int .u64 rv, .bool ro, .int .i64 rn] 34 (0, 0))) := hWy ▸ setRow_heap _ _ _ _ _ (0, 0) Ny.out
      have HWy := Lib.hid hWy
      clear hWy
      go_upto_region 5 with (refine wpList_store_row rfl 34 _ _ rfl (wo.heap.size) _ rfl rfl 34 #[.int .i64 0, .int .i64 0, .bool false, .int .i64 0, .int .i64 0, .int .u64 0, .bool false, .int .i64 0] Ny.out (by kernel_rfl) rfl (by simp [Value.oneCell']) ?_)
      rw [HWy.out]
      try simp only [Act.put]
      clear HWy Ny
      obtain ⟨Y, hY⟩ : ∃ Y, wo.heap.size = Y := ⟨_, rfl⟩
      rw [hY] at Ry
      rw [hY]
      clear hY
      have HO2 := Lib.hid (HO.out.below HBy.out)
      have HB2 := Lib.hid (below_then HB.out HBy.out)
      obtain ⟨y0, y1, y2, y3, y4, y5, y6, y7⟩ := rowc8 Ry.out
      clear c0 c1 c2 c3 c4 c5 c6 c7 HO HB HBy
      cases er with
      | true =>
        have HS2 : Hid (callsE (l.take (i + 1)) = callsE (l.take i)) := by show _ = _; rw [HS.out, if_pos rfl, List.append_nil]
        go_wp2_with fail
        go_roundw
        case rel => exact ⟨i + 1, u, rfl, by go_num, by omega, by rw [HS2.out]; exact HO2, HB2⟩
        case measure => simp [intOf]; omega
      | false =>
        have HS2 : Hid (callsE (l.take (i + 1)) = callsE (l.take i) ++ [(et, eo)]) := by show _ = _; rw [HS.out, if_neg (by decide)]
        clear HS
        go_wp2_with fail
        refine (TC.out _).mono ?_; rintro e w3 ⟨rfl, hb3⟩
        have HO3 := Lib.hid (HO2.out.below hb3)
        have HB3 := Lib.hid (below_then HB2.out hb3)
        have hsz := HB3.out.size
        clear hb3 HO2 HB2 TC y0 y1 y2 y3 y4 y5 y6 y7
        go_wp2_with (at_builtin; refine wp_append_s1 44 (by kernel_rfl) Try.info_pair rfl (by decide) (by decide) rfl _ _ rfl rfl (HO3.out.below (below_new (Below.refl _ _) _)) (caRow (et, eo)) rfl (fun u hu => caRow_one _ u hu) _ rfl (by show (Array.push _ _)[_]? = _; exact Array.getElem?_push_size) (by have := HLW.out; rw [caRows_length]; omega) (by simp; omega) ?_; intro v2 w2 h1 h2; have H1 := Lib.hid h1; have H2 := Lib.hid h2; clear h1 h2)
        have HB4 : Hid (Below w.heap.size w w2) := (below_new HB3.out _).grown H2.out (by have := HB3.out.size; simp; omega) (fun j hj => (HO3.out.lt j hj).1)
        go_roundw
        case rel => exact ⟨i + 1, v2, rfl, by go_num, by omega, by rw [HS2.out, caRows_snoc]; exact H1, HB4⟩
        case measure => simp [intOf]; omega
    · have hge : ¬ (i : Int) < (l.length : Int) := by omega
      have hkl : l.take i = l := List.take_of_length_le (by omega)
      have HO2 : Hid (OwnS wo w.heap.size 47 2 u (caRows (callsE l))) := by rw [hkl] at HO; exact HO
      clear HO hkl
      go_wp2
      go_ret
      exact ⟨u, rfl, HO2.out, HB.out⟩
set_option maxRecDepth 100000 in
set_option maxHeartbeats 16000000 in
theorem hwithout_any (v : Value) (l : List EvM) (t : Int) (w : World) (hv : SlS w 8 v (evRows l)) (hl : l.length ≤ 1000000) : Calls Try.prog 18 #[v, .int .i64 t] w fun e w' => ∃ u, e = .returned u ∧ OwnS w' w.heap.size 34 8 u (evRows (withoutT l t)) ∧ Below w.heap.size w w' := by
  have HV := Lib.hid hv
  obtain ⟨a, cap, rfl, -⟩ := hv.lenE
  clear hv
  go_enter Try.func18, Try.ntmps18
  go_wp2_with fail
  go_loopw [5, 10] (fun u5 u10 wr => ∃ (i : Nat) (u : Value), u = u5 ∧ u10 = .int .i64 i ∧ i ≤ l.length ∧ Hid (OwnS wr w.heap.size 34 8 u (evRows (withoutT (l.take i) t))) ∧ Hid (Below w.heap.size w wr)) (fun _ u10 _ => l.length - (intOf u10).toNat)
  case atStart => exact ⟨0, _, rfl, rfl, by omega, OwnS.nil _ _ _ _, Below.refl _ _⟩
  case round =>
    obtain ⟨i, u, rfl, rfl, hi, HO, HB⟩ := hrel
    obtain ⟨wo, rfl⟩ : ∃ wo : World, wo = wr := ⟨_, rfl⟩
    by_cases hlt : i < l.length
    · have hltI : (i : Int) < (l.length : Int) := by omega
      have HS := Lib.hid (withoutT_take t hlt)
      have HLW : Hid ((withoutT (l.take i) t).length ≤ 1000000) := Nat.le_trans (List.length_filter_le _ _) (by rw [List.length_take]; omega)
      obtain ⟨⟨et, eo, er, ⟨rk, rc, rv, ro, rn⟩⟩, he⟩ : ∃ e, l.getD i evZ = e := ⟨_, rfl⟩
      have HE := Lib.hid he
      obtain ⟨b, off, cp, hve, hb, c0, c1, c2, c3, c4, c5, c6, c7⟩ := (HV.out.below HB.out).ev i hlt he
      simp only [Value.slice.injEq] at hve
      obtain ⟨rfl, -, rfl⟩ := hve
      dsimp only at c0 c1 c2 c3 c4 c5 c6 c7
      clear he

      rw [HE.out] at HS
      obtain ⟨q, hq⟩ : ∃ q, (et != t) = q := ⟨_, rfl⟩
      have HQ : Hid (notT t ⟨et, eo, er, ⟨rk, rc, rv, ro, rn⟩⟩ = q) := hq
      obtain ⟨Wy, hWy⟩ : ∃ Wy, (wo.alloc (.cells #[.int .i64 0, .int .i64 0, .bool false, .int .i64 0, .int .i64 0, .int .u64 0, .bool false, .int .i64 0] 34)).setRow wo.heap.size #[.int .i64 et, .int .i64 eo, .bool er, .int .i64 rk, .int .i64 rc, .int .u64 rv, .bool ro, .int .i64 rn] = Wy := ⟨_, rfl⟩
      have Ny : Hid ((wo.alloc (.cells #[.int .i64 0, .int .i64 0, .bool false, .int .i64 0, .int .i64 0, .int .u64 0, .bool false, .int .i64 0] 34)).heap[wo.heap.size]? = some (.cells #[.int .i64 0, .int .i64 0, .bool false, .int .i64 0, .int .i64 0, .int .u64 0, .bool false, .int .i64 0] 34 (0, 0))) := heap_alloc_new _ _
      have HBy : Hid (Below wo.heap.size wo Wy) := hWy ▸ row_below (below_new (Below.refl _ _) _) (Nat.le_refl _) _
      have Ry : Hid (Wy.heap[wo.heap.size]? = some (.cells #[.int .i64 et, .int .i64 eo, .bool er, .int .i64 rk, .int .i64 rc, .int .u64 rv, .bool ro, .int .i64 rn] 34 (0, 0))) := hWy ▸ setRow_heap _ _ _ _ _ (0, 0) Ny.out
      have HWy := Lib.hid hWy
      clear hWy
      go_upto_region 5 with (refine wpList_store_row rfl 34 _ _ rfl (wo.heap.size) _ rfl rfl 34 #[.int .i64 0, .int .i64 0, .bool false, .int .i64 0, .int .i64 0, .int .u64 0, .bool false, .int .i64 0] Ny.out (by kernel_rfl) rfl (by simp [Value.oneCell']) ?_)
      rw [HWy.out]
      try simp only [Act.put]
      clear HWy Ny
      obtain ⟨Y, hY⟩ : ∃ Y, wo.heap.size = Y := ⟨_, rfl⟩
      rw [hY] at Ry
      rw [hY]
      clear hY
      have HO2 := Lib.hid (HO.out.below HBy.out)
      have HB2 := Lib.hid (below_then HB.out HBy.out)
      obtain ⟨y0, y1, y2, y3, y4, y5, y6, y7⟩ := rowc8 Ry.out
      clear c0 c1 c2 c3 c4 c5 c6 c7 HO HB HBy
      cases q with
      | false =>
        have HS2 : Hid (withoutT (l.take (i + 1)) t = withoutT (l.take i) t) := by show _ = _; rw [HS.out, HQ.out, if_neg (by decide), List.append_nil]
        clear HS
        go_wp2_with fail
        go_roundw
        case rel => exact ⟨i + 1, u, rfl, by go_num, by omega, by rw [HS2.out]; exact HO2, HB2⟩
        case measure => simp [intOf]; omega
      | true =>
        have HS2 : Hid (withoutT (l.take (i + 1)) t = withoutT (l.take i) t ++ [⟨et, eo, er, ⟨rk, rc, rv, ro, rn⟩⟩]) := by show _ = _; rw [HS.out, HQ.out, if_pos rfl]
        clear HS
        have hsz := HB2.out.size
        go_wp2_with (at_builtin; refine wp_append_s1 23 (by kernel_rfl) Try.info_event rfl (by decide) (by decide) rfl _ _ rfl rfl (HO2.out.below (below_new (Below.refl _ _) _)) (evL ⟨et, eo, er, ⟨rk, rc, rv, ro, rn⟩⟩) rfl (fun u hu => evL_one _ u hu) _ rfl (by show (Array.push _ _)[_]? = _; exact Array.getElem?_push_size) (by have := HLW.out; rw [evRows_length]; omega) (by simp; omega) ?_; intro v2 w2 h1 h2; have H1 := Lib.hid h1; have H2 := Lib.hid h2; clear h1 h2)
        have HB4 : Hid (Below w.heap.size w w2) := (below_new HB2.out _).grown H2.out (by have := HB2.out.size; simp; omega) (fun j hj => (HO2.out.lt j hj).1)
        go_roundw
        case rel => exact ⟨i + 1, v2, rfl, by go_num, by omega, by rw [HS2.out, evRows_snoc]; exact H1, HB4⟩
        case measure => simp [intOf]; omega
    · have hge : ¬ (i : Int) < (l.length : Int) := by omega
      have hkl : l.take i = l := List.take_of_length_le (by omega)
      have HO2 : Hid (OwnS wo w.heap.size 34 8 u (evRows (withoutT l t))) := by rw [hkl] at HO; exact HO
      clear HO hkl
      go_wp2
      go_ret
      exact ⟨u, rfl, HO2.out, HB.out⟩
end Go.Proofs.Ytnbehigjeopniaa
/- Layer 16: the program's follows. -/
namespace Go.Proofs.Ytnbehigjeopniaa
open Go.ChangeShapes Go.WideShapes Go.ChangeAt Go.RowKit
set_option maxRecDepth 100000

set_option maxRecDepth 100000 in
set_option maxHeartbeats 16000000 in
theorem hfollows_any (e : EvM) (s k : Nat) (w : World) (hs : s ≤ 1000000) : Calls Try.prog 32 #[evV e, .int .i64 s, .int .i64 k] w fun x w' => x = .returned (.bool (okF e s k)) ∧ Below w.heap.size w w' := by
  obtain ⟨et, eo, er, ⟨rk, rc, rv, ro, rn⟩⟩ := e
  have heq := fun w => run_eql_resZ rk rc rv ro rn w
  unfold evV okF
  dsimp only
  have hd : (s : Int).tdiv 2 = ((s / 2 : Nat) : Int) := by rw [Int.tdiv_eq_ediv_of_nonneg (by omega)]; omega
  have hm : (s : Int).tmod 2 = ((s % 2 : Nat) : Int) := by rw [Int.tmod_eq_emod_of_nonneg (by omega)]; omega
  have hmb : (((s % 2 : Nat) : Int) == 1) = (s % 2 == 1) := by
    rcases Nat.mod_two_eq_zero_or_one s with h | h <;> rw [h] <;> rfl
  have hdw : IntKind.i64.wrap ((s / 2 : Nat) : Int) = ((s / 2 : Nat) : Int) := by rw [IntKind.wrap_i64]; omega
  obtain ⟨d, hd2⟩ : ∃ d, ((s / 2 : Nat) : Int) = d := ⟨_, rfl⟩
  obtain ⟨m, hm2⟩ : ∃ d, ((s % 2 : Nat) : Int) = d := ⟨_, rfl⟩
  rw [hd2] at hd hdw
  rw [hm2] at hm hmb
  rw [hd2]
  obtain ⟨qm, hqm⟩ : ∃ q, (s % 2 == 1) = q := ⟨_, rfl⟩
  rw [hqm] at hmb
  rw [hqm]
  obtain ⟨q1, hq1⟩ : ∃ q, (eo == d) = q := ⟨_, rfl⟩
  obtain ⟨q3, hq3⟩ : ∃ q, decide (eo < (k : Int)) = q := ⟨_, rfl⟩
  obtain ⟨q4, hq4⟩ : ∃ q, resZB ⟨rk, rc, rv, ro, rn⟩ = q := ⟨_, rfl⟩
  rw [hq4] at heq
  rw [hq1, hq3, hq4]
  have hn1 : (eo != d) = !q1 := by rw [← hq1]; rfl
  have hn3 : decide (eo ≥ (k : Int)) = !q3 := by rw [← hq3]; by_cases h : eo < (k : Int) <;> simp [h] <;> omega
  have HF := Lib.hid (And.intro hd (And.intro hm (And.intro hdw (And.intro hmb (And.intro hn1 hn3)))))
  clear hd hm hdw hmb hn1 hn3 hd2 hm2 hqm hq1 hq3 hq4
  obtain ⟨W, hW, HB, R0, hz⟩ := one_new w (.cells #[.int .i64 et, .int .i64 eo, .bool er, .int .i64 rk, .int .i64 rc, .int .u64 rv, .bool ro, .int .i64 rn] 34)
  have HW := Lib.hid hW
  clear hW
  go_enter Try.func32, Try.ntmps32
  go_upto_region 1 with fail
  rw [HW.out]
  clear HW
  obtain ⟨x0_0, x0_1, x0_2, x0_3, x0_4, x0_5, x0_6, x0_7⟩ := rowc8 R0.out
  obtain ⟨hd, hm, hdw, hmb, hn1, hn3⟩ := HF.out
  cases q1 with
  | false =>
    go_wp2_with fail
    go_ret
    exact ⟨rfl, HB.out⟩
  | true =>
    cases er with
    | true =>
      cases qm with
      | false =>
        go_wp2_with fail
        go_ret
        exact ⟨rfl, HB.out⟩
      | true =>
        cases q3 with
        | false =>
          go_wp2_with fail
          go_ret
          exact ⟨rfl, HB.out⟩
        | true =>
          go_wp2_with fail
          go_ret
          exact ⟨rfl, HB.out⟩
    | false =>
      cases qm with
      | true =>
        go_wp2_with fail
        go_ret
        exact ⟨rfl, HB.out⟩
      | false =>
        cases q3 with
        | false =>
          go_wp2_with fail
          go_ret
          exact ⟨rfl, HB.out⟩
        | true =>
          go_wp2_with fail
          go_ret
          exact ⟨by cases q4 <;> rfl, HB.out⟩
end Go.Proofs.Ytnbehigjeopniaa
