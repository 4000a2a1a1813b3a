import Derived.Deep.DeepCutAuto
import Derived.Deep.CutBlock
import Derived.Test.YtialclohhemkiaaB15
import Derived.Test.YtialclohhemkiaaB17
import Derived.Test.YtialclohhemkiaaB22
import Derived.Test.YtialclohhemkiaaB12
set_option linter.unusedVariables false
set_option linter.unusedSimpArgs false
/- Layer 14: the reference's Could. -/
namespace Go.Proofs.Ytialclohhemkiaa
open Go.ChangeShapes Go.WideShapes Go.ChangeAt Go.RowKit
set_option maxRecDepth 100000

/-- a literal of rows is the call's own -/
theorem OwnS.lit {w : World} {e : TypeId} {s n base : Nat} (rows : List (List Value)) (hr : Rows' s rows) (hn : rows.length = n) (hm : n ≤ maxLen) (hb : base ≤ w.heap.size) : OwnS (w.alloc (.cells rows.flatten.toArray e)) base e s (.slice (some ⟨w.heap.size, 0, none⟩) n n) rows := by
  subst hn
  refine ⟨hr, flatS_length rows hr, .inr ⟨w.heap.size, rows.length, rows.flatten.toArray, rfl, hb, heap_alloc_new _ _, Nat.le_refl _, hm, ?_, ?_⟩⟩
  · simp only [List.size_toArray]; exact flatS_length rows hr
  · rw [List.take_of_length_le (by simp only [List.toList_toArray]; rw [flatS_length rows hr]; exact Nat.le_refl _)]
theorem OwnS.move {w : World} {base b2 s : Nat} {e : TypeId} {v : Value} {rows : List (List Value)} (h : OwnS w base e s v rows) (hb : b2 ≤ base) : OwnS w b2 e s v rows := h.mono_base hb
theorem tryE_le (l : List ChanM) (x : CaseM) (n : Int) : (tryE l x n).length ≤ 2 := by
  unfold tryE
  split
  · simp
  · split <;> simp
theorem triesE_le (l : List ChanM) (op : OpM) (k : Nat) : (triesE l op k).length ≤ 2 * k := by
  induction k with
  | zero => exact Nat.le_refl _
  | succ k ih =>
    rw [triesE_succ, List.length_append]
    have := tryE_le l ((casesE op).getD k noCase) (numE op k)
    omega
def preE (op : OpM) : List ResM := if op.kind = 3 then [⟨6, -1, 0, false, 0⟩, ⟨5, -1, 0, false, 0⟩] else []
theorem allE_eq (l : List ChanM) (op : OpM) : allE l op = preE op ++ triesE l op (casesE op).length := rfl
/-- what passes among the first k -/
def passF (l : List ChanM) (op : OpM) (L : List ResM) (k : Nat) : List ResM := (L.take k).filter fun r => (modE l op r).isSome
theorem passF_step {l : List ChanM} {op : OpM} {L : List ResM} {k : Nat} {r : ResM} (hk : k < L.length) (hr : L.getD k ⟨0, 0, 0, false, 0⟩ = r) : passF l op L (k + 1) = passF l op L k ++ (if (modE l op r).isSome = true then [r] else []) := by
  unfold passF
  rw [List.getD_eq_getElem?_getD, List.getElem?_eq_getElem hk] at hr
  rw [List.take_add_one, List.getElem?_eq_getElem hk, List.filter_append]
  simp only [Option.getD_some] at hr
  rw [hr]
  congr 1
  simp only [Option.toList_some, List.filter_cons, List.filter_nil]
theorem passF_le (l : List ChanM) (op : OpM) (L : List ResM) (k : Nat) : (passF l op L k).length ≤ k := by
  unfold passF
  refine Nat.le_trans (List.length_filter_le _ _) ?_
  rw [List.length_take]
  omega
theorem passF_all (l : List ChanM) (op : OpM) : passF l op (allE l op) (allE l op).length = couldE l op := by
  unfold passF couldE
  rw [List.take_length]
set_option maxRecDepth 100000 in
set_option maxHeartbeats 16000000 in
theorem rcould_any (v vo : Value) (l : List ChanM) (op : OpM) (w : World) (hv : SlH w v l) (hl : l.length ≤ 1000000) (hbf : ∀ c ∈ l, c.buf.length ≤ 999999) (h : OpV w vo op) (hok : op.chan = IntKind.i64.wrap op.chan ∧ op.val = IntKind.u64.wrap op.val) (hcl : (casesE op).length ≤ 100000) : Calls Try.prog 77 #[v, vo] w fun e w' => ∃ u, e = .returned u ∧ SlS w' 5 u (resRows (couldE l op)) ∧ Below w.heap.size w w' := by
  have TC := Lib.hid fun w' (hb : Below w.heap.size w w') => rcases_any vo op w' (h.below hb) hok
  have TE := Lib.hid fun n w' (hb : Below w.heap.size w w') => mexists_any v l n w' (hv.below hb)
  have TA := Lib.hid fun r w' (hb : Below w.heap.size w w') => mApply_any v vo l op r w' (hv.below hb) hl hbf (h.below hb) hok
  have HV := Lib.hid hv
  have HPS := Lib.hid fun k r (hk : k < (allE l op).length) (hr : (allE l op).getD k ⟨0, 0, 0, false, 0⟩ = r) => passF_step (l := l) (op := op) hk hr
  have HPL := Lib.hid fun k => passF_le l op (allE l op) k
  have HPA := Lib.hid (passF_all l op)
  have HAL := Lib.hid (allE_eq l op)
  have HTL := Lib.hid fun k => triesE_le l op k
  have HTS := Lib.hid fun k => triesE_succ l op k
  have HNU : Hid (∀ k, numE op k = if op.kind = 4 then (k : Int) else -1) := fun k => rfl
  have HT0 : Hid (triesE l op 0 = []) := rfl
  obtain ⟨ro, hro⟩ : ∃ o, couldE l op = o := ⟨_, rfl⟩
  rw [hro] at HPA
  rw [hro]
  obtain ⟨pf, hpf⟩ : ∃ p, passF l op (allE l op) = p := ⟨_, rfl⟩
  rw [hpf] at HPS HPL HPA
  obtain ⟨al, hal⟩ : ∃ p, allE l op = p := ⟨_, rfl⟩
  rw [hal] at HPS HPA HAL
  have HP0 : Hid (pf 0 = []) := by show _ = _; rw [← hpf]; rfl
  have HC3 : Hid (op.kind = 3 → casesE op = []) := fun h => by unfold casesE oneB; rw [h]; rfl
  obtain ⟨cl, hcl2⟩ : ∃ p, casesE op = p := ⟨_, rfl⟩
  rw [hcl2] at hcl HAL HTS TC HC3
  obtain ⟨tr, htr⟩ : ∃ p, triesE l op = p := ⟨_, rfl⟩
  rw [htr] at HTL HTS HAL HT0
  obtain ⟨nu, hnu⟩ : ∃ p, numE op = p := ⟨_, rfl⟩
  rw [hnu] at HNU HTS
  obtain ⟨pe, hpe⟩ : ∃ p, preE op = p := ⟨_, rfl⟩
  rw [hpe] at HAL
  obtain ⟨me, hme⟩ : ∃ p, modE l op = p := ⟨_, rfl⟩
  rw [hme] at HPS TA
  unfold preE at hpe
  clear hro hpf hal hcl2 htr hnu hme hok hl hbf
  obtain ⟨vc, vd, rfl, hc, hd⟩ := h
  obtain ⟨kd, md, ch, vl, dl, cs, ds⟩ := op
  dsimp only at *
  obtain ⟨a3, cap3, rfl⟩ := hc.len
  obtain ⟨a4, cap4, rfl, -⟩ := hd.len
  have HPE := Lib.hid hpe
  have HCL := Lib.hid hcl
  obtain ⟨a, cap, hve, -⟩ := hv.len
  subst hve
  clear hv hc hd hpe hcl
  obtain ⟨W, hW, HB, R0, hz⟩ := one_new w (.cells #[.int .i64 kd, .int .i64 md, .int .i64 ch, .int .u64 vl, .int .i64 dl, .slice a3 cs.length cap3, .slice a4 ds.length cap4] 38)
  have HW := Lib.hid hW
  clear hW
  go_enter Try.func77, Try.ntmps77
  go_upto_region 1 with fail
  rw [HW.out]
  clear HW
  obtain ⟨x0_0, x0_1, x0_2, x0_3, x0_4, x0_5, x0_6⟩ := rowc7 R0.out
  have HPEL : Hid (pe.length ≤ 2) := by show _ ≤ _; rw [← HPE.out]; split <;> simp
  go_upto_if 15 with (fail)
  go_cut [5] (fun u5 wx => ∃ u : Value, u = u5 ∧ Hid (OwnS wx (w.heap.size + 1) 25 5 u (resRows pe)) ∧ Hid (kd ≠ 3 → u = .slice none 0 0) ∧ Hid (Below w.heap.size w wx) ∧ Hid (wx.heap[w.heap.size]? = some (.cells #[.int .i64 kd, .int .i64 md, .int .i64 ch, .int .u64 vl, .int .i64 dl, .slice a3 cs.length cap3, .slice a4 ds.length cap4] 38 (0, 0))))
  case first =>
    by_cases h3 : kd = 3
    · subst h3
      have hp : pe = [⟨6, -1, 0, false, 0⟩, ⟨5, -1, 0, false, 0⟩] := by rw [← HPE.out]; rfl
      subst hp
      have hsz : w.heap.size + 1 ≤ W.heap.size := by omega
      go_wp2_with fail
      go_meet
      exact ⟨_, rfl, OwnS.lit (resRows [⟨6, -1, 0, false, 0⟩, ⟨5, -1, 0, false, 0⟩]) (resRows_rows _) rfl (by decide) hsz, fun h => absurd rfl h, below_new HB.out _, (heap_alloc_old _ _ (Array.getElem?_eq_some_iff.1 R0.out).1).trans R0.out⟩
    · have h3b : (kd == 3) = false := by simpa using h3
      have hp : pe = [] := by rw [← HPE.out, if_neg h3]
      subst hp
      go_wp2_with fail
      go_meet
      exact ⟨_, rfl, OwnS.nil _ _ _ _, fun _ => rfl, HB, R0⟩
  case rest =>
    obtain ⟨s5, rfl, HO0, HN0, HB0, R00⟩ := hcut
    clear x0_0 x0_1 x0_2 x0_3 x0_4 x0_5 x0_6 R0 HB hz
    obtain ⟨wy, rfl⟩ : ∃ wy : World, wy = wc := ⟨_, rfl⟩
    obtain ⟨x0, x1, x2, x3, x4, x5, x6⟩ := rowc7 R00.out
    go_wp2_with fail
    refine (TC.out _ HB0.out).mono ?_; rintro e w1 ⟨u, rfl, hu, hb1⟩
    have HB1 := Lib.hid (below_then HB0.out hb1)
    have HO1 := Lib.hid (HO0.out.below hb1)
    have R01 := Lib.hid ((hb1.block w.heap.size (Array.getElem?_eq_some_iff.1 R00.out).1).trans R00.out)
    obtain ⟨ua, uc, rfl⟩ := hu.len
    have HU := Lib.hid hu
    have hlb := hu.1
    have hOB : ∃ bb, w.heap.size + 1 ≤ bb ∧ bb ≤ w1.heap.size ∧ (cl = [] ∨ bb = w1.heap.size) ∧ Hid (OwnS w1 bb 25 5 s5 (resRows pe)) := by
      have h9 := (Array.getElem?_eq_some_iff.1 R01.out).1
      by_cases h3 : kd = 3
      · exact ⟨w.heap.size + 1, Nat.le_refl _, by omega, .inl (HC3.out h3), HO1⟩
      · have hp : pe = [] := by rw [← HPE.out, if_neg h3]
        rw [hp, HN0.out h3]
        exact ⟨w1.heap.size, by omega, Nat.le_refl _, .inr rfl, OwnS.nil _ _ _ _⟩
    clear HO1
    obtain ⟨bb, hbl1, hbl2, hbl3, HO1⟩ := hOB
    clear x0 x1 x2 x3 x4 x5 x6 hb1 hu TC HO0 HB0 R00 HN0
    go_wp2_with fail
    go_loopw [5, 8] (fun u5 u8 wr => ∃ (i : Nat) (u : Value), u = u5 ∧ u8 = .int .i64 i ∧ i ≤ cl.length ∧ Hid (OwnS wr bb 25 5 u (resRows (pe ++ tr i))) ∧ Hid (Below bb w1 wr)) (fun _ u8 _ => cl.length - (intOf u8).toNat)
    case atStart => exact ⟨0, _, rfl, rfl, by omega, by rw [HT0.out, List.append_nil]; exact HO1, Below.refl _ _⟩
    case round =>
      obtain ⟨i, u, rfl, rfl, hi, HO, HBi⟩ := hrel
      obtain ⟨wo, rfl⟩ : ∃ wo : World, wo = wr := ⟨_, rfl⟩
      by_cases hlt : i < cl.length
      · have hltI : (i : Int) < (cl.length : Int) := by omega
        have hbw : bb = w1.heap.size := by
          rcases hbl3 with h | h
          · rw [h] at hlt; simp at hlt
          · exact h
        subst hbw
        clear hbl2 hbl3
        have R0i := Lib.hid ((HBi.out.block w.heap.size (Array.getElem?_eq_some_iff.1 R01.out).1).trans R01.out)
        obtain ⟨-, -, a', cap', hve, -, hcell⟩ := HU.out.below HBi.out
        simp only [Value.slice.injEq, true_and] at hve
        obtain ⟨rfl, rfl⟩ := hve
        obtain ⟨b, off, rfl, hbb, hca⟩ := hcell i hlt
        obtain ⟨⟨s1, s2, s3⟩, hx⟩ : ∃ x, cl.getD i noCase = x := ⟨_, rfl⟩
        rw [hx] at hca
        obtain ⟨c0, c1, c2⟩ := hca
        dsimp only at c0 c1 c2
        have HT := Lib.hid (HTS.out i)
        rw [hx] at HT
        have HLN : Hid ((resRows (pe ++ tr i)).length ≤ 300000) := by
          show _ ≤ _
          rw [resRows_length, List.length_append]
          have := HPEL.out; have := HTL.out i; have := HCL.out
          omega
        clear hcell hx
        obtain ⟨x0, x1, x2, x3, x4, x5, x6⟩ := rowc7 R0i.out
        obtain ⟨nn, hnn⟩ : ∃ n, nu i = n := ⟨_, rfl⟩
        rw [hnn] at HT
        have hszi := HBi.out.size
        have hszw := HB1.out.size
        by_cases h4 : kd = 4
        · have h4b : (kd == 4) = true := by simpa using h4
          have e : nn = i := by rw [← hnn, HNU.out, if_pos h4]
          clear hnn h4
          subst e
          cases s1 with
          | true =>
            have HT2 : Hid (tr (i + 1) = tr i ++ [⟨5, i, 0, false, 0⟩, ⟨1, i, 0, false, 0⟩]) := HT.out
            clear HT
            have HBX := Lib.hid HBi.out
            go_upto_region 7 with (at_builtin; refine wp_append_ss 122 (by kernel_rfl) Try.info_res rfl (by decide) (by decide) rfl _ _ rfl rfl (HO.out.below (below_new (Below.refl _ _) _)) (resRows [⟨5, i, 0, false, 0⟩, ⟨1, i, 0, false, 0⟩]) (resRows_rows _) _ 2 rfl rfl (by show (Array.push _ _)[_]? = _; exact Array.getElem?_push_size) (by have := HLN.out; show _ + 2 ≤ _; omega) (by simp; omega) ?_; intro v2 w2 h1 h2; have H1 := Lib.hid h1; have H2 := Lib.hid h2; clear h1 h2)
            have HB5 : Hid (Below w1.heap.size w1 w2) := (below_new HBX.out _).grown H2.out (by simp; omega) (fun j hj => (HO.out.lt j hj).1)
            have HO5 : Hid (OwnS w2 w1.heap.size 25 5 v2 (resRows (pe ++ tr (i + 1)))) := by rw [HT2.out, ← List.append_assoc, resRows_append]; exact H1
            clear H1 H2 x0 x1 x2 x3 x4 x5 x6 c0 c1 c2 hbb HO
            go_wp2_with fail
            go_roundw
            case rel => exact ⟨i + 1, _, rfl, by go_num, by omega, HO5, HB5⟩
            case measure => simp [intOf]; omega
          | false =>
            obtain ⟨ex, hex⟩ : ∃ b, exB l s2 = b := ⟨_, rfl⟩
            have TE1 := Lib.hid (TE.out s2 wo (below_then HB1.out HBi.out))
            rw [hex] at TE1
            have HEX := Lib.hid hex
            have HTT : Hid (tr (i + 1) = tr i ++ ((if ex = true ∧ 0 < (chE l s2).buf.length then [⟨2, i, (chE l s2).buf.getD 0 0, true, 0⟩] else []) ++ [⟨2, i, 0, false, 0⟩])) := by show _ = _; rw [← hex]; exact HT.out
            clear HT hex
            go_wp2_with fail
            refine TE1.out.mono ?_; rintro e w' ⟨rfl, rfl⟩
            clear TE1
            have HBX := Lib.hid HBi.out
            cases ex with
            | false =>
              have HT2 : Hid (tr (i + 1) = tr i ++ [⟨2, i, 0, false, 0⟩]) := HTT.out
              clear HTT
              go_upto_region 7 with (at_builtin; refine wp_append_ss 122 (by kernel_rfl) Try.info_res rfl (by decide) (by decide) rfl _ _ rfl rfl (HO.out.below (below_new (Below.refl _ _) _)) (resRows [⟨2, i, 0, false, 0⟩]) (resRows_rows _) _ 1 rfl rfl (by show (Array.push _ _)[_]? = _; exact Array.getElem?_push_size) (by have := HLN.out; show _ + 1 ≤ _; omega) (by simp; omega) ?_; intro v2 w2 h1 h2; have H1 := Lib.hid h1; have H2 := Lib.hid h2; clear h1 h2)
              have HB5 : Hid (Below w1.heap.size w1 w2) := (below_new HBX.out _).grown H2.out (by simp; omega) (fun j hj => (HO.out.lt j hj).1)
              have HO5 : Hid (OwnS w2 w1.heap.size 25 5 v2 (resRows (pe ++ tr (i + 1)))) := by rw [HT2.out, ← List.append_assoc, resRows_append]; exact H1
              clear H1 H2 x0 x1 x2 x3 x4 x5 x6 c0 c1 c2 hbb HO
              go_wp2_with fail
              go_roundw
              case rel => exact ⟨i + 1, _, rfl, by go_num, by omega, HO5, HB5⟩
              case measure => simp [intOf]; omega
            | true =>
              obtain ⟨j, hj, hjl, hce⟩ := exB_nat HEX.out
              subst hj
              rw [hce] at HTT
              have hjI : (j : Int) < (l.length : Int) := by omega
              obtain ⟨b9, off9, cap9, u9, hve, hb9, e0, e1, e2, hu9⟩ := (HV.out.below (below_then HB1.out HBi.out)).at j hjl
              simp only [Value.slice.injEq] at hve
              obtain ⟨rfl, -, rfl⟩ := hve
              obtain ⟨⟨cc, bf, cll⟩, hcc⟩ : ∃ c, l.getD j noChan = c := ⟨_, rfl⟩
              rw [hcc] at e0 e2 hu9 HTT
              dsimp only at e0 e2 hu9 HTT
              obtain ⟨ua9, uc9, rfl, -⟩ := hu9.len
              clear hcc hce HEX
              cases bf with
              | nil =>
                have HT2 : Hid (tr (i + 1) = tr i ++ [⟨2, i, 0, false, 0⟩]) := HTT.out
                clear HTT
                simp only [List.length_nil] at e1
                go_upto_region 7 with (at_builtin; refine wp_append_ss 122 (by kernel_rfl) Try.info_res rfl (by decide) (by decide) rfl _ _ rfl rfl (HO.out.below (below_new (Below.refl _ _) _)) (resRows [⟨2, i, 0, false, 0⟩]) (resRows_rows _) _ 1 rfl rfl (by show (Array.push _ _)[_]? = _; exact Array.getElem?_push_size) (by have := HLN.out; show _ + 1 ≤ _; omega) (by simp; omega) ?_; intro v2 w2 h1 h2; have H1 := Lib.hid h1; have H2 := Lib.hid h2; clear h1 h2)
                clear e0 e1 e2 hb9 hu9
                have HB5 : Hid (Below w1.heap.size w1 w2) := (below_new HBX.out _).grown H2.out (by simp; omega) (fun j hj => (HO.out.lt j hj).1)
                have HO5 : Hid (OwnS w2 w1.heap.size 25 5 v2 (resRows (pe ++ tr (i + 1)))) := by rw [HT2.out, ← List.append_assoc, resRows_append]; exact H1
                clear H1 H2 x0 x1 x2 x3 x4 x5 x6 c0 c1 c2 hbb HO
                go_wp2_with fail
                go_roundw
                case rel => exact ⟨i + 1, _, rfl, by go_num, by omega, HO5, HB5⟩
                case measure => simp [intOf]; omega
              | cons yb bt =>
                have HT2 : Hid (tr (i + 1) = (tr i ++ [⟨2, i, yb, true, 0⟩]) ++ [⟨2, i, 0, false, 0⟩]) := by
                  show _ = _
                  rw [HTT.out, List.append_assoc]
                  simp
                clear HTT
                have hbl9 := hu9.1
                obtain ⟨b2, off2, cap2, e9, hcp, hb2, hcc2⟩ := hu9.open (by simp)
                simp only [Value.slice.injEq] at e9
                obtain ⟨rfl, -, rfl⟩ := e9
                have q0 := hcc2 0 (by simp)
                simp only [Nat.add_zero, List.getD_cons_zero] at q0
                simp only [List.length_cons] at e1 hbl9
                have h03 : (0 : Int) < (bt.length : Int) + 1 := by omega
                have h04 : (0 : Int) < ((bt.length + 1 : Nat) : Int) := by omega
                clear hcc2
                go_upto_region 15 with (at_builtin; refine wp_append_ss 122 (by kernel_rfl) Try.info_res rfl (by decide) (by decide) rfl _ _ rfl rfl (HO.out.below (below_new (Below.refl _ _) _)) (resRows [⟨2, i, yb, true, 0⟩]) (resRows_rows _) _ 1 rfl rfl (by show (Array.push _ _)[_]? = _; exact Array.getElem?_push_size) (by have := HLN.out; show _ + 1 ≤ _; omega) (by simp; omega) ?_; intro v2 w2 h1 h2; have H1 := Lib.hid h1; have H2 := Lib.hid h2; clear h1 h2)
                have HBY : Hid (Below w1.heap.size w1 w2) := (below_new HBX.out _).grown H2.out (by simp; omega) (fun j hj => (HO.out.lt j hj).1)
                have HOY : Hid (OwnS w2 w1.heap.size 25 5 v2 (resRows (pe ++ (tr i ++ [⟨2, i, yb, true, 0⟩])))) := by rw [← List.append_assoc, resRows_append]; exact H1
                have hszy := HBY.out.size
                have HLY : Hid ((resRows (pe ++ (tr i ++ [⟨2, i, yb, true, 0⟩]))).length ≤ 300001) := by
                  show _ ≤ _
                  have := HLN.out
                  rw [resRows_length, List.length_append] at this ⊢
                  rw [List.length_append]
                  show _ + (_ + 1) ≤ _
                  omega
                clear H1 H2 x0 x1 x2 x3 x4 x5 x6 c0 c1 c2 hbb HO q0 e0 e1 e2 hb9 hu9 hb2 h03 h04
                obtain ⟨A9, C9, hv9⟩ := HOY.out.lenR
                obtain ⟨n9, hn9⟩ : ∃ n, (pe ++ (tr i ++ ([⟨2, i, yb, true, 0⟩] : List ResM))).length = n := ⟨_, rfl⟩
                rw [hn9] at hv9
                subst hv9
                clear hn9
                go_upto_region 7 with (at_builtin; refine wp_append_ss 122 (by kernel_rfl) Try.info_res rfl (by decide) (by decide) rfl _ _ rfl rfl (HOY.out.below (below_new (Below.refl _ _) _)) (resRows [⟨2, i, 0, false, 0⟩]) (resRows_rows _) _ 1 rfl rfl (by show (Array.push _ _)[_]? = _; exact Array.getElem?_push_size) (by have := HLY.out; show _ + 1 ≤ _; omega) (by simp; omega) ?_; intro v3 w3 h1 h2; have H1 := Lib.hid h1; have H2 := Lib.hid h2; clear h1 h2)
                have HB5 : Hid (Below w1.heap.size w1 w3) := (below_new HBY.out _).grown H2.out (by simp; omega) (fun j hj => (HOY.out.lt j hj).1)
                have HO5 : Hid (OwnS w3 w1.heap.size 25 5 v3 (resRows (pe ++ tr (i + 1)))) := by rw [HT2.out, ← List.append_assoc, resRows_append]; exact H1
                clear H1 H2
                go_wp2_with fail
                go_roundw
                case rel => exact ⟨i + 1, _, rfl, by go_num, by omega, HO5, HB5⟩
                case measure => simp [intOf]; omega
        · have h4b : (kd == 4) = false := by simpa using h4
          have e : nn = -1 := by rw [← hnn, HNU.out, if_neg h4]
          clear hnn h4
          subst e
          cases s1 with
          | true =>
            have HT2 : Hid (tr (i + 1) = tr i ++ [⟨5, -1, 0, false, 0⟩, ⟨1, -1, 0, false, 0⟩]) := HT.out
            clear HT
            have HBX := Lib.hid HBi.out
            go_upto_region 7 with (at_builtin; refine wp_append_ss 122 (by kernel_rfl) Try.info_res rfl (by decide) (by decide) rfl _ _ rfl rfl (HO.out.below (below_new (Below.refl _ _) _)) (resRows [⟨5, -1, 0, false, 0⟩, ⟨1, -1, 0, false, 0⟩]) (resRows_rows _) _ 2 rfl rfl (by show (Array.push _ _)[_]? = _; exact Array.getElem?_push_size) (by have := HLN.out; show _ + 2 ≤ _; omega) (by simp; omega) ?_; intro v2 w2 h1 h2; have H1 := Lib.hid h1; have H2 := Lib.hid h2; clear h1 h2)
            have HB5 : Hid (Below w1.heap.size w1 w2) := (below_new HBX.out _).grown H2.out (by simp; omega) (fun j hj => (HO.out.lt j hj).1)
            have HO5 : Hid (OwnS w2 w1.heap.size 25 5 v2 (resRows (pe ++ tr (i + 1)))) := by rw [HT2.out, ← List.append_assoc, resRows_append]; exact H1
            clear H1 H2 x0 x1 x2 x3 x4 x5 x6 c0 c1 c2 hbb HO
            go_wp2_with fail
            go_roundw
            case rel => exact ⟨i + 1, _, rfl, by go_num, by omega, HO5, HB5⟩
            case measure => simp [intOf]; omega
          | false =>
            obtain ⟨ex, hex⟩ : ∃ b, exB l s2 = b := ⟨_, rfl⟩
            have TE1 := Lib.hid (TE.out s2 wo (below_then HB1.out HBi.out))
            rw [hex] at TE1
            have HEX := Lib.hid hex
            have HTT : Hid (tr (i + 1) = tr i ++ ((if ex = true ∧ 0 < (chE l s2).buf.length then [⟨2, -1, (chE l s2).buf.getD 0 0, true, 0⟩] else []) ++ [⟨2, -1, 0, false, 0⟩])) := by show _ = _; rw [← hex]; exact HT.out
            clear HT hex
            go_wp2_with fail
            refine TE1.out.mono ?_; rintro e w' ⟨rfl, rfl⟩
            clear TE1
            have HBX := Lib.hid HBi.out
            cases ex with
            | false =>
              have HT2 : Hid (tr (i + 1) = tr i ++ [⟨2, -1, 0, false, 0⟩]) := HTT.out
              clear HTT
              go_upto_region 7 with (at_builtin; refine wp_append_ss 122 (by kernel_rfl) Try.info_res rfl (by decide) (by decide) rfl _ _ rfl rfl (HO.out.below (below_new (Below.refl _ _) _)) (resRows [⟨2, -1, 0, false, 0⟩]) (resRows_rows _) _ 1 rfl rfl (by show (Array.push _ _)[_]? = _; exact Array.getElem?_push_size) (by have := HLN.out; show _ + 1 ≤ _; omega) (by simp; omega) ?_; intro v2 w2 h1 h2; have H1 := Lib.hid h1; have H2 := Lib.hid h2; clear h1 h2)
              have HB5 : Hid (Below w1.heap.size w1 w2) := (below_new HBX.out _).grown H2.out (by simp; omega) (fun j hj => (HO.out.lt j hj).1)
              have HO5 : Hid (OwnS w2 w1.heap.size 25 5 v2 (resRows (pe ++ tr (i + 1)))) := by rw [HT2.out, ← List.append_assoc, resRows_append]; exact H1
              clear H1 H2 x0 x1 x2 x3 x4 x5 x6 c0 c1 c2 hbb HO
              go_wp2_with fail
              go_roundw
              case rel => exact ⟨i + 1, _, rfl, by go_num, by omega, HO5, HB5⟩
              case measure => simp [intOf]; omega
            | true =>
              obtain ⟨j, hj, hjl, hce⟩ := exB_nat HEX.out
              subst hj
              rw [hce] at HTT
              have hjI : (j : Int) < (l.length : Int) := by omega
              obtain ⟨b9, off9, cap9, u9, hve, hb9, e0, e1, e2, hu9⟩ := (HV.out.below (below_then HB1.out HBi.out)).at j hjl
              simp only [Value.slice.injEq] at hve
              obtain ⟨rfl, -, rfl⟩ := hve
              obtain ⟨⟨cc, bf, cll⟩, hcc⟩ : ∃ c, l.getD j noChan = c := ⟨_, rfl⟩
              rw [hcc] at e0 e2 hu9 HTT
              dsimp only at e0 e2 hu9 HTT
              obtain ⟨ua9, uc9, rfl, -⟩ := hu9.len
              clear hcc hce HEX
              cases bf with
              | nil =>
                have HT2 : Hid (tr (i + 1) = tr i ++ [⟨2, -1, 0, false, 0⟩]) := HTT.out
                clear HTT
                simp only [List.length_nil] at e1
                go_upto_region 7 with (at_builtin; refine wp_append_ss 122 (by kernel_rfl) Try.info_res rfl (by decide) (by decide) rfl _ _ rfl rfl (HO.out.below (below_new (Below.refl _ _) _)) (resRows [⟨2, -1, 0, false, 0⟩]) (resRows_rows _) _ 1 rfl rfl (by show (Array.push _ _)[_]? = _; exact Array.getElem?_push_size) (by have := HLN.out; show _ + 1 ≤ _; omega) (by simp; omega) ?_; intro v2 w2 h1 h2; have H1 := Lib.hid h1; have H2 := Lib.hid h2; clear h1 h2)
                clear e0 e1 e2 hb9 hu9
                have HB5 : Hid (Below w1.heap.size w1 w2) := (below_new HBX.out _).grown H2.out (by simp; omega) (fun j hj => (HO.out.lt j hj).1)
                have HO5 : Hid (OwnS w2 w1.heap.size 25 5 v2 (resRows (pe ++ tr (i + 1)))) := by rw [HT2.out, ← List.append_assoc, resRows_append]; exact H1
                clear H1 H2 x0 x1 x2 x3 x4 x5 x6 c0 c1 c2 hbb HO
                go_wp2_with fail
                go_roundw
                case rel => exact ⟨i + 1, _, rfl, by go_num, by omega, HO5, HB5⟩
                case measure => simp [intOf]; omega
              | cons yb bt =>
                have HT2 : Hid (tr (i + 1) = (tr i ++ [⟨2, -1, yb, true, 0⟩]) ++ [⟨2, -1, 0, false, 0⟩]) := by
                  show _ = _
                  rw [HTT.out, List.append_assoc]
                  simp
                clear HTT
                have hbl9 := hu9.1
                obtain ⟨b2, off2, cap2, e9, hcp, hb2, hcc2⟩ := hu9.open (by simp)
                simp only [Value.slice.injEq] at e9
                obtain ⟨rfl, -, rfl⟩ := e9
                have q0 := hcc2 0 (by simp)
                simp only [Nat.add_zero, List.getD_cons_zero] at q0
                simp only [List.length_cons] at e1 hbl9
                have h03 : (0 : Int) < (bt.length : Int) + 1 := by omega
                have h04 : (0 : Int) < ((bt.length + 1 : Nat) : Int) := by omega
                clear hcc2
                go_upto_region 15 with (at_builtin; refine wp_append_ss 122 (by kernel_rfl) Try.info_res rfl (by decide) (by decide) rfl _ _ rfl rfl (HO.out.below (below_new (Below.refl _ _) _)) (resRows [⟨2, -1, yb, true, 0⟩]) (resRows_rows _) _ 1 rfl rfl (by show (Array.push _ _)[_]? = _; exact Array.getElem?_push_size) (by have := HLN.out; show _ + 1 ≤ _; omega) (by simp; omega) ?_; intro v2 w2 h1 h2; have H1 := Lib.hid h1; have H2 := Lib.hid h2; clear h1 h2)
                have HBY : Hid (Below w1.heap.size w1 w2) := (below_new HBX.out _).grown H2.out (by simp; omega) (fun j hj => (HO.out.lt j hj).1)
                have HOY : Hid (OwnS w2 w1.heap.size 25 5 v2 (resRows (pe ++ (tr i ++ [⟨2, -1, yb, true, 0⟩])))) := by rw [← List.append_assoc, resRows_append]; exact H1
                have hszy := HBY.out.size
                have HLY : Hid ((resRows (pe ++ (tr i ++ [⟨2, -1, yb, true, 0⟩]))).length ≤ 300001) := by
                  show _ ≤ _
                  have := HLN.out
                  rw [resRows_length, List.length_append] at this ⊢
                  rw [List.length_append]
                  show _ + (_ + 1) ≤ _
                  omega
                clear H1 H2 x0 x1 x2 x3 x4 x5 x6 c0 c1 c2 hbb HO q0 e0 e1 e2 hb9 hu9 hb2 h03 h04
                obtain ⟨A9, C9, hv9⟩ := HOY.out.lenR
                obtain ⟨n9, hn9⟩ : ∃ n, (pe ++ (tr i ++ ([⟨2, -1, yb, true, 0⟩] : List ResM))).length = n := ⟨_, rfl⟩
                rw [hn9] at hv9
                subst hv9
                clear hn9
                go_upto_region 7 with (at_builtin; refine wp_append_ss 122 (by kernel_rfl) Try.info_res rfl (by decide) (by decide) rfl _ _ rfl rfl (HOY.out.below (below_new (Below.refl _ _) _)) (resRows [⟨2, -1, 0, false, 0⟩]) (resRows_rows _) _ 1 rfl rfl (by show (Array.push _ _)[_]? = _; exact Array.getElem?_push_size) (by have := HLY.out; show _ + 1 ≤ _; omega) (by simp; omega) ?_; intro v3 w3 h1 h2; have H1 := Lib.hid h1; have H2 := Lib.hid h2; clear h1 h2)
                have HB5 : Hid (Below w1.heap.size w1 w3) := (below_new HBY.out _).grown H2.out (by simp; omega) (fun j hj => (HOY.out.lt j hj).1)
                have HO5 : Hid (OwnS w3 w1.heap.size 25 5 v3 (resRows (pe ++ tr (i + 1)))) := by rw [HT2.out, ← List.append_assoc, resRows_append]; exact H1
                clear H1 H2
                go_wp2_with fail
                go_roundw
                case rel => exact ⟨i + 1, _, rfl, by go_num, by omega, HO5, HB5⟩
                case measure => simp [intOf]; omega
      · have hge : ¬ (i : Int) < (cl.length : Int) := by omega
        have hil : i = cl.length := by omega
        have HOA : Hid (OwnS wo bb 25 5 u (resRows al)) := by rw [HAL.out, ← hil]; exact HO
        have R02 := Lib.hid ((HBi.out.block w.heap.size (by omega)).trans R01.out)
        have HB2 : Hid (Below w.heap.size w wo) := HB1.out.trans (HBi.out.mono (by omega))
        have HALN : Hid (al.length ≤ 300000) := by
          show _ ≤ _
          rw [HAL.out, List.length_append]
          have := HPEL.out; have := HTL.out cl.length; have := HCL.out
          omega
        have HSA : Hid (SlS wo 5 u (resRows al)) := HOA.out.sls (by rw [resRows_length]; have := HALN.out; omega)
        obtain ⟨aal, cal, hue⟩ := HOA.out.lenR
        subst hue
        have halb : al.length ≤ 300000 := HALN.out
        clear hil HO HOA HBi hbl3
        go_wp2_with fail
        go_loopw [6, 10] (fun u6 u10 wr => ∃ (k : Nat) (v : Value), v = u6 ∧ u10 = .int .i64 k ∧ k ≤ al.length ∧ Hid (OwnS wr wo.heap.size 25 5 v (resRows (pf k))) ∧ Hid (Below wo.heap.size wo wr)) (fun _ u10 _ => al.length - (intOf u10).toNat)
        case atStart => exact ⟨0, _, rfl, rfl, by omega, by rw [HP0.out]; exact OwnS.nil _ _ _ _, Below.refl _ _⟩
        case round =>
          obtain ⟨k, v, rfl, rfl, hk, HO, HBk⟩ := hrel
          obtain ⟨wp, rfl⟩ : ∃ wp : World, wp = wr := ⟨_, rfl⟩
          by_cases hlk : k < al.length
          · have hlkI : (k : Int) < (al.length : Int) := by omega
            obtain ⟨⟨t1, t2, t3, t4, t5⟩, ht⟩ : ∃ r, al.getD k ⟨0, 0, 0, false, 0⟩ = r := ⟨_, rfl⟩
            have hstep := HPS.out k _ hlk ht
            obtain ⟨b, off, cap', hve, hb, c0, c1, c2, c3, c4⟩ := (HSA.out.below HBk.out).res k hlk ht
            simp only [Value.slice.injEq] at hve
            obtain ⟨rfl, -, rfl⟩ := hve
            dsimp only at c0 c1 c2 c3 c4
            have HST := Lib.hid hstep
            have R03 := Lib.hid ((HBk.out.block w.heap.size (Array.getElem?_eq_some_iff.1 R02.out).1).trans R02.out)
            have TA1 := Lib.hid fun w' (hb : Below wp.heap.size wp w') => TA.out ⟨t1, t2, t3, t4, t5⟩ w' (below_then (below_then HB2.out HBk.out) hb)
            unfold resW at TA1
            dsimp only at TA1
            obtain ⟨mo, hmo⟩ : ∃ o, me ⟨t1, t2, t3, t4, t5⟩ = o := ⟨_, rfl⟩
            rw [hmo] at TA1 HST
            have hpl := HPL.out k
            have HPK : Hid ((pf k).length ≤ 300000) := by have := HALN.out; show _ ≤ _; omega
            have KS : Hid (∀ w', Below wp.heap.size wp w' → (fun w' : World => (w'.cell? ⟨w.heap.size, 0, none⟩ = some (.int .i64 kd) ∧ w'.cell? ⟨w.heap.size, 1, none⟩ = some (.int .i64 md) ∧ w'.cell? ⟨w.heap.size, 2, none⟩ = some (.int .i64 ch) ∧ w'.cell? ⟨w.heap.size, 3, none⟩ = some (.int .u64 vl) ∧ w'.cell? ⟨w.heap.size, 4, none⟩ = some (.int .i64 dl) ∧ w'.cell? ⟨w.heap.size, 5, none⟩ = some (.slice a3 cs.length cap3) ∧ w'.cell? ⟨w.heap.size, 6, none⟩ = some (.slice a4 ds.length cap4)) ∧ w'.cell? ⟨b, off + k * 5, none⟩ = some (.int .i64 t1) ∧ w'.cell? ⟨b, off + k * 5 + 1, none⟩ = some (.int .i64 t2) ∧ w'.cell? ⟨b, off + k * 5 + 2, none⟩ = some (.int .u64 t3) ∧ w'.cell? ⟨b, off + k * 5 + 3, none⟩ = some (.bool t4) ∧ w'.cell? ⟨b, off + k * 5 + 4, none⟩ = some (.int .i64 t5)) w') := fun w' hbb => ⟨rowc7 ((hbb.block w.heap.size (Array.getElem?_eq_some_iff.1 R03.out).1).trans R03.out), (hbb.cell (p := ⟨b, off + k * 5, none⟩) hb).trans c0, (hbb.cell (p := ⟨b, off + k * 5 + 1, none⟩) hb).trans c1, (hbb.cell (p := ⟨b, off + k * 5 + 2, none⟩) hb).trans c2, (hbb.cell (p := ⟨b, off + k * 5 + 3, none⟩) hb).trans c3, (hbb.cell (p := ⟨b, off + k * 5 + 4, none⟩) hb).trans c4⟩
            clear ht hmo hstep hpl c0 c1 c2 c3 c4
            go_upto_region 19 with fail
            refine untilK KS 6 12 (by kernel_rfl) rfl ?_
            obtain ⟨u0, hu0, HU0⟩ := drew_pack wp
            rw [hu0]
            clear hu0
            have hSU0 := KS.out _ HU0.out
            refine tkU (v := ?_) 0 la0 hSU0 (by kernel_rfl) (fun _ _ _ h => h) rfl ?_ ?_
            rotate_left
            · (intro w hSw; (try dsimp only at hSw); go_simp <;> with_reducible rfl)
            simp only [Act.put, List.setIfInBounds_toArray, List.set_cons_zero, List.set_cons_succ]
            refine tkU (v := ?_) 1 la1 hSU0 (by kernel_rfl) (fun _ _ _ h => h) rfl ?_ ?_
            rotate_left
            · (intro w hSw; (try dsimp only at hSw); go_simp <;> with_reducible rfl)
            simp only [Act.put, List.setIfInBounds_toArray, List.set_cons_zero, List.set_cons_succ]
            refine wpAnyU_takeW (v := ?_) 2 la2 (by kernel_rfl) (by kernel_rfl) (by kernel_rfl) (by kernel_rfl) (fun _ _ _ h => h) (fun _ => hSU0) rfl ?_ ?_
            rotate_left
            · (intro w; go_simp <;> with_reducible rfl)
            simp only [Act.put, List.setIfInBounds_toArray, List.set_cons_zero, List.set_cons_succ]
            refine wpAnyU_takeW (v := ?_) 3 la3 (by kernel_rfl) (by kernel_rfl) (by kernel_rfl) (by kernel_rfl) (fun _ _ _ h => h) (fun _ => hSU0) rfl ?_ ?_
            rotate_left
            · (intro w; go_simp <;> with_reducible rfl)
            simp only [Act.put, List.setIfInBounds_toArray, List.set_cons_zero, List.set_cons_succ]
            refine wpAnyU_takeW (v := ?_) 4 la4 (by kernel_rfl) (by kernel_rfl) (by kernel_rfl) (by kernel_rfl) (fun _ _ _ h => h) (fun _ => hSU0) rfl ?_ ?_
            rotate_left
            · (intro w; go_simp <;> with_reducible rfl)
            simp only [Act.put, List.setIfInBounds_toArray, List.set_cons_zero, List.set_cons_succ]
            refine tkU (v := ?_) 5 la5 hSU0 (by kernel_rfl) (fun _ _ _ h => h) rfl ?_ ?_
            rotate_left
            · (intro w hSw; (try dsimp only at hSw); go_simp <;> with_reducible rfl)
            simp only [Act.put, List.setIfInBounds_toArray, List.set_cons_zero, List.set_cons_succ]
            refine wpAnyU_ready (rs := [6]) (by kernel_rfl) rfl ?_
            refine AllReadyU.free la6 rfl (by kernel_rfl) (fun K hK => ?_) ?_
            · go_simp
              go_at_call 80
              refine (TA1.out _ HU0.out).mono ?_
              rintro e u1 ⟨va, ok, rfl, hq, hbq⟩
              have HQ := Lib.hid hq
              have HU1 := Lib.hid (below_then HU0.out hbq)
              clear hq hbq
              refine hK.out _ _ ?_
              clear hK K hSU0
              try simp only [Act.put, List.setIfInBounds_toArray, List.set_cons_zero, List.set_cons_succ]
              refine wpAnyU_takeW (v := ?_) 7 la7 (by kernel_rfl) (by kernel_rfl) (by kernel_rfl) (by kernel_rfl) (fun _ _ _ h => h) (past_k (by kernel_rfl)) rfl ?_ ?_
              rotate_left
              · (intro w; go_simp <;> with_reducible rfl)
              simp only [Act.put, List.setIfInBounds_toArray, List.set_cons_zero, List.set_cons_succ]
              refine wpAnyU_takeW (v := ?_) 8 la8 (by kernel_rfl) (by kernel_rfl) (by kernel_rfl) (by kernel_rfl) (fun _ _ _ h => h) (past_k (by kernel_rfl)) rfl ?_ ?_
              rotate_left
              · (intro w; go_simp <;> with_reducible rfl)
              simp only [Act.put, List.setIfInBounds_toArray, List.set_cons_zero, List.set_cons_succ]
              refine wpAnyU_takeW (v := ?_) 9 la9 (by kernel_rfl) (by kernel_rfl) (by kernel_rfl) (by kernel_rfl) (fun _ _ _ h => h) (past_k (by kernel_rfl)) rfl ?_ ?_
              rotate_left
              · (intro w; go_simp <;> with_reducible rfl)
              simp only [Act.put, List.setIfInBounds_toArray, List.set_cons_zero, List.set_cons_succ]
              refine wpAnyU_takeW (v := ?_) 10 la10 (by kernel_rfl) (by kernel_rfl) (by kernel_rfl) (by kernel_rfl) (fun _ _ _ h => h) (past_k (by kernel_rfl)) rfl ?_ ?_
              rotate_left
              · (intro w; go_simp <;> with_reducible rfl)
              simp only [Act.put, List.setIfInBounds_toArray, List.set_cons_zero, List.set_cons_succ]
              refine wpAnyU_takeW (v := ?_) 11 la11 (by kernel_rfl) (by kernel_rfl) (by kernel_rfl) (by kernel_rfl) (fun _ _ _ h => h) (past_k (by kernel_rfl)) rfl ?_ ?_
              rotate_left
              · (intro w; go_simp <;> with_reducible rfl)
              simp only [Act.put, List.setIfInBounds_toArray, List.set_cons_zero, List.set_cons_succ]
              refine wpAnyU_done (by kernel_rfl) ?_ _
              have HBQ := Lib.hid (below_then HBk.out HU1.out)
              have HOQ := Lib.hid (HO.out.below HU1.out)
              obtain ⟨-, c0, c1, c2, c3, c4⟩ := KS.out _ HU1.out
              cases ok with
              | false =>
                have HSa : Hid (pf (k + 1) = pf k) := by
                  show _ = _
                  rw [HST.out]
                  rcases HQ.out with ⟨l', -, h, -⟩ | ⟨h, -⟩
                  · cases h
                  · rw [h]; simp
                clear c0 c1 c2 c3 c4 HST HQ
                go_wp2_with fail
                go_roundw
                case rel => exact ⟨k + 1, v, rfl, by go_num, by omega, by rw [HSa.out]; exact HOQ, HBQ⟩
                case measure => simp [intOf]; omega
              | true =>
                have HSa : Hid (pf (k + 1) = pf k ++ [⟨t1, t2, t3, t4, t5⟩]) := by
                  show _ = _
                  rw [HST.out]
                  rcases HQ.out with ⟨l', h, -⟩ | ⟨-, h⟩
                  · rw [h]; simp
                  · cases h
                clear HST HQ
                go_upto_region 18 with (at_builtin; refine wp_append_ss 122 (by kernel_rfl) Try.info_res rfl (by decide) (by decide) rfl _ _ rfl rfl (HOQ.out.below (below_new (Below.refl _ _) _)) (resRows [⟨t1, t2, t3, t4, t5⟩]) (resRows_rows _) _ 1 rfl rfl (by show (Array.push _ _)[_]? = _; exact Array.getElem?_push_size) (by have := HPK.out; rw [resRows_length]; show _ + 1 ≤ _; omega) (by have := HBQ.out.size; simp; omega) ?_; intro v2 w2 h1 h2; have H1 := Lib.hid h1; have H2 := Lib.hid h2; clear h1 h2)
                have HB5 : Hid (Below wo.heap.size wo w2) := (below_new HBQ.out _).grown H2.out (by have := HBQ.out.size; simp; omega) (fun j hj => (HOQ.out.lt j hj).1)
                have HO5 : Hid (OwnS w2 wo.heap.size 25 5 v2 (resRows (pf (k + 1)))) := by rw [HSa.out, resRows_append]; exact H1
                clear H1 H2 c0 c1 c2 c3 c4
                go_wp2_with fail
                go_roundw
                case rel => exact ⟨k + 1, _, rfl, by go_num, by omega, HO5, HB5⟩
                case measure => simp [intOf]; omega
            exact AllReadyU.nil
          · have hge2 : ¬ (k : Int) < (al.length : Int) := by omega
            have hkl : k = al.length := by omega
            have HF : Hid (OwnS wp wo.heap.size 25 5 v (resRows ro)) := by rw [← HPA.out, ← hkl]; exact HO
            have hrl : ro.length ≤ 300000 := by have h1 := HPL.out al.length; rw [HPA.out] at h1; omega
            clear hkl HO
            go_wp2
            go_ret
            exact ⟨_, rfl, HF.out.sls (by rw [resRows_length]; omega), below_then HB2.out HBk.out⟩
end Go.Proofs.Ytialclohhemkiaa
