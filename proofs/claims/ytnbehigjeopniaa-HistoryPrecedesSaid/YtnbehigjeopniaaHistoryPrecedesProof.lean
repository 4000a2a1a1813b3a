/- Proved: HistoryPrecedes returns true, and its arguments read afterwards as before, for every list of codes, every list of events and all calls; no condition. -/
import Derived.Maps.AppendAt
import Derived.Deep.DeepCutAuto
import Derived.Deep.CutBlock
import Derived.LoopTactic
import Derived.WalkKit
import Derived.ProofKit
import Derived.OpenShut
import Derived.SizedLaws
import Derived.Test.YtnbehigjeopniaaB01
import Derived.Test.YtnbehigjeopniaaB07
import Derived.Test.YtnbehigjeopniaaB15
import Derived.Test.YtnbehigjeopniaaB16
namespace Go.Proofs.Ytnbehigjeopniaa.historyPrecedes
open Go.ChangeShapes Go.WideShapes Go.ChangeAt Go.RowKit
set_option linter.unusedVariables false
set_option linter.unusedSimpArgs false
/-- rows of a literal are appended, inside a region that draws -/
theorem step_append_ss16 {w : World} {base s : Nat} {e : TypeId} {v : Value} {rows : List (List Value)} (st : TypeId) {bytes : Nat} {z : Value} (hu : Try.prog.underlying st = some (.slice e)) (hinfo : (Try.prog.info? e).map (fun i => (i.zero, i.size, i.bytes)) = some (some z, s, bytes)) (hzs : z.cells.size = s) (hsz : 0 < s) (hby : bytes ≤ 200)
    {ops : Array Oper} {o : Oper} {a : Act} {K : Act → World → Prop} {Q : Exit → Act → World → Prop} {E : Prop}
    (hgd : o.guard = none) (sl x : Operand) (hop : o.op = Op.call { callee := Callee.builtin Builtin.append, args := #[sl, x], argTypes := #[st, st] })
    (hs : a.eval sl = v) (hown : OwnS w base e s v rows) (rs : List (List Value)) (hr : Rows' s rs) (g n : Nat) (hn : rs.length = n)
    (hx : a.eval x = .slice (some ⟨g, 0, none⟩) n n) (hcell : w.heap[g]? = some (.cells rs.flatten.toArray e (0, 0))) (hl : rows.length + rs.length ≤ 1000001) (hb : base ≤ w.heap.size)
    (hK : ∀ v' w', OwnS w' base e s v' (rows ++ rs) → w.grownBy w' v.ownBlock → K (a.put o.dst v') w') :
    if Region.wanted o (yielded ops a.tmps) = true then Oper.wp Try.prog o a w K Q else E := by
  subst hn
  rw [if_pos (by simp [Region.wanted, hgd])]
  obtain ⟨i0, hi, hz0, hz1, hz2⟩ := info_parts hinfo
  obtain ⟨v', w', hrun, h2, h3, -, h4⟩ := run_append_own_at (P := Try.prog) w base st o.type e i0 z s bytes hu hi hz0 hz1 hz2 hzs hsz v rows.length _ hown.2 ⟨g, 0, none⟩ rs.length rs.length rs.flatten (flatS_length rs hr) (fun j u hj => by
    have : w.cell? ⟨g, j, none⟩ = rs.flatten.toArray[j]? := cell_of_row _ _ j _ _ _ hcell
    have e2 : ((⟨g, 0, none⟩ : Addr).add j) = ⟨g, j, none⟩ := by rw [Addr.add_mid, Nat.zero_add]
    rw [e2, this]
    simpa using hj) (fun u hu => by
      obtain ⟨r, hr2, hur⟩ := List.mem_flatten.1 hu
      exact (hr r hr2).2 u hur) (by unfold maxLen; omega) (by have : (rows.length + rs.length) * bytes ≤ 1000001 * 200 := Nat.mul_le_mul (by omega) hby; omega) hb
  refine Lib.wp_append_run w sl x _ _ hop _ _ hs hx v' w' hrun (hK v' w' ⟨fun r hr2 => ?_, ?_⟩ h3)
  · rcases List.mem_append.1 hr2 with h | h
    · exact hown.1 r h
    · exact hr r h
  · rw [List.length_append, List.flatten_append]
    exact h2
set_option maxRecDepth 100000 in
set_option maxHeartbeats 16000000 in
theorem walk (w : World) (v0 : Value) (l0 : List Int) (s0 : SlI w .u8 v0 l0) (v1 : Value) (l1 : List EvM) (s1 : SlS w 8 v1 (evRows l1)) (o1 : ∀ e ∈ l1, C64 (callOf e)) (c2 : Int × Int) (o2 : C64 c2) (c3 : Int × Int) (o3 : C64 c3) :
    Calls Try.prog 5 #[v0, v1, caV c2, caV c3] w fun e w' => e = .returned (.bool true) ∧ Below w.heap.size w w' := by
  obtain ⟨c21, c22⟩ := c2
  obtain ⟨c31, c32⟩ := c3
  unfold caV
  dsimp only
  clear o2 o3
  have HS0 := Lib.hid s0
  have HS1 := Lib.hid s1
  have HO1 := Lib.hid o1
  obtain ⟨ar, kr, hve, -⟩ := s1.lenE
  subst hve
  clear s0 s1 o1
  go_enter Try.func5, Try.ntmps5
  obtain ⟨Wp, hWp, HBp, Q1, Q2, hzp⟩ := two_new w (.cells #[.int .i64 c21, .int .i64 c22] 47) (.cells #[.int .i64 c31, .int .i64 c32] 47)
  have HWp := Lib.hid hWp
  clear hWp
  go_upto_region 1 with fail
  rw [HWp.out]
  have AW := Lib.hid (awake_any Wp)
  obtain ⟨P1, hP1⟩ : ∃ x, w.heap.size = x := ⟨_, rfl⟩
  obtain ⟨P2, hP2⟩ : ∃ x, P1 + 1 = x := ⟨_, rfl⟩
  rw [hP1] at Q1 Q2
  rw [hP1]
  rw [hP2] at Q2
  rw [hP2]
  clear HWp hzp hP1 hP2
  go_wp2_with fail
  refine AW.out.mono ?_; rintro e w1 ⟨rfl, hb1⟩
  have HB1 := Lib.hid (below_then HBp.out hb1)
  have Q11 := Lib.hid (row_below16 hb1 Q1.out)
  have Q21 := Lib.hid (row_below16 hb1 Q2.out)
  clear hb1 AW Q1 Q2 HBp
  by_cases hbig : 40 < l1.length
  · have hbI : (40 : Int) < (l1.length : Int) := by omega
    clear HS0 HS1 HO1 Q11 Q21
    go_wp2
    go_ret
    exact ⟨rfl, HB1.out⟩
  have hbI : ¬ (40 : Int) < (l1.length : Int) := by omega
  go_wp2_with fail
  refine (made_any v0 l0 w1 (HS0.out.below HB1.out)).mono ?_; rintro e w2 ⟨vo, ns, vl, L, rfl, hso, hsl, hhis, hlen, hns, hb2⟩
  have HB2 := Lib.hid (below_then HB1.out hb2)
  have Q12 := Lib.hid (row_below16 hb2 Q11.out)
  have Q22 := Lib.hid (row_below16 hb2 Q21.out)
  have HSO := Lib.hid hso
  have HSL := Lib.hid hsl
  obtain ⟨al, kl, rfl, -⟩ := hsl.lenE
  obtain ⟨ao, ko, rfl⟩ := hso.len
  have HS2 := Lib.hid (HS1.out.below HB2.out)
  clear HO1 Q11 Q21 hso hsl hhis hb2 HS0 HS1 HB1 hbI
  obtain ⟨nl, hnl⟩ : ∃ n, L.length = n := ⟨_, rfl⟩
  obtain ⟨nr, hnr⟩ : ∃ n, l1.length = n := ⟨_, rfl⟩
  have hnl30 : nl ≤ 30 := by omega
  have hnr40 : nr ≤ 40 := by omega
  rw [hnl] at HSL
  rw [hnr] at HS2
  rw [hnl]
  go_wp2_with fail
  try rw [hnr]
  have HXS : Hid (∀ i, i < 2 → ∃ (xa : Option Addr) (xn xc : Nat) (xl : List EvM), (#[Value.slice al nl kl, Value.slice ar nr kr] : Array Value)[i]? = some (.slice xa xn xc) ∧ xn = xl.length ∧ xl.length ≤ 40 ∧ SlS w2 8 (.slice xa xn xc) (evRows xl)) := fun i hi => by
    match i, hi with
    | 0, _ => exact ⟨_, _, _, L, rfl, hnl.symm, by omega, HSL.out⟩
    | 1, _ => exact ⟨_, _, _, l1, rfl, hnr.symm, by omega, HS2.out⟩
  clear HSL HS2 HSO hnl hnr hbig hlen hns
  obtain ⟨W, hW⟩ : ∃ W, w2.alloc (.cells #[.slice al nl kl, .slice ar nr kr] 23) = W := ⟨_, rfl⟩
  have RW : Hid (W.heap[w2.heap.size]? = some (.cells #[.slice al nl kl, .slice ar nr kr] 23 (0, 0))) := hW ▸ heap_alloc_new _ _
  have HBW : Hid (Below w2.heap.size w2 W) := hW ▸ below_new (Below.refl _ _) _
  have hWl : w2.heap.size < W.heap.size := (Array.getElem?_eq_some_iff.1 RW.out).1
  rw [hW]
  clear hW
  obtain ⟨D, hD⟩ : ∃ D, w2.heap.size = D := ⟨_, rfl⟩
  rw [hD] at RW hWl
  rw [hD]
  clear hD
  have HBA := Lib.hid (below_then HB2.out HBW.out)
  have Q1W := Lib.hid (row_below16 HBW.out Q12.out)
  have Q2W := Lib.hid (row_below16 HBW.out Q22.out)
  clear Q12 Q22
  go_loopw [30] (fun u30 wr => ∃ i : Nat, u30 = .int .i64 i ∧ i ≤ 2 ∧ Hid (Below W.heap.size W wr)) (fun u30 _ => 2 - (intOf u30).toNat)
  case atStart => exact ⟨0, rfl, by omega, Below.refl _ _⟩
  case round =>
    obtain ⟨i, rfl, hi, HBi⟩ := hrel
    obtain ⟨wo, rfl⟩ : ∃ wo : World, wo = wr := ⟨_, rfl⟩
    by_cases hlt : i < 2
    · have hltI : (i : Int) < 2 := by omega
      obtain ⟨xa, xn, xc, xl, hcx, hxn, hx40, hxs⟩ := HXS.out i hlt
      have HX := Lib.hid (hxs.below (below_then HBW.out HBi.out))
      have HXN := Lib.hid hxn
      have d0 := (HBi.out.cell (p := ⟨D, i, none⟩) hWl).trans ((cell_of_row _ _ i _ _ _ RW.out).trans hcx)
      have q1 := row_below16 HBi.out Q1W.out
      have q2 := row_below16 HBi.out Q2W.out
      have KSp : Hid (∀ w', Below wo.heap.size wo w' → (fun w' : World => (w'.cell? ⟨P1, 0, none⟩ = some (.int .i64 c21) ∧ w'.cell? ⟨P1, 1, none⟩ = some (.int .i64 c22)) ∧ (w'.cell? ⟨P2, 0, none⟩ = some (.int .i64 c31) ∧ w'.cell? ⟨P2, 1, none⟩ = some (.int .i64 c32))) w') := fun w' hb => ⟨rowc2 (row_below16 hb q1), rowc2 (row_below16 hb q2)⟩
      have TC := Lib.hid fun w' (hb : Below wo.heap.size wo w') => ercalls_any _ xl w' (HX.out.below hb) (by omega)
      have hcl : (callsE xl).length ≤ 40 := Nat.le_trans (callsE_le _) hx40
      obtain ⟨cl, hcle⟩ : ∃ x, callsE xl = x := ⟨_, rfl⟩
      rw [hcle] at TC hcl
      clear hxs hcx hxn q1 q2 hcle
      go_upto_region 9 with fail
      clear d0
      go_cut [13] (fun s13 wx => ∃ uc, uc = s13 ∧ SlS wx 2 uc (caRows (cl ++ [(c21, c22), (c31, c32)])) ∧ Hid (Below wo.heap.size wo wx))
      case first =>
        refine untilK KSp 4 7 (by kernel_rfl) rfl ?_
        obtain ⟨u0, hu0, HU0⟩ := drew_pack wo
        rw [hu0]
        clear hu0
        have hSU0 := KSp.out _ HU0.out
        refine tkU (v := ?_) 2 la2 hSU0 (by kernel_rfl) (fun _ _ _ h => h) rfl ?_ ?_
        rotate_left
        · (intro w hSw; (try dsimp only at hSw); go_simp <;> with_reducible rfl)
        simp only [Act.put, List.setIfInBounds_toArray, List.set_cons_zero, List.set_cons_succ]
        refine tkU (v := ?_) 3 la3 hSU0 (by kernel_rfl) (fun _ _ _ h => h) rfl ?_ ?_
        rotate_left
        · (intro w hSw; (try dsimp only at hSw); go_simp <;> with_reducible rfl)
        simp only [Act.put, List.setIfInBounds_toArray, List.set_cons_zero, List.set_cons_succ]
        refine wpAnyU_takeW (v := ?_) 0 la0 (by kernel_rfl) (by kernel_rfl) (by kernel_rfl) (by kernel_rfl) (fun _ _ _ h => h) (fun _ => hSU0) rfl ?_ ?_
        rotate_left
        · (intro w; go_simp <;> with_reducible rfl)
        simp only [Act.put, List.setIfInBounds_toArray, List.set_cons_zero, List.set_cons_succ]
        refine wpAnyU_ready (rs := [1, 4]) (by kernel_rfl) rfl ?_
        refine AllReadyU.cons la1 rfl (fun K hK => ?_) ?_
        · go_simp
          go_at_call 22
          refine (TC.out _ HU0.out).mono ?_
          rintro e u1 ⟨uc, rfl, hoc, hb⟩
          have HU1 := Lib.hid (below_then HU0.out hb)
          have HOC := Lib.hid hoc
          have HOL := Lib.hid (show u0.heap.size ≤ u1.heap.size from hb.size)
          clear hb hoc
          refine hK.out _ _ ?_ (fun hSU1 => ?_)
          · exact KSp.out _ HU1.out
          clear hK K hSU0
          try simp only [Act.put, List.setIfInBounds_toArray, List.set_cons_zero, List.set_cons_succ]
          refine wpAnyU_ready (rs := [4]) (by kernel_rfl) rfl ?_
          refine AllReadyU.free la4 rfl (by kernel_rfl) (fun K hK => ?_) ?_
          · go_simp
            obtain ⟨u2, nb, hv1, hX, RN, hbn, ltn⟩ := alloc_pack u1 (.cells #[.int .i64 c21, .int .i64 c22, .int .i64 c31, .int .i64 c32] 47)
            rw [hv1, hX]
            have HU2 := Lib.hid (below_then HU1.out hbn.out)
            have HOC := Lib.hid (HOC.out.below hbn.out)
            have HOL := Lib.hid (Nat.le_trans HOL.out hbn.out.size)
            clear hv1 hX hbn ltn
            refine hK.out _ _ ?_
            clear hK K hSU1
            try simp only [Act.put, List.setIfInBounds_toArray, List.set_cons_zero, List.set_cons_succ]
            refine wpAnyU_ready (rs := [5]) (by kernel_rfl) rfl ?_
            refine AllReadyU.free la5 rfl (by kernel_rfl) (fun K hK => ?_) ?_
            · refine step_append_ss16 (w := u2) 44 (by kernel_rfl) Try.info_pair rfl (by decide) (by decide) (by rfl) _ _ (by rfl) (by rfl) HOC.out (caRows [(c21, c22), (c31, c32)]) (caRows_rows _) nb 2 rfl (by rfl) RN.out (by rw [caRows_length, caRows_length]; show _ + 2 ≤ _; omega) HOL.out ?_
              intro v6 w6 ho6 hg6
              have HB6 := Lib.hid (HU2.out.grown hg6 HU2.out.size (fun j hj => by have h1 := (HOC.out.lt j hj).1; have h2 := HU0.out.size; have h3 := h2; omega))
              rw [← caRows_append] at ho6
              have HO6 := Lib.hid ho6
              clear ho6 hg6
              refine hK.out _ _ ?_
              clear hK K
              try simp only [Act.put, List.setIfInBounds_toArray, List.set_cons_zero, List.set_cons_succ]
              refine wpAnyU_takeW (v := ?_) 6 la6 (by kernel_rfl) (by kernel_rfl) (by kernel_rfl) (by kernel_rfl) (fun _ _ _ h => h) (past_k (by kernel_rfl)) rfl ?_ ?_
              rotate_left
              · (intro w; go_simp <;> with_reducible rfl)
              simp only [Act.put, List.setIfInBounds_toArray, List.set_cons_zero, List.set_cons_succ]
              refine wpAnyU_done (by kernel_rfl) ?_ _
              go_wp2_with fail
              go_meet
              exact ⟨_, rfl, HO6.out.sls (by rw [caRows_length, List.length_append]; show _ + 2 ≤ _; omega), HB6⟩
            exact AllReadyU.nil
          exact AllReadyU.nil
        refine AllReadyU.free la4 rfl (by kernel_rfl) (fun K hK => ?_) ?_
        · go_simp
          obtain ⟨u1, nb, hv1, hX, RN, hbn, ltn⟩ := alloc_pack u0 (.cells #[.int .i64 c21, .int .i64 c22, .int .i64 c31, .int .i64 c32] 47)
          rw [hv1, hX]
          have HU1 := Lib.hid (below_then HU0.out hbn.out)
          clear hv1 hX hbn ltn
          refine hK.out _ _ ?_
          clear hK K hSU0
          try simp only [Act.put, List.setIfInBounds_toArray, List.set_cons_zero, List.set_cons_succ]
          refine wpAnyU_ready (rs := [1]) (by kernel_rfl) rfl ?_
          refine AllReadyU.free la1 rfl (by kernel_rfl) (fun K hK => ?_) ?_
          · go_simp
            go_at_call 22
            refine (TC.out _ HU1.out).mono ?_
            rintro e u2 ⟨uc, rfl, hoc, hb⟩
            have HU2 := Lib.hid (below_then HU1.out hb)
            have RN := Lib.hid (row_below16 hb RN.out)
            have HOC := Lib.hid hoc
            have HOL := Lib.hid (show u1.heap.size ≤ u2.heap.size from hb.size)
            clear hb hoc
            refine hK.out _ _ ?_
            clear hK K
            try simp only [Act.put, List.setIfInBounds_toArray, List.set_cons_zero, List.set_cons_succ]
            refine wpAnyU_ready (rs := [5]) (by kernel_rfl) rfl ?_
            refine AllReadyU.free la5 rfl (by kernel_rfl) (fun K hK => ?_) ?_
            · refine step_append_ss16 (w := u2) 44 (by kernel_rfl) Try.info_pair rfl (by decide) (by decide) (by rfl) _ _ (by rfl) (by rfl) HOC.out (caRows [(c21, c22), (c31, c32)]) (caRows_rows _) nb 2 rfl (by rfl) RN.out (by rw [caRows_length, caRows_length]; show _ + 2 ≤ _; omega) HOL.out ?_
              intro v6 w6 ho6 hg6
              have HB6 := Lib.hid (HU2.out.grown hg6 HU2.out.size (fun j hj => by have h1 := (HOC.out.lt j hj).1; have h2 := HU0.out.size; have h3 := HU1.out.size; omega))
              rw [← caRows_append] at ho6
              have HO6 := Lib.hid ho6
              clear ho6 hg6
              refine hK.out _ _ ?_
              clear hK K
              try simp only [Act.put, List.setIfInBounds_toArray, List.set_cons_zero, List.set_cons_succ]
              refine wpAnyU_takeW (v := ?_) 6 la6 (by kernel_rfl) (by kernel_rfl) (by kernel_rfl) (by kernel_rfl) (fun _ _ _ h => h) (past_k (by kernel_rfl)) rfl ?_ ?_
              rotate_left
              · (intro w; go_simp <;> with_reducible rfl)
              simp only [Act.put, List.setIfInBounds_toArray, List.set_cons_zero, List.set_cons_succ]
              refine wpAnyU_done (by kernel_rfl) ?_ _
              go_wp2_with fail
              go_meet
              exact ⟨_, rfl, HO6.out.sls (by rw [caRows_length, List.length_append]; show _ + 2 ≤ _; omega), HB6⟩
            exact AllReadyU.nil
          exact AllReadyU.nil
        exact AllReadyU.nil
      case rest =>
        clear KSp TC
        obtain ⟨uc, rfl, hsc, HBc⟩ := hcut
        obtain ⟨wd, rfl⟩ : ∃ w : World, w = wc := ⟨_, rfl⟩
        obtain ⟨cc, hcc⟩ : ∃ x, cl ++ [(c21, c22), (c31, c32)] = x := ⟨_, rfl⟩
        have hcn : cc.length ≤ 50 := by rw [← hcc, List.length_append]; show _ + 2 ≤ _; omega
        rw [hcc] at hsc
        have HSC := Lib.hid hsc
        obtain ⟨ac, kc, rfl, -⟩ := hsc.lenC
        have HXd := Lib.hid (HX.out.below HBc.out)
        clear hcc hsc
        go_wp2_with fail
        go_loopw [42] (fun u42 wr => ∃ j : Nat, u42 = .int .i64 j ∧ j ≤ cc.length ∧ Hid (Below wd.heap.size wd wr)) (fun u42 _ => cc.length - (intOf u42).toNat)
        case atStart => exact ⟨0, rfl, by omega, Below.refl _ _⟩
        case round =>
          obtain ⟨j, rfl, hj, HBj⟩ := hrel
          obtain ⟨wp, rfl⟩ : ∃ wo : World, wo = wr := ⟨_, rfl⟩
          by_cases hltj : j < cc.length
          · have hltjI : (j : Int) < (cc.length : Int) := by omega
            go_wp2_with fail
            go_loopw [47] (fun u47 wr => ∃ k : Nat, u47 = .int .i64 k ∧ k ≤ cc.length ∧ Hid (Below wp.heap.size wp wr)) (fun u47 _ => cc.length - (intOf u47).toNat)
            case atStart => exact ⟨0, rfl, by omega, Below.refl _ _⟩
            case round =>
              obtain ⟨k, rfl, hk, HBk⟩ := hrel
              obtain ⟨wq, rfl⟩ : ∃ wo : World, wo = wr := ⟨_, rfl⟩
              by_cases hltk : k < cc.length
              · have hltkI : (k : Int) < (cc.length : Int) := by omega
                have HXq := Lib.hid (HXd.out.below (below_then HBj.out HBk.out))
                have HCq := Lib.hid (HSC.out.below (below_then HBj.out HBk.out))
                obtain ⟨⟨x1, x2⟩, he⟩ : ∃ e, cc.getD j (0, 0) = e := ⟨_, rfl⟩
                have HEJ := Lib.hid he
                obtain ⟨b2, off2, cp2, hve, hb2, d0, d1⟩ := (HCq.out).ca j hltj he
                simp only [Value.slice.injEq] at hve
                obtain ⟨rfl, -, rfl⟩ := hve
                dsimp only at d0 d1
                clear he

                obtain ⟨⟨y1, y2⟩, hy⟩ : ∃ e, cc.getD k (0, 0) = e := ⟨_, rfl⟩
                obtain ⟨b3, off3, cp3, hve, hb3, e0, e1⟩ := HCq.out.ca k hltk hy
                simp only [Value.slice.injEq, Option.some.injEq, Addr.mk.injEq] at hve
                obtain ⟨⟨rfl, rfl, -⟩, -, rfl⟩ := hve
                dsimp only at e0 e1
                have T1 := Lib.hid fun w' (hb : Below wq.heap.size wq w') => hprec_any _ xl (x1, x2) (y1, y2) w' (HXq.out.below hb)
                have T2 := Lib.hid fun w' (hb : Below wq.heap.size wq w') => erprec_any _ xl (x1, x2) (y1, y2) w' (HXq.out.below hb)
                obtain ⟨q, hq⟩ : ∃ q, precE xl (x1, x2) (y1, y2) = q := ⟨_, rfl⟩
                rw [hq] at T1 T2
                unfold caV at T1 T2
                dsimp only at T1 T2
                clear hq hy hb3
                go_upto_region 16 with fail
                have Xd0 := ext_cell _ _ hb2 _ d0
                have Xd1 := ext_cell _ _ hb2 _ d1
                have Xe0 := ext_cell _ _ hb2 _ e0
                have Xe1 := ext_cell _ _ hb2 _ e1
                clear d0 d1 e0 e1
                refine wp_region_ext wq (by kernel_rfl) (by kernel_rfl) (Below.refl _ _) ?_
                repeat (go_big_quiet_step (first
                  | (go_at_call 25; with_reducible exact calls_ext (T1.out _ (Ext.below _)))
                  | (go_at_call 26; with_reducible exact calls_ext (T2.out _ (Ext.below _)))))
                refine wpQuiet_nil ?_
                intro _ hw'
                obtain ⟨n9, rfl⟩ := hw'
                have HN9 := Lib.hid n9.below
                generalize n9.wd = w9 at *

                have HBn := Lib.hid (below_then HBk.out HN9.out)
                clear Xd0 Xd1 Xe0 Xe1 T1 T2
                cases q with
                | false =>
                  go_wp2_with fail
                  go_roundw
                  case rel => exact ⟨k + 1, by go_num, by omega, HBn⟩
                  case measure => simp [intOf]; omega
                | true =>
                  go_wp2_with fail
                  go_roundw
                  case rel => exact ⟨k + 1, by go_num, by omega, HBn⟩
                  case measure => simp [intOf]; omega
              · have hge : ¬ (k : Int) < (cc.length : Int) := by omega
                have HBn := Lib.hid (below_then HBj.out HBk.out)
                go_wp2_with fail
                go_roundw
                case rel => exact ⟨j + 1, by go_num, by omega, HBn⟩
                case measure => simp [intOf]; omega
          · have hge : ¬ (j : Int) < (cc.length : Int) := by omega
            have HBn := Lib.hid (below_then HBi.out (below_then HBc.out HBj.out))
            go_wp2_with fail
            go_roundw
            case rel => exact ⟨i + 1, by go_num, by omega, HBn⟩
            case measure => simp [intOf]; omega
    · have hge : decide ((i : Int) < 2) = false := decide_eq_false (by omega)
      go_wp2
      go_ret
      exact ⟨rfl, below_then HBA.out HBi.out⟩
set_option maxRecDepth 100000 in
theorem lifted (os : Os) (started : os.Started) (H : Type) (enc : TypeId × Value → H) :
    ReturnsInHanded {} Try.checked os 5 .any (Rows.historyPrecedesSpec.pre6 enc Try.prog Try.f5 Rows.historyPrecedesRow.domain false) (Rows.historyPrecedesSpec.post enc Try.prog Try.f5 false true false false) := by
  refine returnsInHanded_of_change_sized (C := Try.checked) own started (by kernel_rfl) Try.func5
    (ChangeSpec.witness6 (enc := enc) (C := Try.checked) false ⟨#[], #[.slice none 0 0, .slice none 0 0, .agg #[.int .i64 0, .int .i64 0], .agg #[.int .i64 0, .int .i64 0]], []⟩ 8 (by kernel_rfl) (by kernel_rfl) (by kernel_rfl) (by kernel_rfl)) ?_
  intro W base args ds gs before hval0 hW _ hsz0 _
  have hsz : (DataW.weightsEach Try.prog (Try.f5.params.toList ++ Rows.historyPrecedesSpec.plain.varTypes Try.prog) (ds ++ gs)).all (· ≤ reachBytes) = true := hsz0
  clear hsz0
  have hval : ∀ (j : Nat) t v, Try.f5.params[j]? = some t → args[j]? = some v → Value.okWide Try.prog W .any base t v := hval0
  have hW' := hW
  obtain ⟨p, q, hA0, hV, rfl, _, _⟩ := hW
  have hA : DataW.TrodAll enc Try.prog W 0 (fun _ => true) true Try.f5.params.toList args.toList ds p := hA0
  rw [Try.params5] at hA hval hsz
  obtain ⟨v0, vs0, d0, ds0, p0, q0, hargs, rfl, rfl, h0, rr0⟩ := trodAll_cons hA
  obtain ⟨v1, vs1, d1, ds1, p1, q1, rfl, rfl, rfl, h1, rr1⟩ := trodAll_cons rr0
  obtain ⟨v2, vs2, d2, ds2, p2, q2, rfl, rfl, rfl, h2, rr2⟩ := trodAll_cons rr1
  obtain ⟨v3, vs3, d3, ds3, p3, q3, rfl, rfl, rfl, h3, rr3⟩ := trodAll_cons rr2
  obtain ⟨rfl, rfl, rfl⟩ := trodAll_nil rr3
  obtain rfl : args = #[v0, v1, v2, v3] := by cases args; simp_all
  obtain ⟨rfl, rfl⟩ := trodVars_none hV
  have k0 := h0
  have k1 := h1
  have k2 := h2
  have k3 := h3
  obtain ⟨l0, s0⟩ := view_sl (k := .u8) Try.underlying22 Try.underlying5 (by kernel_rfl) (fun elems sp hd => sized_slice hsz (j := 0) (t := 22) (e := 5) rfl (by rw [hd]; rfl) Try.underlying22) (of_decide_eq_true (by kernel_rfl)) (hval 0 22 v0 rfl rfl) h0
  obtain ⟨l1, s1, o1⟩ := view_events (fun elems sp hd => sized_slice hsz (j := 1) (t := 23) (e := 34) rfl (by rw [hd]; rfl) Try.underlying23) (hval 1 23 v1 rfl rfl) h1
  obtain ⟨c2, rfl, o2⟩ := view_call (hval 2 47 v2 rfl rfl) h2
  obtain ⟨c3, rfl, o3⟩ := view_call (hval 3 47 v3 rfl rfl) h3
  clear hA0 hval0
  simp only [List.append_nil] at hW'
  have hlt := hW'.lt
  refine (walk W v0 l0 s0 v1 l1 s1 o1 c2 o2 c3 o3).mono fun e W' ⟨he, hb⟩ => ?_
  subst he
  exact ⟨_, rfl, _, _, _, [], _, [], hW', trodAll_cons_mk (shut_bool Try.underlying4 _) trodAll_mk0, (trodAll_cons_mk (Below.trod Try.laidOut (by kernel_rfl) (of_decide_eq_true (by kernel_rfl)) k0 hb (fun x hx => by simpa using hlt x (by simp [hx]))) (trodAll_cons_mk (Below.trod Try.laidOut (by kernel_rfl) (of_decide_eq_true (by kernel_rfl)) k1 hb (fun x hx => by simpa using hlt x (by simp [hx]))) (trodAll_cons_mk (Below.trod Try.laidOut (by kernel_rfl) (of_decide_eq_true (by kernel_rfl)) k2 hb (fun x hx => by simpa using hlt x (by simp [hx]))) (trodAll_cons_mk (Below.trod Try.laidOut (by kernel_rfl) (of_decide_eq_true (by kernel_rfl)) k3 hb (fun x hx => by simpa using hlt x (by simp [hx]))) trodAll_mk0)))), rfl, hb.frame _, fun h => by cases h⟩
theorem over : Rows.historyPrecedesRow.holds Try.pinned (OpenSpec.ofChange Rows.historyPrecedesSpec) :=
  OpenClaim.holds_of_wide 5 Try.f5 rfl rfl rfl rfl rfl rfl rfl ⟨rfl, rfl, rfl, rfl, rfl⟩ rfl rfl rfl rfl rfl (by kernel_rfl) Try.func5 (by kernel_rfl)
    (of_decide_eq_true (by kernel_rfl)) (by unfold Func.isWrapper; first | (rw [if_pos (by decide +kernel)]; kernel_rfl) | (rw [if_neg (by decide +kernel)]; exact ⟨rfl, rfl⟩))
    (fun os started H enc _ => lifted os started H enc)
/-- THE STATEMENT -/
theorem proved : Rows.HistoryPrecedesSaid :=
  over
end Go.Proofs.Ytnbehigjeopniaa.historyPrecedes
