import Derived.Deep.DeepCutAuto
import Derived.Deep.CutBlock
import Derived.Test.YtnbehigjeopniaaB14
import Derived.Test.YtnbehigjeopniaaB13
set_option linter.unusedVariables false
set_option linter.unusedSimpArgs false
/- Layer 16: the program's Check. -/
namespace Go.Proofs.Ytnbehigjeopniaa
open Go.ChangeShapes Go.WideShapes Go.ChangeAt Go.RowKit
set_option maxRecDepth 100000

set_option maxRecDepth 100000 in
set_option maxHeartbeats 16000000 in
theorem hcheck_any (v vo : Value) (l : List EvM) (ns : List Nat) (w : World) (hv : SlS w 8 v (evRows l)) (ho : SlO w vo ns) (hl : l.length ≤ 1000000) : Calls Try.prog 10 #[v, vo] w fun e w' => e = .returned (.bool (histE ns l)) ∧ Below w.heap.size w w' := by
  have HV := Lib.hid hv
  have HO := Lib.hid ho
  have hn6 := ho.1
  obtain ⟨a, cap, rfl, -⟩ := hv.lenE
  obtain ⟨ao, co, rfl⟩ := ho.len
  have HNO := Lib.hid fun (i : Nat) (hi : i < l.length) h => histE_no (ns := ns) (l := l) (i := i) hi h
  have HYES := Lib.hid fun h => histE_yes (ns := ns) (l := l) h
  have TF := Lib.hid fun (e : EvM) (s k : Nat) w' (hs : s ≤ 1000000) => hfollows_any e s k w' hs
  obtain ⟨rb, hrb⟩ : ∃ b, histE ns l = b := ⟨_, rfl⟩
  rw [hrb] at HNO HYES ⊢
  obtain ⟨n, hn⟩ : ∃ n, ns.length = n := ⟨_, rfl⟩
  have HN := Lib.hid hn
  rw [hn] at hn6 HO ⊢
  clear hv ho hrb hn
  go_enter Try.func10, Try.ntmps10
  go_wp2_with (at_make; refine wp_make_i64 w rfl _ _ rfl n _ _ rfl rfl rfl rfl ?_ ?_; omega; intro w1 h1 h2; have HS := Lib.hid h1; have HB := Lib.hid h2; clear h1 h2)
  obtain ⟨g, hg⟩ : ∃ g, w.heap.size = g := ⟨_, rfl⟩
  rw [hg] at HS
  rw [hg]
  have HG := Lib.hid hg
  clear hg
  go_loopw [13] (fun u13 wr => ∃ (i : Nat) (S : List Int), u13 = .int .i64 i ∧ i ≤ l.length ∧ Hid (S.length = n ∧ ∀ t, t < n → S.getD t 0 = ((cntT (l.take i) t : Nat) : Int)) ∧ Hid (OwnI wr g 3 .i64 (.slice (some ⟨g, 0, none⟩) n n) S) ∧ Hid (∀ j, j < i → okEv ns (l.take j) (l.getD j evZ) = true) ∧ Hid (Below w.heap.size w wr)) (fun u13 _ => l.length - (intOf u13).toNat)
  case atStart => exact ⟨0, List.replicate n 0, rfl, by omega, ⟨List.length_replicate, fun t ht => by simp [List.getD_eq_getElem?_getD, ht, cntT]⟩, HS, fun j hj => by omega, HB⟩
  case round =>
    clear HS HB
    obtain ⟨i, S, rfl, hi, HSn, HS, HM, HB⟩ := hrel
    obtain ⟨wo, rfl⟩ : ∃ wo : World, wo = wr := ⟨_, rfl⟩
    by_cases hlt : i < l.length
    · have hltI : (i : Int) < (l.length : Int) := by omega
      obtain ⟨⟨et, eo, er, ⟨rk, rc, rv, ro, rn⟩⟩, he⟩ : ∃ e, l.getD i evZ = e := ⟨_, rfl⟩
      have HE := Lib.hid he
      obtain ⟨b, off, cp, hve, hb, c0, c1, c2, c3, c4, c5, c6, c7⟩ := (HV.out.below HB.out).ev i hlt he
      simp only [Value.slice.injEq] at hve
      obtain ⟨rfl, -, rfl⟩ := hve
      dsimp only at c0 c1 c2 c3 c4 c5 c6 c7
      clear he

      have HNi := Lib.hid fun h => HNO.out i hlt (by rw [HE.out]; exact h)
      obtain ⟨Wy, hWy⟩ : ∃ Wy, (wo.alloc (.cells #[.int .i64 0, .int .i64 0, .bool false, .int .i64 0, .int .i64 0, .int .u64 0, .bool false, .int .i64 0] 34)).setRow wo.heap.size #[.int .i64 et, .int .i64 eo, .bool er, .int .i64 rk, .int .i64 rc, .int .u64 rv, .bool ro, .int .i64 rn] = Wy := ⟨_, rfl⟩
      have Ny : Hid ((wo.alloc (.cells #[.int .i64 0, .int .i64 0, .bool false, .int .i64 0, .int .i64 0, .int .u64 0, .bool false, .int .i64 0] 34)).heap[wo.heap.size]? = some (.cells #[.int .i64 0, .int .i64 0, .bool false, .int .i64 0, .int .i64 0, .int .u64 0, .bool false, .int .i64 0] 34 (0, 0))) := heap_alloc_new _ _
      have HBy : Hid (Below wo.heap.size wo Wy) := hWy ▸ row_below (below_new (Below.refl _ _) _) (Nat.le_refl _) _
      have Ry : Hid (Wy.heap[wo.heap.size]? = some (.cells #[.int .i64 et, .int .i64 eo, .bool er, .int .i64 rk, .int .i64 rc, .int .u64 rv, .bool ro, .int .i64 rn] 34 (0, 0))) := hWy ▸ setRow_heap _ _ _ _ _ (0, 0) Ny.out
      have HWy := Lib.hid hWy
      clear hWy
      go_upto_region 5 with (refine wpList_store_row rfl 34 _ _ rfl (wo.heap.size) _ rfl rfl 34 #[.int .i64 0, .int .i64 0, .bool false, .int .i64 0, .int .i64 0, .int .u64 0, .bool false, .int .i64 0] Ny.out (by kernel_rfl) rfl (by simp [Value.oneCell']) ?_)
      rw [HWy.out]
      try simp only [Act.put]
      clear HWy Ny
      obtain ⟨Y, hY⟩ : ∃ Y, wo.heap.size = Y := ⟨_, rfl⟩
      rw [hY] at Ry
      rw [hY]
      clear hY
      have HS2 := Lib.hid (HS.out.below HBy.out)
      have HB2 := Lib.hid (below_then HB.out HBy.out)
      obtain ⟨y0, y1, y2, y3, y4, y5, y6, y7⟩ := rowc8 Ry.out
      have hY : Y < Wy.heap.size := (Array.getElem?_eq_some_iff.1 Ry.out).1
      clear c0 c1 c2 c3 c4 c5 c6 c7 HS HBy
      by_cases h0 : et < 0
      · have hr := HNi.out (by unfold okEv; dsimp only; rw [decide_eq_false (show ¬ 0 ≤ et by omega)]; rfl)
        subst hr
        clear HNi HNO HYES TF
        go_upto_region 5 with fail
        have Xy0 := ext_cell _ _ hY _ y0
        have Xy1 := ext_cell _ _ hY _ y1
        have Xy2 := ext_cell _ _ hY _ y2
        have Xy3 := ext_cell _ _ hY _ y3
        have Xy4 := ext_cell _ _ hY _ y4
        have Xy5 := ext_cell _ _ hY _ y5
        have Xy6 := ext_cell _ _ hY _ y6
        have Xy7 := ext_cell _ _ hY _ y7
        clear y0 y1 y2 y3 y4 y5 y6 y7
        refine wp_region_ext Wy (by kernel_rfl) (by kernel_rfl) (Below.refl _ _) ?_
        repeat (go_big_quiet_step (fail))
        refine wpQuiet_nil ?_
        intro _ hw'
        obtain ⟨n9, rfl⟩ := hw'
        have HN9 := Lib.hid n9.below
        generalize n9.wd = w9 at *

        have HB3 := Lib.hid (below_then HB2.out HN9.out)
        go_wp2_with fail
        go_ret
        exact ⟨rfl, HB3.out⟩
      by_cases h1 : et ≥ (n : Int)
      · have hr := HNi.out (by unfold okEv; dsimp only; rw [HN.out, decide_eq_false (show ¬ et < (n : Int) by omega), Bool.and_false]; rfl)
        subst hr
        clear HNi HNO HYES TF
        have hq0 : decide (et < 0) = false := decide_eq_false h0
        go_upto_region 5 with fail
        have Xy0 := ext_cell _ _ hY _ y0
        have Xy1 := ext_cell _ _ hY _ y1
        have Xy2 := ext_cell _ _ hY _ y2
        have Xy3 := ext_cell _ _ hY _ y3
        have Xy4 := ext_cell _ _ hY _ y4
        have Xy5 := ext_cell _ _ hY _ y5
        have Xy6 := ext_cell _ _ hY _ y6
        have Xy7 := ext_cell _ _ hY _ y7
        clear y0 y1 y2 y3 y4 y5 y6 y7
        refine wp_region_ext Wy (by kernel_rfl) (by kernel_rfl) (Below.refl _ _) ?_
        repeat (go_big_quiet_step (fail))
        refine wpQuiet_nil ?_
        intro _ hw'
        obtain ⟨n9, rfl⟩ := hw'
        have HN9 := Lib.hid n9.below
        generalize n9.wd = w9 at *

        have HB3 := Lib.hid (below_then HB2.out HN9.out)
        go_wp2_with fail
        go_ret
        exact ⟨rfl, HB3.out⟩
      obtain ⟨t, rfl⟩ : ∃ t : Nat, et = t := ⟨et.toNat, by omega⟩
      have htn : t < n := by omega
      have htI : (t : Int) < (n : Int) := by omega
      have hq0 : decide ((t : Int) < 0) = false := decide_eq_false h0
      have hq1 : decide ((t : Int) ≥ (n : Int)) = false := decide_eq_false h1
      obtain ⟨k, hk⟩ : ∃ k, ns.getD t 0 = k := ⟨_, rfl⟩
      obtain ⟨bo, oo, cpo, xo, xc, hve, hbo, co0⟩ := (HO.out.below HB2.out).at t (by rw [HN.out]; exact htn) hk
      simp only [Value.slice.injEq] at hve
      obtain ⟨rfl, -, rfl⟩ := hve
      obtain ⟨s0, s1⟩ := HS2.out.cell t (by rw [HSn.out.1]; exact htn)
      have hct := HSn.out.2 t htn
      have hcl : cntT (l.take i) t ≤ i := Nat.le_trans (cntT_le _ _) (by rw [List.length_take]; omega)
      have hnx := cntT_take hlt
      rw [HE.out] at hnx
      obtain ⟨c, hc⟩ : ∃ c, cntT (l.take i) (t : Int) = c := ⟨_, rfl⟩
      rw [hc] at hct hcl
      rw [hct] at s0
      have TE := Lib.hid (fun w' => TF.out ⟨t, eo, er, ⟨rk, rc, rv, ro, rn⟩⟩ c k w' (by omega))
      obtain ⟨q, hq⟩ : ∃ q, okF ⟨t, eo, er, ⟨rk, rc, rv, ro, rn⟩⟩ c k = q := ⟨_, rfl⟩
      rw [hq] at TE
      have HOK : Hid (okEv ns (l.take i) ⟨t, eo, er, ⟨rk, rc, rv, ro, rn⟩⟩ = q) := by
        show okEv _ _ _ = _
        unfold okEv
        dsimp only
        rw [HN.out, decide_eq_true (show (0 : Int) ≤ t by omega), decide_eq_true htI, Int.toNat_natCast, hk, hc, hq]
        rfl
      unfold evV at TE
      dsimp only at TE
      have HCN : Hid (∀ u : Nat, cntT (l.take (i + 1)) (u : Int) = if t = u then c + 1 else cntT (l.take i) (u : Int)) := fun u => by
        rw [hnx u]
        by_cases e : t = u
        · rw [if_pos e, if_pos (by rw [e]), ← e, hc]
        · rw [if_neg e, if_neg (fun e2 => e (Int.natCast_inj.1 e2))]; rfl
      have hSg : g < Wy.heap.size := by have := HS2.out.shape; rcases this with ⟨h, -⟩ | ⟨g', c', h, -, h2, -⟩ <;> simp at h; obtain ⟨rfl, -⟩ := h; exact h2
      clear hq hk hc hct hnx HNO
      go_upto_region 5 with fail
      have Xy0 := ext_cell _ _ hY _ y0
      have Xy1 := ext_cell _ _ hY _ y1
      have Xy2 := ext_cell _ _ hY _ y2
      have Xy3 := ext_cell _ _ hY _ y3
      have Xy4 := ext_cell _ _ hY _ y4
      have Xy5 := ext_cell _ _ hY _ y5
      have Xy6 := ext_cell _ _ hY _ y6
      have Xy7 := ext_cell _ _ hY _ y7
      have Xs0 := ext_cell _ _ hSg _ s0
      have Xo0 := ext_cell _ _ hbo _ co0
      have HD := Lib.hid (And.intro y0 (And.intro s0 s1))
      clear y0 y1 y2 y3 y4 y5 y6 y7 s0 s1 co0
      refine wp_region_ext Wy (by kernel_rfl) (by kernel_rfl) (Below.refl _ _) ?_
      repeat (go_big_quiet_step (first
        | (go_at_call 32; with_reducible exact calls_ext (TE.out _))))
      refine wpQuiet_nil ?_
      intro _ hw'
      obtain ⟨n9, rfl⟩ := hw'
      have HN9 := Lib.hid n9.below
      generalize n9.wd = w9 at *

      have HB3 := Lib.hid (below_then HB2.out HN9.out)
      have HS3 := Lib.hid (HS2.out.below HN9.out)
      have y0 := (HN9.out.cell (p := ⟨Y, 0, none⟩) hY).trans HD.out.1
      have s0 := (HN9.out.cell (p := ⟨g, t, none⟩) hSg).trans HD.out.2.1
      have s1 := (HS3.out.cell t (by rw [HSn.out.1]; exact htn)).2
      clear Xy0 Xy1 Xy2 Xy3 Xy4 Xy5 Xy6 Xy7 Xs0 Xo0 HD HS2 HB2 TE
      cases q with
      | false =>
        have hr := HNi.out HOK.out
        subst hr
        clear HNi HYES TF HM
        go_wp2_with fail
        go_ret
        exact ⟨rfl, HB3.out⟩
      | true =>
        have hcw : IntKind.i64.wrap ((c : Int) + 1) = (c : Int) + 1 := by rw [IntKind.wrap_i64]; omega
        have HS4 := Lib.hid (HS3.out.store t ((c : Int) + 1) HSn.out.1.symm)
        have HB4 := Lib.hid (HB3.out.setCell (p := ⟨g, t, none⟩) (by show _ ≤ g; rw [HG.out]; exact Nat.le_refl _) (.int .i64 ((c : Int) + 1)))
        have HSn2 : Hid ((S.set t ((c : Int) + 1)).length = n ∧ ∀ u, u < n → (S.set t ((c : Int) + 1)).getD u 0 = ((cntT (l.take (i + 1)) (u : Int) : Nat) : Int)) := ⟨by rw [List.length_set]; exact HSn.out.1, fun u hu => by
          rw [HCN.out u]
          by_cases e : t = u
          · subst e
            rw [if_pos rfl, List.getD_eq_getElem?_getD, List.getElem?_set_self (by rw [HSn.out.1]; exact hu)]
            simp
          · rw [if_neg e, List.getD_eq_getElem?_getD, List.getElem?_set_ne e, ← List.getD_eq_getElem?_getD]
            exact HSn.out.2 u hu⟩
        have HM2 : Hid (∀ j, j < i + 1 → okEv ns (l.take j) (l.getD j evZ) = true) := fun j hj => by
          rcases Nat.lt_or_ge j i with h | h
          · exact HM.out j h
          · rw [show j = i by omega, HE.out]; exact HOK.out
        clear HNi HYES TF HM HSn HOK HCN HS3
        go_wp2_with fail
        go_roundw
        case rel => exact ⟨i + 1, _, by go_num, by omega, HSn2, HS4, HM2, HB4⟩
        case measure => simp [intOf]; omega
    · have hge : ¬ (i : Int) < (l.length : Int) := by omega
      have hr := HYES.out (fun j hj => HM.out j (by omega))
      clear HNO HYES
      subst hr
      go_wp2
      go_ret
      exact ⟨rfl, HB.out⟩
end Go.Proofs.Ytnbehigjeopniaa
/- Layer 16: the law's awake. -/
namespace Go.Proofs.Ytnbehigjeopniaa
open Go.ChangeShapes Go.WideShapes Go.ChangeAt Go.RowKit
set_option maxRecDepth 100000

theorem SlS.litE (w : World) (L : List EvM) (hl : L.length ≤ 1000) : SlS (w.alloc (.cells (evRows L).flatten.toArray 34)) 8 (.slice (some ⟨w.heap.size, 0, none⟩) L.length L.length) (evRows L) := by
  refine ⟨by rw [evRows_length]; omega, evRows_rows L, _, L.length, by rw [evRows_length], by rw [evRows_length]; omega, fun i hi => ⟨w.heap.size, 0, rfl, by simp, fun j u hj => ?_⟩⟩
  have hj8 : j < 8 := by
    have h1 := (List.getElem?_eq_some_iff.1 hj).1
    rw [List.getD_eq_getElem?_getD, List.getElem?_eq_getElem hi] at h1
    have := (evRows_rows L _ (List.getElem_mem hi)).1
    simp at h1
    omega
  have h2 : (w.alloc (.cells (evRows L).flatten.toArray 34)).cell? ⟨w.heap.size, i * 8 + j, none⟩ = (evRows L).flatten.toArray[i * 8 + j]? := cell_of_row _ _ _ _ _ (0, 0) (heap_alloc_new w _)
  rw [Nat.zero_add, h2, List.getElem?_toArray, flatS_get (evRows L) (evRows_rows L) i j hi hj8]
  rw [List.getD_eq_getElem?_getD, List.getElem?_eq_getElem hi] at hj
  exact hj
def exL : List EvM := [⟨0, 0, false, ⟨0, 0, 0, false, 0⟩⟩, ⟨1, 0, false, ⟨0, 0, 0, false, 0⟩⟩, ⟨0, 0, true, ⟨1, 0, 0, false, 0⟩⟩]
set_option maxRecDepth 100000 in
set_option maxHeartbeats 16000000 in
theorem awake_any (w : World) : Calls Try.prog 8 #[] w fun e w' => e = .returned (.bool true) ∧ Below w.heap.size w w' := by
  go_enter Try.func8, Try.ntmps8
  go_upto_region 2 with fail
  obtain ⟨W, hW⟩ : ∃ W, w.alloc (.cells #[.int .i64 0, .int .i64 0, .bool false, .int .i64 0, .int .i64 0, .int .u64 0, .bool false, .int .i64 0, .int .i64 1, .int .i64 0, .bool false, .int .i64 0, .int .i64 0, .int .u64 0, .bool false, .int .i64 0, .int .i64 0, .int .i64 0, .bool true, .int .i64 1, .int .i64 0, .int .u64 0, .bool false, .int .i64 0] 34) = W := ⟨_, rfl⟩
  have HSL : Hid (SlS W 8 (.slice (some ⟨w.heap.size, 0, none⟩) 3 3) (evRows exL)) := hW ▸ SlS.litE w exL (by decide)
  have HB : Hid (Below w.heap.size w W) := hW ▸ below_new (Below.refl _ _) _
  rw [hW]
  clear hW
  have TP := Lib.hid (hprec_any _ exL (0, 0) (1, 0) W HSL.out)
  rw [show precE exL (0, 0) (1, 0) = false by decide] at TP
  unfold caV at TP
  dsimp only at TP
  go_wp2_with fail
  refine TP.out.mono ?_; rintro e w1 ⟨rfl, hb1⟩
  have HSL1 := Lib.hid (HSL.out.below hb1)
  have HB1 := Lib.hid (below_then HB.out hb1)
  have TC := Lib.hid (hcalled_any _ exL 1 0 w1 HSL1.out)
  rw [show findI exL 1 0 false = 1 by decide] at TC
  clear hb1 TP HSL HB
  go_wp2_with fail
  refine TC.out.mono ?_; rintro e w2 ⟨rfl, hb2⟩
  have HSL2 := Lib.hid (HSL1.out.below hb2)
  have HB2 := Lib.hid (below_then HB1.out hb2)
  clear hb2 TC HSL1 HB1
  obtain ⟨wa, hwa⟩ : ∃ x, w2.alloc (.cells #[.int .i64 0, .int .i64 0, .int .i64 0, .int .u64 0, .int .i64 0, .slice none 0 0, .slice none 0 0] 54) = x := ⟨_, rfl⟩
  obtain ⟨wb, hwb⟩ : ∃ x, wa.alloc (.cells #[.int .i64 0, .int .i64 0, .int .i64 0, .int .u64 0, .int .i64 0, .slice none 0 0, .slice none 0 0] 54) = x := ⟨_, rfl⟩
  obtain ⟨wd, hwd⟩ : ∃ x, wb.alloc (.cells #[.slice (some ⟨w2.heap.size, 0, none⟩) 1 1, .slice (some ⟨wa.heap.size, 0, none⟩) 1 1] 55) = x := ⟨_, rfl⟩
  have hb3 : Below w2.heap.size w2 wd := hwd ▸ below_new (hwb ▸ below_new (hwa ▸ below_new (Below.refl _ _) _) _) _
  have HO : Hid (SlO wd (.slice (some ⟨wb.heap.size, 0, none⟩) 2 2) [1, 1]) := by
    have h1 : wd.heap[wb.heap.size]? = some (.cells #[.slice (some ⟨w2.heap.size, 0, none⟩) 1 1, .slice (some ⟨wa.heap.size, 0, none⟩) 1 1] 55 (0, 0)) := hwd ▸ heap_alloc_new _ _
    have h2 : HdrO wd wb.heap.size [1, 1] := ⟨[.slice (some ⟨w2.heap.size, 0, none⟩) 1 1, .slice (some ⟨wa.heap.size, 0, none⟩) 1 1], h1, rfl, fun j hj => by
      match j, hj with
      | 0, _ => exact ⟨_, _, rfl⟩
      | 1, _ => exact ⟨_, _, rfl⟩⟩
    exact h2.slO (by decide)
  have TK := Lib.hid (hcheck_any _ _ exL [1, 1] wd (HSL2.out.below hb3) HO.out (by decide))
  rw [show histE [1, 1] exL = true by decide] at TK
  have HB3 := Lib.hid (below_then HB2.out hb3)
  have HWA := Lib.hid hwa
  have HWB := Lib.hid hwb
  have HWD := Lib.hid hwd
  have hsa : wa.heap.size = w2.heap.size + 1 := by rw [← hwa]; simp
  have hsb : wb.heap.size = w2.heap.size + 1 + 1 := by rw [← hwb]; simp [hsa]
  rw [hsa] at HWD
  rw [hsb] at TK
  clear hwa hwb hwd hb3 hsa hsb HO HSL2 HB2
  go_wp2_with fail
  rw [HWA.out, HWB.out, HWD.out]
  refine TK.out.mono ?_; rintro e w4 ⟨rfl, hb4⟩
  have HB4 := Lib.hid (below_then HB3.out hb4)
  clear hb4 TK HWA HWB HWD HB3
  go_wp2
  go_ret
  exact ⟨rfl, HB4.out⟩
end Go.Proofs.Ytnbehigjeopniaa
