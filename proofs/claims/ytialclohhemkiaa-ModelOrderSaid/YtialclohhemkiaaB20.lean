import Derived.Deep.DeepCutAuto
import Derived.Deep.CutBlock
import Derived.Test.YtialclohhemkiaaB18
import Derived.Test.YtialclohhemkiaaB19
import Derived.Test.YtialclohhemkiaaB02
set_option linter.unusedVariables false
set_option linter.unusedSimpArgs false
/- Layer 14: the law's channels. -/
namespace Go.Proofs.Ytialclohhemkiaa
open Go.ChangeShapes Go.WideShapes Go.ChangeAt Go.RowKit
set_option maxRecDepth 100000

set_option maxRecDepth 100000 in
set_option maxHeartbeats 16000000 in
theorem chans_any (g : Nat) (w : World) (hC : CodesE w g) : Calls Try.prog 13 #[.pointer (some ⟨g, 0, none⟩)] w fun e w' => ∃ v, e = .returned v ∧ ∃ l, SlH w' v l ∧ ChR l ∧ CodesE w' g ∧ w.grownBy w' (some g) := by
  have HC := Lib.hid (configG g w hC)
  clear hC
  go_enter Try.func13, Try.ntmps13
  go_wp2_with fail
  refine HC.out.mono ?_; rintro e w1 ⟨vc, vs, c, rfl, hsc, hss, hoc, hos, hgd, hl1, hl3, hC1, hg1⟩
  have T := Lib.hid (rNew_any (.agg #[vc, vs, .int .i64 c.threads]) c w1 ⟨vc, vs, rfl, hsc, hss⟩ hgd.len)
  have HG1 := Lib.hid hg1
  have HC1 := Lib.hid hC1
  obtain ⟨caps, starts, thr⟩ := c
  dsimp only at hl1 hl3 T ⊢
  have HCP : Hid (∀ x ∈ caps, 0 ≤ x ∧ x ≤ 16) := hgd.caps
  obtain ⟨ac, cc, rfl, -⟩ := hsc.len
  obtain ⟨ast, cst, rfl, -⟩ := hss.len
  clear hsc hss hoc hos hgd hC1 hg1 HC
  go_wp2_with fail
  refine T.out.mono ?_; rintro e w2 ⟨u, rfl, ho, hb2⟩
  have hrl : (chRows (nchE caps) (nils caps.length)).length = caps.length := by rw [chRows_length _ _ (by rw [nchE_length]; simp [nils]), nchE_length]
  obtain ⟨gv, cv, hve, -⟩ := ho.open (by omega)
  rw [hrl] at hve
  subst hve
  have HI0 := Lib.hid (ChI.start HG1.out hb2 HC1.out ho HCP.out)
  have HN0 : Hid ((nchE caps).length = caps.length) := nchE_length caps
  obtain ⟨n, hn⟩ : ∃ n, caps.length = n := ⟨_, rfl⟩
  rw [hn] at HI0 HN0 hl1 hl3 ⊢
  obtain ⟨B, hB⟩ : ∃ B, w1.heap.size = B := ⟨_, rfl⟩
  rw [hB] at HI0
  obtain ⟨us0, hus⟩ : ∃ u, nils n = u := ⟨_, rfl⟩
  rw [hus] at HI0
  obtain ⟨l0, hl0⟩ : ∃ u, nchE caps = u := ⟨_, rfl⟩
  rw [hl0] at HI0 HN0
  have HE0 : Hid (∀ j, 0 ≤ j → j < n → (l0.getD j noChan).buf = []) := fun j _ hj => by rw [← hl0, nchE_get caps j (by omega)]
  clear ho hb2 hrl T HG1 HC1 HCP hn hB hus hl0
  go_wp2_with fail
  go_loopw [11] (fun u11 wr => ∃ (i : Nat) (l : List ChanM) (us : List Value), u11 = .int .i64 i ∧ i ≤ n ∧ Hid (l.length = n) ∧ Hid (ChI w wr g B gv cv l us) ∧ Hid (∀ j, i ≤ j → j < n → (l.getD j noChan).buf = [])) (fun u11 _ => n - (intOf u11).toNat)
  case atStart => exact ⟨0, l0, us0, rfl, by omega, HN0, HI0, HE0⟩
  case round =>
    clear HI0 HN0 HE0
    obtain ⟨i, l, us, rfl, hi, HN, HI, HE⟩ := hrel
    obtain ⟨wo, rfl⟩ : ∃ wo : World, wo = wr := ⟨_, rfl⟩
    by_cases hlt : i < n
    · have hltI : (i : Int) < (n : Int) := by omega
      go_wp2_with fail
      go_loopw [5] (fun u5 wr => ∃ (k : Nat) (l : List ChanM) (us : List Value), u5 = .int .i64 k ∧ Hid (l.length = n) ∧ Hid (ChI w wr g B gv cv l us) ∧ k ≤ 16 ∧ Hid ((l.getD i noChan).buf.length = k) ∧ Hid (∀ j, i + 1 ≤ j → j < n → (l.getD j noChan).buf = [])) (fun u5 _ => 16 - (intOf u5).toNat)
      case atStart => exact ⟨0, l, us, rfl, HN, HI, by omega, by show _ = 0; rw [HE.out i (Nat.le_refl _) hlt]; rfl, fun j h1 h2 => HE.out j (by omega) h2⟩
      case round =>
        clear HI HN HE
        obtain ⟨k, l, us, rfl, HN, HI, hk, HK, HE⟩ := hrel
        obtain ⟨wp, rfl⟩ : ∃ wp : World, wp = wr := ⟨_, rfl⟩
        have hil : i < l.length := by rw [HN.out]; exact hlt
        have hrow := (HI.out.rows.row i (by rw [chRows_length l us HI.out.len]; exact hil)).1
        rw [chRows_row l us i HI.out.len hil (by rw [chRows_length l us HI.out.len]; exact hil)] at hrow
        have d0 := hrow 0 _ rfl
        simp only [Nat.add_zero] at d0
        obtain ⟨cc, hcc⟩ : ∃ x, (l.getD i noChan).cap = x := ⟨_, rfl⟩
        have hcap := HI.out.cap i hil
        rw [hcc] at d0 hcap
        have HCC := Lib.hid hcc
        have T := Lib.hid (nextE g (cc + 1) wp HI.out.code (by omega) (by omega))
        have hcw : IntKind.i64.wrap (cc + 1) = cc + 1 := (i64_small _ (by omega) (by omega)).symm
        clear hrow hcc hil
        go_wp2_with fail
        try rw [hcw]
        refine T.out.mono ?_; rintro e w3 ⟨x, rfl, hx0, hx1, hC3, hg3⟩
        have HI3 := Lib.hid (HI.out.draw hg3 hC3)
        clear hC3 hg3 T d0 hcw
        by_cases hkx : (k : Int) < x
        · have hil : i < l.length := by rw [HN.out]; exact hlt
          have hk15 : k ≤ 15 := by omega
          have hrl := chRows_length l us HI3.out.len
          have hrow := (HI3.out.rows.row i (by rw [hrl]; exact hil)).1
          rw [chRows_row l us i HI3.out.len hil (by rw [hrl]; exact hil)] at hrow
          have d1 := hrow 1 _ rfl
          obtain ⟨ui, hui⟩ : ∃ u, us.getD i nilV = u := ⟨_, rfl⟩
          obtain ⟨bf, hbf⟩ : ∃ b, (l.getD i noChan).buf = b := ⟨_, rfl⟩
          have hub := HI3.out.own i hil
          rw [hui, hbf] at hub
          have hui2 : us.getD i (.slice none 0 0) = ui := hui
          rw [hui2] at d1
          have hbl : bf.length ≤ 15 := by have := HK.out; rw [hbf] at this; omega
          obtain ⟨ua, un, uc, rfl⟩ : ∃ p n q, ui = .slice p n q := by
            rcases hub.shape with ⟨rfl, -⟩ | ⟨g, c, rfl, -⟩
            · exact ⟨_, _, _, rfl⟩
            · exact ⟨_, _, _, rfl⟩
          have HUI := Lib.hid (And.intro hui hbf)
          have hvg := HI3.out.vg
          have hgB := HI3.out.gB
          have KS8 : Hid (∀ w', Below w3.heap.size w3 w' → (fun w' : World => w'.cell? ⟨gv, i * 3 + 1, none⟩ = some (.slice ua un uc)) w') := fun w' hb => (hb.cell (p := ⟨gv, i * 3 + 1, none⟩) hvg.2).trans d1
          clear hrl hrow hui hui2 hbf hub
          go_upto_region 8 with fail
          clear d1
          refine untilK KS8 13 14 (by kernel_rfl) rfl ?_
          obtain ⟨u0, hu0, HU0⟩ := drew_pack w3
          rw [hu0]
          clear hu0
          have hSU0 := KS8.out _ HU0.out
          refine tkU (v := ?_) 0 la0 hSU0 (by kernel_rfl) (fun _ _ _ h => h) rfl ?_ ?_
          rotate_left
          · (intro w hSw; (try dsimp only at hSw); go_simp <;> with_reducible rfl)
          simp only [Act.put, List.setIfInBounds_toArray, List.set_cons_zero, List.set_cons_succ]
          refine tkU (v := ?_) 1 la1 hSU0 (by kernel_rfl) (fun _ _ _ h => h) rfl ?_ ?_
          rotate_left
          · (intro w hSw; (try dsimp only at hSw); go_simp <;> with_reducible rfl)
          simp only [Act.put, List.setIfInBounds_toArray, List.set_cons_zero, List.set_cons_succ]
          refine tkU (v := ?_) 2 la2 hSU0 (by kernel_rfl) (fun _ _ _ h => h) rfl ?_ ?_
          rotate_left
          · (intro w hSw; (try dsimp only at hSw); go_simp <;> with_reducible rfl)
          simp only [Act.put, List.setIfInBounds_toArray, List.set_cons_zero, List.set_cons_succ]
          refine tkU (v := ?_) 3 la3 hSU0 (by kernel_rfl) (fun _ _ _ h => h) rfl ?_ ?_
          rotate_left
          · (intro w hSw; (try dsimp only at hSw); go_simp <;> with_reducible rfl)
          simp only [Act.put, List.setIfInBounds_toArray, List.set_cons_zero, List.set_cons_succ]
          refine tkU (v := ?_) 4 la4 hSU0 (by kernel_rfl) (fun _ _ _ h => h) rfl ?_ ?_
          rotate_left
          · (intro w hSw; (try dsimp only at hSw); go_simp <;> with_reducible rfl)
          simp only [Act.put, List.setIfInBounds_toArray, List.set_cons_zero, List.set_cons_succ]
          refine tkU (v := ?_) 5 la5 hSU0 (by kernel_rfl) (fun _ _ _ h => h) rfl ?_ ?_
          rotate_left
          · (intro w hSw; (try dsimp only at hSw); go_simp <;> with_reducible rfl)
          simp only [Act.put, List.setIfInBounds_toArray, List.set_cons_zero, List.set_cons_succ]
          refine tkU (v := ?_) 6 la6 hSU0 (by kernel_rfl) (fun _ _ _ h => h) rfl ?_ ?_
          rotate_left
          · (intro w hSw; (try dsimp only at hSw); go_simp <;> with_reducible rfl)
          simp only [Act.put, List.setIfInBounds_toArray, List.set_cons_zero, List.set_cons_succ]
          refine tkU (v := ?_) 7 la7 hSU0 (by kernel_rfl) (fun _ _ _ h => h) rfl ?_ ?_
          rotate_left
          · (intro w hSw; (try dsimp only at hSw); go_simp <;> with_reducible rfl)
          simp only [Act.put, List.setIfInBounds_toArray, List.set_cons_zero, List.set_cons_succ]
          refine wpAnyU_ready (rs := [8]) (by kernel_rfl) rfl ?_
          refine AllReadyU.cons la8 rfl (fun K hK => ?_) ?_
          · go_simp
            go_at_call 23
            refine (valueE g u0 (HI3.out.below HU0.out).code).mono ?_
            rintro e u1 ⟨z, rfl, hz, hC, hgg⟩
            have HZ := Lib.hid hz
            have HI5 := Lib.hid ((HI3.out.below HU0.out).draw hgg hC)
            have HD : Hid ((fun w' : World => w'.cell? ⟨gv, i * 3 + 1, none⟩ = some (.slice ua un uc)) u1) := by
              have hrl := chRows_length l us HI5.out.len
              have hrow := (HI5.out.rows.row i (by rw [hrl]; exact hil)).1
              rw [chRows_row l us i HI5.out.len hil (by rw [hrl]; exact hil)] at hrow
              have d1 := hrow 1 _ rfl
              rw [show us.getD i (.slice none 0 0) = _ from HUI.out.1] at d1
              exact d1
            clear hz hC hgg
            refine hK.out _ _ ?_ (fun hSU1 => ?_)
            · exact HD.out
            clear hK K hSU0
            try simp only [Act.put, List.setIfInBounds_toArray, List.set_cons_zero, List.set_cons_succ]
            refine wpAnyU_ready (rs := [9]) (by kernel_rfl) rfl ?_
            refine AllReadyU.cons la9 rfl (fun K hK => ?_) ?_
            · go_simp
              obtain ⟨u2, nb, hv1, hX1, RN, hbn, ltn⟩ := alloc_pack u1 (.cells #[.int .u64 z] 23)
              rw [hv1, hX1]
              have HI6 := Lib.hid (HI5.out.below hbn.out)
              clear HD
              have HD : Hid ((fun w' : World => w'.cell? ⟨gv, i * 3 + 1, none⟩ = some (.slice ua un uc)) u2) := by
                have hrl := chRows_length l us HI6.out.len
                have hrow := (HI6.out.rows.row i (by rw [hrl]; exact hil)).1
                rw [chRows_row l us i HI6.out.len hil (by rw [hrl]; exact hil)] at hrow
                have d1 := hrow 1 _ rfl
                rw [show us.getD i (.slice none 0 0) = _ from HUI.out.1] at d1
                exact d1
              clear hv1 hX1 hbn ltn
              refine hK.out _ _ ?_ (fun hSU2 => ?_)
              · exact HD.out
              clear hK K hSU1
              try simp only [Act.put, List.setIfInBounds_toArray, List.set_cons_zero, List.set_cons_succ]
              refine wpAnyU_ready (rs := [10]) (by kernel_rfl) rfl ?_
              refine AllReadyU.cons la10 rfl (fun K hK => ?_) ?_
              · refine step_append_u64n (w := u2) (by rfl) _ _ (by rfl) B (.slice ua un uc) bf (by rfl) (by have h := HI6.out.own i hil; rw [HUI.out.1, HUI.out.2] at h; exact h) z nb (by rfl) (by exact cell_of_row _ _ 0 _ _ _ RN.out) (by omega) HI6.out.Bw ?_
                intro v6 u3 ho6 hg6 hn6
                obtain ⟨p6, n6, q6, rfl⟩ : ∃ p n q, v6 = .slice p n q := by
                  rcases ho6.shape with ⟨rfl, -⟩ | ⟨g, c, rfl, -⟩
                  · exact ⟨_, _, _, rfl⟩
                  · exact ⟨_, _, _, rfl⟩
                have HI7 := Lib.hid (HI6.out.push (v6 := .slice p6 n6 q6) (x := z) hil HZ.out (by rw [HUI.out.2]; exact hbl) (by rw [HUI.out.1]; exact hg6) (by rw [HUI.out.2]; exact ho6) (by rw [HUI.out.1]; exact hn6))
                have hne6 : (Value.slice ua un uc).ownBlock ≠ some gv := by have h := HI6.out.off hil; rw [HUI.out.1] at h; exact h
                have HSB := Lib.hid (hg6.block gv HI6.out.vg.2 (fun e => hne6 e.symm))
                have HFZ : Hid (u3.frozen? ⟨gv, i * 3 + 1, none⟩ = false) := by
                  have hrl := chRows_length l us HI6.out.len
                  have hown := HI6.out.rows.2
                  rw [hrl] at hown
                  exact (frozen_of_block HSB.out).trans (World.ownsRow.frozenAt hown (i * 3 + 1))
                clear ho6 hg6 hn6 hne6
                refine hK.out _ _ ?_ (fun hSU3 => ?_)
                · exact (cell_of_block HSB.out).trans HD.out
                clear hK K hSU2
                try simp only [Act.put, List.setIfInBounds_toArray, List.set_cons_zero, List.set_cons_succ]
                refine wpAnyU_takeW (v := ?_) 11 la11 (by kernel_rfl) (by kernel_rfl) (by kernel_rfl) (by kernel_rfl) (fun _ _ _ h => h) (fun _ => hSU3) rfl ?_ ?_
                rotate_left
                · (intro w; go_simp <;> with_reducible rfl)
                simp only [Act.put, List.setIfInBounds_toArray, List.set_cons_zero, List.set_cons_succ]
                refine tkU (v := ?_) 12 la12 hSU3 (by kernel_rfl) (fun _ _ _ h => h) rfl ?_ ?_
                rotate_left
                · (intro w hSw; (try dsimp only at hSw); go_simp <;> with_reducible rfl)
                simp only [Act.put, List.setIfInBounds_toArray, List.set_cons_zero, List.set_cons_succ]
                refine wpAnyU_ready (rs := [13]) (by kernel_rfl) rfl ?_
                refine AllReadyU.free la13 rfl (by kernel_rfl) (fun K hK => ?_) ?_
                · have fz := HFZ.out
                  have z1 := (cell_of_block (o := i * 3 + 1) HSB.out).trans HD.out
                  go_simp
                  clear z1 fz
                  refine hK.out _ _ ?_
                  clear hK K hSU3
                  try simp only [Act.put, List.setIfInBounds_toArray, List.set_cons_zero, List.set_cons_succ]
                  refine wpAnyU_done (by kernel_rfl) ?_ _
                  obtain ⟨W7, hW7⟩ : ∃ W7, u3.setCell ⟨gv, i * 3 + 1, none⟩ (.slice p6 n6 q6) = W7 := ⟨_, rfl⟩
                  rw [hW7] at HI7
                  rw [hW7]
                  have HN7 : Hid ((l.set i { l.getD i noChan with buf := (l.getD i noChan).buf ++ [z] }).length = n) := by show _ = _; rw [List.length_set]; exact HN.out
                  have HK7 : Hid (((l.set i { l.getD i noChan with buf := (l.getD i noChan).buf ++ [z] }).getD i noChan).buf.length = k + 1) := by
                    show _ = _
                    rw [getD_setL, if_pos ⟨rfl, hil⟩]
                    show ((l.getD i noChan).buf ++ [z]).length = _
                    rw [List.length_append, HK.out]
                    rfl
                  have HE7 : Hid (∀ j, i + 1 ≤ j → j < n → ((l.set i { l.getD i noChan with buf := (l.getD i noChan).buf ++ [z] }).getD j noChan).buf = []) := fun j h1 h2 => by
                    rw [getD_setL, if_neg (fun e => by omega)]
                    exact HE.out j h1 h2
                  clear hW7
                  go_wp2_with fail
                  go_roundw
                  case rel => exact ⟨k + 1, _, _, by go_num, HN7, HI7, by omega, HK7, HE7⟩
                  case measure => simp [intOf]; omega
                exact AllReadyU.nil
              exact AllReadyU.nil
            exact AllReadyU.nil
          exact AllReadyU.nil
        · have T4 := Lib.hid (nextE g 4 w3 HI3.out.code (by omega) (by omega))
          go_wp2_with fail
          refine T4.out.mono ?_; rintro e w4 ⟨y, rfl, hy0, hy1, hC4, hg4⟩
          have HI4 := Lib.hid (HI3.out.draw hg4 hC4)
          obtain ⟨yb, hyb⟩ : ∃ q, (y == 1) = q := ⟨_, rfl⟩
          clear hC4 hg4 T4 hkx
          have hil : i < l.length := by rw [HN.out]; exact hlt
          have hrl := chRows_length l us HI4.out.len
          have hown := HI4.out.rows.2
          rw [hrl] at hown
          have fz := World.ownsRow.frozenAt hown (i * 3 + 2)
          have hrow := (HI4.out.rows.row i (by rw [hrl]; exact hil)).1
          rw [chRows_row l us i HI4.out.len hil (by rw [hrl]; exact hil)] at hrow
          have d2 := hrow 2 _ rfl
          have HI5 := Lib.hid (HI4.out.shut (b := yb) hil)
          obtain ⟨W5, hW5⟩ : ∃ W5, w4.setCell ⟨gv, i * 3 + 2, none⟩ (.bool yb) = W5 := ⟨_, rfl⟩
          rw [hW5] at HI5
          have HW5 := Lib.hid hW5
          have HN5 : Hid ((l.set i { l.getD i noChan with closed := yb }).length = n) := by show _ = _; rw [List.length_set]; exact HN.out
          have HE5 : Hid (∀ j, i + 1 ≤ j → j < n → ((l.set i { l.getD i noChan with closed := yb }).getD j noChan).buf = []) := fun j h1 h2 => by
            rw [getD_setL, if_neg (fun e => by omega)]
            exact HE.out j h1 h2
          clear hW5 hrow hown hrl hil
          go_upto_region 10 with fail
          rw [HW5.out]
          clear fz d2 HW5
          go_wp2_with fail
          go_roundw
          case rel => exact ⟨i + 1, _, us, by go_num, by omega, HN5, HI5, HE5⟩
          case measure => simp [intOf]; omega
    · have hge : ¬ (i : Int) < (n : Int) := by omega
      have HS := Lib.hid (HI.out.slH (by rw [HN.out]; omega))
      have HR := Lib.hid (HI.out.chR (by rw [HN.out]; omega) (by rw [HN.out]; omega))
      rw [HN.out] at HS
      go_wp2
      go_ret
      exact ⟨_, rfl, l, HS.out, HR.out, HI.out.code, HI.out.grown⟩
end Go.Proofs.Ytialclohhemkiaa
/- Layer 14: the law's config. -/
namespace Go.Proofs.Ytialclohhemkiaa
open Go.ChangeShapes Go.WideShapes Go.ChangeAt Go.RowKit
set_option maxRecDepth 100000

theorem own_apart2 {w : World} {b1 b2 : Nat} {v1 v2 : Value} {l1 l2 : List Int} (h1 : OwnI w b1 3 .i64 v1 l1) (h2 : OwnI w b2 23 .u64 v2 l2) : v1.ownBlock = none ∨ v1.ownBlock ≠ v2.ownBlock := by
  rcases h1.2 with ⟨rfl, _⟩ | ⟨g, cap, cur, rfl, _, hg, _⟩
  · exact .inl rfl
  · rcases h2.2 with ⟨rfl, _⟩ | ⟨g', cap', cur', rfl, _, hg', _⟩
    · exact .inr (by simp [Value.ownBlock])
    · refine .inr ?_
      simp only [Value.ownBlock, ne_eq, Option.some.injEq]
      intro e
      rw [e, hg'] at hg
      simp at hg
theorem own_slice {w : World} {b : Nat} {e : TypeId} {k : IntKind} {v : Value} {l : List Int} (h : OwnI w b e k v l) : ∃ p n q, v = .slice p n q := by
  rcases h.shape with ⟨rfl, -⟩ | ⟨g, c, rfl, -⟩
  · exact ⟨_, _, _, rfl⟩
  · exact ⟨_, _, _, rfl⟩
/-- while the configuration is made -/
structure CgI (w wx : World) (X i : Nat) (vc vs : Value) (caps starts : List Int) : Prop where
  row : wx.heap[X]? = some (.cells #[vc, vs, .int .i64 2] 34 (0, 0))
  oc : OwnI wx (w.heap.size + 2) 3 .i64 vc caps
  os : OwnI wx (w.heap.size + 2) 23 .u64 vs starts
  lc : caps.length = i
  ls : starts.length = i
  vcap : ∀ x ∈ caps, x = IntKind.i64.wrap x
  vst : ∀ x ∈ starts, x = IntKind.u64.wrap x
  below : Below w.heap.size w wx
  res : wx.heap[w.heap.size]? = some (.cells #[.slice none 0 0, .slice none 0 0, .int .i64 0] 34 (0, 0))
  X1 : X = w.heap.size + 1
  sz : w.heap.size + 2 ≤ wx.heap.size
theorem CgI.caps {w wx u2 : World} {X i : Nat} {vc vs v2 : Value} {caps starts : List Int} {x : Int} (h : CgI w wx X i vc vs caps starts) (hg : wx.grownBy u2 vc.ownBlock) (ho : OwnI u2 (w.heap.size + 2) 3 .i64 v2 (caps ++ [x])) (hx : x = IntKind.i64.wrap x) :
    ∃ W, u2.setCell ⟨X, 0, none⟩ v2 = W ∧ W.heap[X]? = some (.cells #[v2, vs, .int .i64 2] 34 (0, 0)) ∧ OwnI W (w.heap.size + 2) 3 .i64 v2 (caps ++ [x]) ∧ OwnI W (w.heap.size + 2) 23 .u64 vs starts ∧ Below w.heap.size w W ∧ W.heap[w.heap.size]? = some (.cells #[.slice none 0 0, .slice none 0 0, .int .i64 0] 34 (0, 0)) ∧ w.heap.size + 2 ≤ W.heap.size := by
  have hX := h.X1
  have hsz := h.sz
  have hgs := hg.size
  have hob : ∀ j, vc.ownBlock = some j → w.heap.size + 2 ≤ j := fun j hj => h.oc.own_ge j hj
  have hr : u2.heap[X]? = some (.cells #[vc, vs, .int .i64 2] 34 (0, 0)) := (hg.block X (by omega) (fun e => by have := hob X e.symm; omega)).trans h.row
  have hs : OwnI u2 (w.heap.size + 2) 23 .u64 vs starts := h.os.kept hg (by
    rcases own_apart2 h.oc h.os with h1 | h1
    · rw [h1]; cases vs.ownBlock <;> simp
    · exact .inr fun e => h1 e.symm)
  have r1 := heap_setCell_same u2 X 0 _ _ v2 hr
  simp at r1
  refine ⟨_, rfl, r1, ho.kept (grownBy_setCell u2 ⟨X, 0, none⟩ v2) (ho.ne (by show X < _; omega)), hs.kept (grownBy_setCell u2 ⟨X, 0, none⟩ v2) (hs.ne (by show X < _; omega)), (h.below.grown hg h.below.size (fun j hj => by have := hob j hj; omega)).setCell (p := ⟨X, 0, none⟩) (by show w.heap.size ≤ X; omega) _, ?_, ?_⟩
  · exact (heap_setCell_other u2 ⟨X, 0, none⟩ w.heap.size v2 (by show w.heap.size ≠ X; omega)).trans ((hg.block w.heap.size (by omega) (fun e => by have := hob _ e.symm; omega)).trans h.res)
  · simp; omega
theorem CgI.sts {w A u7 : World} {X i : Nat} {v2 vs v7 : Value} {cs ss : List Int} (hr : A.heap[X]? = some (.cells #[v2, vs, .int .i64 2] 34 (0, 0))) (hoc : OwnI A (w.heap.size + 2) 3 .i64 v2 cs) (hos : OwnI A (w.heap.size + 2) 23 .u64 vs ss) (hb : Below w.heap.size w A) (hres : A.heap[w.heap.size]? = some (.cells #[.slice none 0 0, .slice none 0 0, .int .i64 0] 34 (0, 0))) (hX : X = w.heap.size + 1) (hsz : w.heap.size + 2 ≤ A.heap.size)
    (hg : A.grownBy u7 vs.ownBlock) (ho : OwnI u7 (w.heap.size + 2) 23 .u64 v7 (ss ++ [0])) (lc : cs.length = i + 1) (ls : ss.length = i) (vc : ∀ x ∈ cs, x = IntKind.i64.wrap x) (vst : ∀ x ∈ ss, x = IntKind.u64.wrap x) : CgI w (u7.setCell ⟨X, 1, none⟩ v7) X (i + 1) v2 v7 cs (ss ++ [0]) := by
  have hgs := hg.size
  have hob : ∀ j, vs.ownBlock = some j → w.heap.size + 2 ≤ j := fun j hj => hos.own_ge j hj
  have hr7 : u7.heap[X]? = some (.cells #[v2, vs, .int .i64 2] 34 (0, 0)) := (hg.block X (by omega) (fun e => by have := hob X e.symm; omega)).trans hr
  have r1 := heap_setCell_same u7 X 1 _ _ v7 hr7
  simp at r1
  refine ⟨r1, ((hoc.kept hg (own_apart2 hoc hos))).kept (grownBy_setCell u7 ⟨X, 1, none⟩ v7) (((hoc.kept hg (own_apart2 hoc hos))).ne (by show X < _; omega)), ho.kept (grownBy_setCell u7 ⟨X, 1, none⟩ v7) (ho.ne (by show X < _; omega)), lc, by rw [List.length_append, ls]; rfl, vc, fun x hx => ?_, (hb.grown hg hb.size (fun j hj => by have := hob j hj; omega)).setCell (p := ⟨X, 1, none⟩) (by show w.heap.size ≤ X; omega) _, ?_, hX, ?_⟩
  · rcases List.mem_append.1 hx with h | h
    · exact vst x h
    · rw [List.mem_singleton.1 h]; rfl
  · exact (heap_setCell_other u7 ⟨X, 1, none⟩ w.heap.size v7 (by show w.heap.size ≠ X; omega)).trans ((hg.block w.heap.size (by omega) (fun e => by have := hob _ e.symm; omega)).trans hres)
  · simp; omega
set_option maxRecDepth 100000 in
set_option maxHeartbeats 16000000 in
theorem configL_any (v : Value) (l : List ChanM) (w : World) (hv : SlH w v l) (hl : l.length ≤ 100) : Calls Try.prog 14 #[v] w fun e w' => ∃ vc vs, e = .returned (.agg #[vc, vs, .int .i64 2]) ∧ ∃ caps, OwnI w' (w.heap.size + 2) 3 .i64 vc caps ∧ caps.length = l.length ∧ (∀ x ∈ caps, x = IntKind.i64.wrap x) ∧ ∃ starts, OwnI w' (w.heap.size + 2) 23 .u64 vs starts ∧ starts.length = l.length ∧ (∀ x ∈ starts, x = IntKind.u64.wrap x) ∧ Below w.heap.size w w' := by
  have HV := Lib.hid hv
  have H4 : Hid (∀ i, i < l.length → (l.getD i noChan).cap = IntKind.i64.wrap (l.getD i noChan).cap) := fun i hi => by
    obtain ⟨us, -, -, -, h4, -⟩ := hv
    rw [List.getD_eq_getElem?_getD, List.getElem?_eq_getElem hi]
    exact h4 _ (List.getElem_mem hi)
  obtain ⟨aq, cap, hve, -⟩ := hv.len
  subst hve
  clear hv
  obtain ⟨W, hW, HB, R0, hz⟩ := one_new w (.cells #[.slice none 0 0, .slice none 0 0, .int .i64 0] 34)
  have HW := Lib.hid hW
  clear hW
  go_enter Try.func14, Try.ntmps14
  go_upto_region 1 with fail
  rw [HW.out]
  clear HW
  obtain ⟨Wx, hWx⟩ : ∃ Wx, (W.alloc (.cells #[.slice none 0 0, .slice none 0 0, .int .i64 0] 34)).setRow W.heap.size #[.slice none 0 0, .slice none 0 0, .int .i64 2] = Wx := ⟨_, rfl⟩
  have Nx : Hid ((W.alloc (.cells #[.slice none 0 0, .slice none 0 0, .int .i64 0] 34)).heap[W.heap.size]? = some (.cells #[.slice none 0 0, .slice none 0 0, .int .i64 0] 34 (0, 0))) := heap_alloc_new _ _
  have HBx : Hid (Below W.heap.size W Wx) := hWx ▸ row_below (below_new (Below.refl _ _) _) (Nat.le_refl _) _
  have Rx : Hid (Wx.heap[W.heap.size]? = some (.cells #[.slice none 0 0, .slice none 0 0, .int .i64 2] 34 (0, 0))) := hWx ▸ setRow_heap _ _ _ _ _ (0, 0) Nx.out
  have HWx := Lib.hid hWx
  clear hWx
  go_upto_region 2 with (refine wpList_store_row rfl 34 _ _ rfl (W.heap.size) _ rfl rfl 34 #[.slice none 0 0, .slice none 0 0, .int .i64 0] Nx.out (by kernel_rfl) rfl (by simp [Value.oneCell']) ?_)
  rw [HWx.out]
  try simp only [Act.put]
  clear HWx Nx
  obtain ⟨X, hX⟩ : ∃ X, W.heap.size = X := ⟨_, rfl⟩
  rw [hX] at Rx
  rw [hX]
  have hX1 : X = w.heap.size + 1 := by omega
  clear hX
  have HI0 : Hid (CgI w Wx X 0 (.slice none 0 0) (.slice none 0 0) [] []) := ⟨Rx.out, OwnI.nil _ _ _ _, OwnI.nil _ _ _ _, rfl, rfl, by simp, by simp, below_then HB.out HBx.out, (HBx.out.block w.heap.size (Array.getElem?_eq_some_iff.1 R0.out).1).trans R0.out, hX1, by have := (Array.getElem?_eq_some_iff.1 Rx.out).1; omega⟩
  clear HB R0 HBx Rx hX1 hz
  go_wp2_with fail
  go_loopw [8] (fun u8 wr => ∃ (i : Nat) (vc vs : Value) (caps starts : List Int), u8 = .int .i64 i ∧ i ≤ l.length ∧ Hid (CgI w wr X i vc vs caps starts)) (fun u8 _ => l.length - (intOf u8).toNat)
  case atStart => exact ⟨0, _, _, _, _, rfl, by omega, HI0⟩
  case round =>
    clear HI0
    obtain ⟨i, vc, vs, caps, starts, rfl, hi, HI⟩ := hrel
    obtain ⟨wo, rfl⟩ : ∃ wo : World, wo = wr := ⟨_, rfl⟩
    by_cases hlt : i < l.length
    · have hltI : (i : Int) < (l.length : Int) := by omega
      obtain ⟨b, off, cap', u, hve, hb, c0, c1, c2, hu⟩ := (HV.out.below HI.out.below).at i hlt
      simp only [Value.slice.injEq] at hve
      obtain ⟨rfl, -, rfl⟩ := hve
      have H4i := Lib.hid (H4.out i hlt)
      obtain ⟨cc, hcc⟩ : ∃ c, (l.getD i noChan).cap = c := ⟨_, rfl⟩
      rw [hcc] at c0 H4i
      obtain ⟨ac, nc, kc, rfl⟩ : ∃ p n q, vc = .slice p n q := by
        rcases HI.out.oc.shape with ⟨rfl, -⟩ | ⟨g, c, rfl, -⟩
        · exact ⟨_, _, _, rfl⟩
        · exact ⟨_, _, _, rfl⟩
      obtain ⟨ast, nst, kst, rfl⟩ : ∃ p n q, vs = .slice p n q := by
        rcases HI.out.os.shape with ⟨rfl, -⟩ | ⟨g, c, rfl, -⟩
        · exact ⟨_, _, _, rfl⟩
        · exact ⟨_, _, _, rfl⟩
      have hXl : X < wo.heap.size := (Array.getElem?_eq_some_iff.1 HI.out.row).1
      have KS5 : Hid (∀ w', Below wo.heap.size wo w' → (fun w' : World => w'.cell? ⟨X, 0, none⟩ = some (.slice ac nc kc) ∧ w'.cell? ⟨b, off + i * 3, none⟩ = some (.int .i64 cc)) w') := fun w' hbb => ⟨(rowc3 ((hbb.block X hXl).trans HI.out.row)).1, (hbb.cell (p := ⟨b, off + i * 3, none⟩) hb).trans c0⟩
      clear c0 c1 c2 hu hcc
      go_upto_region 5 with fail
      refine untilK KS5 8 11 (by kernel_rfl) rfl ?_
      obtain ⟨u0, hu0, HU0⟩ := drew_pack wo
      rw [hu0]
      clear hu0
      have hSU0 := KS5.out _ HU0.out
      refine wpAnyU_takeW (v := ?_) 0 la0 (by kernel_rfl) (by kernel_rfl) (by kernel_rfl) (by kernel_rfl) (fun _ _ _ h => h) (fun _ => hSU0) rfl ?_ ?_
      rotate_left
      · (intro w; go_simp <;> with_reducible rfl)
      simp only [Act.put, List.setIfInBounds_toArray, List.set_cons_zero, List.set_cons_succ]
      refine tkU (v := ?_) 1 la1 hSU0 (by kernel_rfl) (fun _ _ _ h => h) rfl ?_ ?_
      rotate_left
      · (intro w hSw; (try dsimp only at hSw); go_simp <;> with_reducible rfl)
      simp only [Act.put, List.setIfInBounds_toArray, List.set_cons_zero, List.set_cons_succ]
      refine wpAnyU_takeW (v := ?_) 2 la2 (by kernel_rfl) (by kernel_rfl) (by kernel_rfl) (by kernel_rfl) (fun _ _ _ h => h) (fun _ => hSU0) rfl ?_ ?_
      rotate_left
      · (intro w; go_simp <;> with_reducible rfl)
      simp only [Act.put, List.setIfInBounds_toArray, List.set_cons_zero, List.set_cons_succ]
      refine wpAnyU_takeW (v := ?_) 3 la3 (by kernel_rfl) (by kernel_rfl) (by kernel_rfl) (by kernel_rfl) (fun _ _ _ h => h) (fun _ => hSU0) rfl ?_ ?_
      rotate_left
      · (intro w; go_simp <;> with_reducible rfl)
      simp only [Act.put, List.setIfInBounds_toArray, List.set_cons_zero, List.set_cons_succ]
      refine wpAnyU_takeW (v := ?_) 4 la4 (by kernel_rfl) (by kernel_rfl) (by kernel_rfl) (by kernel_rfl) (fun _ _ _ h => h) (fun _ => hSU0) rfl ?_ ?_
      rotate_left
      · (intro w; go_simp <;> with_reducible rfl)
      simp only [Act.put, List.setIfInBounds_toArray, List.set_cons_zero, List.set_cons_succ]
      refine wpAnyU_takeW (v := ?_) 5 la5 (by kernel_rfl) (by kernel_rfl) (by kernel_rfl) (by kernel_rfl) (fun _ _ _ h => h) (fun _ => hSU0) rfl ?_ ?_
      rotate_left
      · (intro w; go_simp <;> with_reducible rfl)
      simp only [Act.put, List.setIfInBounds_toArray, List.set_cons_zero, List.set_cons_succ]
      refine wpAnyU_ready (rs := [6]) (by kernel_rfl) rfl ?_
      refine AllReadyU.cons la6 rfl (fun K hK => ?_) ?_
      · go_simp
        refine hK.out _ _ ?_ (fun hSU1 => ?_)
        · exact hSU0
        clear hK K hSU0
        try simp only [Act.put, List.setIfInBounds_toArray, List.set_cons_zero, List.set_cons_succ]
        refine wpAnyU_ready (rs := [7]) (by kernel_rfl) rfl ?_
        refine AllReadyU.cons la7 rfl (fun K hK => ?_) ?_
        · go_simp
          obtain ⟨u1, nb, hv1, hX2, RN, hbn, ltn⟩ := alloc_pack u0 (.cells #[.int .i64 cc] 3)
          rw [hv1, hX2]
          have HU1 := Lib.hid (below_then HU0.out hbn.out)
          clear hv1 hX2 hbn ltn
          refine hK.out _ _ ?_ (fun hSU2 => ?_)
          · exact KS5.out _ HU1.out
          clear hK K hSU1
          try simp only [Act.put, List.setIfInBounds_toArray, List.set_cons_zero, List.set_cons_succ]
          refine wpAnyU_ready (rs := [8]) (by kernel_rfl) rfl ?_
          refine AllReadyU.free la8 rfl (by kernel_rfl) (fun K hK => ?_) ?_
          · refine step_append_i64 (w := u1) (by rfl) _ _ (by rfl) (w.heap.size + 2) (.slice ac nc kc) caps (by rfl) (HI.out.oc.below HU1.out) cc nb (by rfl) (by exact cell_of_row _ _ 0 _ _ _ RN.out) (by have := HI.out.lc; omega) (by have := HI.out.sz; have := HU1.out.size; omega) ?_
            intro v6 u2 ho6 hg6
            obtain ⟨p6, n6, q6, rfl⟩ : ∃ p n q, v6 = .slice p n q := by
              rcases ho6.shape with ⟨rfl, -⟩ | ⟨g, c, rfl, -⟩
              · exact ⟨_, _, _, rfl⟩
              · exact ⟨_, _, _, rfl⟩
            have HI1 : CgI w u1 X i (.slice ac nc kc) (.slice ast nst kst) caps starts := ⟨(HU1.out.block X hXl).trans HI.out.row, HI.out.oc.below HU1.out, HI.out.os.below HU1.out, HI.out.lc, HI.out.ls, HI.out.vcap, HI.out.vst, below_then HI.out.below HU1.out, (HU1.out.block w.heap.size (Array.getElem?_eq_some_iff.1 HI.out.res).1).trans HI.out.res, HI.out.X1, Nat.le_trans HI.out.sz HU1.out.size⟩
            have hne : ∀ j, (Value.slice ac nc kc).ownBlock = some j → w.heap.size + 2 ≤ j := fun j hj => HI.out.oc.own_ge j hj
            have HSX := Lib.hid (hg6.block X (by have := HU1.out.size; omega) (fun e => by have := hne X e.symm; have := HI.out.X1; omega))
            have HP := Lib.hid (HI1.caps hg6 ho6 H4i.out)
            have HCB : Hid (∀ h : (.slice ac nc kc : Value).ownBlock ≠ some b, u2.cell? ⟨b, off + i * 3, none⟩ = some (.int .i64 cc)) := fun h => (cell_of_block (hg6.block b (by have := HU1.out.size; omega) (fun e => h e.symm))).trans (KS5.out _ HU1.out).2
            have hgz := hg6.size
            clear ho6 hg6 HI1 hne
            refine hK.out _ _ ?_
            clear hK K hSU2
            try simp only [Act.put, List.setIfInBounds_toArray, List.set_cons_zero, List.set_cons_succ]
            refine wpAnyU_takeW (v := ?_) 9 la9 (by kernel_rfl) (by kernel_rfl) (by kernel_rfl) (by kernel_rfl) (fun _ _ _ h => h) (past_k (by kernel_rfl)) rfl ?_ ?_
            rotate_left
            · (intro w; go_simp <;> with_reducible rfl)
            simp only [Act.put, List.setIfInBounds_toArray, List.set_cons_zero, List.set_cons_succ]
            refine wpAnyU_ready (rs := [10]) (by kernel_rfl) rfl ?_
            refine AllReadyU.free la10 rfl (by kernel_rfl) (fun K hK => ?_) ?_
            · have fz : u2.frozen? ⟨X, 0, none⟩ = false := (frozen_of_block HSX.out).trans (frozen_of_row u1 X 0 _ _ ((HU1.out.block X hXl).trans HI.out.row))
              have z1 := (cell_of_block (o := 0) HSX.out).trans (KS5.out _ HU1.out).1
              go_simp
              clear z1 fz
              refine hK.out _ _ ?_
              clear hK K
              try simp only [Act.put, List.setIfInBounds_toArray, List.set_cons_zero, List.set_cons_succ]
              refine wpAnyU_done (by kernel_rfl) ?_ _
              obtain ⟨W5, hW5, hr5, hoc5, hos5, hb5, hres5, hsz5⟩ := HP.out
              rw [hW5]
              have HR5 := Lib.hid hr5
              have HOS5 := Lib.hid hos5
              have HR6 : Hid (CgI w W5 X i (.slice p6 n6 q6) (.slice ast nst kst) (caps ++ [cc]) starts → True) := fun _ => trivial
              have HQ5 := Lib.hid (And.intro hoc5 (And.intro hb5 (And.intro hres5 hsz5)))
              clear hW5 hr5 hoc5 hos5 hb5 hres5 hsz5 HR6
              obtain ⟨x0, x1, x2⟩ := rowc3 HR5.out
              have RA : Hid ((W5.alloc (.cells #[.int .u64 0] 23)).heap[X]? = some (.cells #[.slice p6 n6 q6, .slice ast nst kst, .int .i64 2] 34 (0, 0))) := (heap_alloc_old _ _ (Array.getElem?_eq_some_iff.1 HR5.out).1).trans HR5.out
              go_upto_region 7 with (at_builtin; refine wp_append_u64 _ rfl _ _ rfl (w.heap.size + 2) (.slice ast nst kst) starts rfl (HOS5.out.below (below_new (Below.refl _ _) _)) 0 W5.heap.size rfl (World.cell?_alloc_at _ _ _ _ rfl) (by have := HI.out.ls; omega) (by have := HQ5.out.2.2.2; simp; omega) ?_; intro v7 u7 ho7 hg7; obtain ⟨p7, n7, q7, rfl⟩ : ∃ p n q, v7 = .slice p n q := own_slice ho7; have HR7 := Lib.hid ((hg7.block X (by have := (Array.getElem?_eq_some_iff.1 RA.out).1; exact this) (fun e => by have := HOS5.out.own_ge X e.symm; have := HI.out.X1; omega)).trans RA.out); have fz := frozen_of_row u7 X 1 _ _ HR7.out; obtain ⟨y0, y1, y2⟩ := rowc3 HR7.out; have HF7 := Lib.hid (CgI.sts (i := i) RA.out (HQ5.out.1.below (below_new (Below.refl _ _) _)) (HOS5.out.below (below_new (Below.refl _ _) _)) (below_new HQ5.out.2.1 _) ((heap_alloc_old _ _ (Array.getElem?_eq_some_iff.1 HQ5.out.2.2.1).1).trans HQ5.out.2.2.1) HI.out.X1 (by have := HQ5.out.2.2.2; simp; omega) hg7 ho7 (by rw [List.length_append, HI.out.lc]; rfl) HI.out.ls (fun x hx => by rcases List.mem_append.1 hx with h | h; exact HI.out.vcap x h; rw [List.mem_singleton.1 h]; exact H4i.out) HI.out.vst); clear ho7 hg7)
              obtain ⟨W9, hW9⟩ : ∃ W9, u7.setCell ⟨X, 1, none⟩ (.slice p7 n7 q7) = W9 := ⟨_, rfl⟩
              rw [hW9] at HF7
              try rw [hW9]
              clear hW9 fz y0 y1 y2 x0 x1 x2
              go_wp2_with fail
              go_roundw
              case rel => exact ⟨i + 1, _, _, _, _, by go_num, by omega, HF7⟩
              case measure => simp [intOf]; omega
            exact AllReadyU.nil
          exact AllReadyU.nil
        exact AllReadyU.nil
      exact AllReadyU.nil
    · have hge : ¬ (i : Int) < (l.length : Int) := by omega
      have hil : i = l.length := by omega
      obtain ⟨x0, x1, x2⟩ := rowc3 HI.out.row
      have HL1 := Lib.hid (HI.out.lc.trans hil)
      have HL2 := Lib.hid (HI.out.ls.trans hil)
      obtain ⟨ac, nc, kc, rfl⟩ : ∃ p n q, vc = .slice p n q := by
        rcases HI.out.oc.shape with ⟨rfl, -⟩ | ⟨g, c, rfl, -⟩
        · exact ⟨_, _, _, rfl⟩
        · exact ⟨_, _, _, rfl⟩
      obtain ⟨ast, nst, kst, rfl⟩ : ∃ p n q, vs = .slice p n q := by
        rcases HI.out.os.shape with ⟨rfl, -⟩ | ⟨g, c, rfl, -⟩
        · exact ⟨_, _, _, rfl⟩
        · exact ⟨_, _, _, rfl⟩
      clear hil
      go_wp2_with (refine wpList_store_row rfl 34 _ _ rfl (w.heap.size) _ rfl rfl 34 #[.slice none 0 0, .slice none 0 0, .int .i64 0] HI.out.res (by kernel_rfl) rfl (by simp [Value.oneCell']) ?_)
      refine bodyPost_ret (v := .agg #[.slice ac nc kc, .slice ast nst kst, .int .i64 2]) (results_cell_row Try.results14 _ _ (w.heap.size) 34 _ (0, 0) _ rfl (setRow_heap _ _ _ _ 34 (0, 0) HI.out.res) Try.underlying34 rfl (by kernel_rfl)) rfl ?_
      exact ⟨_, _, rfl, caps, HI.out.oc.kept (row_grown _ _ _) (HI.out.oc.ne (by omega)), HL1.out, HI.out.vcap, starts, HI.out.os.kept (row_grown _ _ _) (HI.out.os.ne (by omega)), HL2.out, HI.out.vst, row_below HI.out.below (Nat.le_refl _) _⟩
end Go.Proofs.Ytialclohhemkiaa
