/- Proved: ModelPairs returns true for every list of codes and every two results p and q, and its arguments read afterwards as before; no condition. -/
import Derived.Deep.DeepCutAuto
import Derived.Deep.CutBlock
import Derived.LoopTactic
import Derived.WalkKit
import Derived.ProofKit
import Derived.OpenShut
import Derived.SizedLaws
import Derived.Test.YtialclohhemkiaaB01
import Derived.Test.YtialclohhemkiaaB05
import Derived.Test.YtialclohhemkiaaB16
import Derived.Test.YtialclohhemkiaaB26
import Derived.Test.YtialclohhemkiaaB28
namespace Go.Proofs.Ytialclohhemkiaa.modelPairs
open Go.ChangeShapes Go.WideShapes Go.ChangeAt Go.RowKit
set_option linter.unusedVariables false
set_option linter.unusedSimpArgs false
set_option maxRecDepth 100000 in
set_option maxHeartbeats 16000000 in
theorem walk (w : World) (v0 : Value) (l0 : List Int) (s0 : SlI w .u8 v0 l0) (r1 : ResM) (r2 : ResM) :
    Calls Try.prog 3 #[v0, resW r1, resW r2] w fun e w' => e = .returned (.bool true) ∧ Below w.heap.size w w' := by
  have HS0 := Lib.hid s0
  obtain ⟨rk, rc, rv, rok, nm⟩ := r1
  obtain ⟨rk2, rc2, rv2, rok2, nm2⟩ := r2
  unfold resW
  dsimp only
  clear s0
  obtain ⟨W, hW, HB, R0, R1, hz⟩ := two_new w (.cells #[.int .i64 rk, .int .i64 rc, .int .u64 rv, .bool rok, .int .i64 nm] 25) (.cells #[.int .i64 rk2, .int .i64 rc2, .int .u64 rv2, .bool rok2, .int .i64 nm2] 25)
  have HW := Lib.hid hW
  have AW := Lib.hid (awake_any W)
  have hzz : w.heap.size + 2 ≤ W.heap.size := by omega
  clear hW hz
  go_enter Try.func3, Try.ntmps3
  go_wp2_with fail
  rw [HW.out]
  clear HW
  refine AW.out.mono ?_; rintro e w1 ⟨rfl, hb1⟩
  have HB1 := Lib.hid (below_then HB.out hb1)
  have R01 := Lib.hid (row_below2 hb1 R0.out)
  have R11 := Lib.hid (row_below2 hb1 R1.out)
  have hz1 : w.heap.size + 2 ≤ w1.heap.size := Nat.le_trans hzz hb1.size
  clear hb1 AW R0 R1 HB hzz
  go_wp2_with fail
  refine (new_any _ l0 200 _ (HS0.out.below HB1.out) (by omega)).mono ?_; rintro e w2 ⟨rfl, hc2, hb2⟩
  have hC2 : Hid (CodesE w2 w1.heap.size) := ⟨_, _, hc2⟩
  have HB2 := Lib.hid (below_then HB1.out hb2)
  have R02 := Lib.hid (row_below2 hb2 R01.out)
  have R12 := Lib.hid (row_below2 hb2 R11.out)
  obtain ⟨g, hg⟩ : ∃ g, w1.heap.size = g := ⟨_, rfl⟩
  rw [hg] at hC2 hz1
  rw [hg]
  have hwg : w.heap.size ≤ g := by omega
  clear hc2 hb2 hg HS0 HB1 R01 R11
  go_wp2_with fail
  refine (chans_any g w2 hC2.out).mono ?_; rintro e w3 ⟨v, rfl, l, hsv, hcr, hc3, hg3⟩
  have HV3 := Lib.hid hsv
  have HC3 := Lib.hid hc3
  have HB3 := Lib.hid (below_poke HB2.out hg3 hwg)
  have R03 := Lib.hid (row_keep hg3 R02.out (by omega))
  have R13 := Lib.hid (row_keep hg3 R12.out (by omega))
  have HLL := Lib.hid hcr
  obtain ⟨av, cv, rfl, -⟩ := hsv.len
  clear hsv hcr hc3 hg3 HB2 hC2 R02 R12
  go_wp2_with fail
  refine (configL_any _ l w3 HV3.out (by have := HLL.out.hi; omega)).mono ?_; rintro e w4 ⟨vc, vs, rfl, caps, hoc, hlc, hwc, starts, hos, hls, hws, hb4⟩
  obtain ⟨ac, nc, kc, rfl⟩ := own_slice hoc
  obtain ⟨ast, nst, kst, rfl⟩ := own_slice hos
  have hgl := HC3.out.lt
  have HCX : Hid (ConfX w4 g (.agg #[.slice ac nc kc, .slice ast nst kst, .int .i64 2]) ⟨caps, starts, 2⟩) := ⟨_, _, rfl, hoc.read (by have := HLL.out.hi; omega) hwc, hos.read (by have := HLL.out.hi; omega) hws, hoc.off (by omega), hos.off (by omega)⟩
  obtain ⟨c, hc⟩ : ∃ c : ConfM, (⟨caps, starts, 2⟩ : ConfM) = c := ⟨_, rfl⟩
  have HCL : Hid (c.caps.length ≤ 8) := by
    show _ ≤ _
    rw [← hc]
    have := HLL.out.hi
    show caps.length ≤ 8
    omega
  rw [hc] at HCX
  have HC4 := Lib.hid (HC3.out.kept hgl hb4)
  have HV4 := Lib.hid (HV3.out.below hb4)
  have HB4 := Lib.hid (below_then HB3.out hb4)
  have R04 := Lib.hid (row_below2 hb4 R03.out)
  have R14 := Lib.hid (row_below2 hb4 R13.out)
  have hg4 : g < w4.heap.size := Nat.lt_of_lt_of_le hgl hb4.size
  clear hoc hlc hwc hos hls hws hb4 hc HC3 HV3 HB3 hgl R03 R13
  obtain ⟨Wx, hWx⟩ : ∃ Wx, (w4.alloc (.cells #[.slice none 0 0, .slice none 0 0, .int .i64 0] 34)).setRow w4.heap.size #[.slice ac nc kc, .slice ast nst kst, .int .i64 2] = Wx := ⟨_, rfl⟩
  have Nx : Hid ((w4.alloc (.cells #[.slice none 0 0, .slice none 0 0, .int .i64 0] 34)).heap[w4.heap.size]? = some (.cells #[.slice none 0 0, .slice none 0 0, .int .i64 0] 34 (0, 0))) := heap_alloc_new _ _
  have HBx : Hid (Below w4.heap.size w4 Wx) := hWx ▸ row_below (below_new (Below.refl _ _) _) (Nat.le_refl _) _
  have Rx : Hid (Wx.heap[w4.heap.size]? = some (.cells #[.slice ac nc kc, .slice ast nst kst, .int .i64 2] 34 (0, 0))) := hWx ▸ setRow_heap _ _ _ _ _ (0, 0) Nx.out
  have HWx := Lib.hid hWx
  clear hWx
  go_upto_region 6 with (refine wpList_store_row rfl 34 _ _ rfl (w4.heap.size) _ rfl rfl 34 #[.slice none 0 0, .slice none 0 0, .int .i64 0] Nx.out (by kernel_rfl) rfl (by simp [Value.oneCell']) ?_)
  rw [HWx.out]
  try simp only [Act.put]
  clear HWx Nx
  obtain ⟨X, hX⟩ : ∃ X, w4.heap.size = X := ⟨_, rfl⟩
  rw [hX] at Rx
  rw [hX]
  have hgX : g < X := by omega
  clear hX
  have HIX : Hid (ApJ w Wx g X (.agg #[.slice ac nc kc, .slice ast nst kst, .int .i64 2]) #[.slice ac nc kc, .slice ast nst kst, .int .i64 2] c (.slice av l.length cv) l 16) := ⟨HV4.out.below HBx.out, HLL.out.hi, HLL.out.bufs, HC4.out.kept HC4.out.lt HBx.out, HCX.out.below HBx.out, Rx.out, below_then HB4.out HBx.out, hgX, hwg⟩
  have HRAW : Hid (∀ wr, Wx.grownBy wr (some g) → wr.heap[w.heap.size]? = some (.cells #[.int .i64 rk, .int .i64 rc, .int .u64 rv, .bool rok, .int .i64 nm] 25 (0, 0)) ∧ wr.heap[w.heap.size + 1]? = some (.cells #[.int .i64 rk2, .int .i64 rc2, .int .u64 rv2, .bool rok2, .int .i64 nm2] 25 (0, 0))) := fun wr h => ⟨row_keep h (row_below2 HBx.out R04.out) (by omega), row_keep h (row_below2 HBx.out R14.out) (by omega)⟩
  have hll := HLL.out.hi
  clear HV4 HLL HC4 HCX HBx Rx HB4 hgX hg4 R04 R14
  have HCX0 := Lib.hid HIX.out.code
  have HG0 : Hid (Wx.grownBy Wx (some g)) := grownBy_refl _ _
  go_wp2_with fail
  go_loopw [10] (fun u10 wr => ∃ (i : Nat), u10 = .int .i64 i ∧ i ≤ 8 ∧ Hid (Wx.grownBy wr (some g)) ∧ Hid (CodesE wr g)) (fun u10 _ => 8 - (intOf u10).toNat)
  case atStart => exact ⟨0, rfl, by omega, HG0, HCX0⟩
  case round =>
    clear HG0 HCX0
    obtain ⟨i, rfl, hi, HG, HCo⟩ := hrel
    obtain ⟨wo, rfl⟩ : ∃ wo : World, wo = wr := ⟨_, rfl⟩
    have HI := Lib.hid (HIX.out.draw HG.out HCo.out)
    by_cases hlt : i < 8
    · have hltI : (i : Int) < 8 := by omega
      have KS : Hid (∀ w', w'.heap[X]? = some (.cells #[.slice ac nc kc, .slice ast nst kst, .int .i64 2] 34 (0, 0)) → (fun w' : World => w'.cell? ⟨X, 0, none⟩ = some (.slice ac nc kc) ∧ w'.cell? ⟨X, 1, none⟩ = some (.slice ast nst kst) ∧ w'.cell? ⟨X, 2, none⟩ = some (.int .i64 2)) w') := fun w' h => rowc3 h
      go_upto_region 9 with fail
      go_cut [11, 12] (fun s11 s12 wx => ∃ (P Q : Nat) (a b : OpM) (p1 q1 p2 q2 : Option Addr) (c1 d1 c2 d2 : Nat), s11 = .pointer (some ⟨P, 0, none⟩) ∧ s12 = .pointer (some ⟨Q, 0, none⟩) ∧ g < P ∧ g < Q ∧ Hid (wx.heap[P]? = some (.cells #[.int .i64 a.kind, .int .i64 a.mode, .int .i64 a.chan, .int .u64 a.val, .int .i64 a.dl, .slice p1 a.cases.length c1, .slice q1 a.draws.length d1] 38 (0, 0))) ∧ Hid (wx.heap[Q]? = some (.cells #[.int .i64 b.kind, .int .i64 b.mode, .int .i64 b.chan, .int .u64 b.val, .int .i64 b.dl, .slice p2 b.cases.length c2, .slice q2 b.draws.length d2] 38 (0, 0))) ∧ Hid (OpX wx g (.agg #[.int .i64 a.kind, .int .i64 a.mode, .int .i64 a.chan, .int .u64 a.val, .int .i64 a.dl, .slice p1 a.cases.length c1, .slice q1 a.draws.length d1]) a) ∧ Hid (OpX wx g (.agg #[.int .i64 b.kind, .int .i64 b.mode, .int .i64 b.chan, .int .u64 b.val, .int .i64 b.dl, .slice p2 b.cases.length c2, .slice q2 b.draws.length d2]) b) ∧ Hid (a.good ∧ b.good) ∧ Hid (Wx.grownBy wx (some g)) ∧ Hid (CodesE wx g))
      case first =>
        have HI0 : Hid (ApJ w (wo.drewN 1) g X (.agg #[.slice ac nc kc, .slice ast nst kst, .int .i64 2]) #[.slice ac nc kc, .slice ast nst kst, .int .i64 2] c (.slice av l.length cv) l 16) := HI.out.over (below_drewN (Below.refl _ _) 1)
        have HG0 : Hid (Wx.grownBy (wo.drewN 1) (some g)) := grownBy_of_below HG.out ((below_drewN (Below.refl wo.heap.size wo) 1).mono HG.out.size)
        refine wp_region_until (fun w' : World => w'.cell? ⟨X, 0, none⟩ = some (.slice ac nc kc) ∧ w'.cell? ⟨X, 1, none⟩ = some (.slice ast nst kst) ∧ w'.cell? ⟨X, 2, none⟩ = some (.int .i64 2)) 5 10 (by kernel_rfl) rfl ?_
        obtain ⟨u0, hu0⟩ : ∃ u, (wo.drewN 1) = u := ⟨_, rfl⟩
        rw [show wo.drew = wo.drewN 1 from rfl, hu0]
        rw [hu0] at HI0 HG0
        clear hu0
        have hSU0 := KS.out _ HI0.out.cr
        refine tkU (v := ?_) 3 la3 hSU0 (by kernel_rfl) (fun _ _ _ h => h) rfl ?_ ?_
        rotate_left
        · (intro w hSw; (try dsimp only at hSw); go_simp <;> with_reducible rfl)
        simp only [Act.put, List.setIfInBounds_toArray, List.set_cons_zero, List.set_cons_succ]
        refine tkU (v := ?_) 4 la4 hSU0 (by kernel_rfl) (fun _ _ _ h => h) rfl ?_ ?_
        rotate_left
        · (intro w hSw; (try dsimp only at hSw); go_simp <;> with_reducible rfl)
        simp only [Act.put, List.setIfInBounds_toArray, List.set_cons_zero, List.set_cons_succ]
        refine wpAnyU_takeW (v := ?_) 0 la0 (by kernel_rfl) (by kernel_rfl) (by kernel_rfl) (by kernel_rfl) (fun _ _ _ h => h) (fun _ => hSU0) rfl ?_ ?_
        rotate_left
        · (intro w; go_simp <;> with_reducible rfl)
        simp only [Act.put, List.setIfInBounds_toArray, List.set_cons_zero, List.set_cons_succ]
        refine wpAnyU_ready (rs := [1, 6, 7]) (by kernel_rfl) rfl ?_
        refine AllReadyU.cons la1 rfl (fun K hK => ?_) ?_
        · obtain ⟨d0, d1, d2⟩ := KS.out _ HI0.out.cr
          go_simp
          clear d0 d1 d2
          refine hK.out _ _ ?_ (fun hSU1 => ?_)
          · exact hSU0
          clear hK K hSU0
          try simp only [Act.put, List.setIfInBounds_toArray, List.set_cons_zero, List.set_cons_succ]
          refine wpAnyU_ready (rs := [2, 6, 7]) (by kernel_rfl) rfl ?_
          refine AllReadyU.cons la2 rfl (fun K hK => ?_) ?_
          · go_simp
            go_at_call 15
            refine (opE g _ c u0 HI0.out.code HI0.out.conf HCL.out).mono ?_
            rintro e u1 ⟨uo, a, rfl, hop, hgd, hcA, hgA⟩
            have HI1 := Lib.hid (HI0.out.draw hgA hcA)
            have HG1 := Lib.hid (grownBy_trans HG0.out hgA)
            have HD1 := Lib.hid hgd
            have HO1 := Lib.hid (hop.opx HI0.out.code.lt)
            obtain ⟨vo1, vo2, rfl, hoc, hod, hn1, hn2⟩ := hop
            obtain ⟨p1, c1, rfl⟩ := hoc.len
            obtain ⟨q1, d1, rfl, -⟩ := hod.len
            clear hoc hod hgd hcA hgA hn1 hn2
            refine hK.out _ _ ?_ (fun hSU2 => ?_)
            · exact KS.out _ HI1.out.cr
            clear hK K hSU1
            try simp only [Act.put, List.setIfInBounds_toArray, List.set_cons_zero, List.set_cons_succ]
            refine wpAnyU_ready (rs := [5, 6, 7]) (by kernel_rfl) rfl ?_
            refine AllReadyU.free la5 rfl (by kernel_rfl) (fun K hK => ?_) ?_
            · go_simp
              go_at_call 15
              refine (opE g _ c u1 HI1.out.code HI1.out.conf HCL.out).mono ?_
              rintro e u2 ⟨uo, b, rfl, hop, hgd, hcA, hgA⟩
              have HI2 := Lib.hid (HI1.out.draw hgA hcA)
              have HG2 := Lib.hid (grownBy_trans HG1.out hgA)
              have HD2 := Lib.hid hgd
              have HO2 := Lib.hid (hop.opx HI1.out.code.lt)
              obtain ⟨vo1, vo2, rfl, hoc, hod, hn1, hn2⟩ := hop
              obtain ⟨p2, c2, rfl⟩ := hoc.len
              obtain ⟨q2, d2, rfl, -⟩ := hod.len
              have HO1 := Lib.hid (HO1.out.grown hgA)
              clear hoc hod hgd hcA hgA hn1 hn2
              refine hK.out _ _ ?_
              clear hK K hSU2
              try simp only [Act.put, List.setIfInBounds_toArray, List.set_cons_zero, List.set_cons_succ]
              refine wpAnyU_ready (rs := [6, 7]) (by kernel_rfl) rfl ?_
              refine AllReadyU.free la6 rfl (by kernel_rfl) (fun K hK => ?_) ?_
              · go_simp
                obtain ⟨u3, P, hv1, hX1, RP, hbn, ltn⟩ := alloc_pack u2 (.cells #[.int .i64 0, .int .i64 0, .int .i64 0, .int .u64 0, .int .i64 0, .slice none 0 0, .slice none 0 0] 38)
                rw [hv1, hX1]
                have HI3 := Lib.hid (HI2.out.over hbn.out)
                have HG3 := Lib.hid (grownBy_of_below HG2.out (hbn.out.mono HG2.out.size))
                have hlP : g < P := by have := HI2.out.code.lt; omega
                have hxP : Wx.heap.size ≤ P := by have := HG2.out.size; omega
                have hluP : P < u3.heap.size := (Array.getElem?_eq_some_iff.1 RP.out).1
                have hoP1 := opx_offOf HO1.out (P := P) (by omega)
                have HO1 := Lib.hid (HO1.out.below hbn.out)
                have hoP2 := opx_offOf HO2.out (P := P) (by omega)
                have HO2 := Lib.hid (HO2.out.below hbn.out)
                clear hv1 hX1 hbn ltn
                refine hK.out _ _ ?_
                clear hK K
                try simp only [Act.put, List.setIfInBounds_toArray, List.set_cons_zero, List.set_cons_succ]
                refine wpAnyU_ready (rs := [7]) (by kernel_rfl) rfl ?_
                refine AllReadyU.free la7 rfl (by kernel_rfl) (fun K hK => ?_) ?_
                · go_simp
                  obtain ⟨u4, Q, hv1, hX1, RQ, hbn, ltn⟩ := alloc_pack u3 (.cells #[.int .i64 0, .int .i64 0, .int .i64 0, .int .u64 0, .int .i64 0, .slice none 0 0, .slice none 0 0] 38)
                  rw [hv1, hX1]
                  have HI4 := Lib.hid (HI3.out.over hbn.out)
                  have HG4 := Lib.hid (grownBy_of_below HG3.out (hbn.out.mono HG3.out.size))
                  have hlQ : g < Q := by have := HI3.out.code.lt; omega
                  have hxQ : Wx.heap.size ≤ Q := by have := HG3.out.size; omega
                  have hluQ : Q < u4.heap.size := (Array.getElem?_eq_some_iff.1 RQ.out).1
                  have hne : P ≠ Q := by have := (Array.getElem?_eq_some_iff.1 RP.out).1; omega
                  have RP := Lib.hid (row_below2 hbn.out RP.out)
                  have hluP : P < u4.heap.size := (Array.getElem?_eq_some_iff.1 RP.out).1
                  have hoQ1 := opx_offOf HO1.out (P := Q) (by omega)
                  have HO1 := Lib.hid (HO1.out.below hbn.out)
                  have hoQ2 := opx_offOf HO2.out (P := Q) (by omega)
                  have HO2 := Lib.hid (HO2.out.below hbn.out)
                  clear hv1 hX1 hbn ltn
                  refine hK.out _ _ ?_
                  clear hK K
                  try simp only [Act.put, List.setIfInBounds_toArray, List.set_cons_zero, List.set_cons_succ]
                  refine wpAnyU_ready (rs := [8]) (by kernel_rfl) rfl ?_
                  refine AllReadyU.free la8 rfl (by kernel_rfl) (fun K hK => ?_) ?_
                  · refine step_store_row rfl 38 _ _ rfl P _ rfl rfl 38 #[.int .i64 0, .int .i64 0, .int .i64 0, .int .u64 0, .int .i64 0, .slice none 0 0, .slice none 0 0] RP.out (by kernel_rfl) rfl (by simp [Value.oneCell']) ?_
                    refine hK.out _ _ ?_
                    clear hK K
                    try simp only [Act.put, List.setIfInBounds_toArray, List.set_cons_zero, List.set_cons_succ]
                    refine wpAnyU_ready (rs := [9]) (by kernel_rfl) rfl ?_
                    refine AllReadyU.free la9 rfl (by kernel_rfl) (fun K hK => ?_) ?_
                    · have RQ2 : Hid ((u4.setRow P #[.int .i64 a.kind, .int .i64 a.mode, .int .i64 a.chan, .int .u64 a.val, .int .i64 a.dl, .slice p1 a.cases.length c1, .slice q1 a.draws.length d1]).heap[Q]? = some (.cells #[.int .i64 0, .int .i64 0, .int .i64 0, .int .u64 0, .int .i64 0, .slice none 0 0, .slice none 0 0] 38 (0, 0))) := (setRow_other u4 P Q #[.int .i64 a.kind, .int .i64 a.mode, .int .i64 a.chan, .int .u64 a.val, .int .i64 a.dl, .slice p1 a.cases.length c1, .slice q1 a.draws.length d1] (by omega)).trans RQ.out
                      refine step_store_row rfl 38 _ _ rfl Q _ rfl rfl 38 #[.int .i64 0, .int .i64 0, .int .i64 0, .int .u64 0, .int .i64 0, .slice none 0 0, .slice none 0 0] RQ2.out (by kernel_rfl) rfl (by simp [Value.oneCell']) ?_
                      refine hK.out _ _ ?_
                      clear hK K
                      try simp only [Act.put, List.setIfInBounds_toArray, List.set_cons_zero, List.set_cons_succ]
                      refine wpAnyU_done (by kernel_rfl) ?_ _
                      go_wp2_with fail
                      go_meet
                      exact ⟨P, Q, a, b, p1, q1, p2, q2, c1, d1, c2, d2, rfl, rfl, hlP, hlQ, (setRow_other _ Q P #[.int .i64 b.kind, .int .i64 b.mode, .int .i64 b.chan, .int .u64 b.val, .int .i64 b.dl, .slice p2 b.cases.length c2, .slice q2 b.draws.length d2] (by omega)).trans (setRow_heap _ _ _ _ _ (0, 0) RP.out), setRow_heap _ _ _ _ _ (0, 0) RQ2.out, opx_put (opx_put HO1.out hoP1) hoQ1, opx_put (opx_put HO2.out hoP2) hoQ2, ⟨HD1.out, HD2.out⟩, grownBy_of_new (grownBy_of_new HG4.out (row_grown _ P _) (fun k hk => by cases hk; exact hxP)) (row_grown _ Q _) (fun k hk => by cases hk; exact hxQ), codes_grown (codes_grown HI4.out.code (row_grown _ P _) (B := g + 1) (fun k hk => by cases hk; omega) (Nat.lt_succ_self g)) (row_grown _ Q _) (B := g + 1) (fun k hk => by cases hk; omega) (Nat.lt_succ_self g)⟩
                    exact AllReadyU.nil
                  exact AllReadyU.nil
                exact AllReadyU.nil
              refine AllReadyU.free la7 rfl (by kernel_rfl) (fun K hK => ?_) ?_
              · go_simp
                obtain ⟨u3, Q, hv1, hX1, RQ, hbn, ltn⟩ := alloc_pack u2 (.cells #[.int .i64 0, .int .i64 0, .int .i64 0, .int .u64 0, .int .i64 0, .slice none 0 0, .slice none 0 0] 38)
                rw [hv1, hX1]
                have HI3 := Lib.hid (HI2.out.over hbn.out)
                have HG3 := Lib.hid (grownBy_of_below HG2.out (hbn.out.mono HG2.out.size))
                have hlQ : g < Q := by have := HI2.out.code.lt; omega
                have hxQ : Wx.heap.size ≤ Q := by have := HG2.out.size; omega
                have hluQ : Q < u3.heap.size := (Array.getElem?_eq_some_iff.1 RQ.out).1
                have hoQ1 := opx_offOf HO1.out (P := Q) (by omega)
                have HO1 := Lib.hid (HO1.out.below hbn.out)
                have hoQ2 := opx_offOf HO2.out (P := Q) (by omega)
                have HO2 := Lib.hid (HO2.out.below hbn.out)
                clear hv1 hX1 hbn ltn
                refine hK.out _ _ ?_
                clear hK K
                try simp only [Act.put, List.setIfInBounds_toArray, List.set_cons_zero, List.set_cons_succ]
                refine wpAnyU_ready (rs := [6]) (by kernel_rfl) rfl ?_
                refine AllReadyU.free la6 rfl (by kernel_rfl) (fun K hK => ?_) ?_
                · go_simp
                  obtain ⟨u4, P, hv1, hX1, RP, hbn, ltn⟩ := alloc_pack u3 (.cells #[.int .i64 0, .int .i64 0, .int .i64 0, .int .u64 0, .int .i64 0, .slice none 0 0, .slice none 0 0] 38)
                  rw [hv1, hX1]
                  have HI4 := Lib.hid (HI3.out.over hbn.out)
                  have HG4 := Lib.hid (grownBy_of_below HG3.out (hbn.out.mono HG3.out.size))
                  have hlP : g < P := by have := HI3.out.code.lt; omega
                  have hxP : Wx.heap.size ≤ P := by have := HG3.out.size; omega
                  have hluP : P < u4.heap.size := (Array.getElem?_eq_some_iff.1 RP.out).1
                  have hne : Q ≠ P := by have := (Array.getElem?_eq_some_iff.1 RQ.out).1; omega
                  have RQ := Lib.hid (row_below2 hbn.out RQ.out)
                  have hluQ : Q < u4.heap.size := (Array.getElem?_eq_some_iff.1 RQ.out).1
                  have hoP1 := opx_offOf HO1.out (P := P) (by omega)
                  have HO1 := Lib.hid (HO1.out.below hbn.out)
                  have hoP2 := opx_offOf HO2.out (P := P) (by omega)
                  have HO2 := Lib.hid (HO2.out.below hbn.out)
                  clear hv1 hX1 hbn ltn
                  refine hK.out _ _ ?_
                  clear hK K
                  try simp only [Act.put, List.setIfInBounds_toArray, List.set_cons_zero, List.set_cons_succ]
                  refine wpAnyU_ready (rs := [8]) (by kernel_rfl) rfl ?_
                  refine AllReadyU.free la8 rfl (by kernel_rfl) (fun K hK => ?_) ?_
                  · refine step_store_row rfl 38 _ _ rfl P _ rfl rfl 38 #[.int .i64 0, .int .i64 0, .int .i64 0, .int .u64 0, .int .i64 0, .slice none 0 0, .slice none 0 0] RP.out (by kernel_rfl) rfl (by simp [Value.oneCell']) ?_
                    refine hK.out _ _ ?_
                    clear hK K
                    try simp only [Act.put, List.setIfInBounds_toArray, List.set_cons_zero, List.set_cons_succ]
                    refine wpAnyU_ready (rs := [9]) (by kernel_rfl) rfl ?_
                    refine AllReadyU.free la9 rfl (by kernel_rfl) (fun K hK => ?_) ?_
                    · have RQ2 : Hid ((u4.setRow P #[.int .i64 a.kind, .int .i64 a.mode, .int .i64 a.chan, .int .u64 a.val, .int .i64 a.dl, .slice p1 a.cases.length c1, .slice q1 a.draws.length d1]).heap[Q]? = some (.cells #[.int .i64 0, .int .i64 0, .int .i64 0, .int .u64 0, .int .i64 0, .slice none 0 0, .slice none 0 0] 38 (0, 0))) := (setRow_other u4 P Q #[.int .i64 a.kind, .int .i64 a.mode, .int .i64 a.chan, .int .u64 a.val, .int .i64 a.dl, .slice p1 a.cases.length c1, .slice q1 a.draws.length d1] (by omega)).trans RQ.out
                      refine step_store_row rfl 38 _ _ rfl Q _ rfl rfl 38 #[.int .i64 0, .int .i64 0, .int .i64 0, .int .u64 0, .int .i64 0, .slice none 0 0, .slice none 0 0] RQ2.out (by kernel_rfl) rfl (by simp [Value.oneCell']) ?_
                      refine hK.out _ _ ?_
                      clear hK K
                      try simp only [Act.put, List.setIfInBounds_toArray, List.set_cons_zero, List.set_cons_succ]
                      refine wpAnyU_done (by kernel_rfl) ?_ _
                      go_wp2_with fail
                      go_meet
                      exact ⟨P, Q, a, b, p1, q1, p2, q2, c1, d1, c2, d2, rfl, rfl, hlP, hlQ, (setRow_other _ Q P #[.int .i64 b.kind, .int .i64 b.mode, .int .i64 b.chan, .int .u64 b.val, .int .i64 b.dl, .slice p2 b.cases.length c2, .slice q2 b.draws.length d2] (by omega)).trans (setRow_heap _ _ _ _ _ (0, 0) RP.out), setRow_heap _ _ _ _ _ (0, 0) RQ2.out, opx_put (opx_put HO1.out hoP1) hoQ1, opx_put (opx_put HO2.out hoP2) hoQ2, ⟨HD1.out, HD2.out⟩, grownBy_of_new (grownBy_of_new HG4.out (row_grown _ P _) (fun k hk => by cases hk; exact hxP)) (row_grown _ Q _) (fun k hk => by cases hk; exact hxQ), codes_grown (codes_grown HI4.out.code (row_grown _ P _) (B := g + 1) (fun k hk => by cases hk; omega) (Nat.lt_succ_self g)) (row_grown _ Q _) (B := g + 1) (fun k hk => by cases hk; omega) (Nat.lt_succ_self g)⟩
                    exact AllReadyU.nil
                  exact AllReadyU.nil
                exact AllReadyU.nil
              exact AllReadyU.nil
            refine AllReadyU.cons la6 rfl (fun K hK => ?_) ?_
            · go_simp
              obtain ⟨u2, P, hv1, hX1, RP, hbn, ltn⟩ := alloc_pack u1 (.cells #[.int .i64 0, .int .i64 0, .int .i64 0, .int .u64 0, .int .i64 0, .slice none 0 0, .slice none 0 0] 38)
              rw [hv1, hX1]
              have HI2 := Lib.hid (HI1.out.over hbn.out)
              have HG2 := Lib.hid (grownBy_of_below HG1.out (hbn.out.mono HG1.out.size))
              have hlP : g < P := by have := HI1.out.code.lt; omega
              have hxP : Wx.heap.size ≤ P := by have := HG1.out.size; omega
              have hluP : P < u2.heap.size := (Array.getElem?_eq_some_iff.1 RP.out).1
              have hoP1 := opx_offOf HO1.out (P := P) (by omega)
              have HO1 := Lib.hid (HO1.out.below hbn.out)
              clear hv1 hX1 hbn ltn
              refine hK.out _ _ ?_ (fun hSU3 => ?_)
              · exact KS.out _ HI2.out.cr
              clear hK K hSU2
              try simp only [Act.put, List.setIfInBounds_toArray, List.set_cons_zero, List.set_cons_succ]
              refine wpAnyU_ready (rs := [5, 7]) (by kernel_rfl) rfl ?_
              refine AllReadyU.free la5 rfl (by kernel_rfl) (fun K hK => ?_) ?_
              · go_simp
                go_at_call 15
                refine (opE g _ c u2 HI2.out.code HI2.out.conf HCL.out).mono ?_
                rintro e u3 ⟨uo, b, rfl, hop, hgd, hcA, hgA⟩
                have HI3 := Lib.hid (HI2.out.draw hgA hcA)
                have HG3 := Lib.hid (grownBy_trans HG2.out hgA)
                have HD2 := Lib.hid hgd
                have HO2 := Lib.hid (hop.opx HI2.out.code.lt)
                obtain ⟨vo1, vo2, rfl, hoc, hod, hn1, hn2⟩ := hop
                obtain ⟨p2, c2, rfl⟩ := hoc.len
                obtain ⟨q2, d2, rfl, -⟩ := hod.len
                have HO1 := Lib.hid (HO1.out.grown hgA)
                have RP := Lib.hid (row_keep hgA RP.out (by omega))
                have hoP2 : offB P (.slice p2 b.cases.length c2) ∧ offB P (.slice q2 b.draws.length d2) := ⟨hn1.off hluP, hn2.off hluP⟩
                have hluP : P < u3.heap.size := (Array.getElem?_eq_some_iff.1 RP.out).1
                clear hoc hod hgd hcA hgA hn1 hn2
                refine hK.out _ _ ?_
                clear hK K hSU3
                try simp only [Act.put, List.setIfInBounds_toArray, List.set_cons_zero, List.set_cons_succ]
                refine wpAnyU_ready (rs := [7]) (by kernel_rfl) rfl ?_
                refine AllReadyU.free la7 rfl (by kernel_rfl) (fun K hK => ?_) ?_
                · go_simp
                  obtain ⟨u4, Q, hv1, hX1, RQ, hbn, ltn⟩ := alloc_pack u3 (.cells #[.int .i64 0, .int .i64 0, .int .i64 0, .int .u64 0, .int .i64 0, .slice none 0 0, .slice none 0 0] 38)
                  rw [hv1, hX1]
                  have HI4 := Lib.hid (HI3.out.over hbn.out)
                  have HG4 := Lib.hid (grownBy_of_below HG3.out (hbn.out.mono HG3.out.size))
                  have hlQ : g < Q := by have := HI3.out.code.lt; omega
                  have hxQ : Wx.heap.size ≤ Q := by have := HG3.out.size; omega
                  have hluQ : Q < u4.heap.size := (Array.getElem?_eq_some_iff.1 RQ.out).1
                  have hne : P ≠ Q := by have := (Array.getElem?_eq_some_iff.1 RP.out).1; omega
                  have RP := Lib.hid (row_below2 hbn.out RP.out)
                  have hluP : P < u4.heap.size := (Array.getElem?_eq_some_iff.1 RP.out).1
                  have hoQ1 := opx_offOf HO1.out (P := Q) (by omega)
                  have HO1 := Lib.hid (HO1.out.below hbn.out)
                  have hoQ2 := opx_offOf HO2.out (P := Q) (by omega)
                  have HO2 := Lib.hid (HO2.out.below hbn.out)
                  clear hv1 hX1 hbn ltn
                  refine hK.out _ _ ?_
                  clear hK K
                  try simp only [Act.put, List.setIfInBounds_toArray, List.set_cons_zero, List.set_cons_succ]
                  refine wpAnyU_ready (rs := [8]) (by kernel_rfl) rfl ?_
                  refine AllReadyU.free la8 rfl (by kernel_rfl) (fun K hK => ?_) ?_
                  · refine step_store_row rfl 38 _ _ rfl P _ rfl rfl 38 #[.int .i64 0, .int .i64 0, .int .i64 0, .int .u64 0, .int .i64 0, .slice none 0 0, .slice none 0 0] RP.out (by kernel_rfl) rfl (by simp [Value.oneCell']) ?_
                    refine hK.out _ _ ?_
                    clear hK K
                    try simp only [Act.put, List.setIfInBounds_toArray, List.set_cons_zero, List.set_cons_succ]
                    refine wpAnyU_ready (rs := [9]) (by kernel_rfl) rfl ?_
                    refine AllReadyU.free la9 rfl (by kernel_rfl) (fun K hK => ?_) ?_
                    · have RQ2 : Hid ((u4.setRow P #[.int .i64 a.kind, .int .i64 a.mode, .int .i64 a.chan, .int .u64 a.val, .int .i64 a.dl, .slice p1 a.cases.length c1, .slice q1 a.draws.length d1]).heap[Q]? = some (.cells #[.int .i64 0, .int .i64 0, .int .i64 0, .int .u64 0, .int .i64 0, .slice none 0 0, .slice none 0 0] 38 (0, 0))) := (setRow_other u4 P Q #[.int .i64 a.kind, .int .i64 a.mode, .int .i64 a.chan, .int .u64 a.val, .int .i64 a.dl, .slice p1 a.cases.length c1, .slice q1 a.draws.length d1] (by omega)).trans RQ.out
                      refine step_store_row rfl 38 _ _ rfl Q _ rfl rfl 38 #[.int .i64 0, .int .i64 0, .int .i64 0, .int .u64 0, .int .i64 0, .slice none 0 0, .slice none 0 0] RQ2.out (by kernel_rfl) rfl (by simp [Value.oneCell']) ?_
                      refine hK.out _ _ ?_
                      clear hK K
                      try simp only [Act.put, List.setIfInBounds_toArray, List.set_cons_zero, List.set_cons_succ]
                      refine wpAnyU_done (by kernel_rfl) ?_ _
                      go_wp2_with fail
                      go_meet
                      exact ⟨P, Q, a, b, p1, q1, p2, q2, c1, d1, c2, d2, rfl, rfl, hlP, hlQ, (setRow_other _ Q P #[.int .i64 b.kind, .int .i64 b.mode, .int .i64 b.chan, .int .u64 b.val, .int .i64 b.dl, .slice p2 b.cases.length c2, .slice q2 b.draws.length d2] (by omega)).trans (setRow_heap _ _ _ _ _ (0, 0) RP.out), setRow_heap _ _ _ _ _ (0, 0) RQ2.out, opx_put (opx_put HO1.out hoP1) hoQ1, opx_put (opx_put HO2.out hoP2) hoQ2, ⟨HD1.out, HD2.out⟩, grownBy_of_new (grownBy_of_new HG4.out (row_grown _ P _) (fun k hk => by cases hk; exact hxP)) (row_grown _ Q _) (fun k hk => by cases hk; exact hxQ), codes_grown (codes_grown HI4.out.code (row_grown _ P _) (B := g + 1) (fun k hk => by cases hk; omega) (Nat.lt_succ_self g)) (row_grown _ Q _) (B := g + 1) (fun k hk => by cases hk; omega) (Nat.lt_succ_self g)⟩
                    exact AllReadyU.nil
                  exact AllReadyU.nil
                exact AllReadyU.nil
              refine AllReadyU.cons la7 rfl (fun K hK => ?_) ?_
              · go_simp
                obtain ⟨u3, Q, hv1, hX1, RQ, hbn, ltn⟩ := alloc_pack u2 (.cells #[.int .i64 0, .int .i64 0, .int .i64 0, .int .u64 0, .int .i64 0, .slice none 0 0, .slice none 0 0] 38)
                rw [hv1, hX1]
                have HI3 := Lib.hid (HI2.out.over hbn.out)
                have HG3 := Lib.hid (grownBy_of_below HG2.out (hbn.out.mono HG2.out.size))
                have hlQ : g < Q := by have := HI2.out.code.lt; omega
                have hxQ : Wx.heap.size ≤ Q := by have := HG2.out.size; omega
                have hluQ : Q < u3.heap.size := (Array.getElem?_eq_some_iff.1 RQ.out).1
                have hne : P ≠ Q := by have := (Array.getElem?_eq_some_iff.1 RP.out).1; omega
                have RP := Lib.hid (row_below2 hbn.out RP.out)
                have hluP : P < u3.heap.size := (Array.getElem?_eq_some_iff.1 RP.out).1
                have hoQ1 := opx_offOf HO1.out (P := Q) (by omega)
                have HO1 := Lib.hid (HO1.out.below hbn.out)
                clear hv1 hX1 hbn ltn
                refine hK.out _ _ ?_ (fun hSU4 => ?_)
                · exact KS.out _ HI3.out.cr
                clear hK K hSU3
                try simp only [Act.put, List.setIfInBounds_toArray, List.set_cons_zero, List.set_cons_succ]
                refine wpAnyU_ready (rs := [5]) (by kernel_rfl) rfl ?_
                refine AllReadyU.free la5 rfl (by kernel_rfl) (fun K hK => ?_) ?_
                · go_simp
                  go_at_call 15
                  refine (opE g _ c u3 HI3.out.code HI3.out.conf HCL.out).mono ?_
                  rintro e u4 ⟨uo, b, rfl, hop, hgd, hcA, hgA⟩
                  have HI4 := Lib.hid (HI3.out.draw hgA hcA)
                  have HG4 := Lib.hid (grownBy_trans HG3.out hgA)
                  have HD2 := Lib.hid hgd
                  have HO2 := Lib.hid (hop.opx HI3.out.code.lt)
                  obtain ⟨vo1, vo2, rfl, hoc, hod, hn1, hn2⟩ := hop
                  obtain ⟨p2, c2, rfl⟩ := hoc.len
                  obtain ⟨q2, d2, rfl, -⟩ := hod.len
                  have HO1 := Lib.hid (HO1.out.grown hgA)
                  have RP := Lib.hid (row_keep hgA RP.out (by omega))
                  have RQ := Lib.hid (row_keep hgA RQ.out (by omega))
                  have hoP2 : offB P (.slice p2 b.cases.length c2) ∧ offB P (.slice q2 b.draws.length d2) := ⟨hn1.off hluP, hn2.off hluP⟩
                  have hluP : P < u4.heap.size := (Array.getElem?_eq_some_iff.1 RP.out).1
                  have hoQ2 : offB Q (.slice p2 b.cases.length c2) ∧ offB Q (.slice q2 b.draws.length d2) := ⟨hn1.off hluQ, hn2.off hluQ⟩
                  have hluQ : Q < u4.heap.size := (Array.getElem?_eq_some_iff.1 RQ.out).1
                  clear hoc hod hgd hcA hgA hn1 hn2
                  refine hK.out _ _ ?_
                  clear hK K hSU4
                  try simp only [Act.put, List.setIfInBounds_toArray, List.set_cons_zero, List.set_cons_succ]
                  refine wpAnyU_ready (rs := [8]) (by kernel_rfl) rfl ?_
                  refine AllReadyU.free la8 rfl (by kernel_rfl) (fun K hK => ?_) ?_
                  · refine step_store_row rfl 38 _ _ rfl P _ rfl rfl 38 #[.int .i64 0, .int .i64 0, .int .i64 0, .int .u64 0, .int .i64 0, .slice none 0 0, .slice none 0 0] RP.out (by kernel_rfl) rfl (by simp [Value.oneCell']) ?_
                    refine hK.out _ _ ?_
                    clear hK K
                    try simp only [Act.put, List.setIfInBounds_toArray, List.set_cons_zero, List.set_cons_succ]
                    refine wpAnyU_ready (rs := [9]) (by kernel_rfl) rfl ?_
                    refine AllReadyU.free la9 rfl (by kernel_rfl) (fun K hK => ?_) ?_
                    · have RQ2 : Hid ((u4.setRow P #[.int .i64 a.kind, .int .i64 a.mode, .int .i64 a.chan, .int .u64 a.val, .int .i64 a.dl, .slice p1 a.cases.length c1, .slice q1 a.draws.length d1]).heap[Q]? = some (.cells #[.int .i64 0, .int .i64 0, .int .i64 0, .int .u64 0, .int .i64 0, .slice none 0 0, .slice none 0 0] 38 (0, 0))) := (setRow_other u4 P Q #[.int .i64 a.kind, .int .i64 a.mode, .int .i64 a.chan, .int .u64 a.val, .int .i64 a.dl, .slice p1 a.cases.length c1, .slice q1 a.draws.length d1] (by omega)).trans RQ.out
                      refine step_store_row rfl 38 _ _ rfl Q _ rfl rfl 38 #[.int .i64 0, .int .i64 0, .int .i64 0, .int .u64 0, .int .i64 0, .slice none 0 0, .slice none 0 0] RQ2.out (by kernel_rfl) rfl (by simp [Value.oneCell']) ?_
                      refine hK.out _ _ ?_
                      clear hK K
                      try simp only [Act.put, List.setIfInBounds_toArray, List.set_cons_zero, List.set_cons_succ]
                      refine wpAnyU_done (by kernel_rfl) ?_ _
                      go_wp2_with fail
                      go_meet
                      exact ⟨P, Q, a, b, p1, q1, p2, q2, c1, d1, c2, d2, rfl, rfl, hlP, hlQ, (setRow_other _ Q P #[.int .i64 b.kind, .int .i64 b.mode, .int .i64 b.chan, .int .u64 b.val, .int .i64 b.dl, .slice p2 b.cases.length c2, .slice q2 b.draws.length d2] (by omega)).trans (setRow_heap _ _ _ _ _ (0, 0) RP.out), setRow_heap _ _ _ _ _ (0, 0) RQ2.out, opx_put (opx_put HO1.out hoP1) hoQ1, opx_put (opx_put HO2.out hoP2) hoQ2, ⟨HD1.out, HD2.out⟩, grownBy_of_new (grownBy_of_new HG4.out (row_grown _ P _) (fun k hk => by cases hk; exact hxP)) (row_grown _ Q _) (fun k hk => by cases hk; exact hxQ), codes_grown (codes_grown HI4.out.code (row_grown _ P _) (B := g + 1) (fun k hk => by cases hk; omega) (Nat.lt_succ_self g)) (row_grown _ Q _) (B := g + 1) (fun k hk => by cases hk; omega) (Nat.lt_succ_self g)⟩
                    exact AllReadyU.nil
                  exact AllReadyU.nil
                exact AllReadyU.nil
              exact AllReadyU.nil
            refine AllReadyU.cons la7 rfl (fun K hK => ?_) ?_
            · go_simp
              obtain ⟨u2, Q, hv1, hX1, RQ, hbn, ltn⟩ := alloc_pack u1 (.cells #[.int .i64 0, .int .i64 0, .int .i64 0, .int .u64 0, .int .i64 0, .slice none 0 0, .slice none 0 0] 38)
              rw [hv1, hX1]
              have HI2 := Lib.hid (HI1.out.over hbn.out)
              have HG2 := Lib.hid (grownBy_of_below HG1.out (hbn.out.mono HG1.out.size))
              have hlQ : g < Q := by have := HI1.out.code.lt; omega
              have hxQ : Wx.heap.size ≤ Q := by have := HG1.out.size; omega
              have hluQ : Q < u2.heap.size := (Array.getElem?_eq_some_iff.1 RQ.out).1
              have hoQ1 := opx_offOf HO1.out (P := Q) (by omega)
              have HO1 := Lib.hid (HO1.out.below hbn.out)
              clear hv1 hX1 hbn ltn
              refine hK.out _ _ ?_ (fun hSU5 => ?_)
              · exact KS.out _ HI2.out.cr
              clear hK K hSU2
              try simp only [Act.put, List.setIfInBounds_toArray, List.set_cons_zero, List.set_cons_succ]
              refine wpAnyU_ready (rs := [5, 6]) (by kernel_rfl) rfl ?_
              refine AllReadyU.free la5 rfl (by kernel_rfl) (fun K hK => ?_) ?_
              · go_simp
                go_at_call 15
                refine (opE g _ c u2 HI2.out.code HI2.out.conf HCL.out).mono ?_
                rintro e u3 ⟨uo, b, rfl, hop, hgd, hcA, hgA⟩
                have HI3 := Lib.hid (HI2.out.draw hgA hcA)
                have HG3 := Lib.hid (grownBy_trans HG2.out hgA)
                have HD2 := Lib.hid hgd
                have HO2 := Lib.hid (hop.opx HI2.out.code.lt)
                obtain ⟨vo1, vo2, rfl, hoc, hod, hn1, hn2⟩ := hop
                obtain ⟨p2, c2, rfl⟩ := hoc.len
                obtain ⟨q2, d2, rfl, -⟩ := hod.len
                have HO1 := Lib.hid (HO1.out.grown hgA)
                have RQ := Lib.hid (row_keep hgA RQ.out (by omega))
                have hoQ2 : offB Q (.slice p2 b.cases.length c2) ∧ offB Q (.slice q2 b.draws.length d2) := ⟨hn1.off hluQ, hn2.off hluQ⟩
                have hluQ : Q < u3.heap.size := (Array.getElem?_eq_some_iff.1 RQ.out).1
                clear hoc hod hgd hcA hgA hn1 hn2
                refine hK.out _ _ ?_
                clear hK K hSU5
                try simp only [Act.put, List.setIfInBounds_toArray, List.set_cons_zero, List.set_cons_succ]
                refine wpAnyU_ready (rs := [6]) (by kernel_rfl) rfl ?_
                refine AllReadyU.free la6 rfl (by kernel_rfl) (fun K hK => ?_) ?_
                · go_simp
                  obtain ⟨u4, P, hv1, hX1, RP, hbn, ltn⟩ := alloc_pack u3 (.cells #[.int .i64 0, .int .i64 0, .int .i64 0, .int .u64 0, .int .i64 0, .slice none 0 0, .slice none 0 0] 38)
                  rw [hv1, hX1]
                  have HI4 := Lib.hid (HI3.out.over hbn.out)
                  have HG4 := Lib.hid (grownBy_of_below HG3.out (hbn.out.mono HG3.out.size))
                  have hlP : g < P := by have := HI3.out.code.lt; omega
                  have hxP : Wx.heap.size ≤ P := by have := HG3.out.size; omega
                  have hluP : P < u4.heap.size := (Array.getElem?_eq_some_iff.1 RP.out).1
                  have hne : Q ≠ P := by have := (Array.getElem?_eq_some_iff.1 RQ.out).1; omega
                  have RQ := Lib.hid (row_below2 hbn.out RQ.out)
                  have hluQ : Q < u4.heap.size := (Array.getElem?_eq_some_iff.1 RQ.out).1
                  have hoP1 := opx_offOf HO1.out (P := P) (by omega)
                  have HO1 := Lib.hid (HO1.out.below hbn.out)
                  have hoP2 := opx_offOf HO2.out (P := P) (by omega)
                  have HO2 := Lib.hid (HO2.out.below hbn.out)
                  clear hv1 hX1 hbn ltn
                  refine hK.out _ _ ?_
                  clear hK K
                  try simp only [Act.put, List.setIfInBounds_toArray, List.set_cons_zero, List.set_cons_succ]
                  refine wpAnyU_ready (rs := [8]) (by kernel_rfl) rfl ?_
                  refine AllReadyU.free la8 rfl (by kernel_rfl) (fun K hK => ?_) ?_
                  · refine step_store_row rfl 38 _ _ rfl P _ rfl rfl 38 #[.int .i64 0, .int .i64 0, .int .i64 0, .int .u64 0, .int .i64 0, .slice none 0 0, .slice none 0 0] RP.out (by kernel_rfl) rfl (by simp [Value.oneCell']) ?_
                    refine hK.out _ _ ?_
                    clear hK K
                    try simp only [Act.put, List.setIfInBounds_toArray, List.set_cons_zero, List.set_cons_succ]
                    refine wpAnyU_ready (rs := [9]) (by kernel_rfl) rfl ?_
                    refine AllReadyU.free la9 rfl (by kernel_rfl) (fun K hK => ?_) ?_
                    · have RQ2 : Hid ((u4.setRow P #[.int .i64 a.kind, .int .i64 a.mode, .int .i64 a.chan, .int .u64 a.val, .int .i64 a.dl, .slice p1 a.cases.length c1, .slice q1 a.draws.length d1]).heap[Q]? = some (.cells #[.int .i64 0, .int .i64 0, .int .i64 0, .int .u64 0, .int .i64 0, .slice none 0 0, .slice none 0 0] 38 (0, 0))) := (setRow_other u4 P Q #[.int .i64 a.kind, .int .i64 a.mode, .int .i64 a.chan, .int .u64 a.val, .int .i64 a.dl, .slice p1 a.cases.length c1, .slice q1 a.draws.length d1] (by omega)).trans RQ.out
                      refine step_store_row rfl 38 _ _ rfl Q _ rfl rfl 38 #[.int .i64 0, .int .i64 0, .int .i64 0, .int .u64 0, .int .i64 0, .slice none 0 0, .slice none 0 0] RQ2.out (by kernel_rfl) rfl (by simp [Value.oneCell']) ?_
                      refine hK.out _ _ ?_
                      clear hK K
                      try simp only [Act.put, List.setIfInBounds_toArray, List.set_cons_zero, List.set_cons_succ]
                      refine wpAnyU_done (by kernel_rfl) ?_ _
                      go_wp2_with fail
                      go_meet
                      exact ⟨P, Q, a, b, p1, q1, p2, q2, c1, d1, c2, d2, rfl, rfl, hlP, hlQ, (setRow_other _ Q P #[.int .i64 b.kind, .int .i64 b.mode, .int .i64 b.chan, .int .u64 b.val, .int .i64 b.dl, .slice p2 b.cases.length c2, .slice q2 b.draws.length d2] (by omega)).trans (setRow_heap _ _ _ _ _ (0, 0) RP.out), setRow_heap _ _ _ _ _ (0, 0) RQ2.out, opx_put (opx_put HO1.out hoP1) hoQ1, opx_put (opx_put HO2.out hoP2) hoQ2, ⟨HD1.out, HD2.out⟩, grownBy_of_new (grownBy_of_new HG4.out (row_grown _ P _) (fun k hk => by cases hk; exact hxP)) (row_grown _ Q _) (fun k hk => by cases hk; exact hxQ), codes_grown (codes_grown HI4.out.code (row_grown _ P _) (B := g + 1) (fun k hk => by cases hk; omega) (Nat.lt_succ_self g)) (row_grown _ Q _) (B := g + 1) (fun k hk => by cases hk; omega) (Nat.lt_succ_self g)⟩
                    exact AllReadyU.nil
                  exact AllReadyU.nil
                exact AllReadyU.nil
              refine AllReadyU.cons la6 rfl (fun K hK => ?_) ?_
              · go_simp
                obtain ⟨u3, P, hv1, hX1, RP, hbn, ltn⟩ := alloc_pack u2 (.cells #[.int .i64 0, .int .i64 0, .int .i64 0, .int .u64 0, .int .i64 0, .slice none 0 0, .slice none 0 0] 38)
                rw [hv1, hX1]
                have HI3 := Lib.hid (HI2.out.over hbn.out)
                have HG3 := Lib.hid (grownBy_of_below HG2.out (hbn.out.mono HG2.out.size))
                have hlP : g < P := by have := HI2.out.code.lt; omega
                have hxP : Wx.heap.size ≤ P := by have := HG2.out.size; omega
                have hluP : P < u3.heap.size := (Array.getElem?_eq_some_iff.1 RP.out).1
                have hne : Q ≠ P := by have := (Array.getElem?_eq_some_iff.1 RQ.out).1; omega
                have RQ := Lib.hid (row_below2 hbn.out RQ.out)
                have hluQ : Q < u3.heap.size := (Array.getElem?_eq_some_iff.1 RQ.out).1
                have hoP1 := opx_offOf HO1.out (P := P) (by omega)
                have HO1 := Lib.hid (HO1.out.below hbn.out)
                clear hv1 hX1 hbn ltn
                refine hK.out _ _ ?_ (fun hSU6 => ?_)
                · exact KS.out _ HI3.out.cr
                clear hK K hSU5
                try simp only [Act.put, List.setIfInBounds_toArray, List.set_cons_zero, List.set_cons_succ]
                refine wpAnyU_ready (rs := [5]) (by kernel_rfl) rfl ?_
                refine AllReadyU.free la5 rfl (by kernel_rfl) (fun K hK => ?_) ?_
                · go_simp
                  go_at_call 15
                  refine (opE g _ c u3 HI3.out.code HI3.out.conf HCL.out).mono ?_
                  rintro e u4 ⟨uo, b, rfl, hop, hgd, hcA, hgA⟩
                  have HI4 := Lib.hid (HI3.out.draw hgA hcA)
                  have HG4 := Lib.hid (grownBy_trans HG3.out hgA)
                  have HD2 := Lib.hid hgd
                  have HO2 := Lib.hid (hop.opx HI3.out.code.lt)
                  obtain ⟨vo1, vo2, rfl, hoc, hod, hn1, hn2⟩ := hop
                  obtain ⟨p2, c2, rfl⟩ := hoc.len
                  obtain ⟨q2, d2, rfl, -⟩ := hod.len
                  have HO1 := Lib.hid (HO1.out.grown hgA)
                  have RP := Lib.hid (row_keep hgA RP.out (by omega))
                  have RQ := Lib.hid (row_keep hgA RQ.out (by omega))
                  have hoP2 : offB P (.slice p2 b.cases.length c2) ∧ offB P (.slice q2 b.draws.length d2) := ⟨hn1.off hluP, hn2.off hluP⟩
                  have hluP : P < u4.heap.size := (Array.getElem?_eq_some_iff.1 RP.out).1
                  have hoQ2 : offB Q (.slice p2 b.cases.length c2) ∧ offB Q (.slice q2 b.draws.length d2) := ⟨hn1.off hluQ, hn2.off hluQ⟩
                  have hluQ : Q < u4.heap.size := (Array.getElem?_eq_some_iff.1 RQ.out).1
                  clear hoc hod hgd hcA hgA hn1 hn2
                  refine hK.out _ _ ?_
                  clear hK K hSU6
                  try simp only [Act.put, List.setIfInBounds_toArray, List.set_cons_zero, List.set_cons_succ]
                  refine wpAnyU_ready (rs := [8]) (by kernel_rfl) rfl ?_
                  refine AllReadyU.free la8 rfl (by kernel_rfl) (fun K hK => ?_) ?_
                  · refine step_store_row rfl 38 _ _ rfl P _ rfl rfl 38 #[.int .i64 0, .int .i64 0, .int .i64 0, .int .u64 0, .int .i64 0, .slice none 0 0, .slice none 0 0] RP.out (by kernel_rfl) rfl (by simp [Value.oneCell']) ?_
                    refine hK.out _ _ ?_
                    clear hK K
                    try simp only [Act.put, List.setIfInBounds_toArray, List.set_cons_zero, List.set_cons_succ]
                    refine wpAnyU_ready (rs := [9]) (by kernel_rfl) rfl ?_
                    refine AllReadyU.free la9 rfl (by kernel_rfl) (fun K hK => ?_) ?_
                    · have RQ2 : Hid ((u4.setRow P #[.int .i64 a.kind, .int .i64 a.mode, .int .i64 a.chan, .int .u64 a.val, .int .i64 a.dl, .slice p1 a.cases.length c1, .slice q1 a.draws.length d1]).heap[Q]? = some (.cells #[.int .i64 0, .int .i64 0, .int .i64 0, .int .u64 0, .int .i64 0, .slice none 0 0, .slice none 0 0] 38 (0, 0))) := (setRow_other u4 P Q #[.int .i64 a.kind, .int .i64 a.mode, .int .i64 a.chan, .int .u64 a.val, .int .i64 a.dl, .slice p1 a.cases.length c1, .slice q1 a.draws.length d1] (by omega)).trans RQ.out
                      refine step_store_row rfl 38 _ _ rfl Q _ rfl rfl 38 #[.int .i64 0, .int .i64 0, .int .i64 0, .int .u64 0, .int .i64 0, .slice none 0 0, .slice none 0 0] RQ2.out (by kernel_rfl) rfl (by simp [Value.oneCell']) ?_
                      refine hK.out _ _ ?_
                      clear hK K
                      try simp only [Act.put, List.setIfInBounds_toArray, List.set_cons_zero, List.set_cons_succ]
                      refine wpAnyU_done (by kernel_rfl) ?_ _
                      go_wp2_with fail
                      go_meet
                      exact ⟨P, Q, a, b, p1, q1, p2, q2, c1, d1, c2, d2, rfl, rfl, hlP, hlQ, (setRow_other _ Q P #[.int .i64 b.kind, .int .i64 b.mode, .int .i64 b.chan, .int .u64 b.val, .int .i64 b.dl, .slice p2 b.cases.length c2, .slice q2 b.draws.length d2] (by omega)).trans (setRow_heap _ _ _ _ _ (0, 0) RP.out), setRow_heap _ _ _ _ _ (0, 0) RQ2.out, opx_put (opx_put HO1.out hoP1) hoQ1, opx_put (opx_put HO2.out hoP2) hoQ2, ⟨HD1.out, HD2.out⟩, grownBy_of_new (grownBy_of_new HG4.out (row_grown _ P _) (fun k hk => by cases hk; exact hxP)) (row_grown _ Q _) (fun k hk => by cases hk; exact hxQ), codes_grown (codes_grown HI4.out.code (row_grown _ P _) (B := g + 1) (fun k hk => by cases hk; omega) (Nat.lt_succ_self g)) (row_grown _ Q _) (B := g + 1) (fun k hk => by cases hk; omega) (Nat.lt_succ_self g)⟩
                    exact AllReadyU.nil
                  exact AllReadyU.nil
                exact AllReadyU.nil
              exact AllReadyU.nil
            exact AllReadyU.nil
          refine AllReadyU.cons la6 rfl (fun K hK => ?_) ?_
          · go_simp
            obtain ⟨u1, P, hv1, hX1, RP, hbn, ltn⟩ := alloc_pack u0 (.cells #[.int .i64 0, .int .i64 0, .int .i64 0, .int .u64 0, .int .i64 0, .slice none 0 0, .slice none 0 0] 38)
            rw [hv1, hX1]
            have HI1 := Lib.hid (HI0.out.over hbn.out)
            have HG1 := Lib.hid (grownBy_of_below HG0.out (hbn.out.mono HG0.out.size))
            have hlP : g < P := by have := HI0.out.code.lt; omega
            have hxP : Wx.heap.size ≤ P := by have := HG0.out.size; omega
            have hluP : P < u1.heap.size := (Array.getElem?_eq_some_iff.1 RP.out).1
            clear hv1 hX1 hbn ltn
            refine hK.out _ _ ?_ (fun hSU7 => ?_)
            · exact KS.out _ HI1.out.cr
            clear hK K hSU1
            try simp only [Act.put, List.setIfInBounds_toArray, List.set_cons_zero, List.set_cons_succ]
            refine wpAnyU_ready (rs := [2, 7]) (by kernel_rfl) rfl ?_
            refine AllReadyU.cons la2 rfl (fun K hK => ?_) ?_
            · go_simp
              go_at_call 15
              refine (opE g _ c u1 HI1.out.code HI1.out.conf HCL.out).mono ?_
              rintro e u2 ⟨uo, a, rfl, hop, hgd, hcA, hgA⟩
              have HI2 := Lib.hid (HI1.out.draw hgA hcA)
              have HG2 := Lib.hid (grownBy_trans HG1.out hgA)
              have HD1 := Lib.hid hgd
              have HO1 := Lib.hid (hop.opx HI1.out.code.lt)
              obtain ⟨vo1, vo2, rfl, hoc, hod, hn1, hn2⟩ := hop
              obtain ⟨p1, c1, rfl⟩ := hoc.len
              obtain ⟨q1, d1, rfl, -⟩ := hod.len
              have RP := Lib.hid (row_keep hgA RP.out (by omega))
              have hoP1 : offB P (.slice p1 a.cases.length c1) ∧ offB P (.slice q1 a.draws.length d1) := ⟨hn1.off hluP, hn2.off hluP⟩
              have hluP : P < u2.heap.size := (Array.getElem?_eq_some_iff.1 RP.out).1
              clear hoc hod hgd hcA hgA hn1 hn2
              refine hK.out _ _ ?_ (fun hSU8 => ?_)
              · exact KS.out _ HI2.out.cr
              clear hK K hSU7
              try simp only [Act.put, List.setIfInBounds_toArray, List.set_cons_zero, List.set_cons_succ]
              refine wpAnyU_ready (rs := [5, 7]) (by kernel_rfl) rfl ?_
              refine AllReadyU.free la5 rfl (by kernel_rfl) (fun K hK => ?_) ?_
              · go_simp
                go_at_call 15
                refine (opE g _ c u2 HI2.out.code HI2.out.conf HCL.out).mono ?_
                rintro e u3 ⟨uo, b, rfl, hop, hgd, hcA, hgA⟩
                have HI3 := Lib.hid (HI2.out.draw hgA hcA)
                have HG3 := Lib.hid (grownBy_trans HG2.out hgA)
                have HD2 := Lib.hid hgd
                have HO2 := Lib.hid (hop.opx HI2.out.code.lt)
                obtain ⟨vo1, vo2, rfl, hoc, hod, hn1, hn2⟩ := hop
                obtain ⟨p2, c2, rfl⟩ := hoc.len
                obtain ⟨q2, d2, rfl, -⟩ := hod.len
                have HO1 := Lib.hid (HO1.out.grown hgA)
                have RP := Lib.hid (row_keep hgA RP.out (by omega))
                have hoP2 : offB P (.slice p2 b.cases.length c2) ∧ offB P (.slice q2 b.draws.length d2) := ⟨hn1.off hluP, hn2.off hluP⟩
                have hluP : P < u3.heap.size := (Array.getElem?_eq_some_iff.1 RP.out).1
                clear hoc hod hgd hcA hgA hn1 hn2
                refine hK.out _ _ ?_
                clear hK K hSU8
                try simp only [Act.put, List.setIfInBounds_toArray, List.set_cons_zero, List.set_cons_succ]
                refine wpAnyU_ready (rs := [7]) (by kernel_rfl) rfl ?_
                refine AllReadyU.free la7 rfl (by kernel_rfl) (fun K hK => ?_) ?_
                · go_simp
                  obtain ⟨u4, Q, hv1, hX1, RQ, hbn, ltn⟩ := alloc_pack u3 (.cells #[.int .i64 0, .int .i64 0, .int .i64 0, .int .u64 0, .int .i64 0, .slice none 0 0, .slice none 0 0] 38)
                  rw [hv1, hX1]
                  have HI4 := Lib.hid (HI3.out.over hbn.out)
                  have HG4 := Lib.hid (grownBy_of_below HG3.out (hbn.out.mono HG3.out.size))
                  have hlQ : g < Q := by have := HI3.out.code.lt; omega
                  have hxQ : Wx.heap.size ≤ Q := by have := HG3.out.size; omega
                  have hluQ : Q < u4.heap.size := (Array.getElem?_eq_some_iff.1 RQ.out).1
                  have hne : P ≠ Q := by have := (Array.getElem?_eq_some_iff.1 RP.out).1; omega
                  have RP := Lib.hid (row_below2 hbn.out RP.out)
                  have hluP : P < u4.heap.size := (Array.getElem?_eq_some_iff.1 RP.out).1
                  have hoQ1 := opx_offOf HO1.out (P := Q) (by omega)
                  have HO1 := Lib.hid (HO1.out.below hbn.out)
                  have hoQ2 := opx_offOf HO2.out (P := Q) (by omega)
                  have HO2 := Lib.hid (HO2.out.below hbn.out)
                  clear hv1 hX1 hbn ltn
                  refine hK.out _ _ ?_
                  clear hK K
                  try simp only [Act.put, List.setIfInBounds_toArray, List.set_cons_zero, List.set_cons_succ]
                  refine wpAnyU_ready (rs := [8]) (by kernel_rfl) rfl ?_
                  refine AllReadyU.free la8 rfl (by kernel_rfl) (fun K hK => ?_) ?_
                  · refine step_store_row rfl 38 _ _ rfl P _ rfl rfl 38 #[.int .i64 0, .int .i64 0, .int .i64 0, .int .u64 0, .int .i64 0, .slice none 0 0, .slice none 0 0] RP.out (by kernel_rfl) rfl (by simp [Value.oneCell']) ?_
                    refine hK.out _ _ ?_
                    clear hK K
                    try simp only [Act.put, List.setIfInBounds_toArray, List.set_cons_zero, List.set_cons_succ]
                    refine wpAnyU_ready (rs := [9]) (by kernel_rfl) rfl ?_
                    refine AllReadyU.free la9 rfl (by kernel_rfl) (fun K hK => ?_) ?_
                    · have RQ2 : Hid ((u4.setRow P #[.int .i64 a.kind, .int .i64 a.mode, .int .i64 a.chan, .int .u64 a.val, .int .i64 a.dl, .slice p1 a.cases.length c1, .slice q1 a.draws.length d1]).heap[Q]? = some (.cells #[.int .i64 0, .int .i64 0, .int .i64 0, .int .u64 0, .int .i64 0, .slice none 0 0, .slice none 0 0] 38 (0, 0))) := (setRow_other u4 P Q #[.int .i64 a.kind, .int .i64 a.mode, .int .i64 a.chan, .int .u64 a.val, .int .i64 a.dl, .slice p1 a.cases.length c1, .slice q1 a.draws.length d1] (by omega)).trans RQ.out
                      refine step_store_row rfl 38 _ _ rfl Q _ rfl rfl 38 #[.int .i64 0, .int .i64 0, .int .i64 0, .int .u64 0, .int .i64 0, .slice none 0 0, .slice none 0 0] RQ2.out (by kernel_rfl) rfl (by simp [Value.oneCell']) ?_
                      refine hK.out _ _ ?_
                      clear hK K
                      try simp only [Act.put, List.setIfInBounds_toArray, List.set_cons_zero, List.set_cons_succ]
                      refine wpAnyU_done (by kernel_rfl) ?_ _
                      go_wp2_with fail
                      go_meet
                      exact ⟨P, Q, a, b, p1, q1, p2, q2, c1, d1, c2, d2, rfl, rfl, hlP, hlQ, (setRow_other _ Q P #[.int .i64 b.kind, .int .i64 b.mode, .int .i64 b.chan, .int .u64 b.val, .int .i64 b.dl, .slice p2 b.cases.length c2, .slice q2 b.draws.length d2] (by omega)).trans (setRow_heap _ _ _ _ _ (0, 0) RP.out), setRow_heap _ _ _ _ _ (0, 0) RQ2.out, opx_put (opx_put HO1.out hoP1) hoQ1, opx_put (opx_put HO2.out hoP2) hoQ2, ⟨HD1.out, HD2.out⟩, grownBy_of_new (grownBy_of_new HG4.out (row_grown _ P _) (fun k hk => by cases hk; exact hxP)) (row_grown _ Q _) (fun k hk => by cases hk; exact hxQ), codes_grown (codes_grown HI4.out.code (row_grown _ P _) (B := g + 1) (fun k hk => by cases hk; omega) (Nat.lt_succ_self g)) (row_grown _ Q _) (B := g + 1) (fun k hk => by cases hk; omega) (Nat.lt_succ_self g)⟩
                    exact AllReadyU.nil
                  exact AllReadyU.nil
                exact AllReadyU.nil
              refine AllReadyU.cons la7 rfl (fun K hK => ?_) ?_
              · go_simp
                obtain ⟨u3, Q, hv1, hX1, RQ, hbn, ltn⟩ := alloc_pack u2 (.cells #[.int .i64 0, .int .i64 0, .int .i64 0, .int .u64 0, .int .i64 0, .slice none 0 0, .slice none 0 0] 38)
                rw [hv1, hX1]
                have HI3 := Lib.hid (HI2.out.over hbn.out)
                have HG3 := Lib.hid (grownBy_of_below HG2.out (hbn.out.mono HG2.out.size))
                have hlQ : g < Q := by have := HI2.out.code.lt; omega
                have hxQ : Wx.heap.size ≤ Q := by have := HG2.out.size; omega
                have hluQ : Q < u3.heap.size := (Array.getElem?_eq_some_iff.1 RQ.out).1
                have hne : P ≠ Q := by have := (Array.getElem?_eq_some_iff.1 RP.out).1; omega
                have RP := Lib.hid (row_below2 hbn.out RP.out)
                have hluP : P < u3.heap.size := (Array.getElem?_eq_some_iff.1 RP.out).1
                have hoQ1 := opx_offOf HO1.out (P := Q) (by omega)
                have HO1 := Lib.hid (HO1.out.below hbn.out)
                clear hv1 hX1 hbn ltn
                refine hK.out _ _ ?_ (fun hSU9 => ?_)
                · exact KS.out _ HI3.out.cr
                clear hK K hSU8
                try simp only [Act.put, List.setIfInBounds_toArray, List.set_cons_zero, List.set_cons_succ]
                refine wpAnyU_ready (rs := [5]) (by kernel_rfl) rfl ?_
                refine AllReadyU.free la5 rfl (by kernel_rfl) (fun K hK => ?_) ?_
                · go_simp
                  go_at_call 15
                  refine (opE g _ c u3 HI3.out.code HI3.out.conf HCL.out).mono ?_
                  rintro e u4 ⟨uo, b, rfl, hop, hgd, hcA, hgA⟩
                  have HI4 := Lib.hid (HI3.out.draw hgA hcA)
                  have HG4 := Lib.hid (grownBy_trans HG3.out hgA)
                  have HD2 := Lib.hid hgd
                  have HO2 := Lib.hid (hop.opx HI3.out.code.lt)
                  obtain ⟨vo1, vo2, rfl, hoc, hod, hn1, hn2⟩ := hop
                  obtain ⟨p2, c2, rfl⟩ := hoc.len
                  obtain ⟨q2, d2, rfl, -⟩ := hod.len
                  have HO1 := Lib.hid (HO1.out.grown hgA)
                  have RP := Lib.hid (row_keep hgA RP.out (by omega))
                  have RQ := Lib.hid (row_keep hgA RQ.out (by omega))
                  have hoP2 : offB P (.slice p2 b.cases.length c2) ∧ offB P (.slice q2 b.draws.length d2) := ⟨hn1.off hluP, hn2.off hluP⟩
                  have hluP : P < u4.heap.size := (Array.getElem?_eq_some_iff.1 RP.out).1
                  have hoQ2 : offB Q (.slice p2 b.cases.length c2) ∧ offB Q (.slice q2 b.draws.length d2) := ⟨hn1.off hluQ, hn2.off hluQ⟩
                  have hluQ : Q < u4.heap.size := (Array.getElem?_eq_some_iff.1 RQ.out).1
                  clear hoc hod hgd hcA hgA hn1 hn2
                  refine hK.out _ _ ?_
                  clear hK K hSU9
                  try simp only [Act.put, List.setIfInBounds_toArray, List.set_cons_zero, List.set_cons_succ]
                  refine wpAnyU_ready (rs := [8]) (by kernel_rfl) rfl ?_
                  refine AllReadyU.free la8 rfl (by kernel_rfl) (fun K hK => ?_) ?_
                  · refine step_store_row rfl 38 _ _ rfl P _ rfl rfl 38 #[.int .i64 0, .int .i64 0, .int .i64 0, .int .u64 0, .int .i64 0, .slice none 0 0, .slice none 0 0] RP.out (by kernel_rfl) rfl (by simp [Value.oneCell']) ?_
                    refine hK.out _ _ ?_
                    clear hK K
                    try simp only [Act.put, List.setIfInBounds_toArray, List.set_cons_zero, List.set_cons_succ]
                    refine wpAnyU_ready (rs := [9]) (by kernel_rfl) rfl ?_
                    refine AllReadyU.free la9 rfl (by kernel_rfl) (fun K hK => ?_) ?_
                    · have RQ2 : Hid ((u4.setRow P #[.int .i64 a.kind, .int .i64 a.mode, .int .i64 a.chan, .int .u64 a.val, .int .i64 a.dl, .slice p1 a.cases.length c1, .slice q1 a.draws.length d1]).heap[Q]? = some (.cells #[.int .i64 0, .int .i64 0, .int .i64 0, .int .u64 0, .int .i64 0, .slice none 0 0, .slice none 0 0] 38 (0, 0))) := (setRow_other u4 P Q #[.int .i64 a.kind, .int .i64 a.mode, .int .i64 a.chan, .int .u64 a.val, .int .i64 a.dl, .slice p1 a.cases.length c1, .slice q1 a.draws.length d1] (by omega)).trans RQ.out
                      refine step_store_row rfl 38 _ _ rfl Q _ rfl rfl 38 #[.int .i64 0, .int .i64 0, .int .i64 0, .int .u64 0, .int .i64 0, .slice none 0 0, .slice none 0 0] RQ2.out (by kernel_rfl) rfl (by simp [Value.oneCell']) ?_
                      refine hK.out _ _ ?_
                      clear hK K
                      try simp only [Act.put, List.setIfInBounds_toArray, List.set_cons_zero, List.set_cons_succ]
                      refine wpAnyU_done (by kernel_rfl) ?_ _
                      go_wp2_with fail
                      go_meet
                      exact ⟨P, Q, a, b, p1, q1, p2, q2, c1, d1, c2, d2, rfl, rfl, hlP, hlQ, (setRow_other _ Q P #[.int .i64 b.kind, .int .i64 b.mode, .int .i64 b.chan, .int .u64 b.val, .int .i64 b.dl, .slice p2 b.cases.length c2, .slice q2 b.draws.length d2] (by omega)).trans (setRow_heap _ _ _ _ _ (0, 0) RP.out), setRow_heap _ _ _ _ _ (0, 0) RQ2.out, opx_put (opx_put HO1.out hoP1) hoQ1, opx_put (opx_put HO2.out hoP2) hoQ2, ⟨HD1.out, HD2.out⟩, grownBy_of_new (grownBy_of_new HG4.out (row_grown _ P _) (fun k hk => by cases hk; exact hxP)) (row_grown _ Q _) (fun k hk => by cases hk; exact hxQ), codes_grown (codes_grown HI4.out.code (row_grown _ P _) (B := g + 1) (fun k hk => by cases hk; omega) (Nat.lt_succ_self g)) (row_grown _ Q _) (B := g + 1) (fun k hk => by cases hk; omega) (Nat.lt_succ_self g)⟩
                    exact AllReadyU.nil
                  exact AllReadyU.nil
                exact AllReadyU.nil
              exact AllReadyU.nil
            refine AllReadyU.cons la7 rfl (fun K hK => ?_) ?_
            · go_simp
              obtain ⟨u2, Q, hv1, hX1, RQ, hbn, ltn⟩ := alloc_pack u1 (.cells #[.int .i64 0, .int .i64 0, .int .i64 0, .int .u64 0, .int .i64 0, .slice none 0 0, .slice none 0 0] 38)
              rw [hv1, hX1]
              have HI2 := Lib.hid (HI1.out.over hbn.out)
              have HG2 := Lib.hid (grownBy_of_below HG1.out (hbn.out.mono HG1.out.size))
              have hlQ : g < Q := by have := HI1.out.code.lt; omega
              have hxQ : Wx.heap.size ≤ Q := by have := HG1.out.size; omega
              have hluQ : Q < u2.heap.size := (Array.getElem?_eq_some_iff.1 RQ.out).1
              have hne : P ≠ Q := by have := (Array.getElem?_eq_some_iff.1 RP.out).1; omega
              have RP := Lib.hid (row_below2 hbn.out RP.out)
              have hluP : P < u2.heap.size := (Array.getElem?_eq_some_iff.1 RP.out).1
              clear hv1 hX1 hbn ltn
              refine hK.out _ _ ?_ (fun hSU10 => ?_)
              · exact KS.out _ HI2.out.cr
              clear hK K hSU7
              try simp only [Act.put, List.setIfInBounds_toArray, List.set_cons_zero, List.set_cons_succ]
              refine wpAnyU_ready (rs := [2]) (by kernel_rfl) rfl ?_
              refine AllReadyU.cons la2 rfl (fun K hK => ?_) ?_
              · go_simp
                go_at_call 15
                refine (opE g _ c u2 HI2.out.code HI2.out.conf HCL.out).mono ?_
                rintro e u3 ⟨uo, a, rfl, hop, hgd, hcA, hgA⟩
                have HI3 := Lib.hid (HI2.out.draw hgA hcA)
                have HG3 := Lib.hid (grownBy_trans HG2.out hgA)
                have HD1 := Lib.hid hgd
                have HO1 := Lib.hid (hop.opx HI2.out.code.lt)
                obtain ⟨vo1, vo2, rfl, hoc, hod, hn1, hn2⟩ := hop
                obtain ⟨p1, c1, rfl⟩ := hoc.len
                obtain ⟨q1, d1, rfl, -⟩ := hod.len
                have RP := Lib.hid (row_keep hgA RP.out (by omega))
                have RQ := Lib.hid (row_keep hgA RQ.out (by omega))
                have hoP1 : offB P (.slice p1 a.cases.length c1) ∧ offB P (.slice q1 a.draws.length d1) := ⟨hn1.off hluP, hn2.off hluP⟩
                have hluP : P < u3.heap.size := (Array.getElem?_eq_some_iff.1 RP.out).1
                have hoQ1 : offB Q (.slice p1 a.cases.length c1) ∧ offB Q (.slice q1 a.draws.length d1) := ⟨hn1.off hluQ, hn2.off hluQ⟩
                have hluQ : Q < u3.heap.size := (Array.getElem?_eq_some_iff.1 RQ.out).1
                clear hoc hod hgd hcA hgA hn1 hn2
                refine hK.out _ _ ?_ (fun hSU11 => ?_)
                · exact KS.out _ HI3.out.cr
                clear hK K hSU10
                try simp only [Act.put, List.setIfInBounds_toArray, List.set_cons_zero, List.set_cons_succ]
                refine wpAnyU_ready (rs := [5]) (by kernel_rfl) rfl ?_
                refine AllReadyU.free la5 rfl (by kernel_rfl) (fun K hK => ?_) ?_
                · go_simp
                  go_at_call 15
                  refine (opE g _ c u3 HI3.out.code HI3.out.conf HCL.out).mono ?_
                  rintro e u4 ⟨uo, b, rfl, hop, hgd, hcA, hgA⟩
                  have HI4 := Lib.hid (HI3.out.draw hgA hcA)
                  have HG4 := Lib.hid (grownBy_trans HG3.out hgA)
                  have HD2 := Lib.hid hgd
                  have HO2 := Lib.hid (hop.opx HI3.out.code.lt)
                  obtain ⟨vo1, vo2, rfl, hoc, hod, hn1, hn2⟩ := hop
                  obtain ⟨p2, c2, rfl⟩ := hoc.len
                  obtain ⟨q2, d2, rfl, -⟩ := hod.len
                  have HO1 := Lib.hid (HO1.out.grown hgA)
                  have RP := Lib.hid (row_keep hgA RP.out (by omega))
                  have RQ := Lib.hid (row_keep hgA RQ.out (by omega))
                  have hoP2 : offB P (.slice p2 b.cases.length c2) ∧ offB P (.slice q2 b.draws.length d2) := ⟨hn1.off hluP, hn2.off hluP⟩
                  have hluP : P < u4.heap.size := (Array.getElem?_eq_some_iff.1 RP.out).1
                  have hoQ2 : offB Q (.slice p2 b.cases.length c2) ∧ offB Q (.slice q2 b.draws.length d2) := ⟨hn1.off hluQ, hn2.off hluQ⟩
                  have hluQ : Q < u4.heap.size := (Array.getElem?_eq_some_iff.1 RQ.out).1
                  clear hoc hod hgd hcA hgA hn1 hn2
                  refine hK.out _ _ ?_
                  clear hK K hSU11
                  try simp only [Act.put, List.setIfInBounds_toArray, List.set_cons_zero, List.set_cons_succ]
                  refine wpAnyU_ready (rs := [8]) (by kernel_rfl) rfl ?_
                  refine AllReadyU.free la8 rfl (by kernel_rfl) (fun K hK => ?_) ?_
                  · refine step_store_row rfl 38 _ _ rfl P _ rfl rfl 38 #[.int .i64 0, .int .i64 0, .int .i64 0, .int .u64 0, .int .i64 0, .slice none 0 0, .slice none 0 0] RP.out (by kernel_rfl) rfl (by simp [Value.oneCell']) ?_
                    refine hK.out _ _ ?_
                    clear hK K
                    try simp only [Act.put, List.setIfInBounds_toArray, List.set_cons_zero, List.set_cons_succ]
                    refine wpAnyU_ready (rs := [9]) (by kernel_rfl) rfl ?_
                    refine AllReadyU.free la9 rfl (by kernel_rfl) (fun K hK => ?_) ?_
                    · have RQ2 : Hid ((u4.setRow P #[.int .i64 a.kind, .int .i64 a.mode, .int .i64 a.chan, .int .u64 a.val, .int .i64 a.dl, .slice p1 a.cases.length c1, .slice q1 a.draws.length d1]).heap[Q]? = some (.cells #[.int .i64 0, .int .i64 0, .int .i64 0, .int .u64 0, .int .i64 0, .slice none 0 0, .slice none 0 0] 38 (0, 0))) := (setRow_other u4 P Q #[.int .i64 a.kind, .int .i64 a.mode, .int .i64 a.chan, .int .u64 a.val, .int .i64 a.dl, .slice p1 a.cases.length c1, .slice q1 a.draws.length d1] (by omega)).trans RQ.out
                      refine step_store_row rfl 38 _ _ rfl Q _ rfl rfl 38 #[.int .i64 0, .int .i64 0, .int .i64 0, .int .u64 0, .int .i64 0, .slice none 0 0, .slice none 0 0] RQ2.out (by kernel_rfl) rfl (by simp [Value.oneCell']) ?_
                      refine hK.out _ _ ?_
                      clear hK K
                      try simp only [Act.put, List.setIfInBounds_toArray, List.set_cons_zero, List.set_cons_succ]
                      refine wpAnyU_done (by kernel_rfl) ?_ _
                      go_wp2_with fail
                      go_meet
                      exact ⟨P, Q, a, b, p1, q1, p2, q2, c1, d1, c2, d2, rfl, rfl, hlP, hlQ, (setRow_other _ Q P #[.int .i64 b.kind, .int .i64 b.mode, .int .i64 b.chan, .int .u64 b.val, .int .i64 b.dl, .slice p2 b.cases.length c2, .slice q2 b.draws.length d2] (by omega)).trans (setRow_heap _ _ _ _ _ (0, 0) RP.out), setRow_heap _ _ _ _ _ (0, 0) RQ2.out, opx_put (opx_put HO1.out hoP1) hoQ1, opx_put (opx_put HO2.out hoP2) hoQ2, ⟨HD1.out, HD2.out⟩, grownBy_of_new (grownBy_of_new HG4.out (row_grown _ P _) (fun k hk => by cases hk; exact hxP)) (row_grown _ Q _) (fun k hk => by cases hk; exact hxQ), codes_grown (codes_grown HI4.out.code (row_grown _ P _) (B := g + 1) (fun k hk => by cases hk; omega) (Nat.lt_succ_self g)) (row_grown _ Q _) (B := g + 1) (fun k hk => by cases hk; omega) (Nat.lt_succ_self g)⟩
                    exact AllReadyU.nil
                  exact AllReadyU.nil
                exact AllReadyU.nil
              exact AllReadyU.nil
            exact AllReadyU.nil
          refine AllReadyU.cons la7 rfl (fun K hK => ?_) ?_
          · go_simp
            obtain ⟨u1, Q, hv1, hX1, RQ, hbn, ltn⟩ := alloc_pack u0 (.cells #[.int .i64 0, .int .i64 0, .int .i64 0, .int .u64 0, .int .i64 0, .slice none 0 0, .slice none 0 0] 38)
            rw [hv1, hX1]
            have HI1 := Lib.hid (HI0.out.over hbn.out)
            have HG1 := Lib.hid (grownBy_of_below HG0.out (hbn.out.mono HG0.out.size))
            have hlQ : g < Q := by have := HI0.out.code.lt; omega
            have hxQ : Wx.heap.size ≤ Q := by have := HG0.out.size; omega
            have hluQ : Q < u1.heap.size := (Array.getElem?_eq_some_iff.1 RQ.out).1
            clear hv1 hX1 hbn ltn
            refine hK.out _ _ ?_ (fun hSU12 => ?_)
            · exact KS.out _ HI1.out.cr
            clear hK K hSU1
            try simp only [Act.put, List.setIfInBounds_toArray, List.set_cons_zero, List.set_cons_succ]
            refine wpAnyU_ready (rs := [2, 6]) (by kernel_rfl) rfl ?_
            refine AllReadyU.cons la2 rfl (fun K hK => ?_) ?_
            · go_simp
              go_at_call 15
              refine (opE g _ c u1 HI1.out.code HI1.out.conf HCL.out).mono ?_
              rintro e u2 ⟨uo, a, rfl, hop, hgd, hcA, hgA⟩
              have HI2 := Lib.hid (HI1.out.draw hgA hcA)
              have HG2 := Lib.hid (grownBy_trans HG1.out hgA)
              have HD1 := Lib.hid hgd
              have HO1 := Lib.hid (hop.opx HI1.out.code.lt)
              obtain ⟨vo1, vo2, rfl, hoc, hod, hn1, hn2⟩ := hop
              obtain ⟨p1, c1, rfl⟩ := hoc.len
              obtain ⟨q1, d1, rfl, -⟩ := hod.len
              have RQ := Lib.hid (row_keep hgA RQ.out (by omega))
              have hoQ1 : offB Q (.slice p1 a.cases.length c1) ∧ offB Q (.slice q1 a.draws.length d1) := ⟨hn1.off hluQ, hn2.off hluQ⟩
              have hluQ : Q < u2.heap.size := (Array.getElem?_eq_some_iff.1 RQ.out).1
              clear hoc hod hgd hcA hgA hn1 hn2
              refine hK.out _ _ ?_ (fun hSU13 => ?_)
              · exact KS.out _ HI2.out.cr
              clear hK K hSU12
              try simp only [Act.put, List.setIfInBounds_toArray, List.set_cons_zero, List.set_cons_succ]
              refine wpAnyU_ready (rs := [5, 6]) (by kernel_rfl) rfl ?_
              refine AllReadyU.free la5 rfl (by kernel_rfl) (fun K hK => ?_) ?_
              · go_simp
                go_at_call 15
                refine (opE g _ c u2 HI2.out.code HI2.out.conf HCL.out).mono ?_
                rintro e u3 ⟨uo, b, rfl, hop, hgd, hcA, hgA⟩
                have HI3 := Lib.hid (HI2.out.draw hgA hcA)
                have HG3 := Lib.hid (grownBy_trans HG2.out hgA)
                have HD2 := Lib.hid hgd
                have HO2 := Lib.hid (hop.opx HI2.out.code.lt)
                obtain ⟨vo1, vo2, rfl, hoc, hod, hn1, hn2⟩ := hop
                obtain ⟨p2, c2, rfl⟩ := hoc.len
                obtain ⟨q2, d2, rfl, -⟩ := hod.len
                have HO1 := Lib.hid (HO1.out.grown hgA)
                have RQ := Lib.hid (row_keep hgA RQ.out (by omega))
                have hoQ2 : offB Q (.slice p2 b.cases.length c2) ∧ offB Q (.slice q2 b.draws.length d2) := ⟨hn1.off hluQ, hn2.off hluQ⟩
                have hluQ : Q < u3.heap.size := (Array.getElem?_eq_some_iff.1 RQ.out).1
                clear hoc hod hgd hcA hgA hn1 hn2
                refine hK.out _ _ ?_
                clear hK K hSU13
                try simp only [Act.put, List.setIfInBounds_toArray, List.set_cons_zero, List.set_cons_succ]
                refine wpAnyU_ready (rs := [6]) (by kernel_rfl) rfl ?_
                refine AllReadyU.free la6 rfl (by kernel_rfl) (fun K hK => ?_) ?_
                · go_simp
                  obtain ⟨u4, P, hv1, hX1, RP, hbn, ltn⟩ := alloc_pack u3 (.cells #[.int .i64 0, .int .i64 0, .int .i64 0, .int .u64 0, .int .i64 0, .slice none 0 0, .slice none 0 0] 38)
                  rw [hv1, hX1]
                  have HI4 := Lib.hid (HI3.out.over hbn.out)
                  have HG4 := Lib.hid (grownBy_of_below HG3.out (hbn.out.mono HG3.out.size))
                  have hlP : g < P := by have := HI3.out.code.lt; omega
                  have hxP : Wx.heap.size ≤ P := by have := HG3.out.size; omega
                  have hluP : P < u4.heap.size := (Array.getElem?_eq_some_iff.1 RP.out).1
                  have hne : Q ≠ P := by have := (Array.getElem?_eq_some_iff.1 RQ.out).1; omega
                  have RQ := Lib.hid (row_below2 hbn.out RQ.out)
                  have hluQ : Q < u4.heap.size := (Array.getElem?_eq_some_iff.1 RQ.out).1
                  have hoP1 := opx_offOf HO1.out (P := P) (by omega)
                  have HO1 := Lib.hid (HO1.out.below hbn.out)
                  have hoP2 := opx_offOf HO2.out (P := P) (by omega)
                  have HO2 := Lib.hid (HO2.out.below hbn.out)
                  clear hv1 hX1 hbn ltn
                  refine hK.out _ _ ?_
                  clear hK K
                  try simp only [Act.put, List.setIfInBounds_toArray, List.set_cons_zero, List.set_cons_succ]
                  refine wpAnyU_ready (rs := [8]) (by kernel_rfl) rfl ?_
                  refine AllReadyU.free la8 rfl (by kernel_rfl) (fun K hK => ?_) ?_
                  · refine step_store_row rfl 38 _ _ rfl P _ rfl rfl 38 #[.int .i64 0, .int .i64 0, .int .i64 0, .int .u64 0, .int .i64 0, .slice none 0 0, .slice none 0 0] RP.out (by kernel_rfl) rfl (by simp [Value.oneCell']) ?_
                    refine hK.out _ _ ?_
                    clear hK K
                    try simp only [Act.put, List.setIfInBounds_toArray, List.set_cons_zero, List.set_cons_succ]
                    refine wpAnyU_ready (rs := [9]) (by kernel_rfl) rfl ?_
                    refine AllReadyU.free la9 rfl (by kernel_rfl) (fun K hK => ?_) ?_
                    · have RQ2 : Hid ((u4.setRow P #[.int .i64 a.kind, .int .i64 a.mode, .int .i64 a.chan, .int .u64 a.val, .int .i64 a.dl, .slice p1 a.cases.length c1, .slice q1 a.draws.length d1]).heap[Q]? = some (.cells #[.int .i64 0, .int .i64 0, .int .i64 0, .int .u64 0, .int .i64 0, .slice none 0 0, .slice none 0 0] 38 (0, 0))) := (setRow_other u4 P Q #[.int .i64 a.kind, .int .i64 a.mode, .int .i64 a.chan, .int .u64 a.val, .int .i64 a.dl, .slice p1 a.cases.length c1, .slice q1 a.draws.length d1] (by omega)).trans RQ.out
                      refine step_store_row rfl 38 _ _ rfl Q _ rfl rfl 38 #[.int .i64 0, .int .i64 0, .int .i64 0, .int .u64 0, .int .i64 0, .slice none 0 0, .slice none 0 0] RQ2.out (by kernel_rfl) rfl (by simp [Value.oneCell']) ?_
                      refine hK.out _ _ ?_
                      clear hK K
                      try simp only [Act.put, List.setIfInBounds_toArray, List.set_cons_zero, List.set_cons_succ]
                      refine wpAnyU_done (by kernel_rfl) ?_ _
                      go_wp2_with fail
                      go_meet
                      exact ⟨P, Q, a, b, p1, q1, p2, q2, c1, d1, c2, d2, rfl, rfl, hlP, hlQ, (setRow_other _ Q P #[.int .i64 b.kind, .int .i64 b.mode, .int .i64 b.chan, .int .u64 b.val, .int .i64 b.dl, .slice p2 b.cases.length c2, .slice q2 b.draws.length d2] (by omega)).trans (setRow_heap _ _ _ _ _ (0, 0) RP.out), setRow_heap _ _ _ _ _ (0, 0) RQ2.out, opx_put (opx_put HO1.out hoP1) hoQ1, opx_put (opx_put HO2.out hoP2) hoQ2, ⟨HD1.out, HD2.out⟩, grownBy_of_new (grownBy_of_new HG4.out (row_grown _ P _) (fun k hk => by cases hk; exact hxP)) (row_grown _ Q _) (fun k hk => by cases hk; exact hxQ), codes_grown (codes_grown HI4.out.code (row_grown _ P _) (B := g + 1) (fun k hk => by cases hk; omega) (Nat.lt_succ_self g)) (row_grown _ Q _) (B := g + 1) (fun k hk => by cases hk; omega) (Nat.lt_succ_self g)⟩
                    exact AllReadyU.nil
                  exact AllReadyU.nil
                exact AllReadyU.nil
              refine AllReadyU.cons la6 rfl (fun K hK => ?_) ?_
              · go_simp
                obtain ⟨u3, P, hv1, hX1, RP, hbn, ltn⟩ := alloc_pack u2 (.cells #[.int .i64 0, .int .i64 0, .int .i64 0, .int .u64 0, .int .i64 0, .slice none 0 0, .slice none 0 0] 38)
                rw [hv1, hX1]
                have HI3 := Lib.hid (HI2.out.over hbn.out)
                have HG3 := Lib.hid (grownBy_of_below HG2.out (hbn.out.mono HG2.out.size))
                have hlP : g < P := by have := HI2.out.code.lt; omega
                have hxP : Wx.heap.size ≤ P := by have := HG2.out.size; omega
                have hluP : P < u3.heap.size := (Array.getElem?_eq_some_iff.1 RP.out).1
                have hne : Q ≠ P := by have := (Array.getElem?_eq_some_iff.1 RQ.out).1; omega
                have RQ := Lib.hid (row_below2 hbn.out RQ.out)
                have hluQ : Q < u3.heap.size := (Array.getElem?_eq_some_iff.1 RQ.out).1
                have hoP1 := opx_offOf HO1.out (P := P) (by omega)
                have HO1 := Lib.hid (HO1.out.below hbn.out)
                clear hv1 hX1 hbn ltn
                refine hK.out _ _ ?_ (fun hSU14 => ?_)
                · exact KS.out _ HI3.out.cr
                clear hK K hSU13
                try simp only [Act.put, List.setIfInBounds_toArray, List.set_cons_zero, List.set_cons_succ]
                refine wpAnyU_ready (rs := [5]) (by kernel_rfl) rfl ?_
                refine AllReadyU.free la5 rfl (by kernel_rfl) (fun K hK => ?_) ?_
                · go_simp
                  go_at_call 15
                  refine (opE g _ c u3 HI3.out.code HI3.out.conf HCL.out).mono ?_
                  rintro e u4 ⟨uo, b, rfl, hop, hgd, hcA, hgA⟩
                  have HI4 := Lib.hid (HI3.out.draw hgA hcA)
                  have HG4 := Lib.hid (grownBy_trans HG3.out hgA)
                  have HD2 := Lib.hid hgd
                  have HO2 := Lib.hid (hop.opx HI3.out.code.lt)
                  obtain ⟨vo1, vo2, rfl, hoc, hod, hn1, hn2⟩ := hop
                  obtain ⟨p2, c2, rfl⟩ := hoc.len
                  obtain ⟨q2, d2, rfl, -⟩ := hod.len
                  have HO1 := Lib.hid (HO1.out.grown hgA)
                  have RP := Lib.hid (row_keep hgA RP.out (by omega))
                  have RQ := Lib.hid (row_keep hgA RQ.out (by omega))
                  have hoP2 : offB P (.slice p2 b.cases.length c2) ∧ offB P (.slice q2 b.draws.length d2) := ⟨hn1.off hluP, hn2.off hluP⟩
                  have hluP : P < u4.heap.size := (Array.getElem?_eq_some_iff.1 RP.out).1
                  have hoQ2 : offB Q (.slice p2 b.cases.length c2) ∧ offB Q (.slice q2 b.draws.length d2) := ⟨hn1.off hluQ, hn2.off hluQ⟩
                  have hluQ : Q < u4.heap.size := (Array.getElem?_eq_some_iff.1 RQ.out).1
                  clear hoc hod hgd hcA hgA hn1 hn2
                  refine hK.out _ _ ?_
                  clear hK K hSU14
                  try simp only [Act.put, List.setIfInBounds_toArray, List.set_cons_zero, List.set_cons_succ]
                  refine wpAnyU_ready (rs := [8]) (by kernel_rfl) rfl ?_
                  refine AllReadyU.free la8 rfl (by kernel_rfl) (fun K hK => ?_) ?_
                  · refine step_store_row rfl 38 _ _ rfl P _ rfl rfl 38 #[.int .i64 0, .int .i64 0, .int .i64 0, .int .u64 0, .int .i64 0, .slice none 0 0, .slice none 0 0] RP.out (by kernel_rfl) rfl (by simp [Value.oneCell']) ?_
                    refine hK.out _ _ ?_
                    clear hK K
                    try simp only [Act.put, List.setIfInBounds_toArray, List.set_cons_zero, List.set_cons_succ]
                    refine wpAnyU_ready (rs := [9]) (by kernel_rfl) rfl ?_
                    refine AllReadyU.free la9 rfl (by kernel_rfl) (fun K hK => ?_) ?_
                    · have RQ2 : Hid ((u4.setRow P #[.int .i64 a.kind, .int .i64 a.mode, .int .i64 a.chan, .int .u64 a.val, .int .i64 a.dl, .slice p1 a.cases.length c1, .slice q1 a.draws.length d1]).heap[Q]? = some (.cells #[.int .i64 0, .int .i64 0, .int .i64 0, .int .u64 0, .int .i64 0, .slice none 0 0, .slice none 0 0] 38 (0, 0))) := (setRow_other u4 P Q #[.int .i64 a.kind, .int .i64 a.mode, .int .i64 a.chan, .int .u64 a.val, .int .i64 a.dl, .slice p1 a.cases.length c1, .slice q1 a.draws.length d1] (by omega)).trans RQ.out
                      refine step_store_row rfl 38 _ _ rfl Q _ rfl rfl 38 #[.int .i64 0, .int .i64 0, .int .i64 0, .int .u64 0, .int .i64 0, .slice none 0 0, .slice none 0 0] RQ2.out (by kernel_rfl) rfl (by simp [Value.oneCell']) ?_
                      refine hK.out _ _ ?_
                      clear hK K
                      try simp only [Act.put, List.setIfInBounds_toArray, List.set_cons_zero, List.set_cons_succ]
                      refine wpAnyU_done (by kernel_rfl) ?_ _
                      go_wp2_with fail
                      go_meet
                      exact ⟨P, Q, a, b, p1, q1, p2, q2, c1, d1, c2, d2, rfl, rfl, hlP, hlQ, (setRow_other _ Q P #[.int .i64 b.kind, .int .i64 b.mode, .int .i64 b.chan, .int .u64 b.val, .int .i64 b.dl, .slice p2 b.cases.length c2, .slice q2 b.draws.length d2] (by omega)).trans (setRow_heap _ _ _ _ _ (0, 0) RP.out), setRow_heap _ _ _ _ _ (0, 0) RQ2.out, opx_put (opx_put HO1.out hoP1) hoQ1, opx_put (opx_put HO2.out hoP2) hoQ2, ⟨HD1.out, HD2.out⟩, grownBy_of_new (grownBy_of_new HG4.out (row_grown _ P _) (fun k hk => by cases hk; exact hxP)) (row_grown _ Q _) (fun k hk => by cases hk; exact hxQ), codes_grown (codes_grown HI4.out.code (row_grown _ P _) (B := g + 1) (fun k hk => by cases hk; omega) (Nat.lt_succ_self g)) (row_grown _ Q _) (B := g + 1) (fun k hk => by cases hk; omega) (Nat.lt_succ_self g)⟩
                    exact AllReadyU.nil
                  exact AllReadyU.nil
                exact AllReadyU.nil
              exact AllReadyU.nil
            refine AllReadyU.cons la6 rfl (fun K hK => ?_) ?_
            · go_simp
              obtain ⟨u2, P, hv1, hX1, RP, hbn, ltn⟩ := alloc_pack u1 (.cells #[.int .i64 0, .int .i64 0, .int .i64 0, .int .u64 0, .int .i64 0, .slice none 0 0, .slice none 0 0] 38)
              rw [hv1, hX1]
              have HI2 := Lib.hid (HI1.out.over hbn.out)
              have HG2 := Lib.hid (grownBy_of_below HG1.out (hbn.out.mono HG1.out.size))
              have hlP : g < P := by have := HI1.out.code.lt; omega
              have hxP : Wx.heap.size ≤ P := by have := HG1.out.size; omega
              have hluP : P < u2.heap.size := (Array.getElem?_eq_some_iff.1 RP.out).1
              have hne : Q ≠ P := by have := (Array.getElem?_eq_some_iff.1 RQ.out).1; omega
              have RQ := Lib.hid (row_below2 hbn.out RQ.out)
              have hluQ : Q < u2.heap.size := (Array.getElem?_eq_some_iff.1 RQ.out).1
              clear hv1 hX1 hbn ltn
              refine hK.out _ _ ?_ (fun hSU15 => ?_)
              · exact KS.out _ HI2.out.cr
              clear hK K hSU12
              try simp only [Act.put, List.setIfInBounds_toArray, List.set_cons_zero, List.set_cons_succ]
              refine wpAnyU_ready (rs := [2]) (by kernel_rfl) rfl ?_
              refine AllReadyU.cons la2 rfl (fun K hK => ?_) ?_
              · go_simp
                go_at_call 15
                refine (opE g _ c u2 HI2.out.code HI2.out.conf HCL.out).mono ?_
                rintro e u3 ⟨uo, a, rfl, hop, hgd, hcA, hgA⟩
                have HI3 := Lib.hid (HI2.out.draw hgA hcA)
                have HG3 := Lib.hid (grownBy_trans HG2.out hgA)
                have HD1 := Lib.hid hgd
                have HO1 := Lib.hid (hop.opx HI2.out.code.lt)
                obtain ⟨vo1, vo2, rfl, hoc, hod, hn1, hn2⟩ := hop
                obtain ⟨p1, c1, rfl⟩ := hoc.len
                obtain ⟨q1, d1, rfl, -⟩ := hod.len
                have RP := Lib.hid (row_keep hgA RP.out (by omega))
                have RQ := Lib.hid (row_keep hgA RQ.out (by omega))
                have hoP1 : offB P (.slice p1 a.cases.length c1) ∧ offB P (.slice q1 a.draws.length d1) := ⟨hn1.off hluP, hn2.off hluP⟩
                have hluP : P < u3.heap.size := (Array.getElem?_eq_some_iff.1 RP.out).1
                have hoQ1 : offB Q (.slice p1 a.cases.length c1) ∧ offB Q (.slice q1 a.draws.length d1) := ⟨hn1.off hluQ, hn2.off hluQ⟩
                have hluQ : Q < u3.heap.size := (Array.getElem?_eq_some_iff.1 RQ.out).1
                clear hoc hod hgd hcA hgA hn1 hn2
                refine hK.out _ _ ?_ (fun hSU16 => ?_)
                · exact KS.out _ HI3.out.cr
                clear hK K hSU15
                try simp only [Act.put, List.setIfInBounds_toArray, List.set_cons_zero, List.set_cons_succ]
                refine wpAnyU_ready (rs := [5]) (by kernel_rfl) rfl ?_
                refine AllReadyU.free la5 rfl (by kernel_rfl) (fun K hK => ?_) ?_
                · go_simp
                  go_at_call 15
                  refine (opE g _ c u3 HI3.out.code HI3.out.conf HCL.out).mono ?_
                  rintro e u4 ⟨uo, b, rfl, hop, hgd, hcA, hgA⟩
                  have HI4 := Lib.hid (HI3.out.draw hgA hcA)
                  have HG4 := Lib.hid (grownBy_trans HG3.out hgA)
                  have HD2 := Lib.hid hgd
                  have HO2 := Lib.hid (hop.opx HI3.out.code.lt)
                  obtain ⟨vo1, vo2, rfl, hoc, hod, hn1, hn2⟩ := hop
                  obtain ⟨p2, c2, rfl⟩ := hoc.len
                  obtain ⟨q2, d2, rfl, -⟩ := hod.len
                  have HO1 := Lib.hid (HO1.out.grown hgA)
                  have RP := Lib.hid (row_keep hgA RP.out (by omega))
                  have RQ := Lib.hid (row_keep hgA RQ.out (by omega))
                  have hoP2 : offB P (.slice p2 b.cases.length c2) ∧ offB P (.slice q2 b.draws.length d2) := ⟨hn1.off hluP, hn2.off hluP⟩
                  have hluP : P < u4.heap.size := (Array.getElem?_eq_some_iff.1 RP.out).1
                  have hoQ2 : offB Q (.slice p2 b.cases.length c2) ∧ offB Q (.slice q2 b.draws.length d2) := ⟨hn1.off hluQ, hn2.off hluQ⟩
                  have hluQ : Q < u4.heap.size := (Array.getElem?_eq_some_iff.1 RQ.out).1
                  clear hoc hod hgd hcA hgA hn1 hn2
                  refine hK.out _ _ ?_
                  clear hK K hSU16
                  try simp only [Act.put, List.setIfInBounds_toArray, List.set_cons_zero, List.set_cons_succ]
                  refine wpAnyU_ready (rs := [8]) (by kernel_rfl) rfl ?_
                  refine AllReadyU.free la8 rfl (by kernel_rfl) (fun K hK => ?_) ?_
                  · refine step_store_row rfl 38 _ _ rfl P _ rfl rfl 38 #[.int .i64 0, .int .i64 0, .int .i64 0, .int .u64 0, .int .i64 0, .slice none 0 0, .slice none 0 0] RP.out (by kernel_rfl) rfl (by simp [Value.oneCell']) ?_
                    refine hK.out _ _ ?_
                    clear hK K
                    try simp only [Act.put, List.setIfInBounds_toArray, List.set_cons_zero, List.set_cons_succ]
                    refine wpAnyU_ready (rs := [9]) (by kernel_rfl) rfl ?_
                    refine AllReadyU.free la9 rfl (by kernel_rfl) (fun K hK => ?_) ?_
                    · have RQ2 : Hid ((u4.setRow P #[.int .i64 a.kind, .int .i64 a.mode, .int .i64 a.chan, .int .u64 a.val, .int .i64 a.dl, .slice p1 a.cases.length c1, .slice q1 a.draws.length d1]).heap[Q]? = some (.cells #[.int .i64 0, .int .i64 0, .int .i64 0, .int .u64 0, .int .i64 0, .slice none 0 0, .slice none 0 0] 38 (0, 0))) := (setRow_other u4 P Q #[.int .i64 a.kind, .int .i64 a.mode, .int .i64 a.chan, .int .u64 a.val, .int .i64 a.dl, .slice p1 a.cases.length c1, .slice q1 a.draws.length d1] (by omega)).trans RQ.out
                      refine step_store_row rfl 38 _ _ rfl Q _ rfl rfl 38 #[.int .i64 0, .int .i64 0, .int .i64 0, .int .u64 0, .int .i64 0, .slice none 0 0, .slice none 0 0] RQ2.out (by kernel_rfl) rfl (by simp [Value.oneCell']) ?_
                      refine hK.out _ _ ?_
                      clear hK K
                      try simp only [Act.put, List.setIfInBounds_toArray, List.set_cons_zero, List.set_cons_succ]
                      refine wpAnyU_done (by kernel_rfl) ?_ _
                      go_wp2_with fail
                      go_meet
                      exact ⟨P, Q, a, b, p1, q1, p2, q2, c1, d1, c2, d2, rfl, rfl, hlP, hlQ, (setRow_other _ Q P #[.int .i64 b.kind, .int .i64 b.mode, .int .i64 b.chan, .int .u64 b.val, .int .i64 b.dl, .slice p2 b.cases.length c2, .slice q2 b.draws.length d2] (by omega)).trans (setRow_heap _ _ _ _ _ (0, 0) RP.out), setRow_heap _ _ _ _ _ (0, 0) RQ2.out, opx_put (opx_put HO1.out hoP1) hoQ1, opx_put (opx_put HO2.out hoP2) hoQ2, ⟨HD1.out, HD2.out⟩, grownBy_of_new (grownBy_of_new HG4.out (row_grown _ P _) (fun k hk => by cases hk; exact hxP)) (row_grown _ Q _) (fun k hk => by cases hk; exact hxQ), codes_grown (codes_grown HI4.out.code (row_grown _ P _) (B := g + 1) (fun k hk => by cases hk; omega) (Nat.lt_succ_self g)) (row_grown _ Q _) (B := g + 1) (fun k hk => by cases hk; omega) (Nat.lt_succ_self g)⟩
                    exact AllReadyU.nil
                  exact AllReadyU.nil
                exact AllReadyU.nil
              exact AllReadyU.nil
            exact AllReadyU.nil
          exact AllReadyU.nil
        refine AllReadyU.cons la6 rfl (fun K hK => ?_) ?_
        · go_simp
          obtain ⟨u1, P, hv1, hX1, RP, hbn, ltn⟩ := alloc_pack u0 (.cells #[.int .i64 0, .int .i64 0, .int .i64 0, .int .u64 0, .int .i64 0, .slice none 0 0, .slice none 0 0] 38)
          rw [hv1, hX1]
          have HI1 := Lib.hid (HI0.out.over hbn.out)
          have HG1 := Lib.hid (grownBy_of_below HG0.out (hbn.out.mono HG0.out.size))
          have hlP : g < P := by have := HI0.out.code.lt; omega
          have hxP : Wx.heap.size ≤ P := by have := HG0.out.size; omega
          have hluP : P < u1.heap.size := (Array.getElem?_eq_some_iff.1 RP.out).1
          clear hv1 hX1 hbn ltn
          refine hK.out _ _ ?_ (fun hSU17 => ?_)
          · exact KS.out _ HI1.out.cr
          clear hK K hSU0
          try simp only [Act.put, List.setIfInBounds_toArray, List.set_cons_zero, List.set_cons_succ]
          refine wpAnyU_ready (rs := [1, 7]) (by kernel_rfl) rfl ?_
          refine AllReadyU.cons la1 rfl (fun K hK => ?_) ?_
          · obtain ⟨d0, d1, d2⟩ := KS.out _ HI1.out.cr
            go_simp
            clear d0 d1 d2
            refine hK.out _ _ ?_ (fun hSU18 => ?_)
            · exact hSU17
            clear hK K hSU17
            try simp only [Act.put, List.setIfInBounds_toArray, List.set_cons_zero, List.set_cons_succ]
            refine wpAnyU_ready (rs := [2, 7]) (by kernel_rfl) rfl ?_
            refine AllReadyU.cons la2 rfl (fun K hK => ?_) ?_
            · go_simp
              go_at_call 15
              refine (opE g _ c u1 HI1.out.code HI1.out.conf HCL.out).mono ?_
              rintro e u2 ⟨uo, a, rfl, hop, hgd, hcA, hgA⟩
              have HI2 := Lib.hid (HI1.out.draw hgA hcA)
              have HG2 := Lib.hid (grownBy_trans HG1.out hgA)
              have HD1 := Lib.hid hgd
              have HO1 := Lib.hid (hop.opx HI1.out.code.lt)
              obtain ⟨vo1, vo2, rfl, hoc, hod, hn1, hn2⟩ := hop
              obtain ⟨p1, c1, rfl⟩ := hoc.len
              obtain ⟨q1, d1, rfl, -⟩ := hod.len
              have RP := Lib.hid (row_keep hgA RP.out (by omega))
              have hoP1 : offB P (.slice p1 a.cases.length c1) ∧ offB P (.slice q1 a.draws.length d1) := ⟨hn1.off hluP, hn2.off hluP⟩
              have hluP : P < u2.heap.size := (Array.getElem?_eq_some_iff.1 RP.out).1
              clear hoc hod hgd hcA hgA hn1 hn2
              refine hK.out _ _ ?_ (fun hSU19 => ?_)
              · exact KS.out _ HI2.out.cr
              clear hK K hSU18
              try simp only [Act.put, List.setIfInBounds_toArray, List.set_cons_zero, List.set_cons_succ]
              refine wpAnyU_ready (rs := [5, 7]) (by kernel_rfl) rfl ?_
              refine AllReadyU.free la5 rfl (by kernel_rfl) (fun K hK => ?_) ?_
              · go_simp
                go_at_call 15
                refine (opE g _ c u2 HI2.out.code HI2.out.conf HCL.out).mono ?_
                rintro e u3 ⟨uo, b, rfl, hop, hgd, hcA, hgA⟩
                have HI3 := Lib.hid (HI2.out.draw hgA hcA)
                have HG3 := Lib.hid (grownBy_trans HG2.out hgA)
                have HD2 := Lib.hid hgd
                have HO2 := Lib.hid (hop.opx HI2.out.code.lt)
                obtain ⟨vo1, vo2, rfl, hoc, hod, hn1, hn2⟩ := hop
                obtain ⟨p2, c2, rfl⟩ := hoc.len
                obtain ⟨q2, d2, rfl, -⟩ := hod.len
                have HO1 := Lib.hid (HO1.out.grown hgA)
                have RP := Lib.hid (row_keep hgA RP.out (by omega))
                have hoP2 : offB P (.slice p2 b.cases.length c2) ∧ offB P (.slice q2 b.draws.length d2) := ⟨hn1.off hluP, hn2.off hluP⟩
                have hluP : P < u3.heap.size := (Array.getElem?_eq_some_iff.1 RP.out).1
                clear hoc hod hgd hcA hgA hn1 hn2
                refine hK.out _ _ ?_
                clear hK K hSU19
                try simp only [Act.put, List.setIfInBounds_toArray, List.set_cons_zero, List.set_cons_succ]
                refine wpAnyU_ready (rs := [7]) (by kernel_rfl) rfl ?_
                refine AllReadyU.free la7 rfl (by kernel_rfl) (fun K hK => ?_) ?_
                · go_simp
                  obtain ⟨u4, Q, hv1, hX1, RQ, hbn, ltn⟩ := alloc_pack u3 (.cells #[.int .i64 0, .int .i64 0, .int .i64 0, .int .u64 0, .int .i64 0, .slice none 0 0, .slice none 0 0] 38)
                  rw [hv1, hX1]
                  have HI4 := Lib.hid (HI3.out.over hbn.out)
                  have HG4 := Lib.hid (grownBy_of_below HG3.out (hbn.out.mono HG3.out.size))
                  have hlQ : g < Q := by have := HI3.out.code.lt; omega
                  have hxQ : Wx.heap.size ≤ Q := by have := HG3.out.size; omega
                  have hluQ : Q < u4.heap.size := (Array.getElem?_eq_some_iff.1 RQ.out).1
                  have hne : P ≠ Q := by have := (Array.getElem?_eq_some_iff.1 RP.out).1; omega
                  have RP := Lib.hid (row_below2 hbn.out RP.out)
                  have hluP : P < u4.heap.size := (Array.getElem?_eq_some_iff.1 RP.out).1
                  have hoQ1 := opx_offOf HO1.out (P := Q) (by omega)
                  have HO1 := Lib.hid (HO1.out.below hbn.out)
                  have hoQ2 := opx_offOf HO2.out (P := Q) (by omega)
                  have HO2 := Lib.hid (HO2.out.below hbn.out)
                  clear hv1 hX1 hbn ltn
                  refine hK.out _ _ ?_
                  clear hK K
                  try simp only [Act.put, List.setIfInBounds_toArray, List.set_cons_zero, List.set_cons_succ]
                  refine wpAnyU_ready (rs := [8]) (by kernel_rfl) rfl ?_
                  refine AllReadyU.free la8 rfl (by kernel_rfl) (fun K hK => ?_) ?_
                  · refine step_store_row rfl 38 _ _ rfl P _ rfl rfl 38 #[.int .i64 0, .int .i64 0, .int .i64 0, .int .u64 0, .int .i64 0, .slice none 0 0, .slice none 0 0] RP.out (by kernel_rfl) rfl (by simp [Value.oneCell']) ?_
                    refine hK.out _ _ ?_
                    clear hK K
                    try simp only [Act.put, List.setIfInBounds_toArray, List.set_cons_zero, List.set_cons_succ]
                    refine wpAnyU_ready (rs := [9]) (by kernel_rfl) rfl ?_
                    refine AllReadyU.free la9 rfl (by kernel_rfl) (fun K hK => ?_) ?_
                    · have RQ2 : Hid ((u4.setRow P #[.int .i64 a.kind, .int .i64 a.mode, .int .i64 a.chan, .int .u64 a.val, .int .i64 a.dl, .slice p1 a.cases.length c1, .slice q1 a.draws.length d1]).heap[Q]? = some (.cells #[.int .i64 0, .int .i64 0, .int .i64 0, .int .u64 0, .int .i64 0, .slice none 0 0, .slice none 0 0] 38 (0, 0))) := (setRow_other u4 P Q #[.int .i64 a.kind, .int .i64 a.mode, .int .i64 a.chan, .int .u64 a.val, .int .i64 a.dl, .slice p1 a.cases.length c1, .slice q1 a.draws.length d1] (by omega)).trans RQ.out
                      refine step_store_row rfl 38 _ _ rfl Q _ rfl rfl 38 #[.int .i64 0, .int .i64 0, .int .i64 0, .int .u64 0, .int .i64 0, .slice none 0 0, .slice none 0 0] RQ2.out (by kernel_rfl) rfl (by simp [Value.oneCell']) ?_
                      refine hK.out _ _ ?_
                      clear hK K
                      try simp only [Act.put, List.setIfInBounds_toArray, List.set_cons_zero, List.set_cons_succ]
                      refine wpAnyU_done (by kernel_rfl) ?_ _
                      go_wp2_with fail
                      go_meet
                      exact ⟨P, Q, a, b, p1, q1, p2, q2, c1, d1, c2, d2, rfl, rfl, hlP, hlQ, (setRow_other _ Q P #[.int .i64 b.kind, .int .i64 b.mode, .int .i64 b.chan, .int .u64 b.val, .int .i64 b.dl, .slice p2 b.cases.length c2, .slice q2 b.draws.length d2] (by omega)).trans (setRow_heap _ _ _ _ _ (0, 0) RP.out), setRow_heap _ _ _ _ _ (0, 0) RQ2.out, opx_put (opx_put HO1.out hoP1) hoQ1, opx_put (opx_put HO2.out hoP2) hoQ2, ⟨HD1.out, HD2.out⟩, grownBy_of_new (grownBy_of_new HG4.out (row_grown _ P _) (fun k hk => by cases hk; exact hxP)) (row_grown _ Q _) (fun k hk => by cases hk; exact hxQ), codes_grown (codes_grown HI4.out.code (row_grown _ P _) (B := g + 1) (fun k hk => by cases hk; omega) (Nat.lt_succ_self g)) (row_grown _ Q _) (B := g + 1) (fun k hk => by cases hk; omega) (Nat.lt_succ_self g)⟩
                    exact AllReadyU.nil
                  exact AllReadyU.nil
                exact AllReadyU.nil
              refine AllReadyU.cons la7 rfl (fun K hK => ?_) ?_
              · go_simp
                obtain ⟨u3, Q, hv1, hX1, RQ, hbn, ltn⟩ := alloc_pack u2 (.cells #[.int .i64 0, .int .i64 0, .int .i64 0, .int .u64 0, .int .i64 0, .slice none 0 0, .slice none 0 0] 38)
                rw [hv1, hX1]
                have HI3 := Lib.hid (HI2.out.over hbn.out)
                have HG3 := Lib.hid (grownBy_of_below HG2.out (hbn.out.mono HG2.out.size))
                have hlQ : g < Q := by have := HI2.out.code.lt; omega
                have hxQ : Wx.heap.size ≤ Q := by have := HG2.out.size; omega
                have hluQ : Q < u3.heap.size := (Array.getElem?_eq_some_iff.1 RQ.out).1
                have hne : P ≠ Q := by have := (Array.getElem?_eq_some_iff.1 RP.out).1; omega
                have RP := Lib.hid (row_below2 hbn.out RP.out)
                have hluP : P < u3.heap.size := (Array.getElem?_eq_some_iff.1 RP.out).1
                have hoQ1 := opx_offOf HO1.out (P := Q) (by omega)
                have HO1 := Lib.hid (HO1.out.below hbn.out)
                clear hv1 hX1 hbn ltn
                refine hK.out _ _ ?_ (fun hSU20 => ?_)
                · exact KS.out _ HI3.out.cr
                clear hK K hSU19
                try simp only [Act.put, List.setIfInBounds_toArray, List.set_cons_zero, List.set_cons_succ]
                refine wpAnyU_ready (rs := [5]) (by kernel_rfl) rfl ?_
                refine AllReadyU.free la5 rfl (by kernel_rfl) (fun K hK => ?_) ?_
                · go_simp
                  go_at_call 15
                  refine (opE g _ c u3 HI3.out.code HI3.out.conf HCL.out).mono ?_
                  rintro e u4 ⟨uo, b, rfl, hop, hgd, hcA, hgA⟩
                  have HI4 := Lib.hid (HI3.out.draw hgA hcA)
                  have HG4 := Lib.hid (grownBy_trans HG3.out hgA)
                  have HD2 := Lib.hid hgd
                  have HO2 := Lib.hid (hop.opx HI3.out.code.lt)
                  obtain ⟨vo1, vo2, rfl, hoc, hod, hn1, hn2⟩ := hop
                  obtain ⟨p2, c2, rfl⟩ := hoc.len
                  obtain ⟨q2, d2, rfl, -⟩ := hod.len
                  have HO1 := Lib.hid (HO1.out.grown hgA)
                  have RP := Lib.hid (row_keep hgA RP.out (by omega))
                  have RQ := Lib.hid (row_keep hgA RQ.out (by omega))
                  have hoP2 : offB P (.slice p2 b.cases.length c2) ∧ offB P (.slice q2 b.draws.length d2) := ⟨hn1.off hluP, hn2.off hluP⟩
                  have hluP : P < u4.heap.size := (Array.getElem?_eq_some_iff.1 RP.out).1
                  have hoQ2 : offB Q (.slice p2 b.cases.length c2) ∧ offB Q (.slice q2 b.draws.length d2) := ⟨hn1.off hluQ, hn2.off hluQ⟩
                  have hluQ : Q < u4.heap.size := (Array.getElem?_eq_some_iff.1 RQ.out).1
                  clear hoc hod hgd hcA hgA hn1 hn2
                  refine hK.out _ _ ?_
                  clear hK K hSU20
                  try simp only [Act.put, List.setIfInBounds_toArray, List.set_cons_zero, List.set_cons_succ]
                  refine wpAnyU_ready (rs := [8]) (by kernel_rfl) rfl ?_
                  refine AllReadyU.free la8 rfl (by kernel_rfl) (fun K hK => ?_) ?_
                  · refine step_store_row rfl 38 _ _ rfl P _ rfl rfl 38 #[.int .i64 0, .int .i64 0, .int .i64 0, .int .u64 0, .int .i64 0, .slice none 0 0, .slice none 0 0] RP.out (by kernel_rfl) rfl (by simp [Value.oneCell']) ?_
                    refine hK.out _ _ ?_
                    clear hK K
                    try simp only [Act.put, List.setIfInBounds_toArray, List.set_cons_zero, List.set_cons_succ]
                    refine wpAnyU_ready (rs := [9]) (by kernel_rfl) rfl ?_
                    refine AllReadyU.free la9 rfl (by kernel_rfl) (fun K hK => ?_) ?_
                    · have RQ2 : Hid ((u4.setRow P #[.int .i64 a.kind, .int .i64 a.mode, .int .i64 a.chan, .int .u64 a.val, .int .i64 a.dl, .slice p1 a.cases.length c1, .slice q1 a.draws.length d1]).heap[Q]? = some (.cells #[.int .i64 0, .int .i64 0, .int .i64 0, .int .u64 0, .int .i64 0, .slice none 0 0, .slice none 0 0] 38 (0, 0))) := (setRow_other u4 P Q #[.int .i64 a.kind, .int .i64 a.mode, .int .i64 a.chan, .int .u64 a.val, .int .i64 a.dl, .slice p1 a.cases.length c1, .slice q1 a.draws.length d1] (by omega)).trans RQ.out
                      refine step_store_row rfl 38 _ _ rfl Q _ rfl rfl 38 #[.int .i64 0, .int .i64 0, .int .i64 0, .int .u64 0, .int .i64 0, .slice none 0 0, .slice none 0 0] RQ2.out (by kernel_rfl) rfl (by simp [Value.oneCell']) ?_
                      refine hK.out _ _ ?_
                      clear hK K
                      try simp only [Act.put, List.setIfInBounds_toArray, List.set_cons_zero, List.set_cons_succ]
                      refine wpAnyU_done (by kernel_rfl) ?_ _
                      go_wp2_with fail
                      go_meet
                      exact ⟨P, Q, a, b, p1, q1, p2, q2, c1, d1, c2, d2, rfl, rfl, hlP, hlQ, (setRow_other _ Q P #[.int .i64 b.kind, .int .i64 b.mode, .int .i64 b.chan, .int .u64 b.val, .int .i64 b.dl, .slice p2 b.cases.length c2, .slice q2 b.draws.length d2] (by omega)).trans (setRow_heap _ _ _ _ _ (0, 0) RP.out), setRow_heap _ _ _ _ _ (0, 0) RQ2.out, opx_put (opx_put HO1.out hoP1) hoQ1, opx_put (opx_put HO2.out hoP2) hoQ2, ⟨HD1.out, HD2.out⟩, grownBy_of_new (grownBy_of_new HG4.out (row_grown _ P _) (fun k hk => by cases hk; exact hxP)) (row_grown _ Q _) (fun k hk => by cases hk; exact hxQ), codes_grown (codes_grown HI4.out.code (row_grown _ P _) (B := g + 1) (fun k hk => by cases hk; omega) (Nat.lt_succ_self g)) (row_grown _ Q _) (B := g + 1) (fun k hk => by cases hk; omega) (Nat.lt_succ_self g)⟩
                    exact AllReadyU.nil
                  exact AllReadyU.nil
                exact AllReadyU.nil
              exact AllReadyU.nil
            refine AllReadyU.cons la7 rfl (fun K hK => ?_) ?_
            · go_simp
              obtain ⟨u2, Q, hv1, hX1, RQ, hbn, ltn⟩ := alloc_pack u1 (.cells #[.int .i64 0, .int .i64 0, .int .i64 0, .int .u64 0, .int .i64 0, .slice none 0 0, .slice none 0 0] 38)
              rw [hv1, hX1]
              have HI2 := Lib.hid (HI1.out.over hbn.out)
              have HG2 := Lib.hid (grownBy_of_below HG1.out (hbn.out.mono HG1.out.size))
              have hlQ : g < Q := by have := HI1.out.code.lt; omega
              have hxQ : Wx.heap.size ≤ Q := by have := HG1.out.size; omega
              have hluQ : Q < u2.heap.size := (Array.getElem?_eq_some_iff.1 RQ.out).1
              have hne : P ≠ Q := by have := (Array.getElem?_eq_some_iff.1 RP.out).1; omega
              have RP := Lib.hid (row_below2 hbn.out RP.out)
              have hluP : P < u2.heap.size := (Array.getElem?_eq_some_iff.1 RP.out).1
              clear hv1 hX1 hbn ltn
              refine hK.out _ _ ?_ (fun hSU21 => ?_)
              · exact KS.out _ HI2.out.cr
              clear hK K hSU18
              try simp only [Act.put, List.setIfInBounds_toArray, List.set_cons_zero, List.set_cons_succ]
              refine wpAnyU_ready (rs := [2]) (by kernel_rfl) rfl ?_
              refine AllReadyU.cons la2 rfl (fun K hK => ?_) ?_
              · go_simp
                go_at_call 15
                refine (opE g _ c u2 HI2.out.code HI2.out.conf HCL.out).mono ?_
                rintro e u3 ⟨uo, a, rfl, hop, hgd, hcA, hgA⟩
                have HI3 := Lib.hid (HI2.out.draw hgA hcA)
                have HG3 := Lib.hid (grownBy_trans HG2.out hgA)
                have HD1 := Lib.hid hgd
                have HO1 := Lib.hid (hop.opx HI2.out.code.lt)
                obtain ⟨vo1, vo2, rfl, hoc, hod, hn1, hn2⟩ := hop
                obtain ⟨p1, c1, rfl⟩ := hoc.len
                obtain ⟨q1, d1, rfl, -⟩ := hod.len
                have RP := Lib.hid (row_keep hgA RP.out (by omega))
                have RQ := Lib.hid (row_keep hgA RQ.out (by omega))
                have hoP1 : offB P (.slice p1 a.cases.length c1) ∧ offB P (.slice q1 a.draws.length d1) := ⟨hn1.off hluP, hn2.off hluP⟩
                have hluP : P < u3.heap.size := (Array.getElem?_eq_some_iff.1 RP.out).1
                have hoQ1 : offB Q (.slice p1 a.cases.length c1) ∧ offB Q (.slice q1 a.draws.length d1) := ⟨hn1.off hluQ, hn2.off hluQ⟩
                have hluQ : Q < u3.heap.size := (Array.getElem?_eq_some_iff.1 RQ.out).1
                clear hoc hod hgd hcA hgA hn1 hn2
                refine hK.out _ _ ?_ (fun hSU22 => ?_)
                · exact KS.out _ HI3.out.cr
                clear hK K hSU21
                try simp only [Act.put, List.setIfInBounds_toArray, List.set_cons_zero, List.set_cons_succ]
                refine wpAnyU_ready (rs := [5]) (by kernel_rfl) rfl ?_
                refine AllReadyU.free la5 rfl (by kernel_rfl) (fun K hK => ?_) ?_
                · go_simp
                  go_at_call 15
                  refine (opE g _ c u3 HI3.out.code HI3.out.conf HCL.out).mono ?_
                  rintro e u4 ⟨uo, b, rfl, hop, hgd, hcA, hgA⟩
                  have HI4 := Lib.hid (HI3.out.draw hgA hcA)
                  have HG4 := Lib.hid (grownBy_trans HG3.out hgA)
                  have HD2 := Lib.hid hgd
                  have HO2 := Lib.hid (hop.opx HI3.out.code.lt)
                  obtain ⟨vo1, vo2, rfl, hoc, hod, hn1, hn2⟩ := hop
                  obtain ⟨p2, c2, rfl⟩ := hoc.len
                  obtain ⟨q2, d2, rfl, -⟩ := hod.len
                  have HO1 := Lib.hid (HO1.out.grown hgA)
                  have RP := Lib.hid (row_keep hgA RP.out (by omega))
                  have RQ := Lib.hid (row_keep hgA RQ.out (by omega))
                  have hoP2 : offB P (.slice p2 b.cases.length c2) ∧ offB P (.slice q2 b.draws.length d2) := ⟨hn1.off hluP, hn2.off hluP⟩
                  have hluP : P < u4.heap.size := (Array.getElem?_eq_some_iff.1 RP.out).1
                  have hoQ2 : offB Q (.slice p2 b.cases.length c2) ∧ offB Q (.slice q2 b.draws.length d2) := ⟨hn1.off hluQ, hn2.off hluQ⟩
                  have hluQ : Q < u4.heap.size := (Array.getElem?_eq_some_iff.1 RQ.out).1
                  clear hoc hod hgd hcA hgA hn1 hn2
                  refine hK.out _ _ ?_
                  clear hK K hSU22
                  try simp only [Act.put, List.setIfInBounds_toArray, List.set_cons_zero, List.set_cons_succ]
                  refine wpAnyU_ready (rs := [8]) (by kernel_rfl) rfl ?_
                  refine AllReadyU.free la8 rfl (by kernel_rfl) (fun K hK => ?_) ?_
                  · refine step_store_row rfl 38 _ _ rfl P _ rfl rfl 38 #[.int .i64 0, .int .i64 0, .int .i64 0, .int .u64 0, .int .i64 0, .slice none 0 0, .slice none 0 0] RP.out (by kernel_rfl) rfl (by simp [Value.oneCell']) ?_
                    refine hK.out _ _ ?_
                    clear hK K
                    try simp only [Act.put, List.setIfInBounds_toArray, List.set_cons_zero, List.set_cons_succ]
                    refine wpAnyU_ready (rs := [9]) (by kernel_rfl) rfl ?_
                    refine AllReadyU.free la9 rfl (by kernel_rfl) (fun K hK => ?_) ?_
                    · have RQ2 : Hid ((u4.setRow P #[.int .i64 a.kind, .int .i64 a.mode, .int .i64 a.chan, .int .u64 a.val, .int .i64 a.dl, .slice p1 a.cases.length c1, .slice q1 a.draws.length d1]).heap[Q]? = some (.cells #[.int .i64 0, .int .i64 0, .int .i64 0, .int .u64 0, .int .i64 0, .slice none 0 0, .slice none 0 0] 38 (0, 0))) := (setRow_other u4 P Q #[.int .i64 a.kind, .int .i64 a.mode, .int .i64 a.chan, .int .u64 a.val, .int .i64 a.dl, .slice p1 a.cases.length c1, .slice q1 a.draws.length d1] (by omega)).trans RQ.out
                      refine step_store_row rfl 38 _ _ rfl Q _ rfl rfl 38 #[.int .i64 0, .int .i64 0, .int .i64 0, .int .u64 0, .int .i64 0, .slice none 0 0, .slice none 0 0] RQ2.out (by kernel_rfl) rfl (by simp [Value.oneCell']) ?_
                      refine hK.out _ _ ?_
                      clear hK K
                      try simp only [Act.put, List.setIfInBounds_toArray, List.set_cons_zero, List.set_cons_succ]
                      refine wpAnyU_done (by kernel_rfl) ?_ _
                      go_wp2_with fail
                      go_meet
                      exact ⟨P, Q, a, b, p1, q1, p2, q2, c1, d1, c2, d2, rfl, rfl, hlP, hlQ, (setRow_other _ Q P #[.int .i64 b.kind, .int .i64 b.mode, .int .i64 b.chan, .int .u64 b.val, .int .i64 b.dl, .slice p2 b.cases.length c2, .slice q2 b.draws.length d2] (by omega)).trans (setRow_heap _ _ _ _ _ (0, 0) RP.out), setRow_heap _ _ _ _ _ (0, 0) RQ2.out, opx_put (opx_put HO1.out hoP1) hoQ1, opx_put (opx_put HO2.out hoP2) hoQ2, ⟨HD1.out, HD2.out⟩, grownBy_of_new (grownBy_of_new HG4.out (row_grown _ P _) (fun k hk => by cases hk; exact hxP)) (row_grown _ Q _) (fun k hk => by cases hk; exact hxQ), codes_grown (codes_grown HI4.out.code (row_grown _ P _) (B := g + 1) (fun k hk => by cases hk; omega) (Nat.lt_succ_self g)) (row_grown _ Q _) (B := g + 1) (fun k hk => by cases hk; omega) (Nat.lt_succ_self g)⟩
                    exact AllReadyU.nil
                  exact AllReadyU.nil
                exact AllReadyU.nil
              exact AllReadyU.nil
            exact AllReadyU.nil
          refine AllReadyU.cons la7 rfl (fun K hK => ?_) ?_
          · go_simp
            obtain ⟨u2, Q, hv1, hX1, RQ, hbn, ltn⟩ := alloc_pack u1 (.cells #[.int .i64 0, .int .i64 0, .int .i64 0, .int .u64 0, .int .i64 0, .slice none 0 0, .slice none 0 0] 38)
            rw [hv1, hX1]
            have HI2 := Lib.hid (HI1.out.over hbn.out)
            have HG2 := Lib.hid (grownBy_of_below HG1.out (hbn.out.mono HG1.out.size))
            have hlQ : g < Q := by have := HI1.out.code.lt; omega
            have hxQ : Wx.heap.size ≤ Q := by have := HG1.out.size; omega
            have hluQ : Q < u2.heap.size := (Array.getElem?_eq_some_iff.1 RQ.out).1
            have hne : P ≠ Q := by have := (Array.getElem?_eq_some_iff.1 RP.out).1; omega
            have RP := Lib.hid (row_below2 hbn.out RP.out)
            have hluP : P < u2.heap.size := (Array.getElem?_eq_some_iff.1 RP.out).1
            clear hv1 hX1 hbn ltn
            refine hK.out _ _ ?_ (fun hSU23 => ?_)
            · exact KS.out _ HI2.out.cr
            clear hK K hSU17
            try simp only [Act.put, List.setIfInBounds_toArray, List.set_cons_zero, List.set_cons_succ]
            refine wpAnyU_ready (rs := [1]) (by kernel_rfl) rfl ?_
            refine AllReadyU.cons la1 rfl (fun K hK => ?_) ?_
            · obtain ⟨d0, d1, d2⟩ := KS.out _ HI2.out.cr
              go_simp
              clear d0 d1 d2
              refine hK.out _ _ ?_ (fun hSU24 => ?_)
              · exact hSU23
              clear hK K hSU23
              try simp only [Act.put, List.setIfInBounds_toArray, List.set_cons_zero, List.set_cons_succ]
              refine wpAnyU_ready (rs := [2]) (by kernel_rfl) rfl ?_
              refine AllReadyU.cons la2 rfl (fun K hK => ?_) ?_
              · go_simp
                go_at_call 15
                refine (opE g _ c u2 HI2.out.code HI2.out.conf HCL.out).mono ?_
                rintro e u3 ⟨uo, a, rfl, hop, hgd, hcA, hgA⟩
                have HI3 := Lib.hid (HI2.out.draw hgA hcA)
                have HG3 := Lib.hid (grownBy_trans HG2.out hgA)
                have HD1 := Lib.hid hgd
                have HO1 := Lib.hid (hop.opx HI2.out.code.lt)
                obtain ⟨vo1, vo2, rfl, hoc, hod, hn1, hn2⟩ := hop
                obtain ⟨p1, c1, rfl⟩ := hoc.len
                obtain ⟨q1, d1, rfl, -⟩ := hod.len
                have RP := Lib.hid (row_keep hgA RP.out (by omega))
                have RQ := Lib.hid (row_keep hgA RQ.out (by omega))
                have hoP1 : offB P (.slice p1 a.cases.length c1) ∧ offB P (.slice q1 a.draws.length d1) := ⟨hn1.off hluP, hn2.off hluP⟩
                have hluP : P < u3.heap.size := (Array.getElem?_eq_some_iff.1 RP.out).1
                have hoQ1 : offB Q (.slice p1 a.cases.length c1) ∧ offB Q (.slice q1 a.draws.length d1) := ⟨hn1.off hluQ, hn2.off hluQ⟩
                have hluQ : Q < u3.heap.size := (Array.getElem?_eq_some_iff.1 RQ.out).1
                clear hoc hod hgd hcA hgA hn1 hn2
                refine hK.out _ _ ?_ (fun hSU25 => ?_)
                · exact KS.out _ HI3.out.cr
                clear hK K hSU24
                try simp only [Act.put, List.setIfInBounds_toArray, List.set_cons_zero, List.set_cons_succ]
                refine wpAnyU_ready (rs := [5]) (by kernel_rfl) rfl ?_
                refine AllReadyU.free la5 rfl (by kernel_rfl) (fun K hK => ?_) ?_
                · go_simp
                  go_at_call 15
                  refine (opE g _ c u3 HI3.out.code HI3.out.conf HCL.out).mono ?_
                  rintro e u4 ⟨uo, b, rfl, hop, hgd, hcA, hgA⟩
                  have HI4 := Lib.hid (HI3.out.draw hgA hcA)
                  have HG4 := Lib.hid (grownBy_trans HG3.out hgA)
                  have HD2 := Lib.hid hgd
                  have HO2 := Lib.hid (hop.opx HI3.out.code.lt)
                  obtain ⟨vo1, vo2, rfl, hoc, hod, hn1, hn2⟩ := hop
                  obtain ⟨p2, c2, rfl⟩ := hoc.len
                  obtain ⟨q2, d2, rfl, -⟩ := hod.len
                  have HO1 := Lib.hid (HO1.out.grown hgA)
                  have RP := Lib.hid (row_keep hgA RP.out (by omega))
                  have RQ := Lib.hid (row_keep hgA RQ.out (by omega))
                  have hoP2 : offB P (.slice p2 b.cases.length c2) ∧ offB P (.slice q2 b.draws.length d2) := ⟨hn1.off hluP, hn2.off hluP⟩
                  have hluP : P < u4.heap.size := (Array.getElem?_eq_some_iff.1 RP.out).1
                  have hoQ2 : offB Q (.slice p2 b.cases.length c2) ∧ offB Q (.slice q2 b.draws.length d2) := ⟨hn1.off hluQ, hn2.off hluQ⟩
                  have hluQ : Q < u4.heap.size := (Array.getElem?_eq_some_iff.1 RQ.out).1
                  clear hoc hod hgd hcA hgA hn1 hn2
                  refine hK.out _ _ ?_
                  clear hK K hSU25
                  try simp only [Act.put, List.setIfInBounds_toArray, List.set_cons_zero, List.set_cons_succ]
                  refine wpAnyU_ready (rs := [8]) (by kernel_rfl) rfl ?_
                  refine AllReadyU.free la8 rfl (by kernel_rfl) (fun K hK => ?_) ?_
                  · refine step_store_row rfl 38 _ _ rfl P _ rfl rfl 38 #[.int .i64 0, .int .i64 0, .int .i64 0, .int .u64 0, .int .i64 0, .slice none 0 0, .slice none 0 0] RP.out (by kernel_rfl) rfl (by simp [Value.oneCell']) ?_
                    refine hK.out _ _ ?_
                    clear hK K
                    try simp only [Act.put, List.setIfInBounds_toArray, List.set_cons_zero, List.set_cons_succ]
                    refine wpAnyU_ready (rs := [9]) (by kernel_rfl) rfl ?_
                    refine AllReadyU.free la9 rfl (by kernel_rfl) (fun K hK => ?_) ?_
                    · have RQ2 : Hid ((u4.setRow P #[.int .i64 a.kind, .int .i64 a.mode, .int .i64 a.chan, .int .u64 a.val, .int .i64 a.dl, .slice p1 a.cases.length c1, .slice q1 a.draws.length d1]).heap[Q]? = some (.cells #[.int .i64 0, .int .i64 0, .int .i64 0, .int .u64 0, .int .i64 0, .slice none 0 0, .slice none 0 0] 38 (0, 0))) := (setRow_other u4 P Q #[.int .i64 a.kind, .int .i64 a.mode, .int .i64 a.chan, .int .u64 a.val, .int .i64 a.dl, .slice p1 a.cases.length c1, .slice q1 a.draws.length d1] (by omega)).trans RQ.out
                      refine step_store_row rfl 38 _ _ rfl Q _ rfl rfl 38 #[.int .i64 0, .int .i64 0, .int .i64 0, .int .u64 0, .int .i64 0, .slice none 0 0, .slice none 0 0] RQ2.out (by kernel_rfl) rfl (by simp [Value.oneCell']) ?_
                      refine hK.out _ _ ?_
                      clear hK K
                      try simp only [Act.put, List.setIfInBounds_toArray, List.set_cons_zero, List.set_cons_succ]
                      refine wpAnyU_done (by kernel_rfl) ?_ _
                      go_wp2_with fail
                      go_meet
                      exact ⟨P, Q, a, b, p1, q1, p2, q2, c1, d1, c2, d2, rfl, rfl, hlP, hlQ, (setRow_other _ Q P #[.int .i64 b.kind, .int .i64 b.mode, .int .i64 b.chan, .int .u64 b.val, .int .i64 b.dl, .slice p2 b.cases.length c2, .slice q2 b.draws.length d2] (by omega)).trans (setRow_heap _ _ _ _ _ (0, 0) RP.out), setRow_heap _ _ _ _ _ (0, 0) RQ2.out, opx_put (opx_put HO1.out hoP1) hoQ1, opx_put (opx_put HO2.out hoP2) hoQ2, ⟨HD1.out, HD2.out⟩, grownBy_of_new (grownBy_of_new HG4.out (row_grown _ P _) (fun k hk => by cases hk; exact hxP)) (row_grown _ Q _) (fun k hk => by cases hk; exact hxQ), codes_grown (codes_grown HI4.out.code (row_grown _ P _) (B := g + 1) (fun k hk => by cases hk; omega) (Nat.lt_succ_self g)) (row_grown _ Q _) (B := g + 1) (fun k hk => by cases hk; omega) (Nat.lt_succ_self g)⟩
                    exact AllReadyU.nil
                  exact AllReadyU.nil
                exact AllReadyU.nil
              exact AllReadyU.nil
            exact AllReadyU.nil
          exact AllReadyU.nil
        refine AllReadyU.cons la7 rfl (fun K hK => ?_) ?_
        · go_simp
          obtain ⟨u1, Q, hv1, hX1, RQ, hbn, ltn⟩ := alloc_pack u0 (.cells #[.int .i64 0, .int .i64 0, .int .i64 0, .int .u64 0, .int .i64 0, .slice none 0 0, .slice none 0 0] 38)
          rw [hv1, hX1]
          have HI1 := Lib.hid (HI0.out.over hbn.out)
          have HG1 := Lib.hid (grownBy_of_below HG0.out (hbn.out.mono HG0.out.size))
          have hlQ : g < Q := by have := HI0.out.code.lt; omega
          have hxQ : Wx.heap.size ≤ Q := by have := HG0.out.size; omega
          have hluQ : Q < u1.heap.size := (Array.getElem?_eq_some_iff.1 RQ.out).1
          clear hv1 hX1 hbn ltn
          refine hK.out _ _ ?_ (fun hSU26 => ?_)
          · exact KS.out _ HI1.out.cr
          clear hK K hSU0
          try simp only [Act.put, List.setIfInBounds_toArray, List.set_cons_zero, List.set_cons_succ]
          refine wpAnyU_ready (rs := [1, 6]) (by kernel_rfl) rfl ?_
          refine AllReadyU.cons la1 rfl (fun K hK => ?_) ?_
          · obtain ⟨d0, d1, d2⟩ := KS.out _ HI1.out.cr
            go_simp
            clear d0 d1 d2
            refine hK.out _ _ ?_ (fun hSU27 => ?_)
            · exact hSU26
            clear hK K hSU26
            try simp only [Act.put, List.setIfInBounds_toArray, List.set_cons_zero, List.set_cons_succ]
            refine wpAnyU_ready (rs := [2, 6]) (by kernel_rfl) rfl ?_
            refine AllReadyU.cons la2 rfl (fun K hK => ?_) ?_
            · go_simp
              go_at_call 15
              refine (opE g _ c u1 HI1.out.code HI1.out.conf HCL.out).mono ?_
              rintro e u2 ⟨uo, a, rfl, hop, hgd, hcA, hgA⟩
              have HI2 := Lib.hid (HI1.out.draw hgA hcA)
              have HG2 := Lib.hid (grownBy_trans HG1.out hgA)
              have HD1 := Lib.hid hgd
              have HO1 := Lib.hid (hop.opx HI1.out.code.lt)
              obtain ⟨vo1, vo2, rfl, hoc, hod, hn1, hn2⟩ := hop
              obtain ⟨p1, c1, rfl⟩ := hoc.len
              obtain ⟨q1, d1, rfl, -⟩ := hod.len
              have RQ := Lib.hid (row_keep hgA RQ.out (by omega))
              have hoQ1 : offB Q (.slice p1 a.cases.length c1) ∧ offB Q (.slice q1 a.draws.length d1) := ⟨hn1.off hluQ, hn2.off hluQ⟩
              have hluQ : Q < u2.heap.size := (Array.getElem?_eq_some_iff.1 RQ.out).1
              clear hoc hod hgd hcA hgA hn1 hn2
              refine hK.out _ _ ?_ (fun hSU28 => ?_)
              · exact KS.out _ HI2.out.cr
              clear hK K hSU27
              try simp only [Act.put, List.setIfInBounds_toArray, List.set_cons_zero, List.set_cons_succ]
              refine wpAnyU_ready (rs := [5, 6]) (by kernel_rfl) rfl ?_
              refine AllReadyU.free la5 rfl (by kernel_rfl) (fun K hK => ?_) ?_
              · go_simp
                go_at_call 15
                refine (opE g _ c u2 HI2.out.code HI2.out.conf HCL.out).mono ?_
                rintro e u3 ⟨uo, b, rfl, hop, hgd, hcA, hgA⟩
                have HI3 := Lib.hid (HI2.out.draw hgA hcA)
                have HG3 := Lib.hid (grownBy_trans HG2.out hgA)
                have HD2 := Lib.hid hgd
                have HO2 := Lib.hid (hop.opx HI2.out.code.lt)
                obtain ⟨vo1, vo2, rfl, hoc, hod, hn1, hn2⟩ := hop
                obtain ⟨p2, c2, rfl⟩ := hoc.len
                obtain ⟨q2, d2, rfl, -⟩ := hod.len
                have HO1 := Lib.hid (HO1.out.grown hgA)
                have RQ := Lib.hid (row_keep hgA RQ.out (by omega))
                have hoQ2 : offB Q (.slice p2 b.cases.length c2) ∧ offB Q (.slice q2 b.draws.length d2) := ⟨hn1.off hluQ, hn2.off hluQ⟩
                have hluQ : Q < u3.heap.size := (Array.getElem?_eq_some_iff.1 RQ.out).1
                clear hoc hod hgd hcA hgA hn1 hn2
                refine hK.out _ _ ?_
                clear hK K hSU28
                try simp only [Act.put, List.setIfInBounds_toArray, List.set_cons_zero, List.set_cons_succ]
                refine wpAnyU_ready (rs := [6]) (by kernel_rfl) rfl ?_
                refine AllReadyU.free la6 rfl (by kernel_rfl) (fun K hK => ?_) ?_
                · go_simp
                  obtain ⟨u4, P, hv1, hX1, RP, hbn, ltn⟩ := alloc_pack u3 (.cells #[.int .i64 0, .int .i64 0, .int .i64 0, .int .u64 0, .int .i64 0, .slice none 0 0, .slice none 0 0] 38)
                  rw [hv1, hX1]
                  have HI4 := Lib.hid (HI3.out.over hbn.out)
                  have HG4 := Lib.hid (grownBy_of_below HG3.out (hbn.out.mono HG3.out.size))
                  have hlP : g < P := by have := HI3.out.code.lt; omega
                  have hxP : Wx.heap.size ≤ P := by have := HG3.out.size; omega
                  have hluP : P < u4.heap.size := (Array.getElem?_eq_some_iff.1 RP.out).1
                  have hne : Q ≠ P := by have := (Array.getElem?_eq_some_iff.1 RQ.out).1; omega
                  have RQ := Lib.hid (row_below2 hbn.out RQ.out)
                  have hluQ : Q < u4.heap.size := (Array.getElem?_eq_some_iff.1 RQ.out).1
                  have hoP1 := opx_offOf HO1.out (P := P) (by omega)
                  have HO1 := Lib.hid (HO1.out.below hbn.out)
                  have hoP2 := opx_offOf HO2.out (P := P) (by omega)
                  have HO2 := Lib.hid (HO2.out.below hbn.out)
                  clear hv1 hX1 hbn ltn
                  refine hK.out _ _ ?_
                  clear hK K
                  try simp only [Act.put, List.setIfInBounds_toArray, List.set_cons_zero, List.set_cons_succ]
                  refine wpAnyU_ready (rs := [8]) (by kernel_rfl) rfl ?_
                  refine AllReadyU.free la8 rfl (by kernel_rfl) (fun K hK => ?_) ?_
                  · refine step_store_row rfl 38 _ _ rfl P _ rfl rfl 38 #[.int .i64 0, .int .i64 0, .int .i64 0, .int .u64 0, .int .i64 0, .slice none 0 0, .slice none 0 0] RP.out (by kernel_rfl) rfl (by simp [Value.oneCell']) ?_
                    refine hK.out _ _ ?_
                    clear hK K
                    try simp only [Act.put, List.setIfInBounds_toArray, List.set_cons_zero, List.set_cons_succ]
                    refine wpAnyU_ready (rs := [9]) (by kernel_rfl) rfl ?_
                    refine AllReadyU.free la9 rfl (by kernel_rfl) (fun K hK => ?_) ?_
                    · have RQ2 : Hid ((u4.setRow P #[.int .i64 a.kind, .int .i64 a.mode, .int .i64 a.chan, .int .u64 a.val, .int .i64 a.dl, .slice p1 a.cases.length c1, .slice q1 a.draws.length d1]).heap[Q]? = some (.cells #[.int .i64 0, .int .i64 0, .int .i64 0, .int .u64 0, .int .i64 0, .slice none 0 0, .slice none 0 0] 38 (0, 0))) := (setRow_other u4 P Q #[.int .i64 a.kind, .int .i64 a.mode, .int .i64 a.chan, .int .u64 a.val, .int .i64 a.dl, .slice p1 a.cases.length c1, .slice q1 a.draws.length d1] (by omega)).trans RQ.out
                      refine step_store_row rfl 38 _ _ rfl Q _ rfl rfl 38 #[.int .i64 0, .int .i64 0, .int .i64 0, .int .u64 0, .int .i64 0, .slice none 0 0, .slice none 0 0] RQ2.out (by kernel_rfl) rfl (by simp [Value.oneCell']) ?_
                      refine hK.out _ _ ?_
                      clear hK K
                      try simp only [Act.put, List.setIfInBounds_toArray, List.set_cons_zero, List.set_cons_succ]
                      refine wpAnyU_done (by kernel_rfl) ?_ _
                      go_wp2_with fail
                      go_meet
                      exact ⟨P, Q, a, b, p1, q1, p2, q2, c1, d1, c2, d2, rfl, rfl, hlP, hlQ, (setRow_other _ Q P #[.int .i64 b.kind, .int .i64 b.mode, .int .i64 b.chan, .int .u64 b.val, .int .i64 b.dl, .slice p2 b.cases.length c2, .slice q2 b.draws.length d2] (by omega)).trans (setRow_heap _ _ _ _ _ (0, 0) RP.out), setRow_heap _ _ _ _ _ (0, 0) RQ2.out, opx_put (opx_put HO1.out hoP1) hoQ1, opx_put (opx_put HO2.out hoP2) hoQ2, ⟨HD1.out, HD2.out⟩, grownBy_of_new (grownBy_of_new HG4.out (row_grown _ P _) (fun k hk => by cases hk; exact hxP)) (row_grown _ Q _) (fun k hk => by cases hk; exact hxQ), codes_grown (codes_grown HI4.out.code (row_grown _ P _) (B := g + 1) (fun k hk => by cases hk; omega) (Nat.lt_succ_self g)) (row_grown _ Q _) (B := g + 1) (fun k hk => by cases hk; omega) (Nat.lt_succ_self g)⟩
                    exact AllReadyU.nil
                  exact AllReadyU.nil
                exact AllReadyU.nil
              refine AllReadyU.cons la6 rfl (fun K hK => ?_) ?_
              · go_simp
                obtain ⟨u3, P, hv1, hX1, RP, hbn, ltn⟩ := alloc_pack u2 (.cells #[.int .i64 0, .int .i64 0, .int .i64 0, .int .u64 0, .int .i64 0, .slice none 0 0, .slice none 0 0] 38)
                rw [hv1, hX1]
                have HI3 := Lib.hid (HI2.out.over hbn.out)
                have HG3 := Lib.hid (grownBy_of_below HG2.out (hbn.out.mono HG2.out.size))
                have hlP : g < P := by have := HI2.out.code.lt; omega
                have hxP : Wx.heap.size ≤ P := by have := HG2.out.size; omega
                have hluP : P < u3.heap.size := (Array.getElem?_eq_some_iff.1 RP.out).1
                have hne : Q ≠ P := by have := (Array.getElem?_eq_some_iff.1 RQ.out).1; omega
                have RQ := Lib.hid (row_below2 hbn.out RQ.out)
                have hluQ : Q < u3.heap.size := (Array.getElem?_eq_some_iff.1 RQ.out).1
                have hoP1 := opx_offOf HO1.out (P := P) (by omega)
                have HO1 := Lib.hid (HO1.out.below hbn.out)
                clear hv1 hX1 hbn ltn
                refine hK.out _ _ ?_ (fun hSU29 => ?_)
                · exact KS.out _ HI3.out.cr
                clear hK K hSU28
                try simp only [Act.put, List.setIfInBounds_toArray, List.set_cons_zero, List.set_cons_succ]
                refine wpAnyU_ready (rs := [5]) (by kernel_rfl) rfl ?_
                refine AllReadyU.free la5 rfl (by kernel_rfl) (fun K hK => ?_) ?_
                · go_simp
                  go_at_call 15
                  refine (opE g _ c u3 HI3.out.code HI3.out.conf HCL.out).mono ?_
                  rintro e u4 ⟨uo, b, rfl, hop, hgd, hcA, hgA⟩
                  have HI4 := Lib.hid (HI3.out.draw hgA hcA)
                  have HG4 := Lib.hid (grownBy_trans HG3.out hgA)
                  have HD2 := Lib.hid hgd
                  have HO2 := Lib.hid (hop.opx HI3.out.code.lt)
                  obtain ⟨vo1, vo2, rfl, hoc, hod, hn1, hn2⟩ := hop
                  obtain ⟨p2, c2, rfl⟩ := hoc.len
                  obtain ⟨q2, d2, rfl, -⟩ := hod.len
                  have HO1 := Lib.hid (HO1.out.grown hgA)
                  have RP := Lib.hid (row_keep hgA RP.out (by omega))
                  have RQ := Lib.hid (row_keep hgA RQ.out (by omega))
                  have hoP2 : offB P (.slice p2 b.cases.length c2) ∧ offB P (.slice q2 b.draws.length d2) := ⟨hn1.off hluP, hn2.off hluP⟩
                  have hluP : P < u4.heap.size := (Array.getElem?_eq_some_iff.1 RP.out).1
                  have hoQ2 : offB Q (.slice p2 b.cases.length c2) ∧ offB Q (.slice q2 b.draws.length d2) := ⟨hn1.off hluQ, hn2.off hluQ⟩
                  have hluQ : Q < u4.heap.size := (Array.getElem?_eq_some_iff.1 RQ.out).1
                  clear hoc hod hgd hcA hgA hn1 hn2
                  refine hK.out _ _ ?_
                  clear hK K hSU29
                  try simp only [Act.put, List.setIfInBounds_toArray, List.set_cons_zero, List.set_cons_succ]
                  refine wpAnyU_ready (rs := [8]) (by kernel_rfl) rfl ?_
                  refine AllReadyU.free la8 rfl (by kernel_rfl) (fun K hK => ?_) ?_
                  · refine step_store_row rfl 38 _ _ rfl P _ rfl rfl 38 #[.int .i64 0, .int .i64 0, .int .i64 0, .int .u64 0, .int .i64 0, .slice none 0 0, .slice none 0 0] RP.out (by kernel_rfl) rfl (by simp [Value.oneCell']) ?_
                    refine hK.out _ _ ?_
                    clear hK K
                    try simp only [Act.put, List.setIfInBounds_toArray, List.set_cons_zero, List.set_cons_succ]
                    refine wpAnyU_ready (rs := [9]) (by kernel_rfl) rfl ?_
                    refine AllReadyU.free la9 rfl (by kernel_rfl) (fun K hK => ?_) ?_
                    · have RQ2 : Hid ((u4.setRow P #[.int .i64 a.kind, .int .i64 a.mode, .int .i64 a.chan, .int .u64 a.val, .int .i64 a.dl, .slice p1 a.cases.length c1, .slice q1 a.draws.length d1]).heap[Q]? = some (.cells #[.int .i64 0, .int .i64 0, .int .i64 0, .int .u64 0, .int .i64 0, .slice none 0 0, .slice none 0 0] 38 (0, 0))) := (setRow_other u4 P Q #[.int .i64 a.kind, .int .i64 a.mode, .int .i64 a.chan, .int .u64 a.val, .int .i64 a.dl, .slice p1 a.cases.length c1, .slice q1 a.draws.length d1] (by omega)).trans RQ.out
                      refine step_store_row rfl 38 _ _ rfl Q _ rfl rfl 38 #[.int .i64 0, .int .i64 0, .int .i64 0, .int .u64 0, .int .i64 0, .slice none 0 0, .slice none 0 0] RQ2.out (by kernel_rfl) rfl (by simp [Value.oneCell']) ?_
                      refine hK.out _ _ ?_
                      clear hK K
                      try simp only [Act.put, List.setIfInBounds_toArray, List.set_cons_zero, List.set_cons_succ]
                      refine wpAnyU_done (by kernel_rfl) ?_ _
                      go_wp2_with fail
                      go_meet
                      exact ⟨P, Q, a, b, p1, q1, p2, q2, c1, d1, c2, d2, rfl, rfl, hlP, hlQ, (setRow_other _ Q P #[.int .i64 b.kind, .int .i64 b.mode, .int .i64 b.chan, .int .u64 b.val, .int .i64 b.dl, .slice p2 b.cases.length c2, .slice q2 b.draws.length d2] (by omega)).trans (setRow_heap _ _ _ _ _ (0, 0) RP.out), setRow_heap _ _ _ _ _ (0, 0) RQ2.out, opx_put (opx_put HO1.out hoP1) hoQ1, opx_put (opx_put HO2.out hoP2) hoQ2, ⟨HD1.out, HD2.out⟩, grownBy_of_new (grownBy_of_new HG4.out (row_grown _ P _) (fun k hk => by cases hk; exact hxP)) (row_grown _ Q _) (fun k hk => by cases hk; exact hxQ), codes_grown (codes_grown HI4.out.code (row_grown _ P _) (B := g + 1) (fun k hk => by cases hk; omega) (Nat.lt_succ_self g)) (row_grown _ Q _) (B := g + 1) (fun k hk => by cases hk; omega) (Nat.lt_succ_self g)⟩
                    exact AllReadyU.nil
                  exact AllReadyU.nil
                exact AllReadyU.nil
              exact AllReadyU.nil
            refine AllReadyU.cons la6 rfl (fun K hK => ?_) ?_
            · go_simp
              obtain ⟨u2, P, hv1, hX1, RP, hbn, ltn⟩ := alloc_pack u1 (.cells #[.int .i64 0, .int .i64 0, .int .i64 0, .int .u64 0, .int .i64 0, .slice none 0 0, .slice none 0 0] 38)
              rw [hv1, hX1]
              have HI2 := Lib.hid (HI1.out.over hbn.out)
              have HG2 := Lib.hid (grownBy_of_below HG1.out (hbn.out.mono HG1.out.size))
              have hlP : g < P := by have := HI1.out.code.lt; omega
              have hxP : Wx.heap.size ≤ P := by have := HG1.out.size; omega
              have hluP : P < u2.heap.size := (Array.getElem?_eq_some_iff.1 RP.out).1
              have hne : Q ≠ P := by have := (Array.getElem?_eq_some_iff.1 RQ.out).1; omega
              have RQ := Lib.hid (row_below2 hbn.out RQ.out)
              have hluQ : Q < u2.heap.size := (Array.getElem?_eq_some_iff.1 RQ.out).1
              clear hv1 hX1 hbn ltn
              refine hK.out _ _ ?_ (fun hSU30 => ?_)
              · exact KS.out _ HI2.out.cr
              clear hK K hSU27
              try simp only [Act.put, List.setIfInBounds_toArray, List.set_cons_zero, List.set_cons_succ]
              refine wpAnyU_ready (rs := [2]) (by kernel_rfl) rfl ?_
              refine AllReadyU.cons la2 rfl (fun K hK => ?_) ?_
              · go_simp
                go_at_call 15
                refine (opE g _ c u2 HI2.out.code HI2.out.conf HCL.out).mono ?_
                rintro e u3 ⟨uo, a, rfl, hop, hgd, hcA, hgA⟩
                have HI3 := Lib.hid (HI2.out.draw hgA hcA)
                have HG3 := Lib.hid (grownBy_trans HG2.out hgA)
                have HD1 := Lib.hid hgd
                have HO1 := Lib.hid (hop.opx HI2.out.code.lt)
                obtain ⟨vo1, vo2, rfl, hoc, hod, hn1, hn2⟩ := hop
                obtain ⟨p1, c1, rfl⟩ := hoc.len
                obtain ⟨q1, d1, rfl, -⟩ := hod.len
                have RP := Lib.hid (row_keep hgA RP.out (by omega))
                have RQ := Lib.hid (row_keep hgA RQ.out (by omega))
                have hoP1 : offB P (.slice p1 a.cases.length c1) ∧ offB P (.slice q1 a.draws.length d1) := ⟨hn1.off hluP, hn2.off hluP⟩
                have hluP : P < u3.heap.size := (Array.getElem?_eq_some_iff.1 RP.out).1
                have hoQ1 : offB Q (.slice p1 a.cases.length c1) ∧ offB Q (.slice q1 a.draws.length d1) := ⟨hn1.off hluQ, hn2.off hluQ⟩
                have hluQ : Q < u3.heap.size := (Array.getElem?_eq_some_iff.1 RQ.out).1
                clear hoc hod hgd hcA hgA hn1 hn2
                refine hK.out _ _ ?_ (fun hSU31 => ?_)
                · exact KS.out _ HI3.out.cr
                clear hK K hSU30
                try simp only [Act.put, List.setIfInBounds_toArray, List.set_cons_zero, List.set_cons_succ]
                refine wpAnyU_ready (rs := [5]) (by kernel_rfl) rfl ?_
                refine AllReadyU.free la5 rfl (by kernel_rfl) (fun K hK => ?_) ?_
                · go_simp
                  go_at_call 15
                  refine (opE g _ c u3 HI3.out.code HI3.out.conf HCL.out).mono ?_
                  rintro e u4 ⟨uo, b, rfl, hop, hgd, hcA, hgA⟩
                  have HI4 := Lib.hid (HI3.out.draw hgA hcA)
                  have HG4 := Lib.hid (grownBy_trans HG3.out hgA)
                  have HD2 := Lib.hid hgd
                  have HO2 := Lib.hid (hop.opx HI3.out.code.lt)
                  obtain ⟨vo1, vo2, rfl, hoc, hod, hn1, hn2⟩ := hop
                  obtain ⟨p2, c2, rfl⟩ := hoc.len
                  obtain ⟨q2, d2, rfl, -⟩ := hod.len
                  have HO1 := Lib.hid (HO1.out.grown hgA)
                  have RP := Lib.hid (row_keep hgA RP.out (by omega))
                  have RQ := Lib.hid (row_keep hgA RQ.out (by omega))
                  have hoP2 : offB P (.slice p2 b.cases.length c2) ∧ offB P (.slice q2 b.draws.length d2) := ⟨hn1.off hluP, hn2.off hluP⟩
                  have hluP : P < u4.heap.size := (Array.getElem?_eq_some_iff.1 RP.out).1
                  have hoQ2 : offB Q (.slice p2 b.cases.length c2) ∧ offB Q (.slice q2 b.draws.length d2) := ⟨hn1.off hluQ, hn2.off hluQ⟩
                  have hluQ : Q < u4.heap.size := (Array.getElem?_eq_some_iff.1 RQ.out).1
                  clear hoc hod hgd hcA hgA hn1 hn2
                  refine hK.out _ _ ?_
                  clear hK K hSU31
                  try simp only [Act.put, List.setIfInBounds_toArray, List.set_cons_zero, List.set_cons_succ]
                  refine wpAnyU_ready (rs := [8]) (by kernel_rfl) rfl ?_
                  refine AllReadyU.free la8 rfl (by kernel_rfl) (fun K hK => ?_) ?_
                  · refine step_store_row rfl 38 _ _ rfl P _ rfl rfl 38 #[.int .i64 0, .int .i64 0, .int .i64 0, .int .u64 0, .int .i64 0, .slice none 0 0, .slice none 0 0] RP.out (by kernel_rfl) rfl (by simp [Value.oneCell']) ?_
                    refine hK.out _ _ ?_
                    clear hK K
                    try simp only [Act.put, List.setIfInBounds_toArray, List.set_cons_zero, List.set_cons_succ]
                    refine wpAnyU_ready (rs := [9]) (by kernel_rfl) rfl ?_
                    refine AllReadyU.free la9 rfl (by kernel_rfl) (fun K hK => ?_) ?_
                    · have RQ2 : Hid ((u4.setRow P #[.int .i64 a.kind, .int .i64 a.mode, .int .i64 a.chan, .int .u64 a.val, .int .i64 a.dl, .slice p1 a.cases.length c1, .slice q1 a.draws.length d1]).heap[Q]? = some (.cells #[.int .i64 0, .int .i64 0, .int .i64 0, .int .u64 0, .int .i64 0, .slice none 0 0, .slice none 0 0] 38 (0, 0))) := (setRow_other u4 P Q #[.int .i64 a.kind, .int .i64 a.mode, .int .i64 a.chan, .int .u64 a.val, .int .i64 a.dl, .slice p1 a.cases.length c1, .slice q1 a.draws.length d1] (by omega)).trans RQ.out
                      refine step_store_row rfl 38 _ _ rfl Q _ rfl rfl 38 #[.int .i64 0, .int .i64 0, .int .i64 0, .int .u64 0, .int .i64 0, .slice none 0 0, .slice none 0 0] RQ2.out (by kernel_rfl) rfl (by simp [Value.oneCell']) ?_
                      refine hK.out _ _ ?_
                      clear hK K
                      try simp only [Act.put, List.setIfInBounds_toArray, List.set_cons_zero, List.set_cons_succ]
                      refine wpAnyU_done (by kernel_rfl) ?_ _
                      go_wp2_with fail
                      go_meet
                      exact ⟨P, Q, a, b, p1, q1, p2, q2, c1, d1, c2, d2, rfl, rfl, hlP, hlQ, (setRow_other _ Q P #[.int .i64 b.kind, .int .i64 b.mode, .int .i64 b.chan, .int .u64 b.val, .int .i64 b.dl, .slice p2 b.cases.length c2, .slice q2 b.draws.length d2] (by omega)).trans (setRow_heap _ _ _ _ _ (0, 0) RP.out), setRow_heap _ _ _ _ _ (0, 0) RQ2.out, opx_put (opx_put HO1.out hoP1) hoQ1, opx_put (opx_put HO2.out hoP2) hoQ2, ⟨HD1.out, HD2.out⟩, grownBy_of_new (grownBy_of_new HG4.out (row_grown _ P _) (fun k hk => by cases hk; exact hxP)) (row_grown _ Q _) (fun k hk => by cases hk; exact hxQ), codes_grown (codes_grown HI4.out.code (row_grown _ P _) (B := g + 1) (fun k hk => by cases hk; omega) (Nat.lt_succ_self g)) (row_grown _ Q _) (B := g + 1) (fun k hk => by cases hk; omega) (Nat.lt_succ_self g)⟩
                    exact AllReadyU.nil
                  exact AllReadyU.nil
                exact AllReadyU.nil
              exact AllReadyU.nil
            exact AllReadyU.nil
          refine AllReadyU.cons la6 rfl (fun K hK => ?_) ?_
          · go_simp
            obtain ⟨u2, P, hv1, hX1, RP, hbn, ltn⟩ := alloc_pack u1 (.cells #[.int .i64 0, .int .i64 0, .int .i64 0, .int .u64 0, .int .i64 0, .slice none 0 0, .slice none 0 0] 38)
            rw [hv1, hX1]
            have HI2 := Lib.hid (HI1.out.over hbn.out)
            have HG2 := Lib.hid (grownBy_of_below HG1.out (hbn.out.mono HG1.out.size))
            have hlP : g < P := by have := HI1.out.code.lt; omega
            have hxP : Wx.heap.size ≤ P := by have := HG1.out.size; omega
            have hluP : P < u2.heap.size := (Array.getElem?_eq_some_iff.1 RP.out).1
            have hne : Q ≠ P := by have := (Array.getElem?_eq_some_iff.1 RQ.out).1; omega
            have RQ := Lib.hid (row_below2 hbn.out RQ.out)
            have hluQ : Q < u2.heap.size := (Array.getElem?_eq_some_iff.1 RQ.out).1
            clear hv1 hX1 hbn ltn
            refine hK.out _ _ ?_ (fun hSU32 => ?_)
            · exact KS.out _ HI2.out.cr
            clear hK K hSU26
            try simp only [Act.put, List.setIfInBounds_toArray, List.set_cons_zero, List.set_cons_succ]
            refine wpAnyU_ready (rs := [1]) (by kernel_rfl) rfl ?_
            refine AllReadyU.cons la1 rfl (fun K hK => ?_) ?_
            · obtain ⟨d0, d1, d2⟩ := KS.out _ HI2.out.cr
              go_simp
              clear d0 d1 d2
              refine hK.out _ _ ?_ (fun hSU33 => ?_)
              · exact hSU32
              clear hK K hSU32
              try simp only [Act.put, List.setIfInBounds_toArray, List.set_cons_zero, List.set_cons_succ]
              refine wpAnyU_ready (rs := [2]) (by kernel_rfl) rfl ?_
              refine AllReadyU.cons la2 rfl (fun K hK => ?_) ?_
              · go_simp
                go_at_call 15
                refine (opE g _ c u2 HI2.out.code HI2.out.conf HCL.out).mono ?_
                rintro e u3 ⟨uo, a, rfl, hop, hgd, hcA, hgA⟩
                have HI3 := Lib.hid (HI2.out.draw hgA hcA)
                have HG3 := Lib.hid (grownBy_trans HG2.out hgA)
                have HD1 := Lib.hid hgd
                have HO1 := Lib.hid (hop.opx HI2.out.code.lt)
                obtain ⟨vo1, vo2, rfl, hoc, hod, hn1, hn2⟩ := hop
                obtain ⟨p1, c1, rfl⟩ := hoc.len
                obtain ⟨q1, d1, rfl, -⟩ := hod.len
                have RP := Lib.hid (row_keep hgA RP.out (by omega))
                have RQ := Lib.hid (row_keep hgA RQ.out (by omega))
                have hoP1 : offB P (.slice p1 a.cases.length c1) ∧ offB P (.slice q1 a.draws.length d1) := ⟨hn1.off hluP, hn2.off hluP⟩
                have hluP : P < u3.heap.size := (Array.getElem?_eq_some_iff.1 RP.out).1
                have hoQ1 : offB Q (.slice p1 a.cases.length c1) ∧ offB Q (.slice q1 a.draws.length d1) := ⟨hn1.off hluQ, hn2.off hluQ⟩
                have hluQ : Q < u3.heap.size := (Array.getElem?_eq_some_iff.1 RQ.out).1
                clear hoc hod hgd hcA hgA hn1 hn2
                refine hK.out _ _ ?_ (fun hSU34 => ?_)
                · exact KS.out _ HI3.out.cr
                clear hK K hSU33
                try simp only [Act.put, List.setIfInBounds_toArray, List.set_cons_zero, List.set_cons_succ]
                refine wpAnyU_ready (rs := [5]) (by kernel_rfl) rfl ?_
                refine AllReadyU.free la5 rfl (by kernel_rfl) (fun K hK => ?_) ?_
                · go_simp
                  go_at_call 15
                  refine (opE g _ c u3 HI3.out.code HI3.out.conf HCL.out).mono ?_
                  rintro e u4 ⟨uo, b, rfl, hop, hgd, hcA, hgA⟩
                  have HI4 := Lib.hid (HI3.out.draw hgA hcA)
                  have HG4 := Lib.hid (grownBy_trans HG3.out hgA)
                  have HD2 := Lib.hid hgd
                  have HO2 := Lib.hid (hop.opx HI3.out.code.lt)
                  obtain ⟨vo1, vo2, rfl, hoc, hod, hn1, hn2⟩ := hop
                  obtain ⟨p2, c2, rfl⟩ := hoc.len
                  obtain ⟨q2, d2, rfl, -⟩ := hod.len
                  have HO1 := Lib.hid (HO1.out.grown hgA)
                  have RP := Lib.hid (row_keep hgA RP.out (by omega))
                  have RQ := Lib.hid (row_keep hgA RQ.out (by omega))
                  have hoP2 : offB P (.slice p2 b.cases.length c2) ∧ offB P (.slice q2 b.draws.length d2) := ⟨hn1.off hluP, hn2.off hluP⟩
                  have hluP : P < u4.heap.size := (Array.getElem?_eq_some_iff.1 RP.out).1
                  have hoQ2 : offB Q (.slice p2 b.cases.length c2) ∧ offB Q (.slice q2 b.draws.length d2) := ⟨hn1.off hluQ, hn2.off hluQ⟩
                  have hluQ : Q < u4.heap.size := (Array.getElem?_eq_some_iff.1 RQ.out).1
                  clear hoc hod hgd hcA hgA hn1 hn2
                  refine hK.out _ _ ?_
                  clear hK K hSU34
                  try simp only [Act.put, List.setIfInBounds_toArray, List.set_cons_zero, List.set_cons_succ]
                  refine wpAnyU_ready (rs := [8]) (by kernel_rfl) rfl ?_
                  refine AllReadyU.free la8 rfl (by kernel_rfl) (fun K hK => ?_) ?_
                  · refine step_store_row rfl 38 _ _ rfl P _ rfl rfl 38 #[.int .i64 0, .int .i64 0, .int .i64 0, .int .u64 0, .int .i64 0, .slice none 0 0, .slice none 0 0] RP.out (by kernel_rfl) rfl (by simp [Value.oneCell']) ?_
                    refine hK.out _ _ ?_
                    clear hK K
                    try simp only [Act.put, List.setIfInBounds_toArray, List.set_cons_zero, List.set_cons_succ]
                    refine wpAnyU_ready (rs := [9]) (by kernel_rfl) rfl ?_
                    refine AllReadyU.free la9 rfl (by kernel_rfl) (fun K hK => ?_) ?_
                    · have RQ2 : Hid ((u4.setRow P #[.int .i64 a.kind, .int .i64 a.mode, .int .i64 a.chan, .int .u64 a.val, .int .i64 a.dl, .slice p1 a.cases.length c1, .slice q1 a.draws.length d1]).heap[Q]? = some (.cells #[.int .i64 0, .int .i64 0, .int .i64 0, .int .u64 0, .int .i64 0, .slice none 0 0, .slice none 0 0] 38 (0, 0))) := (setRow_other u4 P Q #[.int .i64 a.kind, .int .i64 a.mode, .int .i64 a.chan, .int .u64 a.val, .int .i64 a.dl, .slice p1 a.cases.length c1, .slice q1 a.draws.length d1] (by omega)).trans RQ.out
                      refine step_store_row rfl 38 _ _ rfl Q _ rfl rfl 38 #[.int .i64 0, .int .i64 0, .int .i64 0, .int .u64 0, .int .i64 0, .slice none 0 0, .slice none 0 0] RQ2.out (by kernel_rfl) rfl (by simp [Value.oneCell']) ?_
                      refine hK.out _ _ ?_
                      clear hK K
                      try simp only [Act.put, List.setIfInBounds_toArray, List.set_cons_zero, List.set_cons_succ]
                      refine wpAnyU_done (by kernel_rfl) ?_ _
                      go_wp2_with fail
                      go_meet
                      exact ⟨P, Q, a, b, p1, q1, p2, q2, c1, d1, c2, d2, rfl, rfl, hlP, hlQ, (setRow_other _ Q P #[.int .i64 b.kind, .int .i64 b.mode, .int .i64 b.chan, .int .u64 b.val, .int .i64 b.dl, .slice p2 b.cases.length c2, .slice q2 b.draws.length d2] (by omega)).trans (setRow_heap _ _ _ _ _ (0, 0) RP.out), setRow_heap _ _ _ _ _ (0, 0) RQ2.out, opx_put (opx_put HO1.out hoP1) hoQ1, opx_put (opx_put HO2.out hoP2) hoQ2, ⟨HD1.out, HD2.out⟩, grownBy_of_new (grownBy_of_new HG4.out (row_grown _ P _) (fun k hk => by cases hk; exact hxP)) (row_grown _ Q _) (fun k hk => by cases hk; exact hxQ), codes_grown (codes_grown HI4.out.code (row_grown _ P _) (B := g + 1) (fun k hk => by cases hk; omega) (Nat.lt_succ_self g)) (row_grown _ Q _) (B := g + 1) (fun k hk => by cases hk; omega) (Nat.lt_succ_self g)⟩
                    exact AllReadyU.nil
                  exact AllReadyU.nil
                exact AllReadyU.nil
              exact AllReadyU.nil
            exact AllReadyU.nil
          exact AllReadyU.nil
        exact AllReadyU.nil
      case rest =>
        obtain ⟨P, Q, a, b, p1, q1, p2, q2, c1, d1, c2, d2, rfl, rfl, hlP, hlQ, RP, RQ, HO1, HO2, HGD, HG9, HC9⟩ := hcut
        obtain ⟨wz, rfl⟩ : ∃ wz : World, wz = wc := ⟨_, rfl⟩
        have HI9 := Lib.hid (HIX.out.draw HG9.out HC9.out)
        have HV1 := Lib.hid HO1.out.opv
        have HV2 := Lib.hid HO2.out.opv
        have hPz : P < wz.heap.size := (Array.getElem?_eq_some_iff.1 RP.out).1
        have hQz : Q < wz.heap.size := (Array.getElem?_eq_some_iff.1 RQ.out).1
        obtain ⟨C, hC⟩ : ∃ C, meetingE l a b (casesE a).length = C := ⟨_, rfl⟩
        have TM := Lib.hid fun w' (hb : Below wz.heap.size wz w') => rmeeting_at _ _ _ l a b w' C hC (HI9.out.sl.below hb) (HV1.out.below hb) (HV2.out.below hb) HGD.out.1 HGD.out.2
        have HME : Hid (∀ x y, (x, y) ∈ C → pairB l a x b y = true ∧ pairB l b y a x = true) := fun x y h => meeting_mem (hC ▸ h)
        obtain ⟨n, hn⟩ : ∃ n, C.length = n := ⟨_, rfl⟩
        rw [hn] at TM
        have HN := Lib.hid hn
        have hnb : n ≤ 100000 := by
          rw [← hn, ← hC]
          have h1 := meeting_le l a b (casesE a).length
          have h2 := cases_few HGD.out.1
          have h3 := cases_few HGD.out.2
          have h4 : (casesE a).length * (casesE b).length ≤ 100 * 100 := Nat.mul_le_mul h2 h3
          omega
        clear hC hn HI HG HCo
        obtain ⟨x0, x1, x2, x3, x4, x5, x6⟩ := rowc7 RP.out
        obtain ⟨y0, y1, y2, y3, y4, y5, y6⟩ := rowc7 RQ.out
        go_wp2_with fail
        refine (TM.out _ (Below.refl _ _)).mono ?_; rintro e wM ⟨am, km, rfl, hsm, hbm⟩
        have HSM := Lib.hid hsm
        have HBM := Lib.hid hbm
        clear x0 x1 x2 x3 x4 x5 x6 y0 y1 y2 y3 y4 y5 y6 hsm hbm TM
        go_wp2_with fail
        go_loopw [40] (fun u40 wr => ∃ k : Nat, u40 = .int .i64 k ∧ k ≤ n ∧ Hid (Below wM.heap.size wM wr)) (fun u40 _ => n - (intOf u40).toNat)
        case atStart => exact ⟨0, rfl, by omega, Below.refl _ _⟩
        case round =>
          obtain ⟨k, rfl, hk, HBk⟩ := hrel
          obtain ⟨wp, rfl⟩ : ∃ wp : World, wp = wr := ⟨_, rfl⟩
          by_cases hkn : k < n
          · have hkI : (k : Int) < (n : Int) := by omega
            have hkc : k < C.length := by rw [HN.out]; exact hkn
            obtain ⟨⟨⟨t1, t2, t3, t4, t5⟩, ⟨s1, s2, s3, s4, s5⟩⟩, ht⟩ : ∃ r, C.getD k (⟨0, 0, 0, false, 0⟩, ⟨0, 0, 0, false, 0⟩) = r := ⟨_, rfl⟩
            have hmm := HME.out ⟨t1, t2, t3, t4, t5⟩ ⟨s1, s2, s3, s4, s5⟩ (by
              rw [← ht, List.getD_eq_getElem?_getD, List.getElem?_eq_getElem hkc]
              exact List.getElem_mem hkc)
            obtain ⟨p8, o8, q8, hve, hb8, c0, c1, c2, c3, c4, c5, c6, c7, c8, c9⟩ := SlS.pair (SlS.below HSM.out HBk.out) k hkc ht
            simp only [Value.slice.injEq] at hve
            obtain ⟨rfl, -, rfl⟩ := hve
            dsimp only at c0 c1 c2 c3 c4 c5 c6 c7 c8 c9
            have HM1 := Lib.hid hmm.1
            have HM2 := Lib.hid hmm.2
            have HBZ := Lib.hid (below_then HBM.out HBk.out)
            clear ht hkc hmm
            obtain ⟨Wz, hWz⟩ : ∃ Wz, (wp.alloc (.cells #[.int .i64 0, .int .i64 0, .int .u64 0, .bool false, .int .i64 0, .int .i64 0, .int .i64 0, .int .u64 0, .bool false, .int .i64 0] 42)).setRow wp.heap.size #[.int .i64 t1, .int .i64 t2, .int .u64 t3, .bool t4, .int .i64 t5, .int .i64 s1, .int .i64 s2, .int .u64 s3, .bool s4, .int .i64 s5] = Wz := ⟨_, rfl⟩
            have Nz : Hid ((wp.alloc (.cells #[.int .i64 0, .int .i64 0, .int .u64 0, .bool false, .int .i64 0, .int .i64 0, .int .i64 0, .int .u64 0, .bool false, .int .i64 0] 42)).heap[wp.heap.size]? = some (.cells #[.int .i64 0, .int .i64 0, .int .u64 0, .bool false, .int .i64 0, .int .i64 0, .int .i64 0, .int .u64 0, .bool false, .int .i64 0] 42 (0, 0))) := heap_alloc_new _ _
            have HBz : Hid (Below wp.heap.size wp Wz) := hWz ▸ row_below (below_new (Below.refl _ _) _) (Nat.le_refl _) _
            have Rz : Hid (Wz.heap[wp.heap.size]? = some (.cells #[.int .i64 t1, .int .i64 t2, .int .u64 t3, .bool t4, .int .i64 t5, .int .i64 s1, .int .i64 s2, .int .u64 s3, .bool s4, .int .i64 s5] 42 (0, 0))) := hWz ▸ setRow_heap _ _ _ _ _ (0, 0) Nz.out
            have HWz := Lib.hid hWz
            clear hWz
            go_upto_region 13 with (refine wpList_store_row rfl 42 _ _ rfl (wp.heap.size) _ rfl rfl 42 #[.int .i64 0, .int .i64 0, .int .u64 0, .bool false, .int .i64 0, .int .i64 0, .int .i64 0, .int .u64 0, .bool false, .int .i64 0] Nz.out (by kernel_rfl) rfl (by simp [Value.oneCell']) ?_)
            rw [HWz.out]
            try simp only [Act.put]
            clear HWz Nz
            obtain ⟨Z, hZ⟩ : ∃ Z, wp.heap.size = Z := ⟨_, rfl⟩
            rw [hZ] at Rz
            rw [hZ]
            have hZp : wp.heap.size ≤ Z := by omega
            clear hZ
            have HBz2 := Lib.hid (below_then HBZ.out HBz.out)
            have RP2 := Lib.hid (row_below2 HBz2.out RP.out)
            have RQ2 := Lib.hid (row_below2 HBz2.out RQ.out)
            have TQ1 := Lib.hid fun w' (hb : Below wz.heap.size wz w') => pair_q t1 t2 t3 t4 t5 s1 s2 s3 s4 s5 true _ _ _ l a b w' (HI9.out.sl.below hb) (HV1.out.below hb) (HV2.out.below hb) HM1.out
            have TQ2 := Lib.hid fun w' (hb : Below wz.heap.size wz w') => pair_q s1 s2 s3 s4 s5 t1 t2 t3 t4 t5 true _ _ _ l b a w' (HI9.out.sl.below hb) (HV2.out.below hb) (HV1.out.below hb) HM2.out
            clear c0 c1 c2 c3 c4 c5 c6 c7 c8 c9 HM1 HM2
            obtain ⟨x0, x1, x2, x3, x4, x5, x6⟩ := rowc7 RP2.out
            obtain ⟨y0, y1, y2, y3, y4, y5, y6⟩ := rowc7 RQ2.out
            obtain ⟨z0, z1, z2, z3, z4, z5, z6, z7, z8, z9⟩ := rowc10 Rz.out
            go_wp2_with fail
            refine (TQ1.out _ HBz2.out).mono ?_; rintro e w5 ⟨rfl, hb5⟩
            have HB5 := Lib.hid (below_then HBz2.out hb5)
            have RP3 := Lib.hid (row_below2 HB5.out RP.out)
            have RQ3 := Lib.hid (row_below2 HB5.out RQ.out)
            have RZ3 := Lib.hid (row_below2 hb5 Rz.out)
            have HB5k := Lib.hid (below_then HBk.out (below_then HBz.out hb5))
            clear x0 x1 x2 x3 x4 x5 x6 y0 y1 y2 y3 y4 y5 y6 z0 z1 z2 z3 z4 z5 z6 z7 z8 z9 hb5 TQ1
            obtain ⟨x0, x1, x2, x3, x4, x5, x6⟩ := rowc7 RP3.out
            obtain ⟨y0, y1, y2, y3, y4, y5, y6⟩ := rowc7 RQ3.out
            obtain ⟨z0, z1, z2, z3, z4, z5, z6, z7, z8, z9⟩ := rowc10 RZ3.out
            go_wp2_with fail
            refine (TQ2.out _ HB5.out).mono ?_; rintro e w6 ⟨rfl, hb6⟩
            have HB6 := Lib.hid (below_then HB5.out hb6)
            have RZ4 := Lib.hid (row_below2 hb6 RZ3.out)
            have HB6k := Lib.hid (below_then HB5k.out hb6)
            have hZw : wM.heap.size ≤ Z := Nat.le_trans HBk.out.size hZp
            have hZz : wz.heap.size ≤ Z := Nat.le_trans HBM.out.size hZw
            have hZ6 : Z < w6.heap.size := (Array.getElem?_eq_some_iff.1 RZ4.out).1
            clear x0 x1 x2 x3 x4 x5 x6 y0 y1 y2 y3 y4 y5 y6 z0 z1 z2 z3 z4 z5 z6 z7 z8 z9 hb6 TQ2 HB5k HB5
            obtain ⟨z0, z1, z2, z3, z4, z5, z6, z7, z8, z9⟩ := rowc10 RZ4.out
            obtain ⟨nv, hnv⟩ : ∃ z, IntKind.u64.wrap (s3 + 1) = z := ⟨_, rfl⟩
            have fz := frozen_of_row w6 Z 7 _ _ RZ4.out
            have r1 := heap_setCell_same w6 Z 7 _ _ (.int .u64 nv) RZ4.out
            simp at r1
            have HB7 := Lib.hid (HB6.out.setCell (p := ⟨Z, 7, none⟩) hZz (.int .u64 nv))
            have HB7k := Lib.hid (HB6k.out.setCell (p := ⟨Z, 7, none⟩) hZw (.int .u64 nv))
            obtain ⟨w7, hw7⟩ : ∃ w7, w6.setCell ⟨Z, 7, none⟩ (.int .u64 nv) = w7 := ⟨_, rfl⟩
            rw [hw7] at r1 HB7 HB7k
            have HW7 := Lib.hid hw7
            have RZ7 := Lib.hid r1
            clear hw7 r1
            go_upto_region 16 with fail
            try rw [hnv]
            rw [HW7.out]
            clear z0 z1 z2 z3 z4 z5 z6 z7 z8 z9 fz HW7 hnv
            have RP7 := Lib.hid (row_below2 HB7.out RP.out)
            have RQ7 := Lib.hid (row_below2 HB7.out RQ.out)
            obtain ⟨q, hq⟩ : ∃ q, pairB l a ⟨t1, t2, t3, t4, t5⟩ b ⟨s1, s2, nv, s4, s5⟩ = q := ⟨_, rfl⟩
            have TQ := Lib.hid fun w' (hb : Below wz.heap.size wz w') => pair_q t1 t2 t3 t4 t5 s1 s2 nv s4 s5 q _ _ _ l a b w' (HI9.out.sl.below hb) (HV1.out.below hb) (HV2.out.below hb) hq
            have TR := Lib.hid fun w' (hb : Below wz.heap.size wz w') => pair_r t1 t2 t3 t4 t5 s1 s2 nv s4 s5 q _ _ _ l a b w' (HI9.out.sl.below hb) (HV1.out.below hb) (HV2.out.below hb) hq
            have hqq : (q != q) = false := by simp
            clear hq
            obtain ⟨x0, x1, x2, x3, x4, x5, x6⟩ := rowc7 RP7.out
            obtain ⟨y0, y1, y2, y3, y4, y5, y6⟩ := rowc7 RQ7.out
            obtain ⟨z0, z1, z2, z3, z4, z5, z6, z7, z8, z9⟩ := rowc10 RZ7.out
            have hP7 : P < w7.heap.size := (Array.getElem?_eq_some_iff.1 RP7.out).1
            have hQ7 : Q < w7.heap.size := (Array.getElem?_eq_some_iff.1 RQ7.out).1
            have hZ7 : Z < w7.heap.size := (Array.getElem?_eq_some_iff.1 RZ7.out).1
            go_upto_region 16 with fail
            have Xx0 := ext_cell _ _ (hP7) _ x0
            have Xx1 := ext_cell _ _ (hP7) _ x1
            have Xx2 := ext_cell _ _ (hP7) _ x2
            have Xx3 := ext_cell _ _ (hP7) _ x3
            have Xx4 := ext_cell _ _ (hP7) _ x4
            have Xx5 := ext_cell _ _ (hP7) _ x5
            have Xx6 := ext_cell _ _ (hP7) _ x6
            have Xy0 := ext_cell _ _ (hQ7) _ y0
            have Xy1 := ext_cell _ _ (hQ7) _ y1
            have Xy2 := ext_cell _ _ (hQ7) _ y2
            have Xy3 := ext_cell _ _ (hQ7) _ y3
            have Xy4 := ext_cell _ _ (hQ7) _ y4
            have Xy5 := ext_cell _ _ (hQ7) _ y5
            have Xy6 := ext_cell _ _ (hQ7) _ y6
            have Xz0 := ext_cell _ _ (hZ7) _ z0
            have Xz1 := ext_cell _ _ (hZ7) _ z1
            have Xz2 := ext_cell _ _ (hZ7) _ z2
            have Xz3 := ext_cell _ _ (hZ7) _ z3
            have Xz4 := ext_cell _ _ (hZ7) _ z4
            have Xz5 := ext_cell _ _ (hZ7) _ z5
            have Xz6 := ext_cell _ _ (hZ7) _ z6
            have Xz7 := ext_cell _ _ (hZ7) _ z7
            have Xz8 := ext_cell _ _ (hZ7) _ z8
            have Xz9 := ext_cell _ _ (hZ7) _ z9
            clear x0 x1 x2 x3 x4 x5 x6 y0 y1 y2 y3 y4 y5 y6 z0 z1 z2 z3 z4 z5 z6 z7 z8 z9
            refine wp_region_ext w7 (by kernel_rfl) (by kernel_rfl) (Below.refl _ _) ?_
            repeat (go_big_quiet_step (first | (go_at_call 17; with_reducible exact calls_ext (TQ.out _ (below_then HB7.out (Ext.below _)))) | (go_at_call 18; with_reducible exact calls_ext (TR.out _ (below_then HB7.out (Ext.below _))))))
            refine wpQuiet_nil ?_
            intro _ hw'
            obtain ⟨n9, rfl⟩ := hw'
            have HBE := Lib.hid n9.below
            have HB9k := Lib.hid (below_then HB7k.out n9.below)
            generalize n9.wd = w9 at *
            clear Xx0 Xx1 Xx2 Xx3 Xx4 Xx5 Xx6 Xy0 Xy1 Xy2 Xy3 Xy4 Xy5 Xy6 Xz0 Xz1 Xz2 Xz3 Xz4 Xz5 Xz6 Xz7 Xz8 Xz9
            go_wp2_with fail
            go_roundw
            case rel => exact ⟨k + 1, by go_num, by omega, HB9k⟩
            case measure => simp [intOf]; omega
          · have hge : ¬ (k : Int) < (n : Int) := by omega
            have HBq := Lib.hid (below_then HBM.out HBk.out)
            have HIq := Lib.hid (HI9.out.over HBq.out)
            have HGq := Lib.hid (grownBy_of_below HG9.out (HBq.out.mono HG9.out.size))
            have HXq1 := Lib.hid (HO1.out.below HBq.out)
            have HXq2 := Lib.hid (HO2.out.below HBq.out)
            have RPq := Lib.hid (row_below2 HBq.out RP.out)
            have RQq := Lib.hid (row_below2 HBq.out RQ.out)
            have KSR : Hid (∀ w', wp.grownBy w' (some g) → (fun w' : World => (w'.cell? ⟨P, 0, none⟩ = some (.int .i64 a.kind) ∧ w'.cell? ⟨P, 1, none⟩ = some (.int .i64 a.mode) ∧ w'.cell? ⟨P, 2, none⟩ = some (.int .i64 a.chan) ∧ w'.cell? ⟨P, 3, none⟩ = some (.int .u64 a.val) ∧ w'.cell? ⟨P, 4, none⟩ = some (.int .i64 a.dl) ∧ w'.cell? ⟨P, 5, none⟩ = some (.slice p1 a.cases.length c1) ∧ w'.cell? ⟨P, 6, none⟩ = some (.slice q1 a.draws.length d1)) ∧ (w'.cell? ⟨Q, 0, none⟩ = some (.int .i64 b.kind) ∧ w'.cell? ⟨Q, 1, none⟩ = some (.int .i64 b.mode) ∧ w'.cell? ⟨Q, 2, none⟩ = some (.int .i64 b.chan) ∧ w'.cell? ⟨Q, 3, none⟩ = some (.int .u64 b.val) ∧ w'.cell? ⟨Q, 4, none⟩ = some (.int .i64 b.dl) ∧ w'.cell? ⟨Q, 5, none⟩ = some (.slice p2 b.cases.length c2) ∧ w'.cell? ⟨Q, 6, none⟩ = some (.slice q2 b.draws.length d2))) w') := fun w' h => ⟨rowc7 (row_keep h RPq.out (by omega)), rowc7 (row_keep h RQq.out (by omega))⟩
            have TR1 := Lib.hid fun w' (hc : CodesE w' g) (hg : wp.grownBy w' (some g)) => result_at g _ _ l a w' hc (HIq.out.sl.grown hg (codes_is HIq.out.code)) (HXq1.out.grown hg) (by have := HGD.out.1.cases; omega)
            have TR2 := Lib.hid fun w' (hc : CodesE w' g) (hg : wp.grownBy w' (some g)) => result_at g _ _ l b w' hc (HIq.out.sl.grown hg (codes_is HIq.out.code)) (HXq2.out.grown hg) (by have := HGD.out.2.cases; omega)
            have hPw : P < wp.heap.size := (Array.getElem?_eq_some_iff.1 RPq.out).1
            have hQw : Q < wp.heap.size := (Array.getElem?_eq_some_iff.1 RQq.out).1
            have hgw2 : g < wp.heap.size := HIq.out.code.lt
            have HCw := Lib.hid HIq.out.code
            clear HBk HBM HI9 HO1 HO2 HV1 HV2 RP RQ HME HN HSM HC9 HBq HG9
            go_upto_region 19 with fail
            go_cut [15, 16] (fun s15 s16 wx => ∃ (U V : Nat) (k1 k2 k3 : Int) (k4 : Bool) (k5 m1 m2 m3 : Int) (m4 : Bool) (m5 : Int), s15 = .pointer (some ⟨U, 0, none⟩) ∧ s16 = .pointer (some ⟨V, 0, none⟩) ∧ Hid (wx.heap[U]? = some (.cells #[.int .i64 k1, .int .i64 k2, .int .u64 k3, .bool k4, .int .i64 k5] 25 (0, 0))) ∧ Hid (wx.heap[V]? = some (.cells #[.int .i64 m1, .int .i64 m2, .int .u64 m3, .bool m4, .int .i64 m5] 25 (0, 0))) ∧ Hid (wp.grownBy wx (some g)) ∧ Hid (CodesE wx g))
            case first =>
              have HY0 : Hid (CodesE (wp.drewN 1) g) := HCw.out.kept HCw.out.lt (below_drewN (Below.refl _ _) 1)
              have HZ0 : Hid (wp.grownBy (wp.drewN 1) (some g)) := grownBy_of_below (grownBy_refl _ _) (below_drewN (Below.refl _ _) 1)
              refine wp_region_until (fun w' : World => (w'.cell? ⟨P, 0, none⟩ = some (.int .i64 a.kind) ∧ w'.cell? ⟨P, 1, none⟩ = some (.int .i64 a.mode) ∧ w'.cell? ⟨P, 2, none⟩ = some (.int .i64 a.chan) ∧ w'.cell? ⟨P, 3, none⟩ = some (.int .u64 a.val) ∧ w'.cell? ⟨P, 4, none⟩ = some (.int .i64 a.dl) ∧ w'.cell? ⟨P, 5, none⟩ = some (.slice p1 a.cases.length c1) ∧ w'.cell? ⟨P, 6, none⟩ = some (.slice q1 a.draws.length d1)) ∧ (w'.cell? ⟨Q, 0, none⟩ = some (.int .i64 b.kind) ∧ w'.cell? ⟨Q, 1, none⟩ = some (.int .i64 b.mode) ∧ w'.cell? ⟨Q, 2, none⟩ = some (.int .i64 b.chan) ∧ w'.cell? ⟨Q, 3, none⟩ = some (.int .u64 b.val) ∧ w'.cell? ⟨Q, 4, none⟩ = some (.int .i64 b.dl) ∧ w'.cell? ⟨Q, 5, none⟩ = some (.slice p2 b.cases.length c2) ∧ w'.cell? ⟨Q, 6, none⟩ = some (.slice q2 b.draws.length d2))) 7 12 (by kernel_rfl) rfl ?_
              obtain ⟨u0, hu0⟩ : ∃ u, (wp.drewN 1) = u := ⟨_, rfl⟩
              rw [show wp.drew = wp.drewN 1 from rfl, hu0]
              rw [hu0] at HY0 HZ0
              clear hu0
              have hSU0 := KSR.out _ HZ0.out
              refine tkU (v := ?_) 4 la4 hSU0 (by kernel_rfl) (fun _ _ _ h => h) rfl ?_ ?_
              rotate_left
              · (intro w hSw; (try dsimp only at hSw); go_simp <;> with_reducible rfl)
              simp only [Act.put, List.setIfInBounds_toArray, List.set_cons_zero, List.set_cons_succ]
              refine tkU (v := ?_) 5 la5 hSU0 (by kernel_rfl) (fun _ _ _ h => h) rfl ?_ ?_
              rotate_left
              · (intro w hSw; (try dsimp only at hSw); go_simp <;> with_reducible rfl)
              simp only [Act.put, List.setIfInBounds_toArray, List.set_cons_zero, List.set_cons_succ]
              refine tkU (v := ?_) 6 la6 hSU0 (by kernel_rfl) (fun _ _ _ h => h) rfl ?_ ?_
              rotate_left
              · (intro w hSw; (try dsimp only at hSw); go_simp <;> with_reducible rfl)
              simp only [Act.put, List.setIfInBounds_toArray, List.set_cons_zero, List.set_cons_succ]
              refine wpAnyU_takeW (v := ?_) 0 la0 (by kernel_rfl) (by kernel_rfl) (by kernel_rfl) (by kernel_rfl) (fun _ _ _ h => h) (fun _ => hSU0) rfl ?_ ?_
              rotate_left
              · (intro w; go_simp <;> with_reducible rfl)
              simp only [Act.put, List.setIfInBounds_toArray, List.set_cons_zero, List.set_cons_succ]
              refine wpAnyU_takeW (v := ?_) 1 la1 (by kernel_rfl) (by kernel_rfl) (by kernel_rfl) (by kernel_rfl) (fun _ _ _ h => h) (fun _ => hSU0) rfl ?_ ?_
              rotate_left
              · (intro w; go_simp <;> with_reducible rfl)
              simp only [Act.put, List.setIfInBounds_toArray, List.set_cons_zero, List.set_cons_succ]
              refine wpAnyU_ready (rs := [2, 8, 9]) (by kernel_rfl) rfl ?_
              refine AllReadyU.cons la2 rfl (fun K hK => ?_) ?_
              · obtain ⟨⟨d0, d1, d2, d3, d4, d5, d6⟩, -⟩ := KSR.out _ HZ0.out
                go_simp
                clear d0 d1 d2 d3 d4 d5 d6
                refine hK.out _ _ ?_ (fun hSU1 => ?_)
                · exact hSU0
                clear hK K hSU0
                try simp only [Act.put, List.setIfInBounds_toArray, List.set_cons_zero, List.set_cons_succ]
                refine wpAnyU_ready (rs := [3, 8, 9]) (by kernel_rfl) rfl ?_
                refine AllReadyU.cons la3 rfl (fun K hK => ?_) ?_
                · go_simp
                  go_at_call 19
                  refine (TR1.out u0 HY0.out HZ0.out).mono ?_
                  rintro e u1 ⟨k1, k2, k3, k4, k5, rfl, hcA, hgA⟩
                  have HY1 := Lib.hid hcA
                  have HZ1 := Lib.hid (grownBy_trans HZ0.out hgA)
                  clear hcA hgA
                  refine hK.out _ _ ?_ (fun hSU2 => ?_)
                  · exact KSR.out _ HZ1.out
                  clear hK K hSU1
                  try simp only [Act.put, List.setIfInBounds_toArray, List.set_cons_zero, List.set_cons_succ]
                  refine wpAnyU_ready (rs := [7, 8, 9]) (by kernel_rfl) rfl ?_
                  refine AllReadyU.free la7 rfl (by kernel_rfl) (fun K hK => ?_) ?_
                  · go_simp
                    go_at_call 19
                    refine (TR2.out u1 HY1.out HZ1.out).mono ?_
                    rintro e u2 ⟨m1, m2, m3, m4, m5, rfl, hcA, hgA⟩
                    have HY2 := Lib.hid hcA
                    have HZ2 := Lib.hid (grownBy_trans HZ1.out hgA)
                    clear hcA hgA
                    refine hK.out _ _ ?_
                    clear hK K hSU2
                    try simp only [Act.put, List.setIfInBounds_toArray, List.set_cons_zero, List.set_cons_succ]
                    refine wpAnyU_ready (rs := [8, 9]) (by kernel_rfl) rfl ?_
                    refine AllReadyU.free la8 rfl (by kernel_rfl) (fun K hK => ?_) ?_
                    · go_simp
                      obtain ⟨u3, U, hv1, hX1, RU, hbn, ltn⟩ := alloc_pack u2 (.cells #[.int .i64 0, .int .i64 0, .int .u64 0, .bool false, .int .i64 0] 25)
                      rw [hv1, hX1]
                      have HY3 := Lib.hid (HY2.out.kept HY2.out.lt hbn.out)
                      have HZ3 := Lib.hid (grownBy_of_below HZ2.out (hbn.out.mono HZ2.out.size))
                      have hlU : g < U := by have := HY2.out.lt; omega
                      have hxU : wp.heap.size ≤ U := by have := HZ2.out.size; omega
                      have hluU : U < u3.heap.size := (Array.getElem?_eq_some_iff.1 RU.out).1
                      clear hv1 hX1 hbn ltn
                      refine hK.out _ _ ?_
                      clear hK K
                      try simp only [Act.put, List.setIfInBounds_toArray, List.set_cons_zero, List.set_cons_succ]
                      refine wpAnyU_ready (rs := [9]) (by kernel_rfl) rfl ?_
                      refine AllReadyU.free la9 rfl (by kernel_rfl) (fun K hK => ?_) ?_
                      · go_simp
                        obtain ⟨u4, V, hv1, hX1, RV, hbn, ltn⟩ := alloc_pack u3 (.cells #[.int .i64 0, .int .i64 0, .int .u64 0, .bool false, .int .i64 0] 25)
                        rw [hv1, hX1]
                        have HY4 := Lib.hid (HY3.out.kept HY3.out.lt hbn.out)
                        have HZ4 := Lib.hid (grownBy_of_below HZ3.out (hbn.out.mono HZ3.out.size))
                        have hlV : g < V := by have := HY3.out.lt; omega
                        have hxV : wp.heap.size ≤ V := by have := HZ3.out.size; omega
                        have hluV : V < u4.heap.size := (Array.getElem?_eq_some_iff.1 RV.out).1
                        have hne : U ≠ V := by have := (Array.getElem?_eq_some_iff.1 RU.out).1; omega
                        have RU := Lib.hid (row_below2 hbn.out RU.out)
                        have hluU : U < u4.heap.size := (Array.getElem?_eq_some_iff.1 RU.out).1
                        clear hv1 hX1 hbn ltn
                        refine hK.out _ _ ?_
                        clear hK K
                        try simp only [Act.put, List.setIfInBounds_toArray, List.set_cons_zero, List.set_cons_succ]
                        refine wpAnyU_ready (rs := [10]) (by kernel_rfl) rfl ?_
                        refine AllReadyU.free la10 rfl (by kernel_rfl) (fun K hK => ?_) ?_
                        · refine step_store_row rfl 25 _ _ rfl U _ rfl rfl 25 #[.int .i64 0, .int .i64 0, .int .u64 0, .bool false, .int .i64 0] RU.out (by kernel_rfl) rfl (by simp [Value.oneCell']) ?_
                          refine hK.out _ _ ?_
                          clear hK K
                          try simp only [Act.put, List.setIfInBounds_toArray, List.set_cons_zero, List.set_cons_succ]
                          refine wpAnyU_ready (rs := [11]) (by kernel_rfl) rfl ?_
                          refine AllReadyU.free la11 rfl (by kernel_rfl) (fun K hK => ?_) ?_
                          · have RV2 : Hid ((u4.setRow U #[.int .i64 k1, .int .i64 k2, .int .u64 k3, .bool k4, .int .i64 k5]).heap[V]? = some (.cells #[.int .i64 0, .int .i64 0, .int .u64 0, .bool false, .int .i64 0] 25 (0, 0))) := (setRow_other u4 U V #[.int .i64 k1, .int .i64 k2, .int .u64 k3, .bool k4, .int .i64 k5] (by omega)).trans RV.out
                            refine step_store_row rfl 25 _ _ rfl V _ rfl rfl 25 #[.int .i64 0, .int .i64 0, .int .u64 0, .bool false, .int .i64 0] RV2.out (by kernel_rfl) rfl (by simp [Value.oneCell']) ?_
                            refine hK.out _ _ ?_
                            clear hK K
                            try simp only [Act.put, List.setIfInBounds_toArray, List.set_cons_zero, List.set_cons_succ]
                            refine wpAnyU_done (by kernel_rfl) ?_ _
                            go_wp2_with fail
                            go_meet
                            exact ⟨U, V, k1, k2, k3, k4, k5, m1, m2, m3, m4, m5, rfl, rfl, (setRow_other _ V U #[.int .i64 m1, .int .i64 m2, .int .u64 m3, .bool m4, .int .i64 m5] (by omega)).trans (setRow_heap _ _ _ _ _ (0, 0) RU.out), setRow_heap _ _ _ _ _ (0, 0) RV2.out, grownBy_of_new (grownBy_of_new HZ4.out (row_grown _ U _) (fun k hk => by cases hk; exact hxU)) (row_grown _ V _) (fun k hk => by cases hk; exact hxV), codes_grown (codes_grown HY4.out (row_grown _ U _) (B := g + 1) (fun k hk => by cases hk; omega) (Nat.lt_succ_self g)) (row_grown _ V _) (B := g + 1) (fun k hk => by cases hk; omega) (Nat.lt_succ_self g)⟩
                          exact AllReadyU.nil
                        exact AllReadyU.nil
                      exact AllReadyU.nil
                    refine AllReadyU.free la9 rfl (by kernel_rfl) (fun K hK => ?_) ?_
                    · go_simp
                      obtain ⟨u3, V, hv1, hX1, RV, hbn, ltn⟩ := alloc_pack u2 (.cells #[.int .i64 0, .int .i64 0, .int .u64 0, .bool false, .int .i64 0] 25)
                      rw [hv1, hX1]
                      have HY3 := Lib.hid (HY2.out.kept HY2.out.lt hbn.out)
                      have HZ3 := Lib.hid (grownBy_of_below HZ2.out (hbn.out.mono HZ2.out.size))
                      have hlV : g < V := by have := HY2.out.lt; omega
                      have hxV : wp.heap.size ≤ V := by have := HZ2.out.size; omega
                      have hluV : V < u3.heap.size := (Array.getElem?_eq_some_iff.1 RV.out).1
                      clear hv1 hX1 hbn ltn
                      refine hK.out _ _ ?_
                      clear hK K
                      try simp only [Act.put, List.setIfInBounds_toArray, List.set_cons_zero, List.set_cons_succ]
                      refine wpAnyU_ready (rs := [8]) (by kernel_rfl) rfl ?_
                      refine AllReadyU.free la8 rfl (by kernel_rfl) (fun K hK => ?_) ?_
                      · go_simp
                        obtain ⟨u4, U, hv1, hX1, RU, hbn, ltn⟩ := alloc_pack u3 (.cells #[.int .i64 0, .int .i64 0, .int .u64 0, .bool false, .int .i64 0] 25)
                        rw [hv1, hX1]
                        have HY4 := Lib.hid (HY3.out.kept HY3.out.lt hbn.out)
                        have HZ4 := Lib.hid (grownBy_of_below HZ3.out (hbn.out.mono HZ3.out.size))
                        have hlU : g < U := by have := HY3.out.lt; omega
                        have hxU : wp.heap.size ≤ U := by have := HZ3.out.size; omega
                        have hluU : U < u4.heap.size := (Array.getElem?_eq_some_iff.1 RU.out).1
                        have hne : V ≠ U := by have := (Array.getElem?_eq_some_iff.1 RV.out).1; omega
                        have RV := Lib.hid (row_below2 hbn.out RV.out)
                        have hluV : V < u4.heap.size := (Array.getElem?_eq_some_iff.1 RV.out).1
                        clear hv1 hX1 hbn ltn
                        refine hK.out _ _ ?_
                        clear hK K
                        try simp only [Act.put, List.setIfInBounds_toArray, List.set_cons_zero, List.set_cons_succ]
                        refine wpAnyU_ready (rs := [10]) (by kernel_rfl) rfl ?_
                        refine AllReadyU.free la10 rfl (by kernel_rfl) (fun K hK => ?_) ?_
                        · refine step_store_row rfl 25 _ _ rfl U _ rfl rfl 25 #[.int .i64 0, .int .i64 0, .int .u64 0, .bool false, .int .i64 0] RU.out (by kernel_rfl) rfl (by simp [Value.oneCell']) ?_
                          refine hK.out _ _ ?_
                          clear hK K
                          try simp only [Act.put, List.setIfInBounds_toArray, List.set_cons_zero, List.set_cons_succ]
                          refine wpAnyU_ready (rs := [11]) (by kernel_rfl) rfl ?_
                          refine AllReadyU.free la11 rfl (by kernel_rfl) (fun K hK => ?_) ?_
                          · have RV2 : Hid ((u4.setRow U #[.int .i64 k1, .int .i64 k2, .int .u64 k3, .bool k4, .int .i64 k5]).heap[V]? = some (.cells #[.int .i64 0, .int .i64 0, .int .u64 0, .bool false, .int .i64 0] 25 (0, 0))) := (setRow_other u4 U V #[.int .i64 k1, .int .i64 k2, .int .u64 k3, .bool k4, .int .i64 k5] (by omega)).trans RV.out
                            refine step_store_row rfl 25 _ _ rfl V _ rfl rfl 25 #[.int .i64 0, .int .i64 0, .int .u64 0, .bool false, .int .i64 0] RV2.out (by kernel_rfl) rfl (by simp [Value.oneCell']) ?_
                            refine hK.out _ _ ?_
                            clear hK K
                            try simp only [Act.put, List.setIfInBounds_toArray, List.set_cons_zero, List.set_cons_succ]
                            refine wpAnyU_done (by kernel_rfl) ?_ _
                            go_wp2_with fail
                            go_meet
                            exact ⟨U, V, k1, k2, k3, k4, k5, m1, m2, m3, m4, m5, rfl, rfl, (setRow_other _ V U #[.int .i64 m1, .int .i64 m2, .int .u64 m3, .bool m4, .int .i64 m5] (by omega)).trans (setRow_heap _ _ _ _ _ (0, 0) RU.out), setRow_heap _ _ _ _ _ (0, 0) RV2.out, grownBy_of_new (grownBy_of_new HZ4.out (row_grown _ U _) (fun k hk => by cases hk; exact hxU)) (row_grown _ V _) (fun k hk => by cases hk; exact hxV), codes_grown (codes_grown HY4.out (row_grown _ U _) (B := g + 1) (fun k hk => by cases hk; omega) (Nat.lt_succ_self g)) (row_grown _ V _) (B := g + 1) (fun k hk => by cases hk; omega) (Nat.lt_succ_self g)⟩
                          exact AllReadyU.nil
                        exact AllReadyU.nil
                      exact AllReadyU.nil
                    exact AllReadyU.nil
                  refine AllReadyU.cons la8 rfl (fun K hK => ?_) ?_
                  · go_simp
                    obtain ⟨u2, U, hv1, hX1, RU, hbn, ltn⟩ := alloc_pack u1 (.cells #[.int .i64 0, .int .i64 0, .int .u64 0, .bool false, .int .i64 0] 25)
                    rw [hv1, hX1]
                    have HY2 := Lib.hid (HY1.out.kept HY1.out.lt hbn.out)
                    have HZ2 := Lib.hid (grownBy_of_below HZ1.out (hbn.out.mono HZ1.out.size))
                    have hlU : g < U := by have := HY1.out.lt; omega
                    have hxU : wp.heap.size ≤ U := by have := HZ1.out.size; omega
                    have hluU : U < u2.heap.size := (Array.getElem?_eq_some_iff.1 RU.out).1
                    clear hv1 hX1 hbn ltn
                    refine hK.out _ _ ?_ (fun hSU3 => ?_)
                    · exact KSR.out _ HZ2.out
                    clear hK K hSU2
                    try simp only [Act.put, List.setIfInBounds_toArray, List.set_cons_zero, List.set_cons_succ]
                    refine wpAnyU_ready (rs := [7, 9]) (by kernel_rfl) rfl ?_
                    refine AllReadyU.free la7 rfl (by kernel_rfl) (fun K hK => ?_) ?_
                    · go_simp
                      go_at_call 19
                      refine (TR2.out u2 HY2.out HZ2.out).mono ?_
                      rintro e u3 ⟨m1, m2, m3, m4, m5, rfl, hcA, hgA⟩
                      have HY3 := Lib.hid hcA
                      have HZ3 := Lib.hid (grownBy_trans HZ2.out hgA)
                      have RU := Lib.hid (row_keep hgA RU.out (by omega))
                      have hluU : U < u3.heap.size := (Array.getElem?_eq_some_iff.1 RU.out).1
                      clear hcA hgA
                      refine hK.out _ _ ?_
                      clear hK K hSU3
                      try simp only [Act.put, List.setIfInBounds_toArray, List.set_cons_zero, List.set_cons_succ]
                      refine wpAnyU_ready (rs := [9]) (by kernel_rfl) rfl ?_
                      refine AllReadyU.free la9 rfl (by kernel_rfl) (fun K hK => ?_) ?_
                      · go_simp
                        obtain ⟨u4, V, hv1, hX1, RV, hbn, ltn⟩ := alloc_pack u3 (.cells #[.int .i64 0, .int .i64 0, .int .u64 0, .bool false, .int .i64 0] 25)
                        rw [hv1, hX1]
                        have HY4 := Lib.hid (HY3.out.kept HY3.out.lt hbn.out)
                        have HZ4 := Lib.hid (grownBy_of_below HZ3.out (hbn.out.mono HZ3.out.size))
                        have hlV : g < V := by have := HY3.out.lt; omega
                        have hxV : wp.heap.size ≤ V := by have := HZ3.out.size; omega
                        have hluV : V < u4.heap.size := (Array.getElem?_eq_some_iff.1 RV.out).1
                        have hne : U ≠ V := by have := (Array.getElem?_eq_some_iff.1 RU.out).1; omega
                        have RU := Lib.hid (row_below2 hbn.out RU.out)
                        have hluU : U < u4.heap.size := (Array.getElem?_eq_some_iff.1 RU.out).1
                        clear hv1 hX1 hbn ltn
                        refine hK.out _ _ ?_
                        clear hK K
                        try simp only [Act.put, List.setIfInBounds_toArray, List.set_cons_zero, List.set_cons_succ]
                        refine wpAnyU_ready (rs := [10]) (by kernel_rfl) rfl ?_
                        refine AllReadyU.free la10 rfl (by kernel_rfl) (fun K hK => ?_) ?_
                        · refine step_store_row rfl 25 _ _ rfl U _ rfl rfl 25 #[.int .i64 0, .int .i64 0, .int .u64 0, .bool false, .int .i64 0] RU.out (by kernel_rfl) rfl (by simp [Value.oneCell']) ?_
                          refine hK.out _ _ ?_
                          clear hK K
                          try simp only [Act.put, List.setIfInBounds_toArray, List.set_cons_zero, List.set_cons_succ]
                          refine wpAnyU_ready (rs := [11]) (by kernel_rfl) rfl ?_
                          refine AllReadyU.free la11 rfl (by kernel_rfl) (fun K hK => ?_) ?_
                          · have RV2 : Hid ((u4.setRow U #[.int .i64 k1, .int .i64 k2, .int .u64 k3, .bool k4, .int .i64 k5]).heap[V]? = some (.cells #[.int .i64 0, .int .i64 0, .int .u64 0, .bool false, .int .i64 0] 25 (0, 0))) := (setRow_other u4 U V #[.int .i64 k1, .int .i64 k2, .int .u64 k3, .bool k4, .int .i64 k5] (by omega)).trans RV.out
                            refine step_store_row rfl 25 _ _ rfl V _ rfl rfl 25 #[.int .i64 0, .int .i64 0, .int .u64 0, .bool false, .int .i64 0] RV2.out (by kernel_rfl) rfl (by simp [Value.oneCell']) ?_
                            refine hK.out _ _ ?_
                            clear hK K
                            try simp only [Act.put, List.setIfInBounds_toArray, List.set_cons_zero, List.set_cons_succ]
                            refine wpAnyU_done (by kernel_rfl) ?_ _
                            go_wp2_with fail
                            go_meet
                            exact ⟨U, V, k1, k2, k3, k4, k5, m1, m2, m3, m4, m5, rfl, rfl, (setRow_other _ V U #[.int .i64 m1, .int .i64 m2, .int .u64 m3, .bool m4, .int .i64 m5] (by omega)).trans (setRow_heap _ _ _ _ _ (0, 0) RU.out), setRow_heap _ _ _ _ _ (0, 0) RV2.out, grownBy_of_new (grownBy_of_new HZ4.out (row_grown _ U _) (fun k hk => by cases hk; exact hxU)) (row_grown _ V _) (fun k hk => by cases hk; exact hxV), codes_grown (codes_grown HY4.out (row_grown _ U _) (B := g + 1) (fun k hk => by cases hk; omega) (Nat.lt_succ_self g)) (row_grown _ V _) (B := g + 1) (fun k hk => by cases hk; omega) (Nat.lt_succ_self g)⟩
                          exact AllReadyU.nil
                        exact AllReadyU.nil
                      exact AllReadyU.nil
                    refine AllReadyU.cons la9 rfl (fun K hK => ?_) ?_
                    · go_simp
                      obtain ⟨u3, V, hv1, hX1, RV, hbn, ltn⟩ := alloc_pack u2 (.cells #[.int .i64 0, .int .i64 0, .int .u64 0, .bool false, .int .i64 0] 25)
                      rw [hv1, hX1]
                      have HY3 := Lib.hid (HY2.out.kept HY2.out.lt hbn.out)
                      have HZ3 := Lib.hid (grownBy_of_below HZ2.out (hbn.out.mono HZ2.out.size))
                      have hlV : g < V := by have := HY2.out.lt; omega
                      have hxV : wp.heap.size ≤ V := by have := HZ2.out.size; omega
                      have hluV : V < u3.heap.size := (Array.getElem?_eq_some_iff.1 RV.out).1
                      have hne : U ≠ V := by have := (Array.getElem?_eq_some_iff.1 RU.out).1; omega
                      have RU := Lib.hid (row_below2 hbn.out RU.out)
                      have hluU : U < u3.heap.size := (Array.getElem?_eq_some_iff.1 RU.out).1
                      clear hv1 hX1 hbn ltn
                      refine hK.out _ _ ?_ (fun hSU4 => ?_)
                      · exact KSR.out _ HZ3.out
                      clear hK K hSU3
                      try simp only [Act.put, List.setIfInBounds_toArray, List.set_cons_zero, List.set_cons_succ]
                      refine wpAnyU_ready (rs := [7]) (by kernel_rfl) rfl ?_
                      refine AllReadyU.free la7 rfl (by kernel_rfl) (fun K hK => ?_) ?_
                      · go_simp
                        go_at_call 19
                        refine (TR2.out u3 HY3.out HZ3.out).mono ?_
                        rintro e u4 ⟨m1, m2, m3, m4, m5, rfl, hcA, hgA⟩
                        have HY4 := Lib.hid hcA
                        have HZ4 := Lib.hid (grownBy_trans HZ3.out hgA)
                        have RU := Lib.hid (row_keep hgA RU.out (by omega))
                        have hluU : U < u4.heap.size := (Array.getElem?_eq_some_iff.1 RU.out).1
                        have RV := Lib.hid (row_keep hgA RV.out (by omega))
                        have hluV : V < u4.heap.size := (Array.getElem?_eq_some_iff.1 RV.out).1
                        clear hcA hgA
                        refine hK.out _ _ ?_
                        clear hK K hSU4
                        try simp only [Act.put, List.setIfInBounds_toArray, List.set_cons_zero, List.set_cons_succ]
                        refine wpAnyU_ready (rs := [10]) (by kernel_rfl) rfl ?_
                        refine AllReadyU.free la10 rfl (by kernel_rfl) (fun K hK => ?_) ?_
                        · refine step_store_row rfl 25 _ _ rfl U _ rfl rfl 25 #[.int .i64 0, .int .i64 0, .int .u64 0, .bool false, .int .i64 0] RU.out (by kernel_rfl) rfl (by simp [Value.oneCell']) ?_
                          refine hK.out _ _ ?_
                          clear hK K
                          try simp only [Act.put, List.setIfInBounds_toArray, List.set_cons_zero, List.set_cons_succ]
                          refine wpAnyU_ready (rs := [11]) (by kernel_rfl) rfl ?_
                          refine AllReadyU.free la11 rfl (by kernel_rfl) (fun K hK => ?_) ?_
                          · have RV2 : Hid ((u4.setRow U #[.int .i64 k1, .int .i64 k2, .int .u64 k3, .bool k4, .int .i64 k5]).heap[V]? = some (.cells #[.int .i64 0, .int .i64 0, .int .u64 0, .bool false, .int .i64 0] 25 (0, 0))) := (setRow_other u4 U V #[.int .i64 k1, .int .i64 k2, .int .u64 k3, .bool k4, .int .i64 k5] (by omega)).trans RV.out
                            refine step_store_row rfl 25 _ _ rfl V _ rfl rfl 25 #[.int .i64 0, .int .i64 0, .int .u64 0, .bool false, .int .i64 0] RV2.out (by kernel_rfl) rfl (by simp [Value.oneCell']) ?_
                            refine hK.out _ _ ?_
                            clear hK K
                            try simp only [Act.put, List.setIfInBounds_toArray, List.set_cons_zero, List.set_cons_succ]
                            refine wpAnyU_done (by kernel_rfl) ?_ _
                            go_wp2_with fail
                            go_meet
                            exact ⟨U, V, k1, k2, k3, k4, k5, m1, m2, m3, m4, m5, rfl, rfl, (setRow_other _ V U #[.int .i64 m1, .int .i64 m2, .int .u64 m3, .bool m4, .int .i64 m5] (by omega)).trans (setRow_heap _ _ _ _ _ (0, 0) RU.out), setRow_heap _ _ _ _ _ (0, 0) RV2.out, grownBy_of_new (grownBy_of_new HZ4.out (row_grown _ U _) (fun k hk => by cases hk; exact hxU)) (row_grown _ V _) (fun k hk => by cases hk; exact hxV), codes_grown (codes_grown HY4.out (row_grown _ U _) (B := g + 1) (fun k hk => by cases hk; omega) (Nat.lt_succ_self g)) (row_grown _ V _) (B := g + 1) (fun k hk => by cases hk; omega) (Nat.lt_succ_self g)⟩
                          exact AllReadyU.nil
                        exact AllReadyU.nil
                      exact AllReadyU.nil
                    exact AllReadyU.nil
                  refine AllReadyU.cons la9 rfl (fun K hK => ?_) ?_
                  · go_simp
                    obtain ⟨u2, V, hv1, hX1, RV, hbn, ltn⟩ := alloc_pack u1 (.cells #[.int .i64 0, .int .i64 0, .int .u64 0, .bool false, .int .i64 0] 25)
                    rw [hv1, hX1]
                    have HY2 := Lib.hid (HY1.out.kept HY1.out.lt hbn.out)
                    have HZ2 := Lib.hid (grownBy_of_below HZ1.out (hbn.out.mono HZ1.out.size))
                    have hlV : g < V := by have := HY1.out.lt; omega
                    have hxV : wp.heap.size ≤ V := by have := HZ1.out.size; omega
                    have hluV : V < u2.heap.size := (Array.getElem?_eq_some_iff.1 RV.out).1
                    clear hv1 hX1 hbn ltn
                    refine hK.out _ _ ?_ (fun hSU5 => ?_)
                    · exact KSR.out _ HZ2.out
                    clear hK K hSU2
                    try simp only [Act.put, List.setIfInBounds_toArray, List.set_cons_zero, List.set_cons_succ]
                    refine wpAnyU_ready (rs := [7, 8]) (by kernel_rfl) rfl ?_
                    refine AllReadyU.free la7 rfl (by kernel_rfl) (fun K hK => ?_) ?_
                    · go_simp
                      go_at_call 19
                      refine (TR2.out u2 HY2.out HZ2.out).mono ?_
                      rintro e u3 ⟨m1, m2, m3, m4, m5, rfl, hcA, hgA⟩
                      have HY3 := Lib.hid hcA
                      have HZ3 := Lib.hid (grownBy_trans HZ2.out hgA)
                      have RV := Lib.hid (row_keep hgA RV.out (by omega))
                      have hluV : V < u3.heap.size := (Array.getElem?_eq_some_iff.1 RV.out).1
                      clear hcA hgA
                      refine hK.out _ _ ?_
                      clear hK K hSU5
                      try simp only [Act.put, List.setIfInBounds_toArray, List.set_cons_zero, List.set_cons_succ]
                      refine wpAnyU_ready (rs := [8]) (by kernel_rfl) rfl ?_
                      refine AllReadyU.free la8 rfl (by kernel_rfl) (fun K hK => ?_) ?_
                      · go_simp
                        obtain ⟨u4, U, hv1, hX1, RU, hbn, ltn⟩ := alloc_pack u3 (.cells #[.int .i64 0, .int .i64 0, .int .u64 0, .bool false, .int .i64 0] 25)
                        rw [hv1, hX1]
                        have HY4 := Lib.hid (HY3.out.kept HY3.out.lt hbn.out)
                        have HZ4 := Lib.hid (grownBy_of_below HZ3.out (hbn.out.mono HZ3.out.size))
                        have hlU : g < U := by have := HY3.out.lt; omega
                        have hxU : wp.heap.size ≤ U := by have := HZ3.out.size; omega
                        have hluU : U < u4.heap.size := (Array.getElem?_eq_some_iff.1 RU.out).1
                        have hne : V ≠ U := by have := (Array.getElem?_eq_some_iff.1 RV.out).1; omega
                        have RV := Lib.hid (row_below2 hbn.out RV.out)
                        have hluV : V < u4.heap.size := (Array.getElem?_eq_some_iff.1 RV.out).1
                        clear hv1 hX1 hbn ltn
                        refine hK.out _ _ ?_
                        clear hK K
                        try simp only [Act.put, List.setIfInBounds_toArray, List.set_cons_zero, List.set_cons_succ]
                        refine wpAnyU_ready (rs := [10]) (by kernel_rfl) rfl ?_
                        refine AllReadyU.free la10 rfl (by kernel_rfl) (fun K hK => ?_) ?_
                        · refine step_store_row rfl 25 _ _ rfl U _ rfl rfl 25 #[.int .i64 0, .int .i64 0, .int .u64 0, .bool false, .int .i64 0] RU.out (by kernel_rfl) rfl (by simp [Value.oneCell']) ?_
                          refine hK.out _ _ ?_
                          clear hK K
                          try simp only [Act.put, List.setIfInBounds_toArray, List.set_cons_zero, List.set_cons_succ]
                          refine wpAnyU_ready (rs := [11]) (by kernel_rfl) rfl ?_
                          refine AllReadyU.free la11 rfl (by kernel_rfl) (fun K hK => ?_) ?_
                          · have RV2 : Hid ((u4.setRow U #[.int .i64 k1, .int .i64 k2, .int .u64 k3, .bool k4, .int .i64 k5]).heap[V]? = some (.cells #[.int .i64 0, .int .i64 0, .int .u64 0, .bool false, .int .i64 0] 25 (0, 0))) := (setRow_other u4 U V #[.int .i64 k1, .int .i64 k2, .int .u64 k3, .bool k4, .int .i64 k5] (by omega)).trans RV.out
                            refine step_store_row rfl 25 _ _ rfl V _ rfl rfl 25 #[.int .i64 0, .int .i64 0, .int .u64 0, .bool false, .int .i64 0] RV2.out (by kernel_rfl) rfl (by simp [Value.oneCell']) ?_
                            refine hK.out _ _ ?_
                            clear hK K
                            try simp only [Act.put, List.setIfInBounds_toArray, List.set_cons_zero, List.set_cons_succ]
                            refine wpAnyU_done (by kernel_rfl) ?_ _
                            go_wp2_with fail
                            go_meet
                            exact ⟨U, V, k1, k2, k3, k4, k5, m1, m2, m3, m4, m5, rfl, rfl, (setRow_other _ V U #[.int .i64 m1, .int .i64 m2, .int .u64 m3, .bool m4, .int .i64 m5] (by omega)).trans (setRow_heap _ _ _ _ _ (0, 0) RU.out), setRow_heap _ _ _ _ _ (0, 0) RV2.out, grownBy_of_new (grownBy_of_new HZ4.out (row_grown _ U _) (fun k hk => by cases hk; exact hxU)) (row_grown _ V _) (fun k hk => by cases hk; exact hxV), codes_grown (codes_grown HY4.out (row_grown _ U _) (B := g + 1) (fun k hk => by cases hk; omega) (Nat.lt_succ_self g)) (row_grown _ V _) (B := g + 1) (fun k hk => by cases hk; omega) (Nat.lt_succ_self g)⟩
                          exact AllReadyU.nil
                        exact AllReadyU.nil
                      exact AllReadyU.nil
                    refine AllReadyU.cons la8 rfl (fun K hK => ?_) ?_
                    · go_simp
                      obtain ⟨u3, U, hv1, hX1, RU, hbn, ltn⟩ := alloc_pack u2 (.cells #[.int .i64 0, .int .i64 0, .int .u64 0, .bool false, .int .i64 0] 25)
                      rw [hv1, hX1]
                      have HY3 := Lib.hid (HY2.out.kept HY2.out.lt hbn.out)
                      have HZ3 := Lib.hid (grownBy_of_below HZ2.out (hbn.out.mono HZ2.out.size))
                      have hlU : g < U := by have := HY2.out.lt; omega
                      have hxU : wp.heap.size ≤ U := by have := HZ2.out.size; omega
                      have hluU : U < u3.heap.size := (Array.getElem?_eq_some_iff.1 RU.out).1
                      have hne : V ≠ U := by have := (Array.getElem?_eq_some_iff.1 RV.out).1; omega
                      have RV := Lib.hid (row_below2 hbn.out RV.out)
                      have hluV : V < u3.heap.size := (Array.getElem?_eq_some_iff.1 RV.out).1
                      clear hv1 hX1 hbn ltn
                      refine hK.out _ _ ?_ (fun hSU6 => ?_)
                      · exact KSR.out _ HZ3.out
                      clear hK K hSU5
                      try simp only [Act.put, List.setIfInBounds_toArray, List.set_cons_zero, List.set_cons_succ]
                      refine wpAnyU_ready (rs := [7]) (by kernel_rfl) rfl ?_
                      refine AllReadyU.free la7 rfl (by kernel_rfl) (fun K hK => ?_) ?_
                      · go_simp
                        go_at_call 19
                        refine (TR2.out u3 HY3.out HZ3.out).mono ?_
                        rintro e u4 ⟨m1, m2, m3, m4, m5, rfl, hcA, hgA⟩
                        have HY4 := Lib.hid hcA
                        have HZ4 := Lib.hid (grownBy_trans HZ3.out hgA)
                        have RU := Lib.hid (row_keep hgA RU.out (by omega))
                        have hluU : U < u4.heap.size := (Array.getElem?_eq_some_iff.1 RU.out).1
                        have RV := Lib.hid (row_keep hgA RV.out (by omega))
                        have hluV : V < u4.heap.size := (Array.getElem?_eq_some_iff.1 RV.out).1
                        clear hcA hgA
                        refine hK.out _ _ ?_
                        clear hK K hSU6
                        try simp only [Act.put, List.setIfInBounds_toArray, List.set_cons_zero, List.set_cons_succ]
                        refine wpAnyU_ready (rs := [10]) (by kernel_rfl) rfl ?_
                        refine AllReadyU.free la10 rfl (by kernel_rfl) (fun K hK => ?_) ?_
                        · refine step_store_row rfl 25 _ _ rfl U _ rfl rfl 25 #[.int .i64 0, .int .i64 0, .int .u64 0, .bool false, .int .i64 0] RU.out (by kernel_rfl) rfl (by simp [Value.oneCell']) ?_
                          refine hK.out _ _ ?_
                          clear hK K
                          try simp only [Act.put, List.setIfInBounds_toArray, List.set_cons_zero, List.set_cons_succ]
                          refine wpAnyU_ready (rs := [11]) (by kernel_rfl) rfl ?_
                          refine AllReadyU.free la11 rfl (by kernel_rfl) (fun K hK => ?_) ?_
                          · have RV2 : Hid ((u4.setRow U #[.int .i64 k1, .int .i64 k2, .int .u64 k3, .bool k4, .int .i64 k5]).heap[V]? = some (.cells #[.int .i64 0, .int .i64 0, .int .u64 0, .bool false, .int .i64 0] 25 (0, 0))) := (setRow_other u4 U V #[.int .i64 k1, .int .i64 k2, .int .u64 k3, .bool k4, .int .i64 k5] (by omega)).trans RV.out
                            refine step_store_row rfl 25 _ _ rfl V _ rfl rfl 25 #[.int .i64 0, .int .i64 0, .int .u64 0, .bool false, .int .i64 0] RV2.out (by kernel_rfl) rfl (by simp [Value.oneCell']) ?_
                            refine hK.out _ _ ?_
                            clear hK K
                            try simp only [Act.put, List.setIfInBounds_toArray, List.set_cons_zero, List.set_cons_succ]
                            refine wpAnyU_done (by kernel_rfl) ?_ _
                            go_wp2_with fail
                            go_meet
                            exact ⟨U, V, k1, k2, k3, k4, k5, m1, m2, m3, m4, m5, rfl, rfl, (setRow_other _ V U #[.int .i64 m1, .int .i64 m2, .int .u64 m3, .bool m4, .int .i64 m5] (by omega)).trans (setRow_heap _ _ _ _ _ (0, 0) RU.out), setRow_heap _ _ _ _ _ (0, 0) RV2.out, grownBy_of_new (grownBy_of_new HZ4.out (row_grown _ U _) (fun k hk => by cases hk; exact hxU)) (row_grown _ V _) (fun k hk => by cases hk; exact hxV), codes_grown (codes_grown HY4.out (row_grown _ U _) (B := g + 1) (fun k hk => by cases hk; omega) (Nat.lt_succ_self g)) (row_grown _ V _) (B := g + 1) (fun k hk => by cases hk; omega) (Nat.lt_succ_self g)⟩
                          exact AllReadyU.nil
                        exact AllReadyU.nil
                      exact AllReadyU.nil
                    exact AllReadyU.nil
                  exact AllReadyU.nil
                refine AllReadyU.cons la8 rfl (fun K hK => ?_) ?_
                · go_simp
                  obtain ⟨u1, U, hv1, hX1, RU, hbn, ltn⟩ := alloc_pack u0 (.cells #[.int .i64 0, .int .i64 0, .int .u64 0, .bool false, .int .i64 0] 25)
                  rw [hv1, hX1]
                  have HY1 := Lib.hid (HY0.out.kept HY0.out.lt hbn.out)
                  have HZ1 := Lib.hid (grownBy_of_below HZ0.out (hbn.out.mono HZ0.out.size))
                  have hlU : g < U := by have := HY0.out.lt; omega
                  have hxU : wp.heap.size ≤ U := by have := HZ0.out.size; omega
                  have hluU : U < u1.heap.size := (Array.getElem?_eq_some_iff.1 RU.out).1
                  clear hv1 hX1 hbn ltn
                  refine hK.out _ _ ?_ (fun hSU7 => ?_)
                  · exact KSR.out _ HZ1.out
                  clear hK K hSU1
                  try simp only [Act.put, List.setIfInBounds_toArray, List.set_cons_zero, List.set_cons_succ]
                  refine wpAnyU_ready (rs := [3, 9]) (by kernel_rfl) rfl ?_
                  refine AllReadyU.cons la3 rfl (fun K hK => ?_) ?_
                  · go_simp
                    go_at_call 19
                    refine (TR1.out u1 HY1.out HZ1.out).mono ?_
                    rintro e u2 ⟨k1, k2, k3, k4, k5, rfl, hcA, hgA⟩
                    have HY2 := Lib.hid hcA
                    have HZ2 := Lib.hid (grownBy_trans HZ1.out hgA)
                    have RU := Lib.hid (row_keep hgA RU.out (by omega))
                    have hluU : U < u2.heap.size := (Array.getElem?_eq_some_iff.1 RU.out).1
                    clear hcA hgA
                    refine hK.out _ _ ?_ (fun hSU8 => ?_)
                    · exact KSR.out _ HZ2.out
                    clear hK K hSU7
                    try simp only [Act.put, List.setIfInBounds_toArray, List.set_cons_zero, List.set_cons_succ]
                    refine wpAnyU_ready (rs := [7, 9]) (by kernel_rfl) rfl ?_
                    refine AllReadyU.free la7 rfl (by kernel_rfl) (fun K hK => ?_) ?_
                    · go_simp
                      go_at_call 19
                      refine (TR2.out u2 HY2.out HZ2.out).mono ?_
                      rintro e u3 ⟨m1, m2, m3, m4, m5, rfl, hcA, hgA⟩
                      have HY3 := Lib.hid hcA
                      have HZ3 := Lib.hid (grownBy_trans HZ2.out hgA)
                      have RU := Lib.hid (row_keep hgA RU.out (by omega))
                      have hluU : U < u3.heap.size := (Array.getElem?_eq_some_iff.1 RU.out).1
                      clear hcA hgA
                      refine hK.out _ _ ?_
                      clear hK K hSU8
                      try simp only [Act.put, List.setIfInBounds_toArray, List.set_cons_zero, List.set_cons_succ]
                      refine wpAnyU_ready (rs := [9]) (by kernel_rfl) rfl ?_
                      refine AllReadyU.free la9 rfl (by kernel_rfl) (fun K hK => ?_) ?_
                      · go_simp
                        obtain ⟨u4, V, hv1, hX1, RV, hbn, ltn⟩ := alloc_pack u3 (.cells #[.int .i64 0, .int .i64 0, .int .u64 0, .bool false, .int .i64 0] 25)
                        rw [hv1, hX1]
                        have HY4 := Lib.hid (HY3.out.kept HY3.out.lt hbn.out)
                        have HZ4 := Lib.hid (grownBy_of_below HZ3.out (hbn.out.mono HZ3.out.size))
                        have hlV : g < V := by have := HY3.out.lt; omega
                        have hxV : wp.heap.size ≤ V := by have := HZ3.out.size; omega
                        have hluV : V < u4.heap.size := (Array.getElem?_eq_some_iff.1 RV.out).1
                        have hne : U ≠ V := by have := (Array.getElem?_eq_some_iff.1 RU.out).1; omega
                        have RU := Lib.hid (row_below2 hbn.out RU.out)
                        have hluU : U < u4.heap.size := (Array.getElem?_eq_some_iff.1 RU.out).1
                        clear hv1 hX1 hbn ltn
                        refine hK.out _ _ ?_
                        clear hK K
                        try simp only [Act.put, List.setIfInBounds_toArray, List.set_cons_zero, List.set_cons_succ]
                        refine wpAnyU_ready (rs := [10]) (by kernel_rfl) rfl ?_
                        refine AllReadyU.free la10 rfl (by kernel_rfl) (fun K hK => ?_) ?_
                        · refine step_store_row rfl 25 _ _ rfl U _ rfl rfl 25 #[.int .i64 0, .int .i64 0, .int .u64 0, .bool false, .int .i64 0] RU.out (by kernel_rfl) rfl (by simp [Value.oneCell']) ?_
                          refine hK.out _ _ ?_
                          clear hK K
                          try simp only [Act.put, List.setIfInBounds_toArray, List.set_cons_zero, List.set_cons_succ]
                          refine wpAnyU_ready (rs := [11]) (by kernel_rfl) rfl ?_
                          refine AllReadyU.free la11 rfl (by kernel_rfl) (fun K hK => ?_) ?_
                          · have RV2 : Hid ((u4.setRow U #[.int .i64 k1, .int .i64 k2, .int .u64 k3, .bool k4, .int .i64 k5]).heap[V]? = some (.cells #[.int .i64 0, .int .i64 0, .int .u64 0, .bool false, .int .i64 0] 25 (0, 0))) := (setRow_other u4 U V #[.int .i64 k1, .int .i64 k2, .int .u64 k3, .bool k4, .int .i64 k5] (by omega)).trans RV.out
                            refine step_store_row rfl 25 _ _ rfl V _ rfl rfl 25 #[.int .i64 0, .int .i64 0, .int .u64 0, .bool false, .int .i64 0] RV2.out (by kernel_rfl) rfl (by simp [Value.oneCell']) ?_
                            refine hK.out _ _ ?_
                            clear hK K
                            try simp only [Act.put, List.setIfInBounds_toArray, List.set_cons_zero, List.set_cons_succ]
                            refine wpAnyU_done (by kernel_rfl) ?_ _
                            go_wp2_with fail
                            go_meet
                            exact ⟨U, V, k1, k2, k3, k4, k5, m1, m2, m3, m4, m5, rfl, rfl, (setRow_other _ V U #[.int .i64 m1, .int .i64 m2, .int .u64 m3, .bool m4, .int .i64 m5] (by omega)).trans (setRow_heap _ _ _ _ _ (0, 0) RU.out), setRow_heap _ _ _ _ _ (0, 0) RV2.out, grownBy_of_new (grownBy_of_new HZ4.out (row_grown _ U _) (fun k hk => by cases hk; exact hxU)) (row_grown _ V _) (fun k hk => by cases hk; exact hxV), codes_grown (codes_grown HY4.out (row_grown _ U _) (B := g + 1) (fun k hk => by cases hk; omega) (Nat.lt_succ_self g)) (row_grown _ V _) (B := g + 1) (fun k hk => by cases hk; omega) (Nat.lt_succ_self g)⟩
                          exact AllReadyU.nil
                        exact AllReadyU.nil
                      exact AllReadyU.nil
                    refine AllReadyU.cons la9 rfl (fun K hK => ?_) ?_
                    · go_simp
                      obtain ⟨u3, V, hv1, hX1, RV, hbn, ltn⟩ := alloc_pack u2 (.cells #[.int .i64 0, .int .i64 0, .int .u64 0, .bool false, .int .i64 0] 25)
                      rw [hv1, hX1]
                      have HY3 := Lib.hid (HY2.out.kept HY2.out.lt hbn.out)
                      have HZ3 := Lib.hid (grownBy_of_below HZ2.out (hbn.out.mono HZ2.out.size))
                      have hlV : g < V := by have := HY2.out.lt; omega
                      have hxV : wp.heap.size ≤ V := by have := HZ2.out.size; omega
                      have hluV : V < u3.heap.size := (Array.getElem?_eq_some_iff.1 RV.out).1
                      have hne : U ≠ V := by have := (Array.getElem?_eq_some_iff.1 RU.out).1; omega
                      have RU := Lib.hid (row_below2 hbn.out RU.out)
                      have hluU : U < u3.heap.size := (Array.getElem?_eq_some_iff.1 RU.out).1
                      clear hv1 hX1 hbn ltn
                      refine hK.out _ _ ?_ (fun hSU9 => ?_)
                      · exact KSR.out _ HZ3.out
                      clear hK K hSU8
                      try simp only [Act.put, List.setIfInBounds_toArray, List.set_cons_zero, List.set_cons_succ]
                      refine wpAnyU_ready (rs := [7]) (by kernel_rfl) rfl ?_
                      refine AllReadyU.free la7 rfl (by kernel_rfl) (fun K hK => ?_) ?_
                      · go_simp
                        go_at_call 19
                        refine (TR2.out u3 HY3.out HZ3.out).mono ?_
                        rintro e u4 ⟨m1, m2, m3, m4, m5, rfl, hcA, hgA⟩
                        have HY4 := Lib.hid hcA
                        have HZ4 := Lib.hid (grownBy_trans HZ3.out hgA)
                        have RU := Lib.hid (row_keep hgA RU.out (by omega))
                        have hluU : U < u4.heap.size := (Array.getElem?_eq_some_iff.1 RU.out).1
                        have RV := Lib.hid (row_keep hgA RV.out (by omega))
                        have hluV : V < u4.heap.size := (Array.getElem?_eq_some_iff.1 RV.out).1
                        clear hcA hgA
                        refine hK.out _ _ ?_
                        clear hK K hSU9
                        try simp only [Act.put, List.setIfInBounds_toArray, List.set_cons_zero, List.set_cons_succ]
                        refine wpAnyU_ready (rs := [10]) (by kernel_rfl) rfl ?_
                        refine AllReadyU.free la10 rfl (by kernel_rfl) (fun K hK => ?_) ?_
                        · refine step_store_row rfl 25 _ _ rfl U _ rfl rfl 25 #[.int .i64 0, .int .i64 0, .int .u64 0, .bool false, .int .i64 0] RU.out (by kernel_rfl) rfl (by simp [Value.oneCell']) ?_
                          refine hK.out _ _ ?_
                          clear hK K
                          try simp only [Act.put, List.setIfInBounds_toArray, List.set_cons_zero, List.set_cons_succ]
                          refine wpAnyU_ready (rs := [11]) (by kernel_rfl) rfl ?_
                          refine AllReadyU.free la11 rfl (by kernel_rfl) (fun K hK => ?_) ?_
                          · have RV2 : Hid ((u4.setRow U #[.int .i64 k1, .int .i64 k2, .int .u64 k3, .bool k4, .int .i64 k5]).heap[V]? = some (.cells #[.int .i64 0, .int .i64 0, .int .u64 0, .bool false, .int .i64 0] 25 (0, 0))) := (setRow_other u4 U V #[.int .i64 k1, .int .i64 k2, .int .u64 k3, .bool k4, .int .i64 k5] (by omega)).trans RV.out
                            refine step_store_row rfl 25 _ _ rfl V _ rfl rfl 25 #[.int .i64 0, .int .i64 0, .int .u64 0, .bool false, .int .i64 0] RV2.out (by kernel_rfl) rfl (by simp [Value.oneCell']) ?_
                            refine hK.out _ _ ?_
                            clear hK K
                            try simp only [Act.put, List.setIfInBounds_toArray, List.set_cons_zero, List.set_cons_succ]
                            refine wpAnyU_done (by kernel_rfl) ?_ _
                            go_wp2_with fail
                            go_meet
                            exact ⟨U, V, k1, k2, k3, k4, k5, m1, m2, m3, m4, m5, rfl, rfl, (setRow_other _ V U #[.int .i64 m1, .int .i64 m2, .int .u64 m3, .bool m4, .int .i64 m5] (by omega)).trans (setRow_heap _ _ _ _ _ (0, 0) RU.out), setRow_heap _ _ _ _ _ (0, 0) RV2.out, grownBy_of_new (grownBy_of_new HZ4.out (row_grown _ U _) (fun k hk => by cases hk; exact hxU)) (row_grown _ V _) (fun k hk => by cases hk; exact hxV), codes_grown (codes_grown HY4.out (row_grown _ U _) (B := g + 1) (fun k hk => by cases hk; omega) (Nat.lt_succ_self g)) (row_grown _ V _) (B := g + 1) (fun k hk => by cases hk; omega) (Nat.lt_succ_self g)⟩
                          exact AllReadyU.nil
                        exact AllReadyU.nil
                      exact AllReadyU.nil
                    exact AllReadyU.nil
                  refine AllReadyU.cons la9 rfl (fun K hK => ?_) ?_
                  · go_simp
                    obtain ⟨u2, V, hv1, hX1, RV, hbn, ltn⟩ := alloc_pack u1 (.cells #[.int .i64 0, .int .i64 0, .int .u64 0, .bool false, .int .i64 0] 25)
                    rw [hv1, hX1]
                    have HY2 := Lib.hid (HY1.out.kept HY1.out.lt hbn.out)
                    have HZ2 := Lib.hid (grownBy_of_below HZ1.out (hbn.out.mono HZ1.out.size))
                    have hlV : g < V := by have := HY1.out.lt; omega
                    have hxV : wp.heap.size ≤ V := by have := HZ1.out.size; omega
                    have hluV : V < u2.heap.size := (Array.getElem?_eq_some_iff.1 RV.out).1
                    have hne : U ≠ V := by have := (Array.getElem?_eq_some_iff.1 RU.out).1; omega
                    have RU := Lib.hid (row_below2 hbn.out RU.out)
                    have hluU : U < u2.heap.size := (Array.getElem?_eq_some_iff.1 RU.out).1
                    clear hv1 hX1 hbn ltn
                    refine hK.out _ _ ?_ (fun hSU10 => ?_)
                    · exact KSR.out _ HZ2.out
                    clear hK K hSU7
                    try simp only [Act.put, List.setIfInBounds_toArray, List.set_cons_zero, List.set_cons_succ]
                    refine wpAnyU_ready (rs := [3]) (by kernel_rfl) rfl ?_
                    refine AllReadyU.cons la3 rfl (fun K hK => ?_) ?_
                    · go_simp
                      go_at_call 19
                      refine (TR1.out u2 HY2.out HZ2.out).mono ?_
                      rintro e u3 ⟨k1, k2, k3, k4, k5, rfl, hcA, hgA⟩
                      have HY3 := Lib.hid hcA
                      have HZ3 := Lib.hid (grownBy_trans HZ2.out hgA)
                      have RU := Lib.hid (row_keep hgA RU.out (by omega))
                      have hluU : U < u3.heap.size := (Array.getElem?_eq_some_iff.1 RU.out).1
                      have RV := Lib.hid (row_keep hgA RV.out (by omega))
                      have hluV : V < u3.heap.size := (Array.getElem?_eq_some_iff.1 RV.out).1
                      clear hcA hgA
                      refine hK.out _ _ ?_ (fun hSU11 => ?_)
                      · exact KSR.out _ HZ3.out
                      clear hK K hSU10
                      try simp only [Act.put, List.setIfInBounds_toArray, List.set_cons_zero, List.set_cons_succ]
                      refine wpAnyU_ready (rs := [7]) (by kernel_rfl) rfl ?_
                      refine AllReadyU.free la7 rfl (by kernel_rfl) (fun K hK => ?_) ?_
                      · go_simp
                        go_at_call 19
                        refine (TR2.out u3 HY3.out HZ3.out).mono ?_
                        rintro e u4 ⟨m1, m2, m3, m4, m5, rfl, hcA, hgA⟩
                        have HY4 := Lib.hid hcA
                        have HZ4 := Lib.hid (grownBy_trans HZ3.out hgA)
                        have RU := Lib.hid (row_keep hgA RU.out (by omega))
                        have hluU : U < u4.heap.size := (Array.getElem?_eq_some_iff.1 RU.out).1
                        have RV := Lib.hid (row_keep hgA RV.out (by omega))
                        have hluV : V < u4.heap.size := (Array.getElem?_eq_some_iff.1 RV.out).1
                        clear hcA hgA
                        refine hK.out _ _ ?_
                        clear hK K hSU11
                        try simp only [Act.put, List.setIfInBounds_toArray, List.set_cons_zero, List.set_cons_succ]
                        refine wpAnyU_ready (rs := [10]) (by kernel_rfl) rfl ?_
                        refine AllReadyU.free la10 rfl (by kernel_rfl) (fun K hK => ?_) ?_
                        · refine step_store_row rfl 25 _ _ rfl U _ rfl rfl 25 #[.int .i64 0, .int .i64 0, .int .u64 0, .bool false, .int .i64 0] RU.out (by kernel_rfl) rfl (by simp [Value.oneCell']) ?_
                          refine hK.out _ _ ?_
                          clear hK K
                          try simp only [Act.put, List.setIfInBounds_toArray, List.set_cons_zero, List.set_cons_succ]
                          refine wpAnyU_ready (rs := [11]) (by kernel_rfl) rfl ?_
                          refine AllReadyU.free la11 rfl (by kernel_rfl) (fun K hK => ?_) ?_
                          · have RV2 : Hid ((u4.setRow U #[.int .i64 k1, .int .i64 k2, .int .u64 k3, .bool k4, .int .i64 k5]).heap[V]? = some (.cells #[.int .i64 0, .int .i64 0, .int .u64 0, .bool false, .int .i64 0] 25 (0, 0))) := (setRow_other u4 U V #[.int .i64 k1, .int .i64 k2, .int .u64 k3, .bool k4, .int .i64 k5] (by omega)).trans RV.out
                            refine step_store_row rfl 25 _ _ rfl V _ rfl rfl 25 #[.int .i64 0, .int .i64 0, .int .u64 0, .bool false, .int .i64 0] RV2.out (by kernel_rfl) rfl (by simp [Value.oneCell']) ?_
                            refine hK.out _ _ ?_
                            clear hK K
                            try simp only [Act.put, List.setIfInBounds_toArray, List.set_cons_zero, List.set_cons_succ]
                            refine wpAnyU_done (by kernel_rfl) ?_ _
                            go_wp2_with fail
                            go_meet
                            exact ⟨U, V, k1, k2, k3, k4, k5, m1, m2, m3, m4, m5, rfl, rfl, (setRow_other _ V U #[.int .i64 m1, .int .i64 m2, .int .u64 m3, .bool m4, .int .i64 m5] (by omega)).trans (setRow_heap _ _ _ _ _ (0, 0) RU.out), setRow_heap _ _ _ _ _ (0, 0) RV2.out, grownBy_of_new (grownBy_of_new HZ4.out (row_grown _ U _) (fun k hk => by cases hk; exact hxU)) (row_grown _ V _) (fun k hk => by cases hk; exact hxV), codes_grown (codes_grown HY4.out (row_grown _ U _) (B := g + 1) (fun k hk => by cases hk; omega) (Nat.lt_succ_self g)) (row_grown _ V _) (B := g + 1) (fun k hk => by cases hk; omega) (Nat.lt_succ_self g)⟩
                          exact AllReadyU.nil
                        exact AllReadyU.nil
                      exact AllReadyU.nil
                    exact AllReadyU.nil
                  exact AllReadyU.nil
                refine AllReadyU.cons la9 rfl (fun K hK => ?_) ?_
                · go_simp
                  obtain ⟨u1, V, hv1, hX1, RV, hbn, ltn⟩ := alloc_pack u0 (.cells #[.int .i64 0, .int .i64 0, .int .u64 0, .bool false, .int .i64 0] 25)
                  rw [hv1, hX1]
                  have HY1 := Lib.hid (HY0.out.kept HY0.out.lt hbn.out)
                  have HZ1 := Lib.hid (grownBy_of_below HZ0.out (hbn.out.mono HZ0.out.size))
                  have hlV : g < V := by have := HY0.out.lt; omega
                  have hxV : wp.heap.size ≤ V := by have := HZ0.out.size; omega
                  have hluV : V < u1.heap.size := (Array.getElem?_eq_some_iff.1 RV.out).1
                  clear hv1 hX1 hbn ltn
                  refine hK.out _ _ ?_ (fun hSU12 => ?_)
                  · exact KSR.out _ HZ1.out
                  clear hK K hSU1
                  try simp only [Act.put, List.setIfInBounds_toArray, List.set_cons_zero, List.set_cons_succ]
                  refine wpAnyU_ready (rs := [3, 8]) (by kernel_rfl) rfl ?_
                  refine AllReadyU.cons la3 rfl (fun K hK => ?_) ?_
                  · go_simp
                    go_at_call 19
                    refine (TR1.out u1 HY1.out HZ1.out).mono ?_
                    rintro e u2 ⟨k1, k2, k3, k4, k5, rfl, hcA, hgA⟩
                    have HY2 := Lib.hid hcA
                    have HZ2 := Lib.hid (grownBy_trans HZ1.out hgA)
                    have RV := Lib.hid (row_keep hgA RV.out (by omega))
                    have hluV : V < u2.heap.size := (Array.getElem?_eq_some_iff.1 RV.out).1
                    clear hcA hgA
                    refine hK.out _ _ ?_ (fun hSU13 => ?_)
                    · exact KSR.out _ HZ2.out
                    clear hK K hSU12
                    try simp only [Act.put, List.setIfInBounds_toArray, List.set_cons_zero, List.set_cons_succ]
                    refine wpAnyU_ready (rs := [7, 8]) (by kernel_rfl) rfl ?_
                    refine AllReadyU.free la7 rfl (by kernel_rfl) (fun K hK => ?_) ?_
                    · go_simp
                      go_at_call 19
                      refine (TR2.out u2 HY2.out HZ2.out).mono ?_
                      rintro e u3 ⟨m1, m2, m3, m4, m5, rfl, hcA, hgA⟩
                      have HY3 := Lib.hid hcA
                      have HZ3 := Lib.hid (grownBy_trans HZ2.out hgA)
                      have RV := Lib.hid (row_keep hgA RV.out (by omega))
                      have hluV : V < u3.heap.size := (Array.getElem?_eq_some_iff.1 RV.out).1
                      clear hcA hgA
                      refine hK.out _ _ ?_
                      clear hK K hSU13
                      try simp only [Act.put, List.setIfInBounds_toArray, List.set_cons_zero, List.set_cons_succ]
                      refine wpAnyU_ready (rs := [8]) (by kernel_rfl) rfl ?_
                      refine AllReadyU.free la8 rfl (by kernel_rfl) (fun K hK => ?_) ?_
                      · go_simp
                        obtain ⟨u4, U, hv1, hX1, RU, hbn, ltn⟩ := alloc_pack u3 (.cells #[.int .i64 0, .int .i64 0, .int .u64 0, .bool false, .int .i64 0] 25)
                        rw [hv1, hX1]
                        have HY4 := Lib.hid (HY3.out.kept HY3.out.lt hbn.out)
                        have HZ4 := Lib.hid (grownBy_of_below HZ3.out (hbn.out.mono HZ3.out.size))
                        have hlU : g < U := by have := HY3.out.lt; omega
                        have hxU : wp.heap.size ≤ U := by have := HZ3.out.size; omega
                        have hluU : U < u4.heap.size := (Array.getElem?_eq_some_iff.1 RU.out).1
                        have hne : V ≠ U := by have := (Array.getElem?_eq_some_iff.1 RV.out).1; omega
                        have RV := Lib.hid (row_below2 hbn.out RV.out)
                        have hluV : V < u4.heap.size := (Array.getElem?_eq_some_iff.1 RV.out).1
                        clear hv1 hX1 hbn ltn
                        refine hK.out _ _ ?_
                        clear hK K
                        try simp only [Act.put, List.setIfInBounds_toArray, List.set_cons_zero, List.set_cons_succ]
                        refine wpAnyU_ready (rs := [10]) (by kernel_rfl) rfl ?_
                        refine AllReadyU.free la10 rfl (by kernel_rfl) (fun K hK => ?_) ?_
                        · refine step_store_row rfl 25 _ _ rfl U _ rfl rfl 25 #[.int .i64 0, .int .i64 0, .int .u64 0, .bool false, .int .i64 0] RU.out (by kernel_rfl) rfl (by simp [Value.oneCell']) ?_
                          refine hK.out _ _ ?_
                          clear hK K
                          try simp only [Act.put, List.setIfInBounds_toArray, List.set_cons_zero, List.set_cons_succ]
                          refine wpAnyU_ready (rs := [11]) (by kernel_rfl) rfl ?_
                          refine AllReadyU.free la11 rfl (by kernel_rfl) (fun K hK => ?_) ?_
                          · have RV2 : Hid ((u4.setRow U #[.int .i64 k1, .int .i64 k2, .int .u64 k3, .bool k4, .int .i64 k5]).heap[V]? = some (.cells #[.int .i64 0, .int .i64 0, .int .u64 0, .bool false, .int .i64 0] 25 (0, 0))) := (setRow_other u4 U V #[.int .i64 k1, .int .i64 k2, .int .u64 k3, .bool k4, .int .i64 k5] (by omega)).trans RV.out
                            refine step_store_row rfl 25 _ _ rfl V _ rfl rfl 25 #[.int .i64 0, .int .i64 0, .int .u64 0, .bool false, .int .i64 0] RV2.out (by kernel_rfl) rfl (by simp [Value.oneCell']) ?_
                            refine hK.out _ _ ?_
                            clear hK K
                            try simp only [Act.put, List.setIfInBounds_toArray, List.set_cons_zero, List.set_cons_succ]
                            refine wpAnyU_done (by kernel_rfl) ?_ _
                            go_wp2_with fail
                            go_meet
                            exact ⟨U, V, k1, k2, k3, k4, k5, m1, m2, m3, m4, m5, rfl, rfl, (setRow_other _ V U #[.int .i64 m1, .int .i64 m2, .int .u64 m3, .bool m4, .int .i64 m5] (by omega)).trans (setRow_heap _ _ _ _ _ (0, 0) RU.out), setRow_heap _ _ _ _ _ (0, 0) RV2.out, grownBy_of_new (grownBy_of_new HZ4.out (row_grown _ U _) (fun k hk => by cases hk; exact hxU)) (row_grown _ V _) (fun k hk => by cases hk; exact hxV), codes_grown (codes_grown HY4.out (row_grown _ U _) (B := g + 1) (fun k hk => by cases hk; omega) (Nat.lt_succ_self g)) (row_grown _ V _) (B := g + 1) (fun k hk => by cases hk; omega) (Nat.lt_succ_self g)⟩
                          exact AllReadyU.nil
                        exact AllReadyU.nil
                      exact AllReadyU.nil
                    refine AllReadyU.cons la8 rfl (fun K hK => ?_) ?_
                    · go_simp
                      obtain ⟨u3, U, hv1, hX1, RU, hbn, ltn⟩ := alloc_pack u2 (.cells #[.int .i64 0, .int .i64 0, .int .u64 0, .bool false, .int .i64 0] 25)
                      rw [hv1, hX1]
                      have HY3 := Lib.hid (HY2.out.kept HY2.out.lt hbn.out)
                      have HZ3 := Lib.hid (grownBy_of_below HZ2.out (hbn.out.mono HZ2.out.size))
                      have hlU : g < U := by have := HY2.out.lt; omega
                      have hxU : wp.heap.size ≤ U := by have := HZ2.out.size; omega
                      have hluU : U < u3.heap.size := (Array.getElem?_eq_some_iff.1 RU.out).1
                      have hne : V ≠ U := by have := (Array.getElem?_eq_some_iff.1 RV.out).1; omega
                      have RV := Lib.hid (row_below2 hbn.out RV.out)
                      have hluV : V < u3.heap.size := (Array.getElem?_eq_some_iff.1 RV.out).1
                      clear hv1 hX1 hbn ltn
                      refine hK.out _ _ ?_ (fun hSU14 => ?_)
                      · exact KSR.out _ HZ3.out
                      clear hK K hSU13
                      try simp only [Act.put, List.setIfInBounds_toArray, List.set_cons_zero, List.set_cons_succ]
                      refine wpAnyU_ready (rs := [7]) (by kernel_rfl) rfl ?_
                      refine AllReadyU.free la7 rfl (by kernel_rfl) (fun K hK => ?_) ?_
                      · go_simp
                        go_at_call 19
                        refine (TR2.out u3 HY3.out HZ3.out).mono ?_
                        rintro e u4 ⟨m1, m2, m3, m4, m5, rfl, hcA, hgA⟩
                        have HY4 := Lib.hid hcA
                        have HZ4 := Lib.hid (grownBy_trans HZ3.out hgA)
                        have RU := Lib.hid (row_keep hgA RU.out (by omega))
                        have hluU : U < u4.heap.size := (Array.getElem?_eq_some_iff.1 RU.out).1
                        have RV := Lib.hid (row_keep hgA RV.out (by omega))
                        have hluV : V < u4.heap.size := (Array.getElem?_eq_some_iff.1 RV.out).1
                        clear hcA hgA
                        refine hK.out _ _ ?_
                        clear hK K hSU14
                        try simp only [Act.put, List.setIfInBounds_toArray, List.set_cons_zero, List.set_cons_succ]
                        refine wpAnyU_ready (rs := [10]) (by kernel_rfl) rfl ?_
                        refine AllReadyU.free la10 rfl (by kernel_rfl) (fun K hK => ?_) ?_
                        · refine step_store_row rfl 25 _ _ rfl U _ rfl rfl 25 #[.int .i64 0, .int .i64 0, .int .u64 0, .bool false, .int .i64 0] RU.out (by kernel_rfl) rfl (by simp [Value.oneCell']) ?_
                          refine hK.out _ _ ?_
                          clear hK K
                          try simp only [Act.put, List.setIfInBounds_toArray, List.set_cons_zero, List.set_cons_succ]
                          refine wpAnyU_ready (rs := [11]) (by kernel_rfl) rfl ?_
                          refine AllReadyU.free la11 rfl (by kernel_rfl) (fun K hK => ?_) ?_
                          · have RV2 : Hid ((u4.setRow U #[.int .i64 k1, .int .i64 k2, .int .u64 k3, .bool k4, .int .i64 k5]).heap[V]? = some (.cells #[.int .i64 0, .int .i64 0, .int .u64 0, .bool false, .int .i64 0] 25 (0, 0))) := (setRow_other u4 U V #[.int .i64 k1, .int .i64 k2, .int .u64 k3, .bool k4, .int .i64 k5] (by omega)).trans RV.out
                            refine step_store_row rfl 25 _ _ rfl V _ rfl rfl 25 #[.int .i64 0, .int .i64 0, .int .u64 0, .bool false, .int .i64 0] RV2.out (by kernel_rfl) rfl (by simp [Value.oneCell']) ?_
                            refine hK.out _ _ ?_
                            clear hK K
                            try simp only [Act.put, List.setIfInBounds_toArray, List.set_cons_zero, List.set_cons_succ]
                            refine wpAnyU_done (by kernel_rfl) ?_ _
                            go_wp2_with fail
                            go_meet
                            exact ⟨U, V, k1, k2, k3, k4, k5, m1, m2, m3, m4, m5, rfl, rfl, (setRow_other _ V U #[.int .i64 m1, .int .i64 m2, .int .u64 m3, .bool m4, .int .i64 m5] (by omega)).trans (setRow_heap _ _ _ _ _ (0, 0) RU.out), setRow_heap _ _ _ _ _ (0, 0) RV2.out, grownBy_of_new (grownBy_of_new HZ4.out (row_grown _ U _) (fun k hk => by cases hk; exact hxU)) (row_grown _ V _) (fun k hk => by cases hk; exact hxV), codes_grown (codes_grown HY4.out (row_grown _ U _) (B := g + 1) (fun k hk => by cases hk; omega) (Nat.lt_succ_self g)) (row_grown _ V _) (B := g + 1) (fun k hk => by cases hk; omega) (Nat.lt_succ_self g)⟩
                          exact AllReadyU.nil
                        exact AllReadyU.nil
                      exact AllReadyU.nil
                    exact AllReadyU.nil
                  refine AllReadyU.cons la8 rfl (fun K hK => ?_) ?_
                  · go_simp
                    obtain ⟨u2, U, hv1, hX1, RU, hbn, ltn⟩ := alloc_pack u1 (.cells #[.int .i64 0, .int .i64 0, .int .u64 0, .bool false, .int .i64 0] 25)
                    rw [hv1, hX1]
                    have HY2 := Lib.hid (HY1.out.kept HY1.out.lt hbn.out)
                    have HZ2 := Lib.hid (grownBy_of_below HZ1.out (hbn.out.mono HZ1.out.size))
                    have hlU : g < U := by have := HY1.out.lt; omega
                    have hxU : wp.heap.size ≤ U := by have := HZ1.out.size; omega
                    have hluU : U < u2.heap.size := (Array.getElem?_eq_some_iff.1 RU.out).1
                    have hne : V ≠ U := by have := (Array.getElem?_eq_some_iff.1 RV.out).1; omega
                    have RV := Lib.hid (row_below2 hbn.out RV.out)
                    have hluV : V < u2.heap.size := (Array.getElem?_eq_some_iff.1 RV.out).1
                    clear hv1 hX1 hbn ltn
                    refine hK.out _ _ ?_ (fun hSU15 => ?_)
                    · exact KSR.out _ HZ2.out
                    clear hK K hSU12
                    try simp only [Act.put, List.setIfInBounds_toArray, List.set_cons_zero, List.set_cons_succ]
                    refine wpAnyU_ready (rs := [3]) (by kernel_rfl) rfl ?_
                    refine AllReadyU.cons la3 rfl (fun K hK => ?_) ?_
                    · go_simp
                      go_at_call 19
                      refine (TR1.out u2 HY2.out HZ2.out).mono ?_
                      rintro e u3 ⟨k1, k2, k3, k4, k5, rfl, hcA, hgA⟩
                      have HY3 := Lib.hid hcA
                      have HZ3 := Lib.hid (grownBy_trans HZ2.out hgA)
                      have RU := Lib.hid (row_keep hgA RU.out (by omega))
                      have hluU : U < u3.heap.size := (Array.getElem?_eq_some_iff.1 RU.out).1
                      have RV := Lib.hid (row_keep hgA RV.out (by omega))
                      have hluV : V < u3.heap.size := (Array.getElem?_eq_some_iff.1 RV.out).1
                      clear hcA hgA
                      refine hK.out _ _ ?_ (fun hSU16 => ?_)
                      · exact KSR.out _ HZ3.out
                      clear hK K hSU15
                      try simp only [Act.put, List.setIfInBounds_toArray, List.set_cons_zero, List.set_cons_succ]
                      refine wpAnyU_ready (rs := [7]) (by kernel_rfl) rfl ?_
                      refine AllReadyU.free la7 rfl (by kernel_rfl) (fun K hK => ?_) ?_
                      · go_simp
                        go_at_call 19
                        refine (TR2.out u3 HY3.out HZ3.out).mono ?_
                        rintro e u4 ⟨m1, m2, m3, m4, m5, rfl, hcA, hgA⟩
                        have HY4 := Lib.hid hcA
                        have HZ4 := Lib.hid (grownBy_trans HZ3.out hgA)
                        have RU := Lib.hid (row_keep hgA RU.out (by omega))
                        have hluU : U < u4.heap.size := (Array.getElem?_eq_some_iff.1 RU.out).1
                        have RV := Lib.hid (row_keep hgA RV.out (by omega))
                        have hluV : V < u4.heap.size := (Array.getElem?_eq_some_iff.1 RV.out).1
                        clear hcA hgA
                        refine hK.out _ _ ?_
                        clear hK K hSU16
                        try simp only [Act.put, List.setIfInBounds_toArray, List.set_cons_zero, List.set_cons_succ]
                        refine wpAnyU_ready (rs := [10]) (by kernel_rfl) rfl ?_
                        refine AllReadyU.free la10 rfl (by kernel_rfl) (fun K hK => ?_) ?_
                        · refine step_store_row rfl 25 _ _ rfl U _ rfl rfl 25 #[.int .i64 0, .int .i64 0, .int .u64 0, .bool false, .int .i64 0] RU.out (by kernel_rfl) rfl (by simp [Value.oneCell']) ?_
                          refine hK.out _ _ ?_
                          clear hK K
                          try simp only [Act.put, List.setIfInBounds_toArray, List.set_cons_zero, List.set_cons_succ]
                          refine wpAnyU_ready (rs := [11]) (by kernel_rfl) rfl ?_
                          refine AllReadyU.free la11 rfl (by kernel_rfl) (fun K hK => ?_) ?_
                          · have RV2 : Hid ((u4.setRow U #[.int .i64 k1, .int .i64 k2, .int .u64 k3, .bool k4, .int .i64 k5]).heap[V]? = some (.cells #[.int .i64 0, .int .i64 0, .int .u64 0, .bool false, .int .i64 0] 25 (0, 0))) := (setRow_other u4 U V #[.int .i64 k1, .int .i64 k2, .int .u64 k3, .bool k4, .int .i64 k5] (by omega)).trans RV.out
                            refine step_store_row rfl 25 _ _ rfl V _ rfl rfl 25 #[.int .i64 0, .int .i64 0, .int .u64 0, .bool false, .int .i64 0] RV2.out (by kernel_rfl) rfl (by simp [Value.oneCell']) ?_
                            refine hK.out _ _ ?_
                            clear hK K
                            try simp only [Act.put, List.setIfInBounds_toArray, List.set_cons_zero, List.set_cons_succ]
                            refine wpAnyU_done (by kernel_rfl) ?_ _
                            go_wp2_with fail
                            go_meet
                            exact ⟨U, V, k1, k2, k3, k4, k5, m1, m2, m3, m4, m5, rfl, rfl, (setRow_other _ V U #[.int .i64 m1, .int .i64 m2, .int .u64 m3, .bool m4, .int .i64 m5] (by omega)).trans (setRow_heap _ _ _ _ _ (0, 0) RU.out), setRow_heap _ _ _ _ _ (0, 0) RV2.out, grownBy_of_new (grownBy_of_new HZ4.out (row_grown _ U _) (fun k hk => by cases hk; exact hxU)) (row_grown _ V _) (fun k hk => by cases hk; exact hxV), codes_grown (codes_grown HY4.out (row_grown _ U _) (B := g + 1) (fun k hk => by cases hk; omega) (Nat.lt_succ_self g)) (row_grown _ V _) (B := g + 1) (fun k hk => by cases hk; omega) (Nat.lt_succ_self g)⟩
                          exact AllReadyU.nil
                        exact AllReadyU.nil
                      exact AllReadyU.nil
                    exact AllReadyU.nil
                  exact AllReadyU.nil
                exact AllReadyU.nil
              refine AllReadyU.cons la8 rfl (fun K hK => ?_) ?_
              · go_simp
                obtain ⟨u1, U, hv1, hX1, RU, hbn, ltn⟩ := alloc_pack u0 (.cells #[.int .i64 0, .int .i64 0, .int .u64 0, .bool false, .int .i64 0] 25)
                rw [hv1, hX1]
                have HY1 := Lib.hid (HY0.out.kept HY0.out.lt hbn.out)
                have HZ1 := Lib.hid (grownBy_of_below HZ0.out (hbn.out.mono HZ0.out.size))
                have hlU : g < U := by have := HY0.out.lt; omega
                have hxU : wp.heap.size ≤ U := by have := HZ0.out.size; omega
                have hluU : U < u1.heap.size := (Array.getElem?_eq_some_iff.1 RU.out).1
                clear hv1 hX1 hbn ltn
                refine hK.out _ _ ?_ (fun hSU17 => ?_)
                · exact KSR.out _ HZ1.out
                clear hK K hSU0
                try simp only [Act.put, List.setIfInBounds_toArray, List.set_cons_zero, List.set_cons_succ]
                refine wpAnyU_ready (rs := [2, 9]) (by kernel_rfl) rfl ?_
                refine AllReadyU.cons la2 rfl (fun K hK => ?_) ?_
                · obtain ⟨⟨d0, d1, d2, d3, d4, d5, d6⟩, -⟩ := KSR.out _ HZ1.out
                  go_simp
                  clear d0 d1 d2 d3 d4 d5 d6
                  refine hK.out _ _ ?_ (fun hSU18 => ?_)
                  · exact hSU17
                  clear hK K hSU17
                  try simp only [Act.put, List.setIfInBounds_toArray, List.set_cons_zero, List.set_cons_succ]
                  refine wpAnyU_ready (rs := [3, 9]) (by kernel_rfl) rfl ?_
                  refine AllReadyU.cons la3 rfl (fun K hK => ?_) ?_
                  · go_simp
                    go_at_call 19
                    refine (TR1.out u1 HY1.out HZ1.out).mono ?_
                    rintro e u2 ⟨k1, k2, k3, k4, k5, rfl, hcA, hgA⟩
                    have HY2 := Lib.hid hcA
                    have HZ2 := Lib.hid (grownBy_trans HZ1.out hgA)
                    have RU := Lib.hid (row_keep hgA RU.out (by omega))
                    have hluU : U < u2.heap.size := (Array.getElem?_eq_some_iff.1 RU.out).1
                    clear hcA hgA
                    refine hK.out _ _ ?_ (fun hSU19 => ?_)
                    · exact KSR.out _ HZ2.out
                    clear hK K hSU18
                    try simp only [Act.put, List.setIfInBounds_toArray, List.set_cons_zero, List.set_cons_succ]
                    refine wpAnyU_ready (rs := [7, 9]) (by kernel_rfl) rfl ?_
                    refine AllReadyU.free la7 rfl (by kernel_rfl) (fun K hK => ?_) ?_
                    · go_simp
                      go_at_call 19
                      refine (TR2.out u2 HY2.out HZ2.out).mono ?_
                      rintro e u3 ⟨m1, m2, m3, m4, m5, rfl, hcA, hgA⟩
                      have HY3 := Lib.hid hcA
                      have HZ3 := Lib.hid (grownBy_trans HZ2.out hgA)
                      have RU := Lib.hid (row_keep hgA RU.out (by omega))
                      have hluU : U < u3.heap.size := (Array.getElem?_eq_some_iff.1 RU.out).1
                      clear hcA hgA
                      refine hK.out _ _ ?_
                      clear hK K hSU19
                      try simp only [Act.put, List.setIfInBounds_toArray, List.set_cons_zero, List.set_cons_succ]
                      refine wpAnyU_ready (rs := [9]) (by kernel_rfl) rfl ?_
                      refine AllReadyU.free la9 rfl (by kernel_rfl) (fun K hK => ?_) ?_
                      · go_simp
                        obtain ⟨u4, V, hv1, hX1, RV, hbn, ltn⟩ := alloc_pack u3 (.cells #[.int .i64 0, .int .i64 0, .int .u64 0, .bool false, .int .i64 0] 25)
                        rw [hv1, hX1]
                        have HY4 := Lib.hid (HY3.out.kept HY3.out.lt hbn.out)
                        have HZ4 := Lib.hid (grownBy_of_below HZ3.out (hbn.out.mono HZ3.out.size))
                        have hlV : g < V := by have := HY3.out.lt; omega
                        have hxV : wp.heap.size ≤ V := by have := HZ3.out.size; omega
                        have hluV : V < u4.heap.size := (Array.getElem?_eq_some_iff.1 RV.out).1
                        have hne : U ≠ V := by have := (Array.getElem?_eq_some_iff.1 RU.out).1; omega
                        have RU := Lib.hid (row_below2 hbn.out RU.out)
                        have hluU : U < u4.heap.size := (Array.getElem?_eq_some_iff.1 RU.out).1
                        clear hv1 hX1 hbn ltn
                        refine hK.out _ _ ?_
                        clear hK K
                        try simp only [Act.put, List.setIfInBounds_toArray, List.set_cons_zero, List.set_cons_succ]
                        refine wpAnyU_ready (rs := [10]) (by kernel_rfl) rfl ?_
                        refine AllReadyU.free la10 rfl (by kernel_rfl) (fun K hK => ?_) ?_
                        · refine step_store_row rfl 25 _ _ rfl U _ rfl rfl 25 #[.int .i64 0, .int .i64 0, .int .u64 0, .bool false, .int .i64 0] RU.out (by kernel_rfl) rfl (by simp [Value.oneCell']) ?_
                          refine hK.out _ _ ?_
                          clear hK K
                          try simp only [Act.put, List.setIfInBounds_toArray, List.set_cons_zero, List.set_cons_succ]
                          refine wpAnyU_ready (rs := [11]) (by kernel_rfl) rfl ?_
                          refine AllReadyU.free la11 rfl (by kernel_rfl) (fun K hK => ?_) ?_
                          · have RV2 : Hid ((u4.setRow U #[.int .i64 k1, .int .i64 k2, .int .u64 k3, .bool k4, .int .i64 k5]).heap[V]? = some (.cells #[.int .i64 0, .int .i64 0, .int .u64 0, .bool false, .int .i64 0] 25 (0, 0))) := (setRow_other u4 U V #[.int .i64 k1, .int .i64 k2, .int .u64 k3, .bool k4, .int .i64 k5] (by omega)).trans RV.out
                            refine step_store_row rfl 25 _ _ rfl V _ rfl rfl 25 #[.int .i64 0, .int .i64 0, .int .u64 0, .bool false, .int .i64 0] RV2.out (by kernel_rfl) rfl (by simp [Value.oneCell']) ?_
                            refine hK.out _ _ ?_
                            clear hK K
                            try simp only [Act.put, List.setIfInBounds_toArray, List.set_cons_zero, List.set_cons_succ]
                            refine wpAnyU_done (by kernel_rfl) ?_ _
                            go_wp2_with fail
                            go_meet
                            exact ⟨U, V, k1, k2, k3, k4, k5, m1, m2, m3, m4, m5, rfl, rfl, (setRow_other _ V U #[.int .i64 m1, .int .i64 m2, .int .u64 m3, .bool m4, .int .i64 m5] (by omega)).trans (setRow_heap _ _ _ _ _ (0, 0) RU.out), setRow_heap _ _ _ _ _ (0, 0) RV2.out, grownBy_of_new (grownBy_of_new HZ4.out (row_grown _ U _) (fun k hk => by cases hk; exact hxU)) (row_grown _ V _) (fun k hk => by cases hk; exact hxV), codes_grown (codes_grown HY4.out (row_grown _ U _) (B := g + 1) (fun k hk => by cases hk; omega) (Nat.lt_succ_self g)) (row_grown _ V _) (B := g + 1) (fun k hk => by cases hk; omega) (Nat.lt_succ_self g)⟩
                          exact AllReadyU.nil
                        exact AllReadyU.nil
                      exact AllReadyU.nil
                    refine AllReadyU.cons la9 rfl (fun K hK => ?_) ?_
                    · go_simp
                      obtain ⟨u3, V, hv1, hX1, RV, hbn, ltn⟩ := alloc_pack u2 (.cells #[.int .i64 0, .int .i64 0, .int .u64 0, .bool false, .int .i64 0] 25)
                      rw [hv1, hX1]
                      have HY3 := Lib.hid (HY2.out.kept HY2.out.lt hbn.out)
                      have HZ3 := Lib.hid (grownBy_of_below HZ2.out (hbn.out.mono HZ2.out.size))
                      have hlV : g < V := by have := HY2.out.lt; omega
                      have hxV : wp.heap.size ≤ V := by have := HZ2.out.size; omega
                      have hluV : V < u3.heap.size := (Array.getElem?_eq_some_iff.1 RV.out).1
                      have hne : U ≠ V := by have := (Array.getElem?_eq_some_iff.1 RU.out).1; omega
                      have RU := Lib.hid (row_below2 hbn.out RU.out)
                      have hluU : U < u3.heap.size := (Array.getElem?_eq_some_iff.1 RU.out).1
                      clear hv1 hX1 hbn ltn
                      refine hK.out _ _ ?_ (fun hSU20 => ?_)
                      · exact KSR.out _ HZ3.out
                      clear hK K hSU19
                      try simp only [Act.put, List.setIfInBounds_toArray, List.set_cons_zero, List.set_cons_succ]
                      refine wpAnyU_ready (rs := [7]) (by kernel_rfl) rfl ?_
                      refine AllReadyU.free la7 rfl (by kernel_rfl) (fun K hK => ?_) ?_
                      · go_simp
                        go_at_call 19
                        refine (TR2.out u3 HY3.out HZ3.out).mono ?_
                        rintro e u4 ⟨m1, m2, m3, m4, m5, rfl, hcA, hgA⟩
                        have HY4 := Lib.hid hcA
                        have HZ4 := Lib.hid (grownBy_trans HZ3.out hgA)
                        have RU := Lib.hid (row_keep hgA RU.out (by omega))
                        have hluU : U < u4.heap.size := (Array.getElem?_eq_some_iff.1 RU.out).1
                        have RV := Lib.hid (row_keep hgA RV.out (by omega))
                        have hluV : V < u4.heap.size := (Array.getElem?_eq_some_iff.1 RV.out).1
                        clear hcA hgA
                        refine hK.out _ _ ?_
                        clear hK K hSU20
                        try simp only [Act.put, List.setIfInBounds_toArray, List.set_cons_zero, List.set_cons_succ]
                        refine wpAnyU_ready (rs := [10]) (by kernel_rfl) rfl ?_
                        refine AllReadyU.free la10 rfl (by kernel_rfl) (fun K hK => ?_) ?_
                        · refine step_store_row rfl 25 _ _ rfl U _ rfl rfl 25 #[.int .i64 0, .int .i64 0, .int .u64 0, .bool false, .int .i64 0] RU.out (by kernel_rfl) rfl (by simp [Value.oneCell']) ?_
                          refine hK.out _ _ ?_
                          clear hK K
                          try simp only [Act.put, List.setIfInBounds_toArray, List.set_cons_zero, List.set_cons_succ]
                          refine wpAnyU_ready (rs := [11]) (by kernel_rfl) rfl ?_
                          refine AllReadyU.free la11 rfl (by kernel_rfl) (fun K hK => ?_) ?_
                          · have RV2 : Hid ((u4.setRow U #[.int .i64 k1, .int .i64 k2, .int .u64 k3, .bool k4, .int .i64 k5]).heap[V]? = some (.cells #[.int .i64 0, .int .i64 0, .int .u64 0, .bool false, .int .i64 0] 25 (0, 0))) := (setRow_other u4 U V #[.int .i64 k1, .int .i64 k2, .int .u64 k3, .bool k4, .int .i64 k5] (by omega)).trans RV.out
                            refine step_store_row rfl 25 _ _ rfl V _ rfl rfl 25 #[.int .i64 0, .int .i64 0, .int .u64 0, .bool false, .int .i64 0] RV2.out (by kernel_rfl) rfl (by simp [Value.oneCell']) ?_
                            refine hK.out _ _ ?_
                            clear hK K
                            try simp only [Act.put, List.setIfInBounds_toArray, List.set_cons_zero, List.set_cons_succ]
                            refine wpAnyU_done (by kernel_rfl) ?_ _
                            go_wp2_with fail
                            go_meet
                            exact ⟨U, V, k1, k2, k3, k4, k5, m1, m2, m3, m4, m5, rfl, rfl, (setRow_other _ V U #[.int .i64 m1, .int .i64 m2, .int .u64 m3, .bool m4, .int .i64 m5] (by omega)).trans (setRow_heap _ _ _ _ _ (0, 0) RU.out), setRow_heap _ _ _ _ _ (0, 0) RV2.out, grownBy_of_new (grownBy_of_new HZ4.out (row_grown _ U _) (fun k hk => by cases hk; exact hxU)) (row_grown _ V _) (fun k hk => by cases hk; exact hxV), codes_grown (codes_grown HY4.out (row_grown _ U _) (B := g + 1) (fun k hk => by cases hk; omega) (Nat.lt_succ_self g)) (row_grown _ V _) (B := g + 1) (fun k hk => by cases hk; omega) (Nat.lt_succ_self g)⟩
                          exact AllReadyU.nil
                        exact AllReadyU.nil
                      exact AllReadyU.nil
                    exact AllReadyU.nil
                  refine AllReadyU.cons la9 rfl (fun K hK => ?_) ?_
                  · go_simp
                    obtain ⟨u2, V, hv1, hX1, RV, hbn, ltn⟩ := alloc_pack u1 (.cells #[.int .i64 0, .int .i64 0, .int .u64 0, .bool false, .int .i64 0] 25)
                    rw [hv1, hX1]
                    have HY2 := Lib.hid (HY1.out.kept HY1.out.lt hbn.out)
                    have HZ2 := Lib.hid (grownBy_of_below HZ1.out (hbn.out.mono HZ1.out.size))
                    have hlV : g < V := by have := HY1.out.lt; omega
                    have hxV : wp.heap.size ≤ V := by have := HZ1.out.size; omega
                    have hluV : V < u2.heap.size := (Array.getElem?_eq_some_iff.1 RV.out).1
                    have hne : U ≠ V := by have := (Array.getElem?_eq_some_iff.1 RU.out).1; omega
                    have RU := Lib.hid (row_below2 hbn.out RU.out)
                    have hluU : U < u2.heap.size := (Array.getElem?_eq_some_iff.1 RU.out).1
                    clear hv1 hX1 hbn ltn
                    refine hK.out _ _ ?_ (fun hSU21 => ?_)
                    · exact KSR.out _ HZ2.out
                    clear hK K hSU18
                    try simp only [Act.put, List.setIfInBounds_toArray, List.set_cons_zero, List.set_cons_succ]
                    refine wpAnyU_ready (rs := [3]) (by kernel_rfl) rfl ?_
                    refine AllReadyU.cons la3 rfl (fun K hK => ?_) ?_
                    · go_simp
                      go_at_call 19
                      refine (TR1.out u2 HY2.out HZ2.out).mono ?_
                      rintro e u3 ⟨k1, k2, k3, k4, k5, rfl, hcA, hgA⟩
                      have HY3 := Lib.hid hcA
                      have HZ3 := Lib.hid (grownBy_trans HZ2.out hgA)
                      have RU := Lib.hid (row_keep hgA RU.out (by omega))
                      have hluU : U < u3.heap.size := (Array.getElem?_eq_some_iff.1 RU.out).1
                      have RV := Lib.hid (row_keep hgA RV.out (by omega))
                      have hluV : V < u3.heap.size := (Array.getElem?_eq_some_iff.1 RV.out).1
                      clear hcA hgA
                      refine hK.out _ _ ?_ (fun hSU22 => ?_)
                      · exact KSR.out _ HZ3.out
                      clear hK K hSU21
                      try simp only [Act.put, List.setIfInBounds_toArray, List.set_cons_zero, List.set_cons_succ]
                      refine wpAnyU_ready (rs := [7]) (by kernel_rfl) rfl ?_
                      refine AllReadyU.free la7 rfl (by kernel_rfl) (fun K hK => ?_) ?_
                      · go_simp
                        go_at_call 19
                        refine (TR2.out u3 HY3.out HZ3.out).mono ?_
                        rintro e u4 ⟨m1, m2, m3, m4, m5, rfl, hcA, hgA⟩
                        have HY4 := Lib.hid hcA
                        have HZ4 := Lib.hid (grownBy_trans HZ3.out hgA)
                        have RU := Lib.hid (row_keep hgA RU.out (by omega))
                        have hluU : U < u4.heap.size := (Array.getElem?_eq_some_iff.1 RU.out).1
                        have RV := Lib.hid (row_keep hgA RV.out (by omega))
                        have hluV : V < u4.heap.size := (Array.getElem?_eq_some_iff.1 RV.out).1
                        clear hcA hgA
                        refine hK.out _ _ ?_
                        clear hK K hSU22
                        try simp only [Act.put, List.setIfInBounds_toArray, List.set_cons_zero, List.set_cons_succ]
                        refine wpAnyU_ready (rs := [10]) (by kernel_rfl) rfl ?_
                        refine AllReadyU.free la10 rfl (by kernel_rfl) (fun K hK => ?_) ?_
                        · refine step_store_row rfl 25 _ _ rfl U _ rfl rfl 25 #[.int .i64 0, .int .i64 0, .int .u64 0, .bool false, .int .i64 0] RU.out (by kernel_rfl) rfl (by simp [Value.oneCell']) ?_
                          refine hK.out _ _ ?_
                          clear hK K
                          try simp only [Act.put, List.setIfInBounds_toArray, List.set_cons_zero, List.set_cons_succ]
                          refine wpAnyU_ready (rs := [11]) (by kernel_rfl) rfl ?_
                          refine AllReadyU.free la11 rfl (by kernel_rfl) (fun K hK => ?_) ?_
                          · have RV2 : Hid ((u4.setRow U #[.int .i64 k1, .int .i64 k2, .int .u64 k3, .bool k4, .int .i64 k5]).heap[V]? = some (.cells #[.int .i64 0, .int .i64 0, .int .u64 0, .bool false, .int .i64 0] 25 (0, 0))) := (setRow_other u4 U V #[.int .i64 k1, .int .i64 k2, .int .u64 k3, .bool k4, .int .i64 k5] (by omega)).trans RV.out
                            refine step_store_row rfl 25 _ _ rfl V _ rfl rfl 25 #[.int .i64 0, .int .i64 0, .int .u64 0, .bool false, .int .i64 0] RV2.out (by kernel_rfl) rfl (by simp [Value.oneCell']) ?_
                            refine hK.out _ _ ?_
                            clear hK K
                            try simp only [Act.put, List.setIfInBounds_toArray, List.set_cons_zero, List.set_cons_succ]
                            refine wpAnyU_done (by kernel_rfl) ?_ _
                            go_wp2_with fail
                            go_meet
                            exact ⟨U, V, k1, k2, k3, k4, k5, m1, m2, m3, m4, m5, rfl, rfl, (setRow_other _ V U #[.int .i64 m1, .int .i64 m2, .int .u64 m3, .bool m4, .int .i64 m5] (by omega)).trans (setRow_heap _ _ _ _ _ (0, 0) RU.out), setRow_heap _ _ _ _ _ (0, 0) RV2.out, grownBy_of_new (grownBy_of_new HZ4.out (row_grown _ U _) (fun k hk => by cases hk; exact hxU)) (row_grown _ V _) (fun k hk => by cases hk; exact hxV), codes_grown (codes_grown HY4.out (row_grown _ U _) (B := g + 1) (fun k hk => by cases hk; omega) (Nat.lt_succ_self g)) (row_grown _ V _) (B := g + 1) (fun k hk => by cases hk; omega) (Nat.lt_succ_self g)⟩
                          exact AllReadyU.nil
                        exact AllReadyU.nil
                      exact AllReadyU.nil
                    exact AllReadyU.nil
                  exact AllReadyU.nil
                refine AllReadyU.cons la9 rfl (fun K hK => ?_) ?_
                · go_simp
                  obtain ⟨u2, V, hv1, hX1, RV, hbn, ltn⟩ := alloc_pack u1 (.cells #[.int .i64 0, .int .i64 0, .int .u64 0, .bool false, .int .i64 0] 25)
                  rw [hv1, hX1]
                  have HY2 := Lib.hid (HY1.out.kept HY1.out.lt hbn.out)
                  have HZ2 := Lib.hid (grownBy_of_below HZ1.out (hbn.out.mono HZ1.out.size))
                  have hlV : g < V := by have := HY1.out.lt; omega
                  have hxV : wp.heap.size ≤ V := by have := HZ1.out.size; omega
                  have hluV : V < u2.heap.size := (Array.getElem?_eq_some_iff.1 RV.out).1
                  have hne : U ≠ V := by have := (Array.getElem?_eq_some_iff.1 RU.out).1; omega
                  have RU := Lib.hid (row_below2 hbn.out RU.out)
                  have hluU : U < u2.heap.size := (Array.getElem?_eq_some_iff.1 RU.out).1
                  clear hv1 hX1 hbn ltn
                  refine hK.out _ _ ?_ (fun hSU23 => ?_)
                  · exact KSR.out _ HZ2.out
                  clear hK K hSU17
                  try simp only [Act.put, List.setIfInBounds_toArray, List.set_cons_zero, List.set_cons_succ]
                  refine wpAnyU_ready (rs := [2]) (by kernel_rfl) rfl ?_
                  refine AllReadyU.cons la2 rfl (fun K hK => ?_) ?_
                  · obtain ⟨⟨d0, d1, d2, d3, d4, d5, d6⟩, -⟩ := KSR.out _ HZ2.out
                    go_simp
                    clear d0 d1 d2 d3 d4 d5 d6
                    refine hK.out _ _ ?_ (fun hSU24 => ?_)
                    · exact hSU23
                    clear hK K hSU23
                    try simp only [Act.put, List.setIfInBounds_toArray, List.set_cons_zero, List.set_cons_succ]
                    refine wpAnyU_ready (rs := [3]) (by kernel_rfl) rfl ?_
                    refine AllReadyU.cons la3 rfl (fun K hK => ?_) ?_
                    · go_simp
                      go_at_call 19
                      refine (TR1.out u2 HY2.out HZ2.out).mono ?_
                      rintro e u3 ⟨k1, k2, k3, k4, k5, rfl, hcA, hgA⟩
                      have HY3 := Lib.hid hcA
                      have HZ3 := Lib.hid (grownBy_trans HZ2.out hgA)
                      have RU := Lib.hid (row_keep hgA RU.out (by omega))
                      have hluU : U < u3.heap.size := (Array.getElem?_eq_some_iff.1 RU.out).1
                      have RV := Lib.hid (row_keep hgA RV.out (by omega))
                      have hluV : V < u3.heap.size := (Array.getElem?_eq_some_iff.1 RV.out).1
                      clear hcA hgA
                      refine hK.out _ _ ?_ (fun hSU25 => ?_)
                      · exact KSR.out _ HZ3.out
                      clear hK K hSU24
                      try simp only [Act.put, List.setIfInBounds_toArray, List.set_cons_zero, List.set_cons_succ]
                      refine wpAnyU_ready (rs := [7]) (by kernel_rfl) rfl ?_
                      refine AllReadyU.free la7 rfl (by kernel_rfl) (fun K hK => ?_) ?_
                      · go_simp
                        go_at_call 19
                        refine (TR2.out u3 HY3.out HZ3.out).mono ?_
                        rintro e u4 ⟨m1, m2, m3, m4, m5, rfl, hcA, hgA⟩
                        have HY4 := Lib.hid hcA
                        have HZ4 := Lib.hid (grownBy_trans HZ3.out hgA)
                        have RU := Lib.hid (row_keep hgA RU.out (by omega))
                        have hluU : U < u4.heap.size := (Array.getElem?_eq_some_iff.1 RU.out).1
                        have RV := Lib.hid (row_keep hgA RV.out (by omega))
                        have hluV : V < u4.heap.size := (Array.getElem?_eq_some_iff.1 RV.out).1
                        clear hcA hgA
                        refine hK.out _ _ ?_
                        clear hK K hSU25
                        try simp only [Act.put, List.setIfInBounds_toArray, List.set_cons_zero, List.set_cons_succ]
                        refine wpAnyU_ready (rs := [10]) (by kernel_rfl) rfl ?_
                        refine AllReadyU.free la10 rfl (by kernel_rfl) (fun K hK => ?_) ?_
                        · refine step_store_row rfl 25 _ _ rfl U _ rfl rfl 25 #[.int .i64 0, .int .i64 0, .int .u64 0, .bool false, .int .i64 0] RU.out (by kernel_rfl) rfl (by simp [Value.oneCell']) ?_
                          refine hK.out _ _ ?_
                          clear hK K
                          try simp only [Act.put, List.setIfInBounds_toArray, List.set_cons_zero, List.set_cons_succ]
                          refine wpAnyU_ready (rs := [11]) (by kernel_rfl) rfl ?_
                          refine AllReadyU.free la11 rfl (by kernel_rfl) (fun K hK => ?_) ?_
                          · have RV2 : Hid ((u4.setRow U #[.int .i64 k1, .int .i64 k2, .int .u64 k3, .bool k4, .int .i64 k5]).heap[V]? = some (.cells #[.int .i64 0, .int .i64 0, .int .u64 0, .bool false, .int .i64 0] 25 (0, 0))) := (setRow_other u4 U V #[.int .i64 k1, .int .i64 k2, .int .u64 k3, .bool k4, .int .i64 k5] (by omega)).trans RV.out
                            refine step_store_row rfl 25 _ _ rfl V _ rfl rfl 25 #[.int .i64 0, .int .i64 0, .int .u64 0, .bool false, .int .i64 0] RV2.out (by kernel_rfl) rfl (by simp [Value.oneCell']) ?_
                            refine hK.out _ _ ?_
                            clear hK K
                            try simp only [Act.put, List.setIfInBounds_toArray, List.set_cons_zero, List.set_cons_succ]
                            refine wpAnyU_done (by kernel_rfl) ?_ _
                            go_wp2_with fail
                            go_meet
                            exact ⟨U, V, k1, k2, k3, k4, k5, m1, m2, m3, m4, m5, rfl, rfl, (setRow_other _ V U #[.int .i64 m1, .int .i64 m2, .int .u64 m3, .bool m4, .int .i64 m5] (by omega)).trans (setRow_heap _ _ _ _ _ (0, 0) RU.out), setRow_heap _ _ _ _ _ (0, 0) RV2.out, grownBy_of_new (grownBy_of_new HZ4.out (row_grown _ U _) (fun k hk => by cases hk; exact hxU)) (row_grown _ V _) (fun k hk => by cases hk; exact hxV), codes_grown (codes_grown HY4.out (row_grown _ U _) (B := g + 1) (fun k hk => by cases hk; omega) (Nat.lt_succ_self g)) (row_grown _ V _) (B := g + 1) (fun k hk => by cases hk; omega) (Nat.lt_succ_self g)⟩
                          exact AllReadyU.nil
                        exact AllReadyU.nil
                      exact AllReadyU.nil
                    exact AllReadyU.nil
                  exact AllReadyU.nil
                exact AllReadyU.nil
              refine AllReadyU.cons la9 rfl (fun K hK => ?_) ?_
              · go_simp
                obtain ⟨u1, V, hv1, hX1, RV, hbn, ltn⟩ := alloc_pack u0 (.cells #[.int .i64 0, .int .i64 0, .int .u64 0, .bool false, .int .i64 0] 25)
                rw [hv1, hX1]
                have HY1 := Lib.hid (HY0.out.kept HY0.out.lt hbn.out)
                have HZ1 := Lib.hid (grownBy_of_below HZ0.out (hbn.out.mono HZ0.out.size))
                have hlV : g < V := by have := HY0.out.lt; omega
                have hxV : wp.heap.size ≤ V := by have := HZ0.out.size; omega
                have hluV : V < u1.heap.size := (Array.getElem?_eq_some_iff.1 RV.out).1
                clear hv1 hX1 hbn ltn
                refine hK.out _ _ ?_ (fun hSU26 => ?_)
                · exact KSR.out _ HZ1.out
                clear hK K hSU0
                try simp only [Act.put, List.setIfInBounds_toArray, List.set_cons_zero, List.set_cons_succ]
                refine wpAnyU_ready (rs := [2, 8]) (by kernel_rfl) rfl ?_
                refine AllReadyU.cons la2 rfl (fun K hK => ?_) ?_
                · obtain ⟨⟨d0, d1, d2, d3, d4, d5, d6⟩, -⟩ := KSR.out _ HZ1.out
                  go_simp
                  clear d0 d1 d2 d3 d4 d5 d6
                  refine hK.out _ _ ?_ (fun hSU27 => ?_)
                  · exact hSU26
                  clear hK K hSU26
                  try simp only [Act.put, List.setIfInBounds_toArray, List.set_cons_zero, List.set_cons_succ]
                  refine wpAnyU_ready (rs := [3, 8]) (by kernel_rfl) rfl ?_
                  refine AllReadyU.cons la3 rfl (fun K hK => ?_) ?_
                  · go_simp
                    go_at_call 19
                    refine (TR1.out u1 HY1.out HZ1.out).mono ?_
                    rintro e u2 ⟨k1, k2, k3, k4, k5, rfl, hcA, hgA⟩
                    have HY2 := Lib.hid hcA
                    have HZ2 := Lib.hid (grownBy_trans HZ1.out hgA)
                    have RV := Lib.hid (row_keep hgA RV.out (by omega))
                    have hluV : V < u2.heap.size := (Array.getElem?_eq_some_iff.1 RV.out).1
                    clear hcA hgA
                    refine hK.out _ _ ?_ (fun hSU28 => ?_)
                    · exact KSR.out _ HZ2.out
                    clear hK K hSU27
                    try simp only [Act.put, List.setIfInBounds_toArray, List.set_cons_zero, List.set_cons_succ]
                    refine wpAnyU_ready (rs := [7, 8]) (by kernel_rfl) rfl ?_
                    refine AllReadyU.free la7 rfl (by kernel_rfl) (fun K hK => ?_) ?_
                    · go_simp
                      go_at_call 19
                      refine (TR2.out u2 HY2.out HZ2.out).mono ?_
                      rintro e u3 ⟨m1, m2, m3, m4, m5, rfl, hcA, hgA⟩
                      have HY3 := Lib.hid hcA
                      have HZ3 := Lib.hid (grownBy_trans HZ2.out hgA)
                      have RV := Lib.hid (row_keep hgA RV.out (by omega))
                      have hluV : V < u3.heap.size := (Array.getElem?_eq_some_iff.1 RV.out).1
                      clear hcA hgA
                      refine hK.out _ _ ?_
                      clear hK K hSU28
                      try simp only [Act.put, List.setIfInBounds_toArray, List.set_cons_zero, List.set_cons_succ]
                      refine wpAnyU_ready (rs := [8]) (by kernel_rfl) rfl ?_
                      refine AllReadyU.free la8 rfl (by kernel_rfl) (fun K hK => ?_) ?_
                      · go_simp
                        obtain ⟨u4, U, hv1, hX1, RU, hbn, ltn⟩ := alloc_pack u3 (.cells #[.int .i64 0, .int .i64 0, .int .u64 0, .bool false, .int .i64 0] 25)
                        rw [hv1, hX1]
                        have HY4 := Lib.hid (HY3.out.kept HY3.out.lt hbn.out)
                        have HZ4 := Lib.hid (grownBy_of_below HZ3.out (hbn.out.mono HZ3.out.size))
                        have hlU : g < U := by have := HY3.out.lt; omega
                        have hxU : wp.heap.size ≤ U := by have := HZ3.out.size; omega
                        have hluU : U < u4.heap.size := (Array.getElem?_eq_some_iff.1 RU.out).1
                        have hne : V ≠ U := by have := (Array.getElem?_eq_some_iff.1 RV.out).1; omega
                        have RV := Lib.hid (row_below2 hbn.out RV.out)
                        have hluV : V < u4.heap.size := (Array.getElem?_eq_some_iff.1 RV.out).1
                        clear hv1 hX1 hbn ltn
                        refine hK.out _ _ ?_
                        clear hK K
                        try simp only [Act.put, List.setIfInBounds_toArray, List.set_cons_zero, List.set_cons_succ]
                        refine wpAnyU_ready (rs := [10]) (by kernel_rfl) rfl ?_
                        refine AllReadyU.free la10 rfl (by kernel_rfl) (fun K hK => ?_) ?_
                        · refine step_store_row rfl 25 _ _ rfl U _ rfl rfl 25 #[.int .i64 0, .int .i64 0, .int .u64 0, .bool false, .int .i64 0] RU.out (by kernel_rfl) rfl (by simp [Value.oneCell']) ?_
                          refine hK.out _ _ ?_
                          clear hK K
                          try simp only [Act.put, List.setIfInBounds_toArray, List.set_cons_zero, List.set_cons_succ]
                          refine wpAnyU_ready (rs := [11]) (by kernel_rfl) rfl ?_
                          refine AllReadyU.free la11 rfl (by kernel_rfl) (fun K hK => ?_) ?_
                          · have RV2 : Hid ((u4.setRow U #[.int .i64 k1, .int .i64 k2, .int .u64 k3, .bool k4, .int .i64 k5]).heap[V]? = some (.cells #[.int .i64 0, .int .i64 0, .int .u64 0, .bool false, .int .i64 0] 25 (0, 0))) := (setRow_other u4 U V #[.int .i64 k1, .int .i64 k2, .int .u64 k3, .bool k4, .int .i64 k5] (by omega)).trans RV.out
                            refine step_store_row rfl 25 _ _ rfl V _ rfl rfl 25 #[.int .i64 0, .int .i64 0, .int .u64 0, .bool false, .int .i64 0] RV2.out (by kernel_rfl) rfl (by simp [Value.oneCell']) ?_
                            refine hK.out _ _ ?_
                            clear hK K
                            try simp only [Act.put, List.setIfInBounds_toArray, List.set_cons_zero, List.set_cons_succ]
                            refine wpAnyU_done (by kernel_rfl) ?_ _
                            go_wp2_with fail
                            go_meet
                            exact ⟨U, V, k1, k2, k3, k4, k5, m1, m2, m3, m4, m5, rfl, rfl, (setRow_other _ V U #[.int .i64 m1, .int .i64 m2, .int .u64 m3, .bool m4, .int .i64 m5] (by omega)).trans (setRow_heap _ _ _ _ _ (0, 0) RU.out), setRow_heap _ _ _ _ _ (0, 0) RV2.out, grownBy_of_new (grownBy_of_new HZ4.out (row_grown _ U _) (fun k hk => by cases hk; exact hxU)) (row_grown _ V _) (fun k hk => by cases hk; exact hxV), codes_grown (codes_grown HY4.out (row_grown _ U _) (B := g + 1) (fun k hk => by cases hk; omega) (Nat.lt_succ_self g)) (row_grown _ V _) (B := g + 1) (fun k hk => by cases hk; omega) (Nat.lt_succ_self g)⟩
                          exact AllReadyU.nil
                        exact AllReadyU.nil
                      exact AllReadyU.nil
                    refine AllReadyU.cons la8 rfl (fun K hK => ?_) ?_
                    · go_simp
                      obtain ⟨u3, U, hv1, hX1, RU, hbn, ltn⟩ := alloc_pack u2 (.cells #[.int .i64 0, .int .i64 0, .int .u64 0, .bool false, .int .i64 0] 25)
                      rw [hv1, hX1]
                      have HY3 := Lib.hid (HY2.out.kept HY2.out.lt hbn.out)
                      have HZ3 := Lib.hid (grownBy_of_below HZ2.out (hbn.out.mono HZ2.out.size))
                      have hlU : g < U := by have := HY2.out.lt; omega
                      have hxU : wp.heap.size ≤ U := by have := HZ2.out.size; omega
                      have hluU : U < u3.heap.size := (Array.getElem?_eq_some_iff.1 RU.out).1
                      have hne : V ≠ U := by have := (Array.getElem?_eq_some_iff.1 RV.out).1; omega
                      have RV := Lib.hid (row_below2 hbn.out RV.out)
                      have hluV : V < u3.heap.size := (Array.getElem?_eq_some_iff.1 RV.out).1
                      clear hv1 hX1 hbn ltn
                      refine hK.out _ _ ?_ (fun hSU29 => ?_)
                      · exact KSR.out _ HZ3.out
                      clear hK K hSU28
                      try simp only [Act.put, List.setIfInBounds_toArray, List.set_cons_zero, List.set_cons_succ]
                      refine wpAnyU_ready (rs := [7]) (by kernel_rfl) rfl ?_
                      refine AllReadyU.free la7 rfl (by kernel_rfl) (fun K hK => ?_) ?_
                      · go_simp
                        go_at_call 19
                        refine (TR2.out u3 HY3.out HZ3.out).mono ?_
                        rintro e u4 ⟨m1, m2, m3, m4, m5, rfl, hcA, hgA⟩
                        have HY4 := Lib.hid hcA
                        have HZ4 := Lib.hid (grownBy_trans HZ3.out hgA)
                        have RU := Lib.hid (row_keep hgA RU.out (by omega))
                        have hluU : U < u4.heap.size := (Array.getElem?_eq_some_iff.1 RU.out).1
                        have RV := Lib.hid (row_keep hgA RV.out (by omega))
                        have hluV : V < u4.heap.size := (Array.getElem?_eq_some_iff.1 RV.out).1
                        clear hcA hgA
                        refine hK.out _ _ ?_
                        clear hK K hSU29
                        try simp only [Act.put, List.setIfInBounds_toArray, List.set_cons_zero, List.set_cons_succ]
                        refine wpAnyU_ready (rs := [10]) (by kernel_rfl) rfl ?_
                        refine AllReadyU.free la10 rfl (by kernel_rfl) (fun K hK => ?_) ?_
                        · refine step_store_row rfl 25 _ _ rfl U _ rfl rfl 25 #[.int .i64 0, .int .i64 0, .int .u64 0, .bool false, .int .i64 0] RU.out (by kernel_rfl) rfl (by simp [Value.oneCell']) ?_
                          refine hK.out _ _ ?_
                          clear hK K
                          try simp only [Act.put, List.setIfInBounds_toArray, List.set_cons_zero, List.set_cons_succ]
                          refine wpAnyU_ready (rs := [11]) (by kernel_rfl) rfl ?_
                          refine AllReadyU.free la11 rfl (by kernel_rfl) (fun K hK => ?_) ?_
                          · have RV2 : Hid ((u4.setRow U #[.int .i64 k1, .int .i64 k2, .int .u64 k3, .bool k4, .int .i64 k5]).heap[V]? = some (.cells #[.int .i64 0, .int .i64 0, .int .u64 0, .bool false, .int .i64 0] 25 (0, 0))) := (setRow_other u4 U V #[.int .i64 k1, .int .i64 k2, .int .u64 k3, .bool k4, .int .i64 k5] (by omega)).trans RV.out
                            refine step_store_row rfl 25 _ _ rfl V _ rfl rfl 25 #[.int .i64 0, .int .i64 0, .int .u64 0, .bool false, .int .i64 0] RV2.out (by kernel_rfl) rfl (by simp [Value.oneCell']) ?_
                            refine hK.out _ _ ?_
                            clear hK K
                            try simp only [Act.put, List.setIfInBounds_toArray, List.set_cons_zero, List.set_cons_succ]
                            refine wpAnyU_done (by kernel_rfl) ?_ _
                            go_wp2_with fail
                            go_meet
                            exact ⟨U, V, k1, k2, k3, k4, k5, m1, m2, m3, m4, m5, rfl, rfl, (setRow_other _ V U #[.int .i64 m1, .int .i64 m2, .int .u64 m3, .bool m4, .int .i64 m5] (by omega)).trans (setRow_heap _ _ _ _ _ (0, 0) RU.out), setRow_heap _ _ _ _ _ (0, 0) RV2.out, grownBy_of_new (grownBy_of_new HZ4.out (row_grown _ U _) (fun k hk => by cases hk; exact hxU)) (row_grown _ V _) (fun k hk => by cases hk; exact hxV), codes_grown (codes_grown HY4.out (row_grown _ U _) (B := g + 1) (fun k hk => by cases hk; omega) (Nat.lt_succ_self g)) (row_grown _ V _) (B := g + 1) (fun k hk => by cases hk; omega) (Nat.lt_succ_self g)⟩
                          exact AllReadyU.nil
                        exact AllReadyU.nil
                      exact AllReadyU.nil
                    exact AllReadyU.nil
                  refine AllReadyU.cons la8 rfl (fun K hK => ?_) ?_
                  · go_simp
                    obtain ⟨u2, U, hv1, hX1, RU, hbn, ltn⟩ := alloc_pack u1 (.cells #[.int .i64 0, .int .i64 0, .int .u64 0, .bool false, .int .i64 0] 25)
                    rw [hv1, hX1]
                    have HY2 := Lib.hid (HY1.out.kept HY1.out.lt hbn.out)
                    have HZ2 := Lib.hid (grownBy_of_below HZ1.out (hbn.out.mono HZ1.out.size))
                    have hlU : g < U := by have := HY1.out.lt; omega
                    have hxU : wp.heap.size ≤ U := by have := HZ1.out.size; omega
                    have hluU : U < u2.heap.size := (Array.getElem?_eq_some_iff.1 RU.out).1
                    have hne : V ≠ U := by have := (Array.getElem?_eq_some_iff.1 RV.out).1; omega
                    have RV := Lib.hid (row_below2 hbn.out RV.out)
                    have hluV : V < u2.heap.size := (Array.getElem?_eq_some_iff.1 RV.out).1
                    clear hv1 hX1 hbn ltn
                    refine hK.out _ _ ?_ (fun hSU30 => ?_)
                    · exact KSR.out _ HZ2.out
                    clear hK K hSU27
                    try simp only [Act.put, List.setIfInBounds_toArray, List.set_cons_zero, List.set_cons_succ]
                    refine wpAnyU_ready (rs := [3]) (by kernel_rfl) rfl ?_
                    refine AllReadyU.cons la3 rfl (fun K hK => ?_) ?_
                    · go_simp
                      go_at_call 19
                      refine (TR1.out u2 HY2.out HZ2.out).mono ?_
                      rintro e u3 ⟨k1, k2, k3, k4, k5, rfl, hcA, hgA⟩
                      have HY3 := Lib.hid hcA
                      have HZ3 := Lib.hid (grownBy_trans HZ2.out hgA)
                      have RU := Lib.hid (row_keep hgA RU.out (by omega))
                      have hluU : U < u3.heap.size := (Array.getElem?_eq_some_iff.1 RU.out).1
                      have RV := Lib.hid (row_keep hgA RV.out (by omega))
                      have hluV : V < u3.heap.size := (Array.getElem?_eq_some_iff.1 RV.out).1
                      clear hcA hgA
                      refine hK.out _ _ ?_ (fun hSU31 => ?_)
                      · exact KSR.out _ HZ3.out
                      clear hK K hSU30
                      try simp only [Act.put, List.setIfInBounds_toArray, List.set_cons_zero, List.set_cons_succ]
                      refine wpAnyU_ready (rs := [7]) (by kernel_rfl) rfl ?_
                      refine AllReadyU.free la7 rfl (by kernel_rfl) (fun K hK => ?_) ?_
                      · go_simp
                        go_at_call 19
                        refine (TR2.out u3 HY3.out HZ3.out).mono ?_
                        rintro e u4 ⟨m1, m2, m3, m4, m5, rfl, hcA, hgA⟩
                        have HY4 := Lib.hid hcA
                        have HZ4 := Lib.hid (grownBy_trans HZ3.out hgA)
                        have RU := Lib.hid (row_keep hgA RU.out (by omega))
                        have hluU : U < u4.heap.size := (Array.getElem?_eq_some_iff.1 RU.out).1
                        have RV := Lib.hid (row_keep hgA RV.out (by omega))
                        have hluV : V < u4.heap.size := (Array.getElem?_eq_some_iff.1 RV.out).1
                        clear hcA hgA
                        refine hK.out _ _ ?_
                        clear hK K hSU31
                        try simp only [Act.put, List.setIfInBounds_toArray, List.set_cons_zero, List.set_cons_succ]
                        refine wpAnyU_ready (rs := [10]) (by kernel_rfl) rfl ?_
                        refine AllReadyU.free la10 rfl (by kernel_rfl) (fun K hK => ?_) ?_
                        · refine step_store_row rfl 25 _ _ rfl U _ rfl rfl 25 #[.int .i64 0, .int .i64 0, .int .u64 0, .bool false, .int .i64 0] RU.out (by kernel_rfl) rfl (by simp [Value.oneCell']) ?_
                          refine hK.out _ _ ?_
                          clear hK K
                          try simp only [Act.put, List.setIfInBounds_toArray, List.set_cons_zero, List.set_cons_succ]
                          refine wpAnyU_ready (rs := [11]) (by kernel_rfl) rfl ?_
                          refine AllReadyU.free la11 rfl (by kernel_rfl) (fun K hK => ?_) ?_
                          · have RV2 : Hid ((u4.setRow U #[.int .i64 k1, .int .i64 k2, .int .u64 k3, .bool k4, .int .i64 k5]).heap[V]? = some (.cells #[.int .i64 0, .int .i64 0, .int .u64 0, .bool false, .int .i64 0] 25 (0, 0))) := (setRow_other u4 U V #[.int .i64 k1, .int .i64 k2, .int .u64 k3, .bool k4, .int .i64 k5] (by omega)).trans RV.out
                            refine step_store_row rfl 25 _ _ rfl V _ rfl rfl 25 #[.int .i64 0, .int .i64 0, .int .u64 0, .bool false, .int .i64 0] RV2.out (by kernel_rfl) rfl (by simp [Value.oneCell']) ?_
                            refine hK.out _ _ ?_
                            clear hK K
                            try simp only [Act.put, List.setIfInBounds_toArray, List.set_cons_zero, List.set_cons_succ]
                            refine wpAnyU_done (by kernel_rfl) ?_ _
                            go_wp2_with fail
                            go_meet
                            exact ⟨U, V, k1, k2, k3, k4, k5, m1, m2, m3, m4, m5, rfl, rfl, (setRow_other _ V U #[.int .i64 m1, .int .i64 m2, .int .u64 m3, .bool m4, .int .i64 m5] (by omega)).trans (setRow_heap _ _ _ _ _ (0, 0) RU.out), setRow_heap _ _ _ _ _ (0, 0) RV2.out, grownBy_of_new (grownBy_of_new HZ4.out (row_grown _ U _) (fun k hk => by cases hk; exact hxU)) (row_grown _ V _) (fun k hk => by cases hk; exact hxV), codes_grown (codes_grown HY4.out (row_grown _ U _) (B := g + 1) (fun k hk => by cases hk; omega) (Nat.lt_succ_self g)) (row_grown _ V _) (B := g + 1) (fun k hk => by cases hk; omega) (Nat.lt_succ_self g)⟩
                          exact AllReadyU.nil
                        exact AllReadyU.nil
                      exact AllReadyU.nil
                    exact AllReadyU.nil
                  exact AllReadyU.nil
                refine AllReadyU.cons la8 rfl (fun K hK => ?_) ?_
                · go_simp
                  obtain ⟨u2, U, hv1, hX1, RU, hbn, ltn⟩ := alloc_pack u1 (.cells #[.int .i64 0, .int .i64 0, .int .u64 0, .bool false, .int .i64 0] 25)
                  rw [hv1, hX1]
                  have HY2 := Lib.hid (HY1.out.kept HY1.out.lt hbn.out)
                  have HZ2 := Lib.hid (grownBy_of_below HZ1.out (hbn.out.mono HZ1.out.size))
                  have hlU : g < U := by have := HY1.out.lt; omega
                  have hxU : wp.heap.size ≤ U := by have := HZ1.out.size; omega
                  have hluU : U < u2.heap.size := (Array.getElem?_eq_some_iff.1 RU.out).1
                  have hne : V ≠ U := by have := (Array.getElem?_eq_some_iff.1 RV.out).1; omega
                  have RV := Lib.hid (row_below2 hbn.out RV.out)
                  have hluV : V < u2.heap.size := (Array.getElem?_eq_some_iff.1 RV.out).1
                  clear hv1 hX1 hbn ltn
                  refine hK.out _ _ ?_ (fun hSU32 => ?_)
                  · exact KSR.out _ HZ2.out
                  clear hK K hSU26
                  try simp only [Act.put, List.setIfInBounds_toArray, List.set_cons_zero, List.set_cons_succ]
                  refine wpAnyU_ready (rs := [2]) (by kernel_rfl) rfl ?_
                  refine AllReadyU.cons la2 rfl (fun K hK => ?_) ?_
                  · obtain ⟨⟨d0, d1, d2, d3, d4, d5, d6⟩, -⟩ := KSR.out _ HZ2.out
                    go_simp
                    clear d0 d1 d2 d3 d4 d5 d6
                    refine hK.out _ _ ?_ (fun hSU33 => ?_)
                    · exact hSU32
                    clear hK K hSU32
                    try simp only [Act.put, List.setIfInBounds_toArray, List.set_cons_zero, List.set_cons_succ]
                    refine wpAnyU_ready (rs := [3]) (by kernel_rfl) rfl ?_
                    refine AllReadyU.cons la3 rfl (fun K hK => ?_) ?_
                    · go_simp
                      go_at_call 19
                      refine (TR1.out u2 HY2.out HZ2.out).mono ?_
                      rintro e u3 ⟨k1, k2, k3, k4, k5, rfl, hcA, hgA⟩
                      have HY3 := Lib.hid hcA
                      have HZ3 := Lib.hid (grownBy_trans HZ2.out hgA)
                      have RU := Lib.hid (row_keep hgA RU.out (by omega))
                      have hluU : U < u3.heap.size := (Array.getElem?_eq_some_iff.1 RU.out).1
                      have RV := Lib.hid (row_keep hgA RV.out (by omega))
                      have hluV : V < u3.heap.size := (Array.getElem?_eq_some_iff.1 RV.out).1
                      clear hcA hgA
                      refine hK.out _ _ ?_ (fun hSU34 => ?_)
                      · exact KSR.out _ HZ3.out
                      clear hK K hSU33
                      try simp only [Act.put, List.setIfInBounds_toArray, List.set_cons_zero, List.set_cons_succ]
                      refine wpAnyU_ready (rs := [7]) (by kernel_rfl) rfl ?_
                      refine AllReadyU.free la7 rfl (by kernel_rfl) (fun K hK => ?_) ?_
                      · go_simp
                        go_at_call 19
                        refine (TR2.out u3 HY3.out HZ3.out).mono ?_
                        rintro e u4 ⟨m1, m2, m3, m4, m5, rfl, hcA, hgA⟩
                        have HY4 := Lib.hid hcA
                        have HZ4 := Lib.hid (grownBy_trans HZ3.out hgA)
                        have RU := Lib.hid (row_keep hgA RU.out (by omega))
                        have hluU : U < u4.heap.size := (Array.getElem?_eq_some_iff.1 RU.out).1
                        have RV := Lib.hid (row_keep hgA RV.out (by omega))
                        have hluV : V < u4.heap.size := (Array.getElem?_eq_some_iff.1 RV.out).1
                        clear hcA hgA
                        refine hK.out _ _ ?_
                        clear hK K hSU34
                        try simp only [Act.put, List.setIfInBounds_toArray, List.set_cons_zero, List.set_cons_succ]
                        refine wpAnyU_ready (rs := [10]) (by kernel_rfl) rfl ?_
                        refine AllReadyU.free la10 rfl (by kernel_rfl) (fun K hK => ?_) ?_
                        · refine step_store_row rfl 25 _ _ rfl U _ rfl rfl 25 #[.int .i64 0, .int .i64 0, .int .u64 0, .bool false, .int .i64 0] RU.out (by kernel_rfl) rfl (by simp [Value.oneCell']) ?_
                          refine hK.out _ _ ?_
                          clear hK K
                          try simp only [Act.put, List.setIfInBounds_toArray, List.set_cons_zero, List.set_cons_succ]
                          refine wpAnyU_ready (rs := [11]) (by kernel_rfl) rfl ?_
                          refine AllReadyU.free la11 rfl (by kernel_rfl) (fun K hK => ?_) ?_
                          · have RV2 : Hid ((u4.setRow U #[.int .i64 k1, .int .i64 k2, .int .u64 k3, .bool k4, .int .i64 k5]).heap[V]? = some (.cells #[.int .i64 0, .int .i64 0, .int .u64 0, .bool false, .int .i64 0] 25 (0, 0))) := (setRow_other u4 U V #[.int .i64 k1, .int .i64 k2, .int .u64 k3, .bool k4, .int .i64 k5] (by omega)).trans RV.out
                            refine step_store_row rfl 25 _ _ rfl V _ rfl rfl 25 #[.int .i64 0, .int .i64 0, .int .u64 0, .bool false, .int .i64 0] RV2.out (by kernel_rfl) rfl (by simp [Value.oneCell']) ?_
                            refine hK.out _ _ ?_
                            clear hK K
                            try simp only [Act.put, List.setIfInBounds_toArray, List.set_cons_zero, List.set_cons_succ]
                            refine wpAnyU_done (by kernel_rfl) ?_ _
                            go_wp2_with fail
                            go_meet
                            exact ⟨U, V, k1, k2, k3, k4, k5, m1, m2, m3, m4, m5, rfl, rfl, (setRow_other _ V U #[.int .i64 m1, .int .i64 m2, .int .u64 m3, .bool m4, .int .i64 m5] (by omega)).trans (setRow_heap _ _ _ _ _ (0, 0) RU.out), setRow_heap _ _ _ _ _ (0, 0) RV2.out, grownBy_of_new (grownBy_of_new HZ4.out (row_grown _ U _) (fun k hk => by cases hk; exact hxU)) (row_grown _ V _) (fun k hk => by cases hk; exact hxV), codes_grown (codes_grown HY4.out (row_grown _ U _) (B := g + 1) (fun k hk => by cases hk; omega) (Nat.lt_succ_self g)) (row_grown _ V _) (B := g + 1) (fun k hk => by cases hk; omega) (Nat.lt_succ_self g)⟩
                          exact AllReadyU.nil
                        exact AllReadyU.nil
                      exact AllReadyU.nil
                    exact AllReadyU.nil
                  exact AllReadyU.nil
                exact AllReadyU.nil
              exact AllReadyU.nil
            case rest =>
              obtain ⟨U, V, k1, k2, k3, k4, k5, m1, m2, m3, m4, m5, rfl, rfl, RU, RV, HGx, HCx⟩ := hcut
              obtain ⟨wt, rfl⟩ : ∃ wt : World, wt = wc := ⟨_, rfl⟩
              have HIt := Lib.hid (HIq.out.draw HGx.out HCx.out)
              have HGt := Lib.hid (grownBy_trans HGq.out HGx.out)
              have HVt1 := Lib.hid (HXq1.out.grown HGx.out).opv
              have HVt2 := Lib.hid (HXq2.out.grown HGx.out).opv
              have RPt := Lib.hid (row_keep HGx.out RPq.out (by omega))
              have RQt := Lib.hid (row_keep HGx.out RQq.out (by omega))
              have HRt := Lib.hid (HRAW.out _ HGt.out)
              obtain ⟨q, hq⟩ : ∃ q, pairB l a ⟨k1, k2, k3, k4, k5⟩ b ⟨m1, m2, m3, m4, m5⟩ = q := ⟨_, rfl⟩
              obtain ⟨qr, hqr⟩ : ∃ q, pairB l a ⟨rk, rc, rv, rok, nm⟩ b ⟨rk2, rc2, rv2, rok2, nm2⟩ = q := ⟨_, rfl⟩
              have T1 := Lib.hid fun w' (hb : Below wt.heap.size wt w') => pair_q k1 k2 k3 k4 k5 m1 m2 m3 m4 m5 q _ _ _ l a b w' (HIt.out.sl.below hb) (HVt1.out.below hb) (HVt2.out.below hb) hq
              have T2 := Lib.hid fun w' (hb : Below wt.heap.size wt w') => pair_r k1 k2 k3 k4 k5 m1 m2 m3 m4 m5 q _ _ _ l a b w' (HIt.out.sl.below hb) (HVt1.out.below hb) (HVt2.out.below hb) hq
              have T3 := Lib.hid fun w' (hb : Below wt.heap.size wt w') => pair_q rk rc rv rok nm rk2 rc2 rv2 rok2 nm2 qr _ _ _ l a b w' (HIt.out.sl.below hb) (HVt1.out.below hb) (HVt2.out.below hb) hqr
              have T4 := Lib.hid fun w' (hb : Below wt.heap.size wt w') => pair_r rk rc rv rok nm rk2 rc2 rv2 rok2 nm2 qr _ _ _ l a b w' (HIt.out.sl.below hb) (HVt1.out.below hb) (HVt2.out.below hb) hqr
              have hqq : (q != q) = false := by simp
              have hqq2 : (qr != qr) = false := by simp
              clear hq hqr
              obtain ⟨x0, x1, x2, x3, x4, x5, x6⟩ := rowc7 RPt.out
              obtain ⟨y0, y1, y2, y3, y4, y5, y6⟩ := rowc7 RQt.out
              obtain ⟨z0, z1, z2, z3, z4⟩ := rowc5 RU.out
              obtain ⟨v0, v1, v2, v3, v4⟩ := rowc5 RV.out
              obtain ⟨r0, r1, r2, r3, r4⟩ := rowc5 HRt.out.1
              obtain ⟨h0, h1, h2, h3, h4⟩ := rowc5 HRt.out.2
              have hPt : P < wt.heap.size := (Array.getElem?_eq_some_iff.1 RPt.out).1
              have hQt : Q < wt.heap.size := (Array.getElem?_eq_some_iff.1 RQt.out).1
              have hUt : U < wt.heap.size := (Array.getElem?_eq_some_iff.1 RU.out).1
              have hVt : V < wt.heap.size := (Array.getElem?_eq_some_iff.1 RV.out).1
              have hr0 : w.heap.size < wt.heap.size := (Array.getElem?_eq_some_iff.1 HRt.out.1).1
              have hr1 : w.heap.size + 1 < wt.heap.size := (Array.getElem?_eq_some_iff.1 HRt.out.2).1
              go_upto_region 20 with fail
              have Xx0 := ext_cell _ _ (hPt) _ x0
              have Xx1 := ext_cell _ _ (hPt) _ x1
              have Xx2 := ext_cell _ _ (hPt) _ x2
              have Xx3 := ext_cell _ _ (hPt) _ x3
              have Xx4 := ext_cell _ _ (hPt) _ x4
              have Xx5 := ext_cell _ _ (hPt) _ x5
              have Xx6 := ext_cell _ _ (hPt) _ x6
              have Xy0 := ext_cell _ _ (hQt) _ y0
              have Xy1 := ext_cell _ _ (hQt) _ y1
              have Xy2 := ext_cell _ _ (hQt) _ y2
              have Xy3 := ext_cell _ _ (hQt) _ y3
              have Xy4 := ext_cell _ _ (hQt) _ y4
              have Xy5 := ext_cell _ _ (hQt) _ y5
              have Xy6 := ext_cell _ _ (hQt) _ y6
              have Xz0 := ext_cell _ _ (hUt) _ z0
              have Xz1 := ext_cell _ _ (hUt) _ z1
              have Xz2 := ext_cell _ _ (hUt) _ z2
              have Xz3 := ext_cell _ _ (hUt) _ z3
              have Xz4 := ext_cell _ _ (hUt) _ z4
              have Xv0 := ext_cell _ _ (hVt) _ v0
              have Xv1 := ext_cell _ _ (hVt) _ v1
              have Xv2 := ext_cell _ _ (hVt) _ v2
              have Xv3 := ext_cell _ _ (hVt) _ v3
              have Xv4 := ext_cell _ _ (hVt) _ v4
              have Xr0 := ext_cell _ _ (hr0) _ r0
              have Xr1 := ext_cell _ _ (hr0) _ r1
              have Xr2 := ext_cell _ _ (hr0) _ r2
              have Xr3 := ext_cell _ _ (hr0) _ r3
              have Xr4 := ext_cell _ _ (hr0) _ r4
              have Xh0 := ext_cell _ _ (hr1) _ h0
              have Xh1 := ext_cell _ _ (hr1) _ h1
              have Xh2 := ext_cell _ _ (hr1) _ h2
              have Xh3 := ext_cell _ _ (hr1) _ h3
              have Xh4 := ext_cell _ _ (hr1) _ h4
              clear x0 x1 x2 x3 x4 x5 x6 y0 y1 y2 y3 y4 y5 y6 z0 z1 z2 z3 z4 v0 v1 v2 v3 v4 r0 r1 r2 r3 r4 h0 h1 h2 h3 h4
              refine wp_region_ext wt (by kernel_rfl) (by kernel_rfl) (Below.refl _ _) ?_
              repeat (go_big_quiet_step (first | (go_at_call 17; with_reducible exact calls_ext (T1.out _ (Ext.below _))) | (go_at_call 18; with_reducible exact calls_ext (T2.out _ (Ext.below _))) | (go_at_call 17; with_reducible exact calls_ext (T3.out _ (Ext.below _))) | (go_at_call 18; with_reducible exact calls_ext (T4.out _ (Ext.below _)))))
              refine wpQuiet_nil ?_
              intro _ hw'
              obtain ⟨n9, rfl⟩ := hw'
              have HCe := Lib.hid (HCx.out.kept HCx.out.lt n9.below)
              have HGe := Lib.hid (grownBy_of_below HGt.out (n9.below.mono HGt.out.size))
              generalize n9.wd = w9 at *
              clear Xx0 Xx1 Xx2 Xx3 Xx4 Xx5 Xx6 Xy0 Xy1 Xy2 Xy3 Xy4 Xy5 Xy6 Xz0 Xz1 Xz2 Xz3 Xz4 Xv0 Xv1 Xv2 Xv3 Xv4 Xr0 Xr1 Xr2 Xr3 Xr4 Xh0 Xh1 Xh2 Xh3 Xh4
              go_wp2_with fail
              go_roundw
              case rel => exact ⟨i + 1, by go_num, by omega, HGe, HCe⟩
              case measure => simp [intOf]; omega
    · have hge : ¬ (i : Int) < 8 := by omega
      go_wp2
      go_ret
      exact ⟨rfl, HI.out.below⟩
set_option maxRecDepth 100000 in
theorem lifted (os : Os) (started : os.Started) (H : Type) (enc : TypeId × Value → H) :
    ReturnsInHanded {} Try.checked os 3 .any (Rows.modelPairsSpec.pre6 enc Try.prog Try.f3 Rows.modelPairsRow.domain false) (Rows.modelPairsSpec.post enc Try.prog Try.f3 false true false false) := by
  refine returnsInHanded_of_change_sized (C := Try.checked) own started (by kernel_rfl) Try.func3
    (ChangeSpec.witness6 (enc := enc) (C := Try.checked) false ⟨#[], #[.slice none 0 0, .agg #[.int .i64 0, .int .i64 0, .int .u64 0, .bool false, .int .i64 0], .agg #[.int .i64 0, .int .i64 0, .int .u64 0, .bool false, .int .i64 0]], []⟩ 8 (by kernel_rfl) (by kernel_rfl) (by kernel_rfl) (by kernel_rfl)) ?_
  intro W base args ds gs before hval0 hW _ hsz0 _
  have hsz : (DataW.weightsEach Try.prog (Try.f3.params.toList ++ Rows.modelPairsSpec.plain.varTypes Try.prog) (ds ++ gs)).all (· ≤ reachBytes) = true := hsz0
  clear hsz0
  have hval : ∀ (j : Nat) t v, Try.f3.params[j]? = some t → args[j]? = some v → Value.okWide Try.prog W .any base t v := hval0
  have hW' := hW
  obtain ⟨p, q, hA0, hV, rfl, _, _⟩ := hW
  have hA : DataW.TrodAll enc Try.prog W 0 (fun _ => true) true Try.f3.params.toList args.toList ds p := hA0
  rw [Try.params3] at hA hval hsz
  obtain ⟨v0, vs0, d0, ds0, p0, q0, hargs, rfl, rfl, h0, rr0⟩ := trodAll_cons hA
  obtain ⟨v1, vs1, d1, ds1, p1, q1, rfl, rfl, rfl, h1, rr1⟩ := trodAll_cons rr0
  obtain ⟨v2, vs2, d2, ds2, p2, q2, rfl, rfl, rfl, h2, rr2⟩ := trodAll_cons rr1
  obtain ⟨rfl, rfl, rfl⟩ := trodAll_nil rr2
  obtain rfl : args = #[v0, v1, v2] := by cases args; simp_all
  obtain ⟨rfl, rfl⟩ := trodVars_none hV
  have k0 := h0
  have k1 := h1
  have k2 := h2
  obtain ⟨l0, s0⟩ := view_sl (k := .u8) Try.underlying22 Try.underlying5 (by kernel_rfl) (fun elems sp hd => sized_slice hsz (j := 0) (t := 22) (e := 5) rfl (by rw [hd]; rfl) Try.underlying22) (of_decide_eq_true (by kernel_rfl)) (hval 0 22 v0 rfl rfl) h0
  obtain ⟨r1, rfl⟩ := view_res (hval 1 25 v1 rfl rfl) h1
  obtain ⟨r2, rfl⟩ := view_res (hval 2 25 v2 rfl rfl) h2
  clear hA0 hval0
  simp only [List.append_nil] at hW'
  have hlt := hW'.lt
  refine (walk W v0 l0 s0 r1 r2).mono fun e W' ⟨he, hb⟩ => ?_
  subst he
  exact ⟨_, rfl, _, _, _, [], _, [], hW', trodAll_cons_mk (shut_bool Try.underlying4 _) trodAll_mk0, (trodAll_cons_mk (Below.trod Try.laidOut (by kernel_rfl) (of_decide_eq_true (by kernel_rfl)) k0 hb (fun x hx => by simpa using hlt x (by simp [hx]))) (trodAll_cons_mk (Below.trod Try.laidOut (by kernel_rfl) (of_decide_eq_true (by kernel_rfl)) k1 hb (fun x hx => by simpa using hlt x (by simp [hx]))) (trodAll_cons_mk (Below.trod Try.laidOut (by kernel_rfl) (of_decide_eq_true (by kernel_rfl)) k2 hb (fun x hx => by simpa using hlt x (by simp [hx]))) trodAll_mk0))), rfl, hb.frame _, fun h => by cases h⟩
theorem over : Rows.modelPairsRow.holds Try.pinned (OpenSpec.ofChange Rows.modelPairsSpec) :=
  OpenClaim.holds_of_wide 3 Try.f3 rfl rfl rfl rfl rfl rfl rfl ⟨rfl, rfl, rfl, rfl, rfl⟩ rfl rfl rfl rfl rfl (by kernel_rfl) Try.func3 (by kernel_rfl)
    (of_decide_eq_true (by kernel_rfl)) (by unfold Func.isWrapper; first | (rw [if_pos (by decide +kernel)]; kernel_rfl) | (rw [if_neg (by decide +kernel)]; exact ⟨rfl, rfl⟩))
    (fun os started H enc _ => lifted os started H enc)
/-- THE STATEMENT -/
theorem proved : Rows.ModelPairsSaid :=
  over
end Go.Proofs.Ytialclohhemkiaa.modelPairs
