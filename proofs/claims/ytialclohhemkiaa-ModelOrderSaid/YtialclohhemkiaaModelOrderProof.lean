/- Proved: ModelOrder returns true for every list of codes, and its arguments read afterwards as before; no condition. -/
import Derived.Deep.DeepCutAuto
import Derived.Deep.CutBlock
import Derived.LoopTactic
import Derived.WalkKit
import Derived.ProofKit
import Derived.OpenShut
import Derived.SizedLaws
import Derived.Test.YtialclohhemkiaaB01
import Derived.Test.YtialclohhemkiaaB16
import Derived.Test.YtialclohhemkiaaB31
import Derived.Test.YtialclohhemkiaaB17
import Derived.Test.YtialclohhemkiaaB18
import Derived.Test.YtialclohhemkiaaB19
namespace Go.Proofs.Ytialclohhemkiaa.modelOrder
open Go.ChangeShapes Go.WideShapes Go.ChangeAt Go.RowKit
set_option linter.unusedVariables false
set_option linter.unusedSimpArgs false
theorem below_poke {w a b : World} {g : Nat} (h : Below w.heap.size w a) (hg : a.grownBy b (some g)) (hw : w.heap.size ≤ g) : Below w.heap.size w b := below_grown h hg hw
theorem own_sl {w : World} {B : Nat} {e : TypeId} {k : IntKind} {v : Value} {l : List Int} (h : OwnI w B e k v l) : ∃ p n q, v = .slice p n q := by
  obtain ⟨a, c, rfl⟩ := own_len h
  exact ⟨_, _, _, rfl⟩
theorem row_below2 {a b : World} {j : Nat} {ob : Obj} (hb : Below a.heap.size a b) (h : a.heap[j]? = some ob) : b.heap[j]? = some ob := (hb.block j (Array.getElem?_eq_some_iff.1 h).1).trans h
theorem row_keep {a b : World} {g j : Nat} {ob : Obj} (hg : a.grownBy b (some g)) (h : a.heap[j]? = some ob) (hj : j ≠ g) : b.heap[j]? = some ob :=
  (hg.block j (Array.getElem?_eq_some_iff.1 h).1 (fun e => hj (by simpa using e))).trans h
set_option maxRecDepth 100000 in
set_option maxHeartbeats 16000000 in
theorem walk (w : World) (v0 : Value) (l0 : List Int) (s0 : SlI w .u8 v0 l0) :
    Calls Try.prog 4 #[v0] w fun e w' => e = .returned (.bool true) ∧ Below w.heap.size w w' := by
  have AW := Lib.hid (awake_any w)
  have HS0 := Lib.hid s0
  clear s0
  go_enter Try.func4, Try.ntmps4
  go_wp2_with fail
  refine AW.out.mono ?_; rintro e w1 ⟨rfl, hb1⟩
  have HB1 := Lib.hid hb1
  clear hb1 AW
  go_wp2_with fail
  refine (new_any _ l0 200 _ (HS0.out.below HB1.out) (by omega)).mono ?_; rintro e w2 ⟨rfl, hc2, hb2⟩
  have hC2 : Hid (CodesE w2 w1.heap.size) := ⟨_, _, hc2⟩
  have HB2 := Lib.hid (below_then HB1.out hb2)
  obtain ⟨g, hg⟩ : ∃ g, w1.heap.size = g := ⟨_, rfl⟩
  have hwg : w.heap.size ≤ g := by have := HB1.out.size; omega
  rw [hg] at hC2
  rw [hg]
  clear hc2 hb2 hg HS0 HB1
  go_wp2_with fail
  refine (configG g w2 hC2.out).mono ?_; rintro e w3 ⟨vc, vs, c, rfl, hsc, hss, hoc, hos, hgd, hl1, hl3, hc3, hg3⟩
  have HGD := Lib.hid hgd
  have HB3 := Lib.hid (below_poke HB2.out hg3 hwg)
  have HC3 := Lib.hid hc3
  have HSC := Lib.hid hsc
  have HOC := Lib.hid hoc
  have HCV : Hid (ConfV w3 (.agg #[vc, vs, .int .i64 c.threads]) c) := ⟨vc, vs, rfl, hsc, hss⟩
  obtain ⟨ac, kc, rfl, -⟩ := hsc.len
  obtain ⟨ast, kst, rfl, -⟩ := hss.len
  obtain ⟨nst, hnst⟩ : ∃ n, c.starts.length = n := ⟨_, rfl⟩
  obtain ⟨m, hm⟩ : ∃ m, c.caps.length = m := ⟨_, rfl⟩
  rw [hnst, hm] at HCV
  rw [hm] at HSC HOC hl1 hl3
  have HMC := Lib.hid hm
  rw [hnst, hm]
  clear hc3 hg3 hgd hsc hss hoc hos HB2 hC2 hnst hm
  obtain ⟨Wx, hWx⟩ : ∃ Wx, (w3.alloc (.cells #[.slice none 0 0, .slice none 0 0, .int .i64 0] 34)).setRow w3.heap.size #[.slice ac m kc, .slice ast nst kst, .int .i64 c.threads] = Wx := ⟨_, rfl⟩
  have Nx : Hid ((w3.alloc (.cells #[.slice none 0 0, .slice none 0 0, .int .i64 0] 34)).heap[w3.heap.size]? = some (.cells #[.slice none 0 0, .slice none 0 0, .int .i64 0] 34 (0, 0))) := heap_alloc_new _ _
  have HBx : Hid (Below w3.heap.size w3 Wx) := hWx ▸ row_below (below_new (Below.refl _ _) _) (Nat.le_refl _) _
  have Rx : Hid (Wx.heap[w3.heap.size]? = some (.cells #[.slice ac m kc, .slice ast nst kst, .int .i64 c.threads] 34 (0, 0))) := hWx ▸ setRow_heap _ _ _ _ _ (0, 0) Nx.out
  have HWx := Lib.hid hWx
  clear hWx
  go_upto_region 5 with (refine wpList_store_row rfl 34 _ _ rfl (w3.heap.size) _ rfl rfl 34 #[.slice none 0 0, .slice none 0 0, .int .i64 0] Nx.out (by kernel_rfl) rfl (by simp [Value.oneCell']) ?_)
  rw [HWx.out]
  try simp only [Act.put]
  clear HWx Nx
  obtain ⟨X, hX⟩ : ∃ X, w3.heap.size = X := ⟨_, rfl⟩
  rw [hX] at Rx
  rw [hX]
  have hgX : g < X := by have := HC3.out.lt; omega
  have hX3 : w3.heap.size = X := hX
  clear hX
  have HC4 := Lib.hid (HC3.out.kept HC3.out.lt HBx.out)
  have HB4 := Lib.hid (below_then HB3.out HBx.out)
  have HS4 := Lib.hid (HSC.out.below HBx.out)
  have HX4 : Hid (∀ j, X ≤ j → offB j (.slice ac m kc)) := fun j hj => HSC.out.offOf (by omega)
  have TN := Lib.hid (qNew_any _ c Wx (HCV.out.below HBx.out) HGD.out)
  obtain ⟨x0, x1, x2⟩ := rowc3 Rx.out
  go_wp2_with fail
  refine TN.out.mono ?_; rintro e w4 ⟨u, rfl, hsh, hb4⟩
  have HC5 := Lib.hid (HC4.out.kept HC4.out.lt hb4)
  have HB5 := Lib.hid (below_then HB4.out hb4)
  have HS5 := Lib.hid (HS4.out.below hb4)
  have R5 := Lib.hid (row_below2 hb4 Rx.out)
  have HSH := Lib.hid hsh
  obtain ⟨al, kl, rfl, -⟩ := hsh.len
  have hlm : (nchE c.caps).length = m := by rw [nchE_length]; exact HMC.out
  rw [hlm] at HSH ⊢
  have hX4 : X < w4.heap.size := (Array.getElem?_eq_some_iff.1 R5.out).1
  clear hsh hb4 hlm TN x0 x1 x2 HC4 HB4 HS4 Rx HBx HC3 HB3 HSC HCV hX3
  have hmk := makeLL m hl3
  have KST : Hid (∀ w' : World, (fun w' : World => True) w') := fun _ => trivial
  go_upto_region 6 with fail
  go_cut [6, 7] (fun s6 s7 wx => ∃ (S G : Nat), s6 = .slice (some ⟨S, 0, none⟩) m m ∧ s7 = .slice (some ⟨G, 0, none⟩) m m ∧ S ≠ G ∧ w4.heap.size ≤ S ∧ w4.heap.size ≤ G ∧ Hid (wx.heap[S]? = some (.cells (Array.replicate m nilV) 32 (0, 0))) ∧ Hid (wx.heap[G]? = some (.cells (Array.replicate m nilV) 32 (0, 0))) ∧ Hid (Below w4.heap.size w4 wx))
  case first =>
    as_aux_lemma =>
    refine wp_region_until (fun w' : World => True) 7 8 (by kernel_rfl) rfl ?_
    obtain ⟨u0, hu0, HU0⟩ := drew_pack w4
    rw [hu0]
    clear hu0
    have hSU0 := trivial
    refine tkU (v := ?_) 0 la0 hSU0 (by kernel_rfl) (fun _ _ _ h => h) rfl ?_ ?_
    rotate_left
    · (intro w hSw; (try dsimp only at hSw); go_simp <;> with_reducible rfl)
    simp only [Act.put, List.setIfInBounds_toArray, List.set_cons_zero, List.set_cons_succ]
    refine tkU (v := ?_) 1 la1 hSU0 (by kernel_rfl) (fun _ _ _ h => h) rfl ?_ ?_
    rotate_left
    · (intro w hSw; (try dsimp only at hSw); go_simp <;> with_reducible rfl)
    simp only [Act.put, List.setIfInBounds_toArray, List.set_cons_zero, List.set_cons_succ]
    refine tkU (v := ?_) 3 la3 hSU0 (by kernel_rfl) (fun _ _ _ h => h) rfl ?_ ?_
    rotate_left
    · (intro w hSw; (try dsimp only at hSw); go_simp <;> with_reducible rfl)
    simp only [Act.put, List.setIfInBounds_toArray, List.set_cons_zero, List.set_cons_succ]
    refine tkU (v := ?_) 4 la4 hSU0 (by kernel_rfl) (fun _ _ _ h => h) rfl ?_ ?_
    rotate_left
    · (intro w hSw; (try dsimp only at hSw); go_simp <;> with_reducible rfl)
    simp only [Act.put, List.setIfInBounds_toArray, List.set_cons_zero, List.set_cons_succ]
    refine wpAnyU_ready (rs := [2, 5]) (by kernel_rfl) rfl ?_
    refine AllReadyU.cons la2 rfl (fun K hK => ?_) ?_
    · go_simp
      obtain ⟨u1, S, hv1, hX1, RS, hbn, ltn⟩ := alloc_pack u0 (.cells (Array.replicate m nilV) 32)
      rw [hv1, hX1]
      have HU1 := Lib.hid (below_then HU0.out hbn.out)
      have hlS : w4.heap.size ≤ S := by have := HU0.out.size; omega
      clear hv1 hX1 hbn ltn
      refine hK.out _ _ ?_ (fun hSU1 => ?_)
      · exact trivial
      clear hK K hSU0
      try simp only [Act.put, List.setIfInBounds_toArray, List.set_cons_zero, List.set_cons_succ]
      refine tkU (v := ?_) 6 la6 hSU1 (by kernel_rfl) (fun _ _ _ h => h) rfl ?_ ?_
      rotate_left
      · (intro w hSw; (try dsimp only at hSw); go_simp <;> with_reducible rfl)
      simp only [Act.put, List.setIfInBounds_toArray, List.set_cons_zero, List.set_cons_succ]
      refine wpAnyU_ready (rs := [5]) (by kernel_rfl) rfl ?_
      refine AllReadyU.cons la5 rfl (fun K hK => ?_) ?_
      · go_simp
        obtain ⟨u2, G, hv1, hX1, RG, hbn, ltn⟩ := alloc_pack u1 (.cells (Array.replicate m nilV) 32)
        rw [hv1, hX1]
        have HU2 := Lib.hid (below_then HU1.out hbn.out)
        have hlG : w4.heap.size ≤ G := by have := HU1.out.size; omega
        have hne : S ≠ G := by have := (Array.getElem?_eq_some_iff.1 RS.out).1; omega
        have RS := Lib.hid (row_below2 hbn.out RS.out)
        clear hv1 hX1 hbn ltn
        refine hK.out _ _ ?_ (fun hSU2 => ?_)
        · exact trivial
        clear hK K hSU1
        try simp only [Act.put, List.setIfInBounds_toArray, List.set_cons_zero, List.set_cons_succ]
        refine wpAnyU_ready (rs := [7]) (by kernel_rfl) rfl ?_
        refine AllReadyU.free la7 rfl (by kernel_rfl) (fun K hK => ?_) ?_
        · go_simp
          refine hK.out _ _ ?_
          clear hK K hSU2
          try simp only [Act.put, List.setIfInBounds_toArray, List.set_cons_zero, List.set_cons_succ]
          refine wpAnyU_done (by kernel_rfl) ?_ _
          go_wp2_with fail
          go_meet
          exact ⟨S, G, rfl, rfl, hne, hlS, hlG, RS, RG, HU2⟩
        exact AllReadyU.nil
      exact AllReadyU.nil
    refine AllReadyU.cons la5 rfl (fun K hK => ?_) ?_
    · go_simp
      obtain ⟨u1, G, hv1, hX1, RG, hbn, ltn⟩ := alloc_pack u0 (.cells (Array.replicate m nilV) 32)
      rw [hv1, hX1]
      have HU1 := Lib.hid (below_then HU0.out hbn.out)
      have hlG : w4.heap.size ≤ G := by have := HU0.out.size; omega
      clear hv1 hX1 hbn ltn
      refine hK.out _ _ ?_ (fun hSU3 => ?_)
      · exact trivial
      clear hK K hSU0
      try simp only [Act.put, List.setIfInBounds_toArray, List.set_cons_zero, List.set_cons_succ]
      refine wpAnyU_ready (rs := [2]) (by kernel_rfl) rfl ?_
      refine AllReadyU.cons la2 rfl (fun K hK => ?_) ?_
      · go_simp
        obtain ⟨u2, S, hv1, hX1, RS, hbn, ltn⟩ := alloc_pack u1 (.cells (Array.replicate m nilV) 32)
        rw [hv1, hX1]
        have HU2 := Lib.hid (below_then HU1.out hbn.out)
        have hlS : w4.heap.size ≤ S := by have := HU1.out.size; omega
        have hne : G ≠ S := by have := (Array.getElem?_eq_some_iff.1 RG.out).1; omega
        have RG := Lib.hid (row_below2 hbn.out RG.out)
        clear hv1 hX1 hbn ltn
        refine hK.out _ _ ?_ (fun hSU4 => ?_)
        · exact trivial
        clear hK K hSU3
        try simp only [Act.put, List.setIfInBounds_toArray, List.set_cons_zero, List.set_cons_succ]
        refine tkU (v := ?_) 6 la6 hSU4 (by kernel_rfl) (fun _ _ _ h => h) rfl ?_ ?_
        rotate_left
        · (intro w hSw; (try dsimp only at hSw); go_simp <;> with_reducible rfl)
        simp only [Act.put, List.setIfInBounds_toArray, List.set_cons_zero, List.set_cons_succ]
        refine wpAnyU_ready (rs := [7]) (by kernel_rfl) rfl ?_
        refine AllReadyU.free la7 rfl (by kernel_rfl) (fun K hK => ?_) ?_
        · go_simp
          refine hK.out _ _ ?_
          clear hK K hSU4
          try simp only [Act.put, List.setIfInBounds_toArray, List.set_cons_zero, List.set_cons_succ]
          refine wpAnyU_done (by kernel_rfl) ?_ _
          go_wp2_with fail
          go_meet
          exact ⟨S, G, rfl, rfl, (fun e => hne e.symm), hlS, hlG, RS, RG, HU2⟩
        exact AllReadyU.nil
      exact AllReadyU.nil
    exact AllReadyU.nil
  case rest =>
    obtain ⟨S, G, rfl, rfl, hSG, hS4, hG4, RS, RG, HBc⟩ := hcut
    obtain ⟨w5, rfl⟩ : ∃ w5 : World, w5 = wc := ⟨_, rfl⟩
    have hSl : S < w5.heap.size := (Array.getElem?_eq_some_iff.1 RS.out).1
    have hGl : G < w5.heap.size := (Array.getElem?_eq_some_iff.1 RG.out).1
    clear hmk KST
    have hmkb := makeBL m hl3
    obtain ⟨W, hW, HB6, RH, hz⟩ := one_new w5 (.cells (Array.replicate m (Value.bool false)) 4)
    have HW := Lib.hid hW
    obtain ⟨H, hH⟩ : ∃ H, w5.heap.size = H := ⟨_, rfl⟩
    have HHH := Lib.hid hH
    have hHW : H < W.heap.size := by omega
    obtain ⟨B, hB⟩ : ∃ B, W.heap.size = B := ⟨_, rfl⟩
    rw [hH] at RH
    have HBE := Lib.hid hB
    have HI0 : Hid (OrW w W g X S G H B m ac kc #[.slice ac m kc, .slice ast nst kst, .int .i64 c.threads] c.caps 0 (.slice al m kl) (nchE c.caps) (List.replicate m nilV) (List.replicate m nilV) (List.replicate m []) (List.replicate m []) (List.replicate m false)) := by
      have hSH : SlHX (fun b => b ≠ H) W (.slice al m kl) (nchE c.caps) := (HSH.out.slHX.mono (fun b hb e => by have := HBc.out.size; omega)).below (below_then HBc.out HB6.out)
      have hnl : ∀ j, (List.replicate m nilV).getD j nilV = nilV := fun j => by
        rw [List.getD_eq_getElem?_getD]
        by_cases hj : j < m <;> simp [hj]
      have hn0 : ∀ j, (List.replicate m ([] : List Int)).getD j [] = [] := fun j => by
        rw [List.getD_eq_getElem?_getD]
        by_cases hj : j < m <;> simp [hj]
      have hLS : ∀ S, S < w5.heap.size → w5.heap[S]? = some (.cells (Array.replicate m nilV) 32 (0, 0)) → LsI W S B (List.replicate m nilV) (List.replicate m []) := fun S hSl hRS => by
        refine ⟨by simp, (HB6.out.block S hSl).trans (hRS.trans (by rw [List.toArray_replicate])), fun j hj => ?_, fun a b _ _ _ => ?_, by omega⟩
        · rw [hnl, hn0]; exact OwnI.nil _ _ _ _
        · rw [hnl]; exact .inl rfl
      refine ⟨hSH, ⟨hLS S hSl RS.out, hLS G hGl RG.out, RH.out.trans (by rw [List.map_replicate, List.toArray_replicate]), fun a b _ _ => ?_, hSG, by omega, by omega, by omega, by omega⟩, ?_, by rw [nchE_length]; exact HMC.out, fun x hx => ?_, fun x hx => ?_, fun x hx => ?_, ?_, ?_, ?_, HOC.out, HX4.out, ?_, hwg, hgX, by omega, by omega, by omega⟩
      · rw [hnl]; exact .inl rfl
      · have := OrP.new c.caps
        rw [HMC.out] at this
        exact this
      · rw [(List.mem_replicate.1 hx).2]; exact Nat.le_refl _
      · rw [(List.mem_replicate.1 hx).2]; exact Nat.le_refl _
      · rw [(List.mem_replicate.1 hx).2]; intro y hy; cases hy
      · exact HC5.out.kept HC5.out.lt (below_then HBc.out HB6.out)
      · exact row_below2 (below_then HBc.out HB6.out) R5.out
      · exact HS5.out.below (below_then HBc.out HB6.out)
      · exact below_then HB5.out (below_then HBc.out HB6.out)
    obtain ⟨v0, hv0⟩ : ∃ v, (Value.slice al m kl) = v := ⟨_, rfl⟩
    rw [hv0] at HI0
    have HV0 : Hid (v0 = .slice al m kl) := hv0.symm
    clear hW hH hB hv0 hS4 hG4 RS RG HBc hz HSH HB5 R5 HC5 HS5 HX4 HOC hHW hSl hGl hX4 HBE hSG HB6 RH
    have HCAP : Hid (∀ x ∈ c.caps, 0 ≤ x ∧ x ≤ 16) := HGD.out.caps
    go_upto_region 8 with fail
    try rw [HW.out]
    try rw [HHH.out]
    rw [← HV0.out]
    clear HW HHH HV0 hmkb HGD
    go_wp2_with fail
    go_loopw [5, 9] (fun u5 u9 wr => ∃ (i : Nat) (v : Value) (l : List ChanM) (us ug : List Value) (ls lg : List (List Int)) (hs : List Bool), v = u5 ∧ u9 = .int .i64 i ∧ i ≤ 25 ∧ Hid (OrW w wr g X S G H B m ac kc #[.slice ac m kc, .slice ast nst kst, .int .i64 c.threads] c.caps i v l us ug ls lg hs)) (fun _ u9 _ => 25 - (intOf u9).toNat)
    case atStart => exact ⟨0, _, _, _, _, _, _, _, rfl, rfl, by omega, HI0⟩
    case round =>
      clear HI0
      obtain ⟨i, v, l, us, ug, ls, lg, hs, rfl, rfl, hi, HI⟩ := hrel
      obtain ⟨wo, rfl⟩ : ∃ wo : World, wo = wr := ⟨_, rfl⟩
      by_cases hlt : i < 25
      · have hltI : (i : Int) < 25 := by omega
        obtain ⟨av, kv, hve, -⟩ := HI.out.sl.slH.len
        rw [HI.out.ml] at hve
        subst hve
        have hm256 : (m : Int) ≤ 256 := by omega
        have hm1 : (1 : Int) ≤ (m : Int) := by omega
        go_wp2_with fail
        refine (nextE g (m : Int) wo HI.out.code hm1 hm256).mono ?_; rintro e w6 ⟨n0, rfl, hn0, hn1, hc6, hg6⟩
        obtain ⟨n, rfl⟩ : ∃ n : Nat, n0 = n := ⟨n0.toNat, by omega⟩
        have hn : n < m := by omega
        have HI6 := Lib.hid (HI.out.draw hg6 hc6)
        clear hc6 hg6 HI hn0
        go_wp2_with fail
        refine (valueE g w6 HI6.out.code).mono ?_; rintro e w7 ⟨x, rfl, hx, hc7, hg7⟩
        have HI7 := Lib.hid (HI6.out.draw hg7 hc7)
        have HXW := Lib.hid hx
        clear hc7 hg7 HI6 hx
        obtain ⟨w8, hw8, HB8, N1, N2, hz8⟩ := two_new w7 (.cells #[.int .i64 0, .int .i64 0, .int .i64 0, .int .u64 0, .int .i64 0, .slice none 0 0, .slice none 0 0] 38) (.cells #[.int .i64 0, .int .i64 0, .int .u64 0, .bool false, .int .i64 0] 25)
        obtain ⟨P, hP⟩ : ∃ P, w7.heap.size = P := ⟨_, rfl⟩
        obtain ⟨Q, hQ⟩ : ∃ Q, P + 1 = Q := ⟨_, rfl⟩
        rw [hP] at N1 N2
        rw [hQ] at N2
        have hPQ : P ≠ Q := by omega
        have M2 := Lib.hid ((setRow_other w8 P Q #[.int .i64 1, .int .i64 0, .int .i64 (n : Int), .int .u64 x, .int .i64 0, .slice none 0 0, .slice none 0 0] (fun e => hPQ e.symm)).trans N2.out)
        have R1 := Lib.hid ((setRow_other (w8.setRow P #[.int .i64 1, .int .i64 0, .int .i64 (n : Int), .int .u64 x, .int .i64 0, .slice none 0 0, .slice none 0 0]) Q P #[.int .i64 1, .int .i64 (-1), .int .u64 0, .bool false, .int .i64 0] hPQ).trans (setRow_heap w8 P _ #[.int .i64 1, .int .i64 0, .int .i64 (n : Int), .int .u64 x, .int .i64 0, .slice none 0 0, .slice none 0 0] _ (0, 0) N1.out))
        have R2 := Lib.hid (setRow_heap (w8.setRow P #[.int .i64 1, .int .i64 0, .int .i64 (n : Int), .int .u64 x, .int .i64 0, .slice none 0 0, .slice none 0 0]) Q _ #[.int .i64 1, .int .i64 (-1), .int .u64 0, .bool false, .int .i64 0] _ (0, 0) M2.out)
        have HB9 := Lib.hid (row_below (row_below HB8.out (g := P) (by omega) #[.int .i64 1, .int .i64 0, .int .i64 (n : Int), .int .u64 x, .int .i64 0, .slice none 0 0, .slice none 0 0]) (g := Q) (by omega) #[.int .i64 1, .int .i64 (-1), .int .u64 0, .bool false, .int .i64 0])
        obtain ⟨w9, hw9⟩ : ∃ w9, (w8.setRow P #[.int .i64 1, .int .i64 0, .int .i64 (n : Int), .int .u64 x, .int .i64 0, .slice none 0 0, .slice none 0 0]).setRow Q #[.int .i64 1, .int .i64 (-1), .int .u64 0, .bool false, .int .i64 0] = w9 := ⟨_, rfl⟩
        rw [hw9] at R1 R2 HB9
        have HW8 := Lib.hid hw8
        have HW9 := Lib.hid hw9
        have HEP := Lib.hid hP
        have HEQ := Lib.hid hQ
        have hgP : g < P := by have := HI7.out.code.lt; omega
        have hgQ : g < Q := by omega
        have hPw : P < w9.heap.size := (Array.getElem?_eq_some_iff.1 R1.out).1
        have hQw : Q < w9.heap.size := (Array.getElem?_eq_some_iff.1 R2.out).1
        have hP7 : w7.heap.size ≤ P := by omega
        have hQ7 : w7.heap.size ≤ Q := by omega
        clear hw8 hw9 hP hQ hz8 HB8
        go_upto_region 14 with (first | (rw [HW8.out, HEP.out]; refine wpList_store_row rfl 38 _ _ rfl (P) _ rfl rfl 38 #[.int .i64 0, .int .i64 0, .int .i64 0, .int .u64 0, .int .i64 0, .slice none 0 0, .slice none 0 0] N1.out (by kernel_rfl) rfl (by simp [Value.oneCell']) ?_) | (rw [HEQ.out]; refine wpList_store_row rfl 25 _ _ rfl (Q) _ rfl rfl 25 #[.int .i64 0, .int .i64 0, .int .u64 0, .bool false, .int .i64 0] M2.out (by kernel_rfl) rfl (by simp [Value.oneCell']) ?_))
        rw [HW9.out]
        simp only [Act.put]
        have HI9 := Lib.hid (HI7.out.over HB9.out)
        have HG9 : Hid (w7.grownBy w9 (some g)) := grownBy_of_below (grownBy_refl _ _) HB9.out
        clear HW8 HW9 HEP HEQ N1 N2 M2 HB9
        go_wp2_with fail
        refine (nextE g 8 w9 HI9.out.code (by decide) (by decide)).mono ?_; rintro e wd ⟨d, rfl, hd0, hd1, hcd, hgd⟩
        have HId := Lib.hid (HI9.out.draw hgd hcd)
        have A1 := Lib.hid (row_keep hgd R1.out (by omega))
        have A2 := Lib.hid (row_keep hgd R2.out (by omega))
        have HGd := Lib.hid (grownBy_trans HG9.out hgd)
        have hPd : P < wd.heap.size := (Array.getElem?_eq_some_iff.1 A1.out).1
        have hQd : Q < wd.heap.size := (Array.getElem?_eq_some_iff.1 A2.out).1
        clear hcd hgd HG9 HI9 R1 R2 hPw hQw
        obtain ⟨LS, hLS⟩ : ∃ z, ls.getD n [] = z := ⟨_, rfl⟩
        obtain ⟨LG, hLG⟩ : ∃ z, lg.getD n [] = z := ⟨_, rfl⟩
        have HEX := Lib.hid (And.intro hLS hLG)
        clear hLS hLG
        go_upto_block 2 with fail
        go_cut [] (fun wx => ∃ (kd vv rk rv : Int) (rok : Bool), Hid (wx.heap[P]? = some (.cells #[.int .i64 kd, .int .i64 0, .int .i64 (n : Int), .int .u64 vv, .int .i64 0, .slice none 0 0, .slice none 0 0] 38 (0, 0))) ∧ Hid (wx.heap[Q]? = some (.cells #[.int .i64 rk, .int .i64 (-1), .int .u64 rv, .bool rok, .int .i64 0] 25 (0, 0))) ∧ Hid ((kd = 1 ∧ vv = x ∧ rk = 1 ∧ rv = 0 ∧ rok = false) ∨ (kd = 2 ∧ vv = 0 ∧ rk = 2 ∧ rv = nextV LS LG ∧ rok = true) ∨ (kd = 3 ∧ vv = 0 ∧ rk = 6 ∧ rv = 0 ∧ rok = false)) ∧ Hid (w7.grownBy wx (some g)) ∧ Hid (CodesE wx g))
        case first =>
          as_aux_lemma =>
          obtain ⟨b50, hb50⟩ : ∃ b, decide (d = 3 ∨ d = 4 ∨ d = 5) = b := ⟨_, rfl⟩
          have HB50 := Lib.hid hb50
          clear hb50
          go_step
          go_step
          go_cut [50] (fun s50 wx => s50 = .bool b50 ∧ Hid (wx = wd))
          case first =>
            have hdd : d = 0 ∨ d = 1 ∨ d = 2 ∨ d = 3 ∨ d = 4 ∨ d = 5 ∨ d = 6 ∨ d = 7 := by omega
            clear hd0 hd1 HId A1 A2 HGd HI7
            rcases hdd with rfl | rfl | rfl | rfl | rfl | rfl | rfl | rfl
            all_goals (cases b50 <;> first | (exact absurd HB50.out (by decide)) | (go_wp2_with fail; go_meet; exact ⟨rfl, rfl⟩))
          case rest =>
          obtain ⟨rfl, hwx⟩ := hcut
          have hw9 := hwx.out.symm
          clear hwx
          subst hw9
          clear hd0 hd1
          by_cases hbb : b50 = false ∧ d ≠ 6
          · obtain ⟨rfl, hd6⟩ := hbb
            have hd6b : (d == 6) = false := by simpa using hd6
            go_wp2_with fail
            go_meet
            exact ⟨1, x, 1, 0, false, A1, A2, .inl ⟨rfl, rfl, rfl, rfl, rfl⟩, HGd, HId.out.code⟩
          cases b50 with
          | false =>
            have hd6 : d = 6 := Decidable.not_not.1 (fun h => hbb ⟨rfl, h⟩)
            subst hd6
            clear hbb
            have M2 := Lib.hid ((setRow_other wd P Q #[.int .i64 3, .int .i64 0, .int .i64 (n : Int), .int .u64 0, .int .i64 0, .slice none 0 0, .slice none 0 0] (fun e => hPQ e.symm)).trans A2.out)
            have E1 := Lib.hid ((setRow_other (wd.setRow P #[.int .i64 3, .int .i64 0, .int .i64 (n : Int), .int .u64 0, .int .i64 0, .slice none 0 0, .slice none 0 0]) Q P #[.int .i64 6, .int .i64 (-1), .int .u64 0, .bool false, .int .i64 0] hPQ).trans (setRow_heap wd P _ #[.int .i64 3, .int .i64 0, .int .i64 (n : Int), .int .u64 0, .int .i64 0, .slice none 0 0, .slice none 0 0] _ (0, 0) A1.out))
            have E2 := Lib.hid (setRow_heap (wd.setRow P #[.int .i64 3, .int .i64 0, .int .i64 (n : Int), .int .u64 0, .int .i64 0, .slice none 0 0, .slice none 0 0]) Q _ #[.int .i64 6, .int .i64 (-1), .int .u64 0, .bool false, .int .i64 0] _ (0, 0) M2.out)
            have HGe : Hid (w7.grownBy ((wd.setRow P #[.int .i64 3, .int .i64 0, .int .i64 (n : Int), .int .u64 0, .int .i64 0, .slice none 0 0, .slice none 0 0]).setRow Q #[.int .i64 6, .int .i64 (-1), .int .u64 0, .bool false, .int .i64 0]) (some g)) := grownBy_of_new (grownBy_of_new HGd.out (row_grown _ P _) (fun k hk => by cases hk; exact hP7)) (row_grown _ Q _) (fun k hk => by cases hk; exact hQ7)
            have HCe : Hid (CodesE ((wd.setRow P #[.int .i64 3, .int .i64 0, .int .i64 (n : Int), .int .u64 0, .int .i64 0, .slice none 0 0, .slice none 0 0]).setRow Q #[.int .i64 6, .int .i64 (-1), .int .u64 0, .bool false, .int .i64 0]) g) := codes_grown (codes_grown HId.out.code (row_grown _ P _) (B := g + 1) (fun k hk => by cases hk; omega) (Nat.lt_succ_self g)) (row_grown _ Q _) (B := g + 1) (fun k hk => by cases hk; omega) (Nat.lt_succ_self g)
            go_wp2_with (first | (refine wpList_store_row rfl 38 _ _ rfl (P) _ rfl rfl 38 #[.int .i64 1, .int .i64 0, .int .i64 (n : Int), .int .u64 x, .int .i64 0, .slice none 0 0, .slice none 0 0] A1.out (by kernel_rfl) rfl (by simp [Value.oneCell']) ?_) | (refine wpList_store_row rfl 25 _ _ rfl (Q) _ rfl rfl 25 #[.int .i64 1, .int .i64 (-1), .int .u64 0, .bool false, .int .i64 0] M2.out (by kernel_rfl) rfl (by simp [Value.oneCell']) ?_))
            go_meet
            exact ⟨3, 0, 6, 0, false, E1, E2, .inr (.inr ⟨rfl, rfl, rfl, rfl, rfl⟩), HGe, HCe⟩
          | true =>
            clear hbb
            have M2 := Lib.hid ((setRow_other wd P Q #[.int .i64 2, .int .i64 0, .int .i64 (n : Int), .int .u64 0, .int .i64 0, .slice none 0 0, .slice none 0 0] (fun e => hPQ e.symm)).trans A2.out)
            have E1 := Lib.hid ((setRow_other (wd.setRow P #[.int .i64 2, .int .i64 0, .int .i64 (n : Int), .int .u64 0, .int .i64 0, .slice none 0 0, .slice none 0 0]) Q P #[.int .i64 2, .int .i64 (-1), .int .u64 0, .bool true, .int .i64 0] hPQ).trans (setRow_heap wd P _ #[.int .i64 2, .int .i64 0, .int .i64 (n : Int), .int .u64 0, .int .i64 0, .slice none 0 0, .slice none 0 0] _ (0, 0) A1.out))
            have E2 := Lib.hid (setRow_heap (wd.setRow P #[.int .i64 2, .int .i64 0, .int .i64 (n : Int), .int .u64 0, .int .i64 0, .slice none 0 0, .slice none 0 0]) Q _ #[.int .i64 2, .int .i64 (-1), .int .u64 0, .bool true, .int .i64 0] _ (0, 0) M2.out)
            have HGe : Hid (w7.grownBy ((wd.setRow P #[.int .i64 2, .int .i64 0, .int .i64 (n : Int), .int .u64 0, .int .i64 0, .slice none 0 0, .slice none 0 0]).setRow Q #[.int .i64 2, .int .i64 (-1), .int .u64 0, .bool true, .int .i64 0]) (some g)) := grownBy_of_new (grownBy_of_new HGd.out (row_grown _ P _) (fun k hk => by cases hk; exact hP7)) (row_grown _ Q _) (fun k hk => by cases hk; exact hQ7)
            have HCe : Hid (CodesE ((wd.setRow P #[.int .i64 2, .int .i64 0, .int .i64 (n : Int), .int .u64 0, .int .i64 0, .slice none 0 0, .slice none 0 0]).setRow Q #[.int .i64 2, .int .i64 (-1), .int .u64 0, .bool true, .int .i64 0]) g) := codes_grown (codes_grown HId.out.code (row_grown _ P _) (B := g + 1) (fun k hk => by cases hk; omega) (Nat.lt_succ_self g)) (row_grown _ Q _) (B := g + 1) (fun k hk => by cases hk; omega) (Nat.lt_succ_self g)
            obtain ⟨we, hwe⟩ : ∃ we, (wd.setRow P #[.int .i64 2, .int .i64 0, .int .i64 (n : Int), .int .u64 0, .int .i64 0, .slice none 0 0, .slice none 0 0]).setRow Q #[.int .i64 2, .int .i64 (-1), .int .u64 0, .bool true, .int .i64 0] = we := ⟨_, rfl⟩
            rw [hwe] at E1 E2 HGe HCe
            have HWE := Lib.hid hwe
            clear hwe
            have HIe := Lib.hid (HI7.out.draw HGe.out HCe.out)
            have hPe : P < we.heap.size := (Array.getElem?_eq_some_iff.1 E1.out).1
            have hQe : Q < we.heap.size := (Array.getElem?_eq_some_iff.1 E2.out).1
            obtain ⟨sa, sc, ga, gc, pc, qc, cS, cG, cH, hac, hpc, ccap, hus, hug⟩ := HIe.out.reads hn
            have hSe : S < we.heap.size := HIe.out.or.s.lt
            have hGe : G < we.heap.size := HIe.out.or.g.lt
            have hsl := HIe.out.hlen hn
            have hls := few_at HIe.out.few hsl.2.1
            have hlg := few_at HIe.out.fewg hsl.2.2.1
            have HOS := Lib.hid (HIe.out.or.s.own n hsl.2.1)
            rw [hus] at HOS
            rw [HEX.out.1] at cS hls HOS
            rw [HEX.out.2] at cG hlg
            clear cH hac hpc ccap hus hug hsl HId HGd hPd hQd
            skip
            · go_upto_region 19 with (first | (refine wpList_store_row rfl 38 _ _ rfl (P) _ rfl rfl 38 #[.int .i64 1, .int .i64 0, .int .i64 (n : Int), .int .u64 x, .int .i64 0, .slice none 0 0, .slice none 0 0] A1.out (by kernel_rfl) rfl (by simp [Value.oneCell']) ?_) | (refine wpList_store_row rfl 25 _ _ rfl (Q) _ rfl rfl 25 #[.int .i64 1, .int .i64 (-1), .int .u64 0, .bool false, .int .i64 0] M2.out (by kernel_rfl) rfl (by simp [Value.oneCell']) ?_))
              rw [HWE.out]
              simp only [Act.put]
              go_upto_region 19 with fail
              have XcS := ext_cell _ _ (hSe) _ cS
              have XcG := ext_cell _ _ (hGe) _ cG
              refine wp_region_ext we (by kernel_rfl) (by kernel_rfl) (Below.refl _ _) ?_
              repeat (go_big_quiet_step (fail))
              refine wpQuiet_nil ?_
              intro _ hw'
              obtain ⟨n9, rfl⟩ := hw'
              have F1 := Lib.hid (row_below2 n9.below E1.out)
              have F2 := Lib.hid (row_below2 n9.below E2.out)
              have HGf := Lib.hid (grownBy_of_below HGe.out (n9.below.mono HGe.out.size))
              have HCf := Lib.hid (HCe.out.kept HCe.out.lt n9.below)
              have HBf := Lib.hid n9.below
              generalize n9.wd = wf at *
              clear XcS XcG
              by_cases hlt2 : LG.length < LS.length
              · have hltI2 : (LG.length : Int) < (LS.length : Int) := by omega
                have hnv : nextV LS LG = LS.getD LG.length 0 := by unfold nextV; rw [if_pos hlt2]
                rcases HOS.out.shape with ⟨-, h0⟩ | ⟨bs, cs2, hvs, hbs1, hbs2, hcap2, -⟩
                · rw [h0] at hlt2; simp at hlt2
                simp only [Value.slice.injEq] at hvs
                obtain ⟨rfl, -, rfl⟩ := hvs
                have cV := (HOS.out.cell LG.length hlt2).1
                rw [← hnv] at cV
                obtain ⟨nv, hnv2⟩ : ∃ z, nextV LS LG = z := ⟨_, rfl⟩
                rw [hnv2] at cV
                have HNV := Lib.hid hnv2
                have KS20 : Hid (∀ w', Below wf.heap.size wf w' → (fun w' : World => w'.cell? ⟨S, n, none⟩ = some (.slice (some ⟨bs, 0, none⟩) LS.length sc) ∧ w'.cell? ⟨G, n, none⟩ = some (.slice ga LG.length gc) ∧ w'.cell? ⟨bs, LG.length, none⟩ = some (.int .u64 nv)) w') := fun w' hb => ⟨(hb.cell (p := ⟨S, n, none⟩) (Nat.lt_of_lt_of_le hSe HBf.out.size)).trans ((HBf.out.cell (p := ⟨S, n, none⟩) hSe).trans cS), (hb.cell (p := ⟨G, n, none⟩) (Nat.lt_of_lt_of_le hGe HBf.out.size)).trans ((HBf.out.cell (p := ⟨G, n, none⟩) hGe).trans cG), (hb.cell (p := ⟨bs, LG.length, none⟩) (Nat.lt_of_lt_of_le hbs2 HBf.out.size)).trans ((HBf.out.cell (p := ⟨bs, LG.length, none⟩) hbs2).trans cV)⟩
                clear hnv hnv2 cV cS cG hbs1
                go_upto_region 20 with fail
                refine untilK KS20 12 13 (by kernel_rfl) rfl ?_
                obtain ⟨u0, hu0, HU0⟩ := drew_pack wf
                rw [hu0]
                clear hu0
                have hSU0 := KS20.out _ HU0.out
                refine tkU (v := ?_) 0 la0 hSU0 (by kernel_rfl) (fun _ _ _ h => h) rfl ?_ ?_
                rotate_left
                · (intro w hSw; (try dsimp only at hSw); go_simp <;> with_reducible rfl)
                simp only [Act.put, List.setIfInBounds_toArray, List.set_cons_zero, List.set_cons_succ]
                refine tkU (v := ?_) 1 la1 hSU0 (by kernel_rfl) (fun _ _ _ h => h) rfl ?_ ?_
                rotate_left
                · (intro w hSw; (try dsimp only at hSw); go_simp <;> with_reducible rfl)
                simp only [Act.put, List.setIfInBounds_toArray, List.set_cons_zero, List.set_cons_succ]
                refine tkU (v := ?_) 2 la2 hSU0 (by kernel_rfl) (fun _ _ _ h => h) rfl ?_ ?_
                rotate_left
                · (intro w hSw; (try dsimp only at hSw); go_simp <;> with_reducible rfl)
                simp only [Act.put, List.setIfInBounds_toArray, List.set_cons_zero, List.set_cons_succ]
                refine tkU (v := ?_) 3 la3 hSU0 (by kernel_rfl) (fun _ _ _ h => h) rfl ?_ ?_
                rotate_left
                · (intro w hSw; (try dsimp only at hSw); go_simp <;> with_reducible rfl)
                simp only [Act.put, List.setIfInBounds_toArray, List.set_cons_zero, List.set_cons_succ]
                refine tkU (v := ?_) 4 la4 hSU0 (by kernel_rfl) (fun _ _ _ h => h) rfl ?_ ?_
                rotate_left
                · (intro w hSw; (try dsimp only at hSw); go_simp <;> with_reducible rfl)
                simp only [Act.put, List.setIfInBounds_toArray, List.set_cons_zero, List.set_cons_succ]
                refine tkU (v := ?_) 5 la5 hSU0 (by kernel_rfl) (fun _ _ _ h => h) rfl ?_ ?_
                rotate_left
                · (intro w hSw; (try dsimp only at hSw); go_simp <;> with_reducible rfl)
                simp only [Act.put, List.setIfInBounds_toArray, List.set_cons_zero, List.set_cons_succ]
                refine tkU (v := ?_) 6 la6 hSU0 (by kernel_rfl) (fun _ _ _ h => h) rfl ?_ ?_
                rotate_left
                · (intro w hSw; (try dsimp only at hSw); go_simp <;> with_reducible rfl)
                simp only [Act.put, List.setIfInBounds_toArray, List.set_cons_zero, List.set_cons_succ]
                refine tkU (v := ?_) 7 la7 hSU0 (by kernel_rfl) (fun _ _ _ h => h) rfl ?_ ?_
                rotate_left
                · (intro w hSw; (try dsimp only at hSw); go_simp <;> with_reducible rfl)
                simp only [Act.put, List.setIfInBounds_toArray, List.set_cons_zero, List.set_cons_succ]
                refine tkU (v := ?_) 8 la8 hSU0 (by kernel_rfl) (fun _ _ _ h => h) rfl ?_ ?_
                rotate_left
                · (intro w hSw; (try dsimp only at hSw); go_simp <;> with_reducible rfl)
                simp only [Act.put, List.setIfInBounds_toArray, List.set_cons_zero, List.set_cons_succ]
                refine tkU (v := ?_) 9 la9 hSU0 (by kernel_rfl) (fun _ _ _ h => h) rfl ?_ ?_
                rotate_left
                · (intro w hSw; (try dsimp only at hSw); go_simp <;> with_reducible rfl)
                simp only [Act.put, List.setIfInBounds_toArray, List.set_cons_zero, List.set_cons_succ]
                refine tkU (v := ?_) 10 la10 hSU0 (by kernel_rfl) (fun _ _ _ h => h) rfl ?_ ?_
                rotate_left
                · (intro w hSw; (try dsimp only at hSw); go_simp <;> with_reducible rfl)
                simp only [Act.put, List.setIfInBounds_toArray, List.set_cons_zero, List.set_cons_succ]
                refine tkU (v := ?_) 11 la11 hSU0 (by kernel_rfl) (fun _ _ _ h => h) rfl ?_ ?_
                rotate_left
                · (intro w hSw; (try dsimp only at hSw); go_simp <;> with_reducible rfl)
                simp only [Act.put, List.setIfInBounds_toArray, List.set_cons_zero, List.set_cons_succ]
                refine wpAnyU_ready (rs := [12]) (by kernel_rfl) rfl ?_
                refine AllReadyU.free la12 rfl (by kernel_rfl) (fun K hK => ?_) ?_
                · have fz := frozen_of_row u0 Q 2 _ _ (row_below2 HU0.out F2.out)
                  obtain ⟨r0, r1, r2, r3, r4⟩ := rowc5 (row_below2 HU0.out F2.out)
                  go_simp
                  clear r0 r1 r2 r3 r4 fz
                  refine hK.out _ _ ?_
                  clear hK K hSU0
                  try simp only [Act.put, List.setIfInBounds_toArray, List.set_cons_zero, List.set_cons_succ]
                  refine wpAnyU_done (by kernel_rfl) ?_ _
                  go_wp2_with fail
                  go_meet
                  have r9 := heap_setCell_same u0 Q 2 _ _ (.int .u64 nv) (row_below2 HU0.out F2.out)
                  simp at r9
                  exact ⟨2, 0, 2, nv, true, (heap_setCell_other u0 ⟨Q, 2, none⟩ P (.int .u64 nv) hPQ).trans (row_below2 HU0.out F1.out), r9, .inr (.inl ⟨rfl, rfl, rfl, HNV.out.symm, rfl⟩), grownBy_of_new (grownBy_of_below HGf.out (HU0.out.mono HGf.out.size)) (grownBy_setCell u0 ⟨Q, 2, none⟩ (.int .u64 nv)) (fun k hk => by cases hk; exact hQ7), codes_grown (HCf.out.kept HCf.out.lt HU0.out) (grownBy_setCell u0 ⟨Q, 2, none⟩ (.int .u64 nv)) (B := g + 1) (fun k hk => by cases hk; show g + 1 ≤ Q; omega) (Nat.lt_succ_self g)⟩
                exact AllReadyU.nil
              · have hgeI : ¬ (LG.length : Int) < (LS.length : Int) := by omega
                have hnv : nextV LS LG = 0 := by unfold nextV; rw [if_neg hlt2]
                have HNV := Lib.hid hnv
                clear hnv cS cG
                go_wp2_with fail
                go_meet
                exact ⟨2, 0, 2, 0, true, F1, F2, .inr (.inl ⟨rfl, rfl, rfl, HNV.out.symm, rfl⟩), HGf, HCf⟩
        case rest =>
          obtain ⟨kd, vv, rk, rv, rok, RA, RB, HK, HGx, HCx⟩ := hcut
          obtain ⟨wa, rfl⟩ : ∃ wa : World, wa = wc := ⟨_, rfl⟩
          have HIa := Lib.hid (HI7.out.draw HGx.out HCx.out)
          have hSa : S < wa.heap.size := HIa.out.or.s.lt
          have hGa : G < wa.heap.size := HIa.out.or.g.lt
          have hHa : H < wa.heap.size := (Array.getElem?_eq_some_iff.1 HIa.out.or.h).1
          have hXa : X < wa.heap.size := (Array.getElem?_eq_some_iff.1 HIa.out.cr).1
          have hPa : P < wa.heap.size := (Array.getElem?_eq_some_iff.1 RA.out).1
          have hQa : Q < wa.heap.size := (Array.getElem?_eq_some_iff.1 RB.out).1
          have HOB : Hid ((∀ j, (us.getD n nilV).ownBlock = some j → j < wa.heap.size) ∧ (∀ j, (ug.getD n nilV).ownBlock = some j → j < wa.heap.size)) := ⟨fun j hj => (own_lt_B (HIa.out.or.s.own n (HIa.out.hlen hn).2.1) hj).2, fun j hj => (own_lt_B (HIa.out.or.g.own n (HIa.out.hlen hn).2.2.1) hj).2⟩
          have hk := HK.out
          clear HK HI7 HId HGd HGx HCx A1 A2 hd0 hd1 hPd hQd hP7 hQ7
          obtain ⟨cp, hcp⟩ : ∃ z, c.caps.getD n 0 = z := ⟨_, rfl⟩
          obtain ⟨hh, hhh⟩ : ∃ z, hs.getD n false = z := ⟨_, rfl⟩
          have HCP := Lib.hid hcp
          have HHH := Lib.hid hhh
          have hcpb : 0 ≤ cp ∧ cp ≤ 16 := by
            have hnc : n < c.caps.length := by rw [HMC.out]; exact hn
            rw [← hcp, List.getD_eq_getElem?_getD, List.getElem?_eq_getElem hnc]
            exact HCAP.out _ (List.getElem_mem hnc)
          have hls : LS.length ≤ 25 := by have := few_at HIa.out.few (HIa.out.hlen hn).2.1; rw [HEX.out.1] at this; omega
          have hlg : LG.length ≤ 25 := by have := few_at HIa.out.fewg (HIa.out.hlen hn).2.2.1; rw [HEX.out.2] at this; omega
          rcases hk with ⟨rfl, hvx, rfl, rfl, rfl⟩ | ⟨rfl, rfl, rfl, hrv, rfl⟩ | ⟨rfl, rfl, rfl, rfl, rfl⟩
          · as_aux_lemma =>
            have hvx2 := hvx.symm
            clear hvx
            subst hvx2
            have TA := Lib.hid (HIa.out.applyS hn hl3 hi HXW.out)
            rw [HEX.out.1, HEX.out.2, hcp, hhh] at TA
            obtain ⟨rm, hrm⟩ : ∃ b, decide ((LS.length : Int) - (LG.length : Int) < cp) = b := ⟨_, rfl⟩
            rw [hrm] at TA
            obtain ⟨ck, hck⟩ : ∃ b, (rm && !hh) = b := ⟨_, rfl⟩
            rw [hck] at TA
            have HCK := Lib.hid hck
            have HRM := Lib.hid hrm
            clear hrm hcp hhh hck
            obtain ⟨o0, o1, o2, o3, o4, o5, o6⟩ := rowc7 RA.out
            obtain ⟨r0, r1, r2, r3, r4⟩ := rowc5 RB.out
            go_wp2_with fail
            refine TA.out.mono ?_; rintro e wb ⟨v8, rfl, hs8, hb8⟩
            have HB8 := Lib.hid hb8
            have HSb := Lib.hid hs8
            clear o0 o1 o2 o3 o4 o5 o6 r0 r1 r2 r3 r4 TA hs8 hb8
            have HIc := Lib.hid (HIa.out.over HB8.out)
            obtain ⟨sa, sc, ga, gc, pc, qc, cS, cG, cH, hac, hpc, ccap, hus, hug⟩ := HIc.out.reads hn
            have HUS := Lib.hid hus
            have HUG := Lib.hid hug
            rw [HEX.out.1] at cS
            rw [HEX.out.2] at cG
            rw [HCP.out] at ccap
            rw [HHH.out] at cH
            subst hac
            obtain ⟨x0, x1, x2⟩ := rowc3 HIc.out.cr
            have hSb : S < wb.heap.size := by have := HB8.out.size; omega
            have hGb : G < wb.heap.size := by have := HB8.out.size; omega
            have hXb : X < wb.heap.size := by have := HB8.out.size; omega
            have hPb : P < wb.heap.size := by have := HB8.out.size; omega
            have RAb := Lib.hid (row_below2 HB8.out RA.out)
            obtain ⟨p0, p1, p2, p3, p4, p5, p6⟩ := rowc7 RAb.out
            clear hus hug x1 x2 p1 p2 p3 p4 p5 p6
            have hwr : IntKind.i64.wrap ((LS.length : Int) - (LG.length : Int)) = (LS.length : Int) - (LG.length : Int) := (i64_small _ (by omega) (by omega)).symm
            have hrm := HRM.out
            go_upto_region 24 with fail
            have XcS := ext_cell _ _ (hSb) _ cS
            have XcG := ext_cell _ _ (hGb) _ cG
            have Xx0 := ext_cell _ _ (hXb) _ x0
            have Xccap := ext_cell _ _ (hpc) _ ccap
            have Xp0 := ext_cell _ _ (hPb) _ p0
            clear cS cG x0 ccap p0
            refine wp_region_ext wb (by kernel_rfl) (by kernel_rfl) (Below.refl _ _) ?_
            repeat (go_big_quiet_step (fail))
            refine wpQuiet_nil ?_
            intro _ hw'
            obtain ⟨n9, rfl⟩ := hw'
            have HBF := Lib.hid n9.below
            have cS9 := Lib.hid (XcS n9)
            have cG9 := Lib.hid (XcG n9)
            have p09 := Xp0 n9
            have cH9 := Lib.hid ((HBF.out.cell (p := ⟨H, n, none⟩) (show H < wb.heap.size by have := HB8.out.size; omega)).trans cH)
            generalize n9.wd = wf at *
            clear cH
            have HIb := Lib.hid (HIc.out.over HBF.out)
            have HS8 := Lib.hid fun h => (HSb.out h).below HBF.out
            have HIf := Lib.hid HIb.out.wide
            clear XcS XcG Xx0 Xccap Xp0 HIc HSb
            clear hrm hwr
            have d0 := cH9.out
            cases rm with
            | false =>
              have hck : false = ck := HCK.out
              subst hck
              go_wp2_with fail
              go_roundw
              case rel => exact ⟨i + 1, _, l, us, ug, ls, lg, hs, rfl, by go_num, by omega, HIf⟩
              case measure => simp [intOf]; omega
            | true =>
              cases hh with
              | true =>
                have hck : false = ck := HCK.out
                subst hck
                go_wp2_with fail
                go_roundw
                case rel => exact ⟨i + 1, _, l, us, ug, ls, lg, hs, rfl, by go_num, by omega, HIf⟩
                case measure => simp [intOf]; omega
              | false =>
                have hck : true = ck := HCK.out
                subst hck
                obtain ⟨y9, hy9⟩ : ∃ o, (.cells #[.int .u64 x] 23 : Obj) = o := ⟨_, rfl⟩
                have HA9 := Lib.hid (HIb.out.over (below_new (Below.refl wf.heap.size wf) (.cells #[.int .u64 x] 23)))
                have HS9 := Lib.hid ((HS8.out rfl).below (below_new (Below.refl wf.heap.size wf) (.cells #[.int .u64 x] 23)))
                have HO9 : Hid (OwnI (wf.alloc (.cells #[.int .u64 x] 23)) B 23 .u64 (.slice sa LS.length sc) LS) := by
                  have := HA9.out.or.s.own n (HA9.out.hlen hn).2.1
                  rw [HUS.out, HEX.out.1] at this
                  exact this
                have HB9 := Lib.hid HA9.out.or.Bw
                have hl9 : LS.length ≤ 1000000 := by omega
                have HF9 : Hid (∀ v6 u2, OwnI u2 B 23 .u64 v6 (LS ++ [x]) → (wf.alloc (.cells #[.int .u64 x] 23)).grownBy u2 (Value.slice sa LS.length sc).ownBlock → (v6.ownBlock = (Value.slice sa LS.length sc).ownBlock ∨ v6.ownBlock = some (wf.alloc (.cells #[.int .u64 x] 23)).heap.size) → (u2.frozen? ⟨S, n, none⟩ = false ∧ u2.cell? ⟨S, n, none⟩ = some (.slice sa LS.length sc)) ∧ OrW w (u2.setCell ⟨S, n, none⟩ v6) g X S G H B m (some ⟨pc, qc, none⟩) kc #[.slice (some ⟨pc, qc, none⟩) m kc, .slice ast nst kst, .int .i64 c.threads] c.caps (i + 1) v8 (l.set n { l.getD n noChan with buf := (l.getD n noChan).buf ++ [x] }) (us.set n v6) ug (ls.set n (LS ++ [x])) lg hs) := fun v6 u2 ho hg hn6 => by
                  have hu := HUS.out
                  rw [HEX.out.1] at hu
                  rw [← hu] at hg hn6
                  have hSB : u2.heap[S]? = (wf.alloc (.cells #[.int .u64 x] 23)).heap[S]? := hg.block S HA9.out.or.s.lt (fun e => by have := (own_lt_B (HA9.out.or.s.own n (HA9.out.hlen hn).2.1) e.symm).1; have := HA9.out.or.s.SB; omega)
                  have hv6 : v6.oneCell' = true := by rcases ho.shape with ⟨rfl, -⟩ | ⟨g2, c2, rfl, -⟩ <;> rfl
                  have hcell := HA9.out.or.s.cell (HA9.out.hlen hn).2.1
                  rw [hu] at hcell
                  have hsd := HA9.out.send hn HS9.out HOB.out.1 hSa hHa HXW.out hg (by rw [HEX.out.1]; exact ho) hn6 hv6
                  rw [HEX.out.1] at hsd
                  exact ⟨⟨(frozen_of_block hSB).trans (HA9.out.or.s.fz n), (cell_of_block hSB).trans hcell⟩, hsd⟩
                clear HA9 HS9 hy9 y9 HIf
                have d1 := cS9.out
                go_upto_region 40 with ((at_builtin; refine wp_append_u64n _ rfl _ _ rfl B (.slice sa LS.length sc) LS rfl HO9.out x wf.heap.size rfl (World.cell?_alloc_at _ _ _ _ rfl) hl9 HB9.out ?_; intro v6 u2 ho6 hg6 hn6; obtain ⟨p6, n6, q6, rfl⟩ : ∃ p n q, v6 = .slice p n q := own_sl ho6; obtain ⟨⟨fz, y0⟩, hfin⟩ := HF9.out _ _ ho6 hg6 hn6; have HFIN := Lib.hid hfin; clear hfin ho6 hg6 hn6))
                obtain ⟨wg, hwg9⟩ : ∃ wg, u2.setCell ⟨S, n, none⟩ (.slice p6 n6 q6) = wg := ⟨_, rfl⟩
                rw [hwg9] at HFIN
                try rw [hwg9]
                clear hwg9 fz y0 HF9 d1
                go_wp2_with fail
                go_roundw
                case rel => exact ⟨i + 1, v8, _, _, _, _, _, _, rfl, by go_num, by omega, HFIN⟩
                case measure => simp [intOf]; omega
          · as_aux_lemma =>
            have TA := Lib.hid (HIa.out.applyR (x := rv) hn hl3 hi (by rw [HEX.out.1, HEX.out.2]; exact hrv))
            rw [HEX.out.1, HEX.out.2] at TA
            have HRV : Hid (LG.length < LS.length → rv = LS.getD LG.length 0) := fun h => by rw [hrv]; unfold nextV; rw [if_pos h]
            obtain ⟨rm, hrm⟩ : ∃ b, decide (LG.length < LS.length) = b := ⟨_, rfl⟩
            rw [hrm] at TA
            have HRM := Lib.hid hrm
            clear hrm hcp hhh hrv
            obtain ⟨o0, o1, o2, o3, o4, o5, o6⟩ := rowc7 RA.out
            obtain ⟨r0, r1, r2, r3, r4⟩ := rowc5 RB.out
            go_wp2_with fail
            refine TA.out.mono ?_; rintro e wb ⟨v8, rfl, hs8, hb8⟩
            have HB8 := Lib.hid hb8
            have HSb := Lib.hid hs8
            clear o0 o1 o2 o3 o4 o5 o6 r0 r1 r2 r3 r4 TA hs8 hb8
            have HIc := Lib.hid (HIa.out.over HB8.out)
            obtain ⟨sa, sc, ga, gc, pc, qc, cS, cG, cH, hac, hpc, ccap, hus, hug⟩ := HIc.out.reads hn
            have HUS := Lib.hid hus
            have HUG := Lib.hid hug
            rw [HEX.out.1] at cS
            rw [HEX.out.2] at cG
            rw [HCP.out] at ccap
            rw [HHH.out] at cH
            subst hac
            obtain ⟨x0, x1, x2⟩ := rowc3 HIc.out.cr
            have hSb : S < wb.heap.size := by have := HB8.out.size; omega
            have hGb : G < wb.heap.size := by have := HB8.out.size; omega
            have hXb : X < wb.heap.size := by have := HB8.out.size; omega
            have hPb : P < wb.heap.size := by have := HB8.out.size; omega
            have RAb := Lib.hid (row_below2 HB8.out RA.out)
            obtain ⟨p0, p1, p2, p3, p4, p5, p6⟩ := rowc7 RAb.out
            clear hus hug x1 x2 p1 p2 p3 p4 p5 p6
            go_upto_region 24 with fail
            have XcS := ext_cell _ _ (hSb) _ cS
            have XcG := ext_cell _ _ (hGb) _ cG
            have Xx0 := ext_cell _ _ (hXb) _ x0
            have Xccap := ext_cell _ _ (hpc) _ ccap
            have Xp0 := ext_cell _ _ (hPb) _ p0
            clear cS cG x0 ccap p0
            refine wp_region_ext wb (by kernel_rfl) (by kernel_rfl) (Below.refl _ _) ?_
            repeat (go_big_quiet_step (fail))
            refine wpQuiet_nil ?_
            intro _ hw'
            obtain ⟨n9, rfl⟩ := hw'
            have HBF := Lib.hid n9.below
            have cS9 := Lib.hid (XcS n9)
            have cG9 := Lib.hid (XcG n9)
            have p09 := Xp0 n9
            have cH9 := Lib.hid ((HBF.out.cell (p := ⟨H, n, none⟩) (show H < wb.heap.size by have := HB8.out.size; omega)).trans cH)
            generalize n9.wd = wf at *
            clear cH
            have HIb := Lib.hid (HIc.out.over HBF.out)
            have HS8 := Lib.hid fun h => (HSb.out h).below HBF.out
            have HIf := Lib.hid HIb.out.wide
            clear XcS XcG Xx0 Xccap Xp0 HIc HSb
            have hgt : decide ((LS.length : Int) > (LG.length : Int)) = rm := by rw [← HRM.out]; exact decide_eq_decide.2 (by omega)
            have hgt2 : decide ((LG.length : Int) < (LS.length : Int)) = rm := by rw [← HRM.out]; exact decide_eq_decide.2 (by omega)
            have cS := cS9.out
            have cG := cG9.out
            have hSf : S < wf.heap.size := by have := HBF.out.size; omega
            have hGf : G < wf.heap.size := by have := HBF.out.size; omega
            cases rm with
            | false =>
              have hnn : ¬ LG.length < LS.length := of_decide_eq_false HRM.out
              go_upto_region 32 with fail
              have XcS := ext_cell _ _ (hSf) _ cS
              have XcG := ext_cell _ _ (hGf) _ cG
              clear cS cG
              refine wp_region_ext wf (by kernel_rfl) (by kernel_rfl) (Below.refl _ _) ?_
              repeat (go_big_quiet_step (fail))
              refine wpQuiet_nil ?_
              intro _ hw'
              obtain ⟨n9, rfl⟩ := hw'
              have HBF2 := Lib.hid n9.below
              generalize n9.wd = wi at *
              clear XcS XcG
              have HIf2 := Lib.hid (HIf.out.over HBF2.out)
              go_wp2_with fail
              go_roundw
              case rel => exact ⟨i + 1, _, l, us, ug, ls, lg, hs, rfl, by go_num, by omega, HIf2⟩
              case measure => simp [intOf]; omega
            | true =>
              have hltR : LG.length < LS.length := of_decide_eq_true HRM.out
              go_upto_region 32 with fail
              have XcS := ext_cell _ _ (hSf) _ cS
              have XcG := ext_cell _ _ (hGf) _ cG
              clear cS cG
              refine wp_region_ext wf (by kernel_rfl) (by kernel_rfl) (Below.refl _ _) ?_
              repeat (go_big_quiet_step (fail))
              refine wpQuiet_nil ?_
              intro _ hw'
              obtain ⟨n9, rfl⟩ := hw'
              have HBF2 := Lib.hid n9.below
              generalize n9.wd = wi at *
              clear XcS XcG
              have RBf := Lib.hid (row_below2 (below_then HBF.out HBF2.out) (row_below2 HB8.out RB.out))
              have HAf := Lib.hid (HIb.out.over HBF2.out)
              have HSf := Lib.hid (((HS8.out rfl)).below HBF2.out)
              have HOf : Hid (OwnI wi B 23 .u64 (.slice ga LG.length gc) LG) := by
                have := HAf.out.or.g.own n (HAf.out.hlen hn).2.2.1
                rw [HUG.out, HEX.out.2] at this
                exact this
              have HF9 : Hid (∀ u1 v6 u2, Below wi.heap.size wi u1 → OwnI u2 B 23 .u64 v6 (LG ++ [rv]) → u1.grownBy u2 (Value.slice ga LG.length gc).ownBlock → (v6.ownBlock = (Value.slice ga LG.length gc).ownBlock ∨ v6.ownBlock = some u1.heap.size) → (u2.frozen? ⟨G, n, none⟩ = false ∧ u2.cell? ⟨G, n, none⟩ = some (.slice ga LG.length gc)) ∧ OrW w (u2.setCell ⟨G, n, none⟩ v6) g X S G H B m (some ⟨pc, qc, none⟩) kc #[.slice (some ⟨pc, qc, none⟩) m kc, .slice ast nst kst, .int .i64 c.threads] c.caps (i + 1) v8 (l.set n { l.getD n noChan with buf := (l.getD n noChan).buf.tail }) us (ug.set n v6) ls (lg.set n (LG ++ [rv])) hs) := fun u1 v6 u2 hu1 ho hg hn6 => by
                have hu := HUG.out
                rw [HEX.out.2] at hu
                rw [← hu] at hg hn6
                have HA9 := HAf.out.over hu1
                have hSB : u2.heap[G]? = u1.heap[G]? := hg.block G HA9.or.g.lt (fun e => by have := (own_lt_B (HA9.or.g.own n (HA9.hlen hn).2.2.1) e.symm).1; have := HA9.or.g.SB; omega)
                have hv6 : v6.oneCell' = true := by rcases ho.shape with ⟨rfl, -⟩ | ⟨g2, c2, rfl, -⟩ <;> rfl
                have hcell := HA9.or.g.cell (HA9.hlen hn).2.2.1
                rw [hu] at hcell
                have hsd := HA9.recv hn (by rw [HEX.out.1, HEX.out.2]; exact hltR) (HSf.out.below hu1) HOB.out.2 hGa hHa hg (by rw [HEX.out.2]; exact ho) hn6 hv6
                rw [HEX.out.2] at hsd
                exact ⟨⟨(frozen_of_block hSB).trans (HA9.or.g.fz n), (cell_of_block hSB).trans hcell⟩, hsd⟩
              have KS35 : Hid (∀ w', Below wi.heap.size wi w' → (fun w' : World => w'.cell? ⟨G, n, none⟩ = some (.slice ga LG.length gc) ∧ w'.cell? ⟨Q, 2, none⟩ = some (.int .u64 rv)) w') := fun w' hb => ⟨(hb.cell (p := ⟨G, n, none⟩) (Nat.lt_of_lt_of_le hGf HBF2.out.size)).trans ((HBF2.out.cell (p := ⟨G, n, none⟩) hGf).trans cG9.out), (rowc5 (row_below2 hb RBf.out)).2.2.1⟩
              have hl9 : LG.length ≤ 1000000 := by omega
              have HBw := Lib.hid HAf.out.or.Bw
              clear HAf HSf
              go_upto_region 35 with fail
              clear hgt hgt2
              refine untilK KS35 9 12 (by kernel_rfl) rfl ?_
              obtain ⟨u0, hu0, HU0⟩ := drew_pack wi
              rw [hu0]
              clear hu0
              have hSU0 := KS35.out _ HU0.out
              refine wpAnyU_takeW (v := ?_) 0 la0 (by kernel_rfl) (by kernel_rfl) (by kernel_rfl) (by kernel_rfl) (fun _ _ _ h => h) (fun _ => hSU0) rfl ?_ ?_
              rotate_left
              · (intro w; go_simp <;> with_reducible rfl)
              simp only [Act.put, List.setIfInBounds_toArray, List.set_cons_zero, List.set_cons_succ]
              refine wpAnyU_takeW (v := ?_) 1 la1 (by kernel_rfl) (by kernel_rfl) (by kernel_rfl) (by kernel_rfl) (fun _ _ _ h => h) (fun _ => hSU0) rfl ?_ ?_
              rotate_left
              · (intro w; go_simp <;> with_reducible rfl)
              simp only [Act.put, List.setIfInBounds_toArray, List.set_cons_zero, List.set_cons_succ]
              refine wpAnyU_takeW (v := ?_) 2 la2 (by kernel_rfl) (by kernel_rfl) (by kernel_rfl) (by kernel_rfl) (fun _ _ _ h => h) (fun _ => hSU0) rfl ?_ ?_
              rotate_left
              · (intro w; go_simp <;> with_reducible rfl)
              simp only [Act.put, List.setIfInBounds_toArray, List.set_cons_zero, List.set_cons_succ]
              refine wpAnyU_takeW (v := ?_) 3 la3 (by kernel_rfl) (by kernel_rfl) (by kernel_rfl) (by kernel_rfl) (fun _ _ _ h => h) (fun _ => hSU0) rfl ?_ ?_
              rotate_left
              · (intro w; go_simp <;> with_reducible rfl)
              simp only [Act.put, List.setIfInBounds_toArray, List.set_cons_zero, List.set_cons_succ]
              refine wpAnyU_takeW (v := ?_) 4 la4 (by kernel_rfl) (by kernel_rfl) (by kernel_rfl) (by kernel_rfl) (fun _ _ _ h => h) (fun _ => hSU0) rfl ?_ ?_
              rotate_left
              · (intro w; go_simp <;> with_reducible rfl)
              simp only [Act.put, List.setIfInBounds_toArray, List.set_cons_zero, List.set_cons_succ]
              refine tkU (v := ?_) 5 la5 hSU0 (by kernel_rfl) (fun _ _ _ h => h) rfl ?_ ?_
              rotate_left
              · (intro w hSw; (try dsimp only at hSw); go_simp <;> with_reducible rfl)
              simp only [Act.put, List.setIfInBounds_toArray, List.set_cons_zero, List.set_cons_succ]
              refine wpAnyU_takeW (v := ?_) 6 la6 (by kernel_rfl) (by kernel_rfl) (by kernel_rfl) (by kernel_rfl) (fun _ _ _ h => h) (fun _ => hSU0) rfl ?_ ?_
              rotate_left
              · (intro w; go_simp <;> with_reducible rfl)
              simp only [Act.put, List.setIfInBounds_toArray, List.set_cons_zero, List.set_cons_succ]
              refine wpAnyU_ready (rs := [7]) (by kernel_rfl) rfl ?_
              refine AllReadyU.cons la7 rfl (fun K hK => ?_) ?_
              · go_simp
                refine hK.out _ _ ?_ (fun hSU1 => ?_)
                · exact hSU0
                clear hK K hSU0
                try simp only [Act.put, List.setIfInBounds_toArray, List.set_cons_zero, List.set_cons_succ]
                refine wpAnyU_ready (rs := [8]) (by kernel_rfl) rfl ?_
                refine AllReadyU.cons la8 rfl (fun K hK => ?_) ?_
                · go_simp
                  obtain ⟨u1, nb, hv1, hX1, RN, hbn, ltn⟩ := alloc_pack u0 (.cells #[.int .u64 rv] 23)
                  rw [hv1, hX1]
                  have HU1 := Lib.hid (below_then HU0.out hbn.out)
                  have HO1 : Hid (OwnI u1 B 23 .u64 (.slice ga LG.length gc) LG) := HOf.out.below HU1.out
                  clear hv1 hX1 hbn ltn
                  refine hK.out _ _ ?_ (fun hSU2 => ?_)
                  · exact KS35.out _ HU1.out
                  clear hK K hSU1
                  try simp only [Act.put, List.setIfInBounds_toArray, List.set_cons_zero, List.set_cons_succ]
                  refine wpAnyU_ready (rs := [9]) (by kernel_rfl) rfl ?_
                  refine AllReadyU.free la9 rfl (by kernel_rfl) (fun K hK => ?_) ?_
                  · refine step_append_u64n (w := u1) (by rfl) _ _ (by rfl) B (.slice ga LG.length gc) LG (by rfl) HO1.out rv nb (by rfl) (by exact cell_of_row _ _ 0 _ _ _ RN.out) hl9 (by have := HU1.out.size; have := HBw.out; omega) ?_
                    intro v6 u2 ho6 hg6 hn6
                    obtain ⟨p6, n6, q6, rfl⟩ : ∃ p n q, v6 = .slice p n q := own_sl ho6
                    obtain ⟨⟨fz0, y0⟩, hfin⟩ := HF9.out u1 _ _ HU1.out ho6 hg6 hn6
                    have HFIN := Lib.hid hfin
                    have HFZ := Lib.hid (And.intro fz0 y0)
                    clear fz0 y0 hfin ho6 hg6 hn6
                    refine hK.out _ _ ?_
                    clear hK K hSU2
                    try simp only [Act.put, List.setIfInBounds_toArray, List.set_cons_zero, List.set_cons_succ]
                    refine wpAnyU_takeW (v := ?_) 10 la10 (by kernel_rfl) (by kernel_rfl) (by kernel_rfl) (by kernel_rfl) (fun _ _ _ h => h) (past_k (by kernel_rfl)) rfl ?_ ?_
                    rotate_left
                    · (intro w; go_simp <;> with_reducible rfl)
                    simp only [Act.put, List.setIfInBounds_toArray, List.set_cons_zero, List.set_cons_succ]
                    refine wpAnyU_ready (rs := [11]) (by kernel_rfl) rfl ?_
                    refine AllReadyU.free la11 rfl (by kernel_rfl) (fun K hK => ?_) ?_
                    · have fz := HFZ.out.1
                      have z1 := HFZ.out.2
                      go_simp
                      clear z1 fz
                      refine hK.out _ _ ?_
                      clear hK K
                      try simp only [Act.put, List.setIfInBounds_toArray, List.set_cons_zero, List.set_cons_succ]
                      refine wpAnyU_done (by kernel_rfl) ?_ _
                      obtain ⟨wg, hwg9⟩ : ∃ wg, u2.setCell ⟨G, n, none⟩ (.slice p6 n6 q6) = wg := ⟨_, rfl⟩
                      rw [hwg9] at HFIN
                      rw [hwg9]
                      clear hwg9 HF9 HFZ
                      go_wp2_with fail
                      go_roundw
                      case rel => exact ⟨i + 1, v8, _, _, _, _, _, _, rfl, by go_num, by omega, HFIN⟩
                      case measure => simp [intOf]; omega
                    exact AllReadyU.nil
                  exact AllReadyU.nil
                exact AllReadyU.nil
              exact AllReadyU.nil
          · as_aux_lemma =>
            have TA := Lib.hid (HIa.out.applyC hn hl3 hi)
            rw [hhh] at TA
            clear hcp hhh
            obtain ⟨o0, o1, o2, o3, o4, o5, o6⟩ := rowc7 RA.out
            obtain ⟨r0, r1, r2, r3, r4⟩ := rowc5 RB.out
            go_wp2_with fail
            refine TA.out.mono ?_; rintro e wb ⟨v8, rfl, hs8, hb8⟩
            have HB8 := Lib.hid hb8
            have HSb := Lib.hid hs8
            clear o0 o1 o2 o3 o4 o5 o6 r0 r1 r2 r3 r4 TA hs8 hb8
            have HIc := Lib.hid (HIa.out.over HB8.out)
            obtain ⟨sa, sc, ga, gc, pc, qc, cS, cG, cH, hac, hpc, ccap, hus, hug⟩ := HIc.out.reads hn
            have HUS := Lib.hid hus
            have HUG := Lib.hid hug
            rw [HEX.out.1] at cS
            rw [HEX.out.2] at cG
            rw [HCP.out] at ccap
            rw [HHH.out] at cH
            subst hac
            obtain ⟨x0, x1, x2⟩ := rowc3 HIc.out.cr
            have hSb : S < wb.heap.size := by have := HB8.out.size; omega
            have hGb : G < wb.heap.size := by have := HB8.out.size; omega
            have hXb : X < wb.heap.size := by have := HB8.out.size; omega
            have hPb : P < wb.heap.size := by have := HB8.out.size; omega
            have RAb := Lib.hid (row_below2 HB8.out RA.out)
            obtain ⟨p0, p1, p2, p3, p4, p5, p6⟩ := rowc7 RAb.out
            clear hus hug x1 x2 p1 p2 p3 p4 p5 p6
            go_upto_region 24 with fail
            have XcS := ext_cell _ _ (hSb) _ cS
            have XcG := ext_cell _ _ (hGb) _ cG
            have Xx0 := ext_cell _ _ (hXb) _ x0
            have Xccap := ext_cell _ _ (hpc) _ ccap
            have Xp0 := ext_cell _ _ (hPb) _ p0
            clear cS cG x0 ccap p0
            refine wp_region_ext wb (by kernel_rfl) (by kernel_rfl) (Below.refl _ _) ?_
            repeat (go_big_quiet_step (fail))
            refine wpQuiet_nil ?_
            intro _ hw'
            obtain ⟨n9, rfl⟩ := hw'
            have HBF := Lib.hid n9.below
            have cS9 := Lib.hid (XcS n9)
            have cG9 := Lib.hid (XcG n9)
            have p09 := Xp0 n9
            have cH9 := Lib.hid ((HBF.out.cell (p := ⟨H, n, none⟩) (show H < wb.heap.size by have := HB8.out.size; omega)).trans cH)
            generalize n9.wd = wf at *
            clear cH
            have HIb := Lib.hid (HIc.out.over HBF.out)
            have HS8 := Lib.hid fun h => (HSb.out h).below HBF.out
            have HIf := Lib.hid HIb.out.wide
            clear XcS XcG Xx0 Xccap Xp0 HIc HSb
            have hHf : H < wf.heap.size := by have := HB8.out.size; have := HBF.out.size; omega
            have hfz := Lib.hid (HIb.out.or.hfz n)
            have hHS : H < wa.heap.size := hHa
            cases hh with
            | true =>
              have HFIN := Lib.hid (HIb.out.closed hn HHH.out)
              have d0 := cH9.out
              have fz := hfz.out
              obtain ⟨wg, hwg9⟩ : ∃ wg, wf.setCell ⟨H, n, none⟩ (.bool true) = wg := ⟨_, rfl⟩
              rw [hwg9] at HFIN
              have HWG := Lib.hid hwg9
              clear hwg9
              go_upto_region 40 with fail
              try rw [HWG.out]
              clear d0 fz HWG
              go_wp2_with fail
              go_roundw
              case rel => exact ⟨i + 1, _, l, us, ug, ls, lg, hs, rfl, by go_num, by omega, HFIN⟩
              case measure => simp [intOf]; omega
            | false =>
              have HFIN := Lib.hid (HIb.out.close hn ((HS8.out rfl).mono (fun b hb e => by have hb2 : wa.heap.size ≤ b := hb; omega)))
              have d0 := cH9.out
              have fz := hfz.out
              obtain ⟨wg, hwg9⟩ : ∃ wg, wf.setCell ⟨H, n, none⟩ (.bool true) = wg := ⟨_, rfl⟩
              rw [hwg9] at HFIN
              have HWG := Lib.hid hwg9
              clear hwg9
              go_upto_region 40 with fail
              try rw [HWG.out]
              clear d0 fz HWG
              go_wp2_with fail
              go_roundw
              case rel => exact ⟨i + 1, v8, _, us, ug, ls, lg, _, rfl, by go_num, by omega, HFIN⟩
              case measure => simp [intOf]; omega
      · have hge : ¬ (i : Int) < 25 := by omega
        go_wp2
        go_ret
        exact ⟨rfl, HI.out.below⟩
set_option maxRecDepth 100000 in
theorem lifted (os : Os) (started : os.Started) (H : Type) (enc : TypeId × Value → H) :
    ReturnsInHanded {} Try.checked os 4 .any (Rows.modelOrderSpec.pre6 enc Try.prog Try.f4 Rows.modelOrderRow.domain false) (Rows.modelOrderSpec.post enc Try.prog Try.f4 false true false false) := by
  refine returnsInHanded_of_change_sized (C := Try.checked) own started (by kernel_rfl) Try.func4
    (ChangeSpec.witness6 (enc := enc) (C := Try.checked) false ⟨#[], #[.slice none 0 0], []⟩ 8 (by kernel_rfl) (by kernel_rfl) (by kernel_rfl) (by kernel_rfl)) ?_
  intro W base args ds gs before hval0 hW _ hsz0 _
  have hsz : (DataW.weightsEach Try.prog (Try.f4.params.toList ++ Rows.modelOrderSpec.plain.varTypes Try.prog) (ds ++ gs)).all (· ≤ reachBytes) = true := hsz0
  clear hsz0
  have hval : ∀ (j : Nat) t v, Try.f4.params[j]? = some t → args[j]? = some v → Value.okWide Try.prog W .any base t v := hval0
  have hW' := hW
  obtain ⟨p, q, hA0, hV, rfl, _, _⟩ := hW
  have hA : DataW.TrodAll enc Try.prog W 0 (fun _ => true) true Try.f4.params.toList args.toList ds p := hA0
  rw [Try.params4] at hA hval hsz
  obtain ⟨v0, vs0, d0, ds0, p0, q0, hargs, rfl, rfl, h0, rr0⟩ := trodAll_cons hA
  obtain ⟨rfl, rfl, rfl⟩ := trodAll_nil rr0
  obtain rfl : args = #[v0] := by cases args; simp_all
  obtain ⟨rfl, rfl⟩ := trodVars_none hV
  have k0 := h0
  obtain ⟨l0, s0⟩ := view_sl (k := .u8) Try.underlying22 Try.underlying5 (by kernel_rfl) (fun elems sp hd => sized_slice hsz (j := 0) (t := 22) (e := 5) rfl (by rw [hd]; rfl) Try.underlying22) (of_decide_eq_true (by kernel_rfl)) (hval 0 22 v0 rfl rfl) h0
  clear hA0 hval0
  simp only [List.append_nil] at hW'
  have hlt := hW'.lt
  refine (walk W v0 l0 s0).mono fun e W' ⟨he, hb⟩ => ?_
  subst he
  exact ⟨_, rfl, _, _, _, [], _, [], hW', trodAll_cons_mk (shut_bool Try.underlying4 _) trodAll_mk0, (trodAll_cons_mk (Below.trod Try.laidOut (by kernel_rfl) (of_decide_eq_true (by kernel_rfl)) k0 hb (fun x hx => by simpa using hlt x (by simp [hx]))) trodAll_mk0), rfl, hb.frame _, fun h => by cases h⟩
theorem over : Rows.modelOrderRow.holds Try.pinned (OpenSpec.ofChange Rows.modelOrderSpec) :=
  OpenClaim.holds_of_wide 4 Try.f4 rfl rfl rfl rfl rfl rfl rfl ⟨rfl, rfl, rfl, rfl, rfl⟩ rfl rfl rfl rfl rfl (by kernel_rfl) Try.func4 (by kernel_rfl)
    (of_decide_eq_true (by kernel_rfl)) (by unfold Func.isWrapper; first | (rw [if_pos (by decide +kernel)]; kernel_rfl) | (rw [if_neg (by decide +kernel)]; exact ⟨rfl, rfl⟩))
    (fun os started H enc _ => lifted os started H enc)
/-- THE STATEMENT -/
theorem proved : Rows.ModelOrderSaid :=
  over
end Go.Proofs.Ytialclohhemkiaa.modelOrder
