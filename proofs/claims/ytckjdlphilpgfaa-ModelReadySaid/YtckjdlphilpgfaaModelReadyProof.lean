/- Proved: ModelReady returns true for every list of codes and every int channel, and its arguments read afterwards as before; no condition. -/
import Derived.Deep.DeepCutAuto
import Derived.Deep.CutBlock
import Derived.LoopTactic
import Derived.WalkKit
import Derived.ProofKit
import Derived.OpenShut
import Derived.SizedLaws
import Derived.Test.YtckjdlphilpgfaaB01
import Derived.Test.YtckjdlphilpgfaaB17
import Derived.Test.YtckjdlphilpgfaaB20
import Derived.Test.YtckjdlphilpgfaaB21
import Derived.Test.YtckjdlphilpgfaaB22
import Derived.Test.YtckjdlphilpgfaaB23
namespace Go.Proofs.Ytckjdlphilpgfaa.modelReady
open Go.ChangeShapes Go.WideShapes Go.ChangeAt Go.RowKit
set_option linter.unusedVariables false
set_option linter.unusedSimpArgs false
theorem codes_is {w : World} {g : Nat} (h : CodesE w g) : ∃ cs f, w.heap[g]? = some (.cells cs 71 f) := by
  obtain ⟨r, val, v, l, k, h1, -⟩ := h
  exact ⟨_, _, h1⟩
theorem below_poke {w a b : World} {g : Nat} (h : Below w.heap.size w a) (hg : a.grownBy b (some g)) (hw : w.heap.size ≤ g) : Below w.heap.size w b := below_grown h hg hw
set_option maxRecDepth 100000 in
set_option maxHeartbeats 16000000 in
theorem walk (w : World) (v0 : Value) (l0 : List Int) (s0 : SlI w .u8 v0 l0) (a1 : Int) (w1 : (Lit.int .i64 a1).wf = true) :
    Calls Try.prog 7 #[v0, .int .i64 a1] w fun e w' => e = .returned (.bool true) ∧ Below w.heap.size w w' := by
  have AW := Lib.hid (awake_any w)
  have HS0 := Lib.hid s0
  clear s0
  go_enter Try.func7, Try.ntmps7
  go_wp2_with fail
  refine AW.out.mono ?_; rintro e w1 ⟨rfl, hb1⟩
  have HB1 := Lib.hid hb1
  clear hb1 AW
  go_wp2_with fail
  refine (new_any _ l0 200 _ (HS0.out.below HB1.out) (by omega)).mono ?_; rintro e w2 ⟨rfl, hc2, hb2⟩
  have hC2 : Hid (CodesE w2 w1.heap.size) := ⟨_, _, hc2⟩
  have HB2 := Lib.hid (below_then HB1.out hb2)
  obtain ⟨g, hg⟩ : ∃ g, w1.heap.size = g := ⟨_, rfl⟩
  have hwg : w.heap.size ≤ g := by have := HB1.out.size; omega
  rw [hg] at hC2
  rw [hg]
  clear hc2 hb2 hg HS0 HB1
  go_wp2_with fail
  refine (wideE2 g w2 hC2.out).mono ?_; rintro e w3 ⟨uc, c, rfl, hcx, hgd, hc3, hg3⟩
  have HC3 := Lib.hid hc3
  have HCX := Lib.hid hcx.conf
  have HGD := Lib.hid hgd
  have HB3 := Lib.hid (below_poke HB2.out hg3 hwg)
  obtain ⟨vc, vs, rfl, hsc, hss, -, -⟩ := hcx
  obtain ⟨ac, cc, rfl, -⟩ := hsc.len
  obtain ⟨ast, cst, rfl, -⟩ := hss.len
  clear hc3 hg3 hgd hsc hss HB2 hC2
  obtain ⟨Wx, hWx⟩ : ∃ Wx, (w3.alloc (.cells #[.slice none 0 0, .slice none 0 0, .int .i64 0] 34)).setRow w3.heap.size #[.slice ac c.caps.length cc, .slice ast c.starts.length cst, .int .i64 c.threads] = Wx := ⟨_, rfl⟩
  have Nx : Hid ((w3.alloc (.cells #[.slice none 0 0, .slice none 0 0, .int .i64 0] 34)).heap[w3.heap.size]? = some (.cells #[.slice none 0 0, .slice none 0 0, .int .i64 0] 34 (0, 0))) := heap_alloc_new _ _
  have HBx : Hid (Below w3.heap.size w3 Wx) := hWx ▸ row_below (below_new (Below.refl _ _) _) (Nat.le_refl _) _
  have Rx : Hid (Wx.heap[w3.heap.size]? = some (.cells #[.slice ac c.caps.length cc, .slice ast c.starts.length cst, .int .i64 c.threads] 34 (0, 0))) := hWx ▸ setRow_heap _ _ _ _ _ (0, 0) Nx.out
  have HWx := Lib.hid hWx
  clear hWx
  go_upto_region 5 with (refine wpList_store_row rfl 34 _ _ rfl (w3.heap.size) _ rfl rfl 34 #[.slice none 0 0, .slice none 0 0, .int .i64 0] Nx.out (by kernel_rfl) rfl (by simp [Value.oneCell']) ?_)
  rw [HWx.out]
  try simp only [Act.put]
  clear HWx Nx
  obtain ⟨X, hX⟩ : ∃ X, w3.heap.size = X := ⟨_, rfl⟩
  rw [hX] at Rx
  rw [hX]
  clear hX
  have HC4 := Lib.hid (HC3.out.kept HC3.out.lt HBx.out)
  have HB4 := Lib.hid (below_then HB3.out HBx.out)
  have HCY := Lib.hid (HCX.out.below HBx.out)
  have HTN := Lib.hid fun w' (hb : Below Wx.heap.size Wx w') => qNew_any _ c w' (HCY.out.below hb) HGD.out
  have HTR := Lib.hid fun w' (hb : Below Wx.heap.size Wx w') => rNew_any _ c w' (HCY.out.below hb) HGD.out.len
  have HCW : Hid (∀ x ∈ c.caps, x = IntKind.i64.wrap x) := fun x hx => i64_small _ (by have := (HGD.out.caps x hx).1; omega) (by have := (HGD.out.caps x hx).2; omega)
  have HCL : Hid (c.caps.length ≤ 8) := HGD.out.len
  clear HC3 HB3 HCX
  go_upto_if 25 with (fail)
  go_cut [25] (fun s25 wx => s25 = .bool false ∧ Hid (Below Wx.heap.size Wx wx))
  case first =>
    go_upto_region 5 with fail
    have KS5 : Hid (∀ w', Below Wx.heap.size Wx w' → (fun w' : World => w'.cell? ⟨X, 0, none⟩ = some (.slice ac c.caps.length cc) ∧ w'.cell? ⟨X, 1, none⟩ = some (.slice ast c.starts.length cst) ∧ w'.cell? ⟨X, 2, none⟩ = some (.int .i64 c.threads)) w') := fun w' hb => rowc3 ((hb.block X (Array.getElem?_eq_some_iff.1 Rx.out).1).trans Rx.out)
    refine untilK KS5 4 6 (by kernel_rfl) rfl ?_
    obtain ⟨u0, hu0, HU0⟩ := drew_pack Wx
    rw [hu0]
    clear hu0
    have hSU0 := KS5.out _ HU0.out
    refine wpAnyU_ready (rs := [0, 2]) (by kernel_rfl) rfl ?_
    refine AllReadyU.cons ListAt.zero rfl (fun K hK => ?_) ?_
    · obtain ⟨d0, d1, d2⟩ := KS5.out _ HU0.out
      go_simp
      clear d0 d1 d2
      refine hK.out _ _ ?_ (fun hSU1 => ?_)
      · exact hSU0
      clear hK K hSU0
      try simp only [Act.put, List.setIfInBounds_toArray, List.set_cons_zero, List.set_cons_succ]
      refine wpAnyU_ready (rs := [1, 2]) (by kernel_rfl) rfl ?_
      refine AllReadyU.cons la1 rfl (fun K hK => ?_) ?_
      · go_simp
        go_at_call 29
        refine (HTN.out _ HU0.out).mono ?_
        rintro e u1 ⟨va, rfl, hsa, hb⟩
        have HSA := Lib.hid (And.intro hsa (show Below u1.heap.size u1 u1 from Below.refl _ _))
        have HU1 := Lib.hid (below_then HU0.out hb)
        clear hsa hb
        refine hK.out _ _ ?_ (fun hSU2 => ?_)
        · exact KS5.out _ HU1.out
        clear hK K hSU1
        try simp only [Act.put, List.setIfInBounds_toArray, List.set_cons_zero, List.set_cons_succ]
        refine wpAnyU_ready (rs := [2]) (by kernel_rfl) rfl ?_
        refine AllReadyU.cons la2 rfl (fun K hK => ?_) ?_
        · obtain ⟨d0, d1, d2⟩ := KS5.out _ HU1.out
          go_simp
          clear d0 d1 d2
          refine hK.out _ _ ?_ (fun hSU3 => ?_)
          · exact hSU2
          clear hK K hSU2
          try simp only [Act.put, List.setIfInBounds_toArray, List.set_cons_zero, List.set_cons_succ]
          refine wpAnyU_ready (rs := [3]) (by kernel_rfl) rfl ?_
          refine AllReadyU.cons la3 rfl (fun K hK => ?_) ?_
          · go_simp
            go_at_call 30
            refine (HTR.out _ HU1.out).mono ?_
            rintro e u2 ⟨vb, rfl, hsb, hb⟩
            have HSB := Lib.hid (nchE_slH hsb (by have := HCL.out; omega) HCW.out)
            have HU2 := Lib.hid (below_then HU1.out hb)
            have HSA := Lib.hid (And.intro (HSA.out.1.below hb) (show Below u2.heap.size u2 u2 from Below.refl _ _))
            clear hsb hb
            refine hK.out _ _ ?_ (fun hSU4 => ?_)
            · exact KS5.out _ HU2.out
            clear hK K hSU3
            try simp only [Act.put, List.setIfInBounds_toArray, List.set_cons_zero, List.set_cons_succ]
            refine wpAnyU_ready (rs := [4]) (by kernel_rfl) rfl ?_
            refine AllReadyU.free la4 rfl (by kernel_rfl) (fun K hK => ?_) ?_
            · go_simp
              go_at_call 17
              refine (rSame_any _ _ _ _ _ HSA.out.1 HSB.out).mono ?_
              rintro e u3 ⟨rfl, hb⟩
              rw [sameB_refl]
              have HU3 := Lib.hid (below_then HU2.out hb)
              clear hb
              refine hK.out _ _ ?_
              clear hK K hSU4
              try simp only [Act.put, List.setIfInBounds_toArray, List.set_cons_zero, List.set_cons_succ]
              refine wpAnyU_takeW (v := ?_) 5 la5 (by kernel_rfl) (by kernel_rfl) (by kernel_rfl) (by kernel_rfl) (fun _ _ _ h => h) (past_k (by kernel_rfl)) rfl ?_ ?_
              rotate_left
              · (intro w; go_simp <;> with_reducible rfl)
              simp only [Act.put, List.setIfInBounds_toArray, List.set_cons_zero, List.set_cons_succ]
              refine wpAnyU_done (by kernel_rfl) ?_ _
              go_wp2_with fail
              go_meet
              exact ⟨rfl, HU3⟩
            exact AllReadyU.nil
          exact AllReadyU.nil
        exact AllReadyU.nil
      refine AllReadyU.cons la2 rfl (fun K hK => ?_) ?_
      · obtain ⟨d0, d1, d2⟩ := KS5.out _ HU0.out
        go_simp
        clear d0 d1 d2
        refine hK.out _ _ ?_ (fun hSU5 => ?_)
        · exact hSU1
        clear hK K hSU1
        try simp only [Act.put, List.setIfInBounds_toArray, List.set_cons_zero, List.set_cons_succ]
        refine wpAnyU_ready (rs := [1]) (by kernel_rfl) rfl ?_
        refine AllReadyU.cons la1 rfl (fun K hK => ?_) ?_
        · go_simp
          go_at_call 29
          refine (HTN.out _ HU0.out).mono ?_
          rintro e u1 ⟨va, rfl, hsa, hb⟩
          have HSA := Lib.hid (And.intro hsa (show Below u1.heap.size u1 u1 from Below.refl _ _))
          have HU1 := Lib.hid (below_then HU0.out hb)
          clear hsa hb
          refine hK.out _ _ ?_ (fun hSU6 => ?_)
          · exact KS5.out _ HU1.out
          clear hK K hSU5
          try simp only [Act.put, List.setIfInBounds_toArray, List.set_cons_zero, List.set_cons_succ]
          refine wpAnyU_ready (rs := [3]) (by kernel_rfl) rfl ?_
          refine AllReadyU.cons la3 rfl (fun K hK => ?_) ?_
          · go_simp
            go_at_call 30
            refine (HTR.out _ HU1.out).mono ?_
            rintro e u2 ⟨vb, rfl, hsb, hb⟩
            have HSB := Lib.hid (nchE_slH hsb (by have := HCL.out; omega) HCW.out)
            have HU2 := Lib.hid (below_then HU1.out hb)
            have HSA := Lib.hid (And.intro (HSA.out.1.below hb) (show Below u2.heap.size u2 u2 from Below.refl _ _))
            clear hsb hb
            refine hK.out _ _ ?_ (fun hSU7 => ?_)
            · exact KS5.out _ HU2.out
            clear hK K hSU6
            try simp only [Act.put, List.setIfInBounds_toArray, List.set_cons_zero, List.set_cons_succ]
            refine wpAnyU_ready (rs := [4]) (by kernel_rfl) rfl ?_
            refine AllReadyU.free la4 rfl (by kernel_rfl) (fun K hK => ?_) ?_
            · go_simp
              go_at_call 17
              refine (rSame_any _ _ _ _ _ HSA.out.1 HSB.out).mono ?_
              rintro e u3 ⟨rfl, hb⟩
              rw [sameB_refl]
              have HU3 := Lib.hid (below_then HU2.out hb)
              clear hb
              refine hK.out _ _ ?_
              clear hK K hSU7
              try simp only [Act.put, List.setIfInBounds_toArray, List.set_cons_zero, List.set_cons_succ]
              refine wpAnyU_takeW (v := ?_) 5 la5 (by kernel_rfl) (by kernel_rfl) (by kernel_rfl) (by kernel_rfl) (fun _ _ _ h => h) (past_k (by kernel_rfl)) rfl ?_ ?_
              rotate_left
              · (intro w; go_simp <;> with_reducible rfl)
              simp only [Act.put, List.setIfInBounds_toArray, List.set_cons_zero, List.set_cons_succ]
              refine wpAnyU_done (by kernel_rfl) ?_ _
              go_wp2_with fail
              go_meet
              exact ⟨rfl, HU3⟩
            exact AllReadyU.nil
          exact AllReadyU.nil
        exact AllReadyU.nil
      exact AllReadyU.nil
    refine AllReadyU.cons la2 rfl (fun K hK => ?_) ?_
    · obtain ⟨d0, d1, d2⟩ := KS5.out _ HU0.out
      go_simp
      clear d0 d1 d2
      refine hK.out _ _ ?_ (fun hSU8 => ?_)
      · exact hSU0
      clear hK K hSU0
      try simp only [Act.put, List.setIfInBounds_toArray, List.set_cons_zero, List.set_cons_succ]
      refine wpAnyU_ready (rs := [0]) (by kernel_rfl) rfl ?_
      refine AllReadyU.cons ListAt.zero rfl (fun K hK => ?_) ?_
      · obtain ⟨d0, d1, d2⟩ := KS5.out _ HU0.out
        go_simp
        clear d0 d1 d2
        refine hK.out _ _ ?_ (fun hSU9 => ?_)
        · exact hSU8
        clear hK K hSU8
        try simp only [Act.put, List.setIfInBounds_toArray, List.set_cons_zero, List.set_cons_succ]
        refine wpAnyU_ready (rs := [1]) (by kernel_rfl) rfl ?_
        refine AllReadyU.cons la1 rfl (fun K hK => ?_) ?_
        · go_simp
          go_at_call 29
          refine (HTN.out _ HU0.out).mono ?_
          rintro e u1 ⟨va, rfl, hsa, hb⟩
          have HSA := Lib.hid (And.intro hsa (show Below u1.heap.size u1 u1 from Below.refl _ _))
          have HU1 := Lib.hid (below_then HU0.out hb)
          clear hsa hb
          refine hK.out _ _ ?_ (fun hSU10 => ?_)
          · exact KS5.out _ HU1.out
          clear hK K hSU9
          try simp only [Act.put, List.setIfInBounds_toArray, List.set_cons_zero, List.set_cons_succ]
          refine wpAnyU_ready (rs := [3]) (by kernel_rfl) rfl ?_
          refine AllReadyU.cons la3 rfl (fun K hK => ?_) ?_
          · go_simp
            go_at_call 30
            refine (HTR.out _ HU1.out).mono ?_
            rintro e u2 ⟨vb, rfl, hsb, hb⟩
            have HSB := Lib.hid (nchE_slH hsb (by have := HCL.out; omega) HCW.out)
            have HU2 := Lib.hid (below_then HU1.out hb)
            have HSA := Lib.hid (And.intro (HSA.out.1.below hb) (show Below u2.heap.size u2 u2 from Below.refl _ _))
            clear hsb hb
            refine hK.out _ _ ?_ (fun hSU11 => ?_)
            · exact KS5.out _ HU2.out
            clear hK K hSU10
            try simp only [Act.put, List.setIfInBounds_toArray, List.set_cons_zero, List.set_cons_succ]
            refine wpAnyU_ready (rs := [4]) (by kernel_rfl) rfl ?_
            refine AllReadyU.free la4 rfl (by kernel_rfl) (fun K hK => ?_) ?_
            · go_simp
              go_at_call 17
              refine (rSame_any _ _ _ _ _ HSA.out.1 HSB.out).mono ?_
              rintro e u3 ⟨rfl, hb⟩
              rw [sameB_refl]
              have HU3 := Lib.hid (below_then HU2.out hb)
              clear hb
              refine hK.out _ _ ?_
              clear hK K hSU11
              try simp only [Act.put, List.setIfInBounds_toArray, List.set_cons_zero, List.set_cons_succ]
              refine wpAnyU_takeW (v := ?_) 5 la5 (by kernel_rfl) (by kernel_rfl) (by kernel_rfl) (by kernel_rfl) (fun _ _ _ h => h) (past_k (by kernel_rfl)) rfl ?_ ?_
              rotate_left
              · (intro w; go_simp <;> with_reducible rfl)
              simp only [Act.put, List.setIfInBounds_toArray, List.set_cons_zero, List.set_cons_succ]
              refine wpAnyU_done (by kernel_rfl) ?_ _
              go_wp2_with fail
              go_meet
              exact ⟨rfl, HU3⟩
            exact AllReadyU.nil
          exact AllReadyU.nil
        exact AllReadyU.nil
      exact AllReadyU.nil
    exact AllReadyU.nil
  case rest =>
    obtain ⟨rfl, HBc⟩ := hcut
    obtain ⟨wy, rfl⟩ : ∃ wy : World, wy = wc := ⟨_, rfl⟩
    have HB5 := Lib.hid (below_then HB4.out HBc.out)
    have HC5 := Lib.hid (HC4.out.kept HC4.out.lt HBc.out)
    clear HBc HB4 HC4 HCY HTN HTR HCW HCL HGD Rx HBx
    go_wp2_with fail
    refine (chans_any g wy HC5.out).mono ?_; rintro e w6 ⟨v, rfl, l, hsv, hcr, hc6, hg6⟩
    have HV := Lib.hid hsv
    have HB6 := Lib.hid (below_poke HB5.out hg6 hwg)
    have HC6 := Lib.hid hc6
    have hll := hcr.hi
    obtain ⟨av, cv, rfl, -⟩ := hsv.len
    clear hsv hcr hc6 hg6 HB5 HC5
    go_wp2_with fail
    go_loopw [8] (fun u8 wr => ∃ i : Nat, u8 = .int .i64 ((i : Int) - 1) ∧ i ≤ l.length + 2 ∧ Hid (Below w6.heap.size w6 wr)) (fun u8 _ => l.length + 2 - (intOf u8 + 1).toNat)
    case atStart => exact ⟨0, rfl, by omega, Below.refl _ _⟩
    case round =>
      obtain ⟨i, rfl, hi, HBi⟩ := hrel
      obtain ⟨wo, rfl⟩ : ∃ wo : World, wo = wr := ⟨_, rfl⟩
      by_cases hlt : (i : Int) - 1 ≤ (l.length : Int)
      · have BLIT : Hid (Below w6.heap.size w6 (wo.alloc (.cells #[.bool false, .bool true] 4))) := below_new HBi.out _
        have R9 : Hid ((wo.alloc (.cells #[.bool false, .bool true] 4)).heap[wo.heap.size]? = some (.cells #[.bool false, .bool true] 4 (0, 0))) := heap_alloc_new _ _
        obtain ⟨w7, hw7⟩ : ∃ w7, wo.alloc (.cells #[.bool false, .bool true] 4) = w7 := ⟨_, rfl⟩
        obtain ⟨N, hN⟩ : ∃ N, wo.heap.size = N := ⟨_, rfl⟩
        rw [hw7] at BLIT R9
        rw [hN] at R9
        have HW7 := Lib.hid hw7
        clear hw7
        obtain ⟨nn, hnn⟩ : ∃ nn, (i : Int) - 1 = nn := ⟨_, rfl⟩
        rw [hnn] at hlt ⊢
        go_wp2_with fail
        rw [HW7.out]
        try rw [hN]
        clear HW7 hN
        go_loopw [36] (fun u36 wr => ∃ k : Nat, u36 = .int .i64 k ∧ k ≤ 2 ∧ Hid (Below w7.heap.size w7 wr)) (fun u36 _ => 2 - (intOf u36).toNat)
        case atStart => exact ⟨0, rfl, by omega, Below.refl _ _⟩
        case round =>
          obtain ⟨k, rfl, hk, HBk⟩ := hrel
          obtain ⟨wp, rfl⟩ : ∃ wp : World, wp = wr := ⟨_, rfl⟩
          have R9k := Lib.hid ((HBk.out.block N (Array.getElem?_eq_some_iff.1 R9.out).1).trans R9.out)
          have hsd : ∀ kk : Nat, kk < 2 → ∃ sd : Bool, wp.cell? ⟨N, kk, none⟩ = some (.bool sd) := fun kk h => by
            obtain rfl | rfl : kk = 0 ∨ kk = 1 := by omega
            · exact ⟨false, cell_of_row _ _ 0 _ _ _ R9k.out⟩
            · exact ⟨true, cell_of_row _ _ 1 _ _ _ R9k.out⟩
          by_cases hk2 : k < 2
          · have hkI : (k : Int) < 2 := by omega
            obtain ⟨sd, c0⟩ := hsd k hk2
            clear hsd
            obtain ⟨Wy, hWy⟩ : ∃ Wy, (wp.alloc (.cells #[.bool false, .int .i64 0, .int .u64 0] 63)).setRow wp.heap.size #[.bool sd, .int .i64 nn, .int .u64 0] = Wy := ⟨_, rfl⟩
            have Ny : Hid ((wp.alloc (.cells #[.bool false, .int .i64 0, .int .u64 0] 63)).heap[wp.heap.size]? = some (.cells #[.bool false, .int .i64 0, .int .u64 0] 63 (0, 0))) := heap_alloc_new _ _
            have HBy : Hid (Below wp.heap.size wp Wy) := hWy ▸ row_below (below_new (Below.refl _ _) _) (Nat.le_refl _) _
            have Ry : Hid (Wy.heap[wp.heap.size]? = some (.cells #[.bool sd, .int .i64 nn, .int .u64 0] 63 (0, 0))) := hWy ▸ setRow_heap _ _ _ _ _ (0, 0) Ny.out
            have HWy := Lib.hid hWy
            clear hWy
            go_upto_region 15 with (refine wpList_store_row rfl 63 _ _ rfl (wp.heap.size) _ rfl rfl 63 #[.bool false, .int .i64 0, .int .u64 0] Ny.out (by kernel_rfl) rfl (by simp [Value.oneCell']) ?_)
            rw [HWy.out]
            try simp only [Act.put]
            clear HWy Ny
            obtain ⟨Y, hY⟩ : ∃ Y, wp.heap.size = Y := ⟨_, rfl⟩
            rw [hY] at Ry
            rw [hY]
            clear hY
            clear c0
            obtain ⟨Wz, hWz⟩ : ∃ Wz, (Wy.alloc (.cells #[.bool false, .int .i64 0, .int .u64 0] 63)).setRow Wy.heap.size #[.bool sd, .int .i64 a1, .int .u64 0] = Wz := ⟨_, rfl⟩
            have Nz : Hid ((Wy.alloc (.cells #[.bool false, .int .i64 0, .int .u64 0] 63)).heap[Wy.heap.size]? = some (.cells #[.bool false, .int .i64 0, .int .u64 0] 63 (0, 0))) := heap_alloc_new _ _
            have HBz : Hid (Below Wy.heap.size Wy Wz) := hWz ▸ row_below (below_new (Below.refl _ _) _) (Nat.le_refl _) _
            have Rz : Hid (Wz.heap[Wy.heap.size]? = some (.cells #[.bool sd, .int .i64 a1, .int .u64 0] 63 (0, 0))) := hWz ▸ setRow_heap _ _ _ _ _ (0, 0) Nz.out
            have HWz := Lib.hid hWz
            clear hWz
            go_upto_region 16 with (refine wpList_store_row rfl 63 _ _ rfl (Wy.heap.size) _ rfl rfl 63 #[.bool false, .int .i64 0, .int .u64 0] Nz.out (by kernel_rfl) rfl (by simp [Value.oneCell']) ?_)
            rw [HWz.out]
            try simp only [Act.put]
            clear HWz Nz
            obtain ⟨Z, hZ⟩ : ∃ Z, Wy.heap.size = Z := ⟨_, rfl⟩
            rw [hZ] at Rz
            rw [hZ]
            clear hZ
            have HBz2 := Lib.hid (below_then HBk.out (below_then HBy.out HBz.out))
            have HVz := Lib.hid (HV.out.below (below_then BLIT.out HBz2.out))
            have Ry2 := Lib.hid ((HBz.out.block Y (Array.getElem?_eq_some_iff.1 Ry.out).1).trans Ry.out)
            have TQ := Lib.hid fun x w' (hb : Below Wz.heap.size Wz w') => qready_any _ l x w' (HVz.out.below hb)
            have TR := Lib.hid fun x w' (hb : Below Wz.heap.size Wz w') => mready_any _ l x w' (HVz.out.below hb)
            unfold caseW at TQ TR
            obtain ⟨q1, hq1⟩ : ∃ q, readyB l ⟨sd, nn, 0⟩ = q := ⟨_, rfl⟩
            obtain ⟨q2, hq2⟩ : ∃ q, readyB l ⟨sd, a1, 0⟩ = q := ⟨_, rfl⟩
            have TQ1 := Lib.hid (TQ.out ⟨sd, nn, 0⟩)
            have TQ2 := Lib.hid (TQ.out ⟨sd, a1, 0⟩)
            have TR1 := Lib.hid (TR.out ⟨sd, nn, 0⟩)
            have TR2 := Lib.hid (TR.out ⟨sd, a1, 0⟩)
            dsimp only at TQ1 TQ2 TR1 TR2
            rw [hq1] at TQ1 TR1
            rw [hq2] at TQ2 TR2
            clear TQ TR hq1 hq2
            obtain ⟨y0, y1, y2⟩ := rowc3 Ry2.out
            obtain ⟨z0, z1, z2⟩ := rowc3 Rz.out
            go_upto_region 16 with fail
            have Xy0 := ext_cell _ _ ((Array.getElem?_eq_some_iff.1 Ry2.out).1) _ y0
            have Xy1 := ext_cell _ _ ((Array.getElem?_eq_some_iff.1 Ry2.out).1) _ y1
            have Xy2 := ext_cell _ _ ((Array.getElem?_eq_some_iff.1 Ry2.out).1) _ y2
            have Xz0 := ext_cell _ _ ((Array.getElem?_eq_some_iff.1 Rz.out).1) _ z0
            have Xz1 := ext_cell _ _ ((Array.getElem?_eq_some_iff.1 Rz.out).1) _ z1
            have Xz2 := ext_cell _ _ ((Array.getElem?_eq_some_iff.1 Rz.out).1) _ z2
            clear y0 y1 y2 z0 z1 z2
            refine wp_region_ext Wz (by kernel_rfl) (by kernel_rfl) (Below.refl _ _) ?_
            repeat (go_big_quiet_step (first | (go_at_call 31; with_reducible exact calls_ext (TQ1.out _ (Ext.below _))) | (go_at_call 31; with_reducible exact calls_ext (TQ2.out _ (Ext.below _))) | (go_at_call 32; with_reducible exact calls_ext (TR1.out _ (Ext.below _))) | (go_at_call 32; with_reducible exact calls_ext (TR2.out _ (Ext.below _)))))
            refine wpQuiet_nil ?_
            intro _ hw'
            obtain ⟨n9, rfl⟩ := hw'
            have HB9 := Lib.hid (below_then HBz2.out n9.below)
            generalize n9.wd = w9 at *
            clear Xy0 Xy1 Xy2 Xz0 Xz1 Xz2
            go_wp2_with fail
            go_roundw
            case rel => exact ⟨k + 1, by go_num, by omega, HB9⟩
            case measure => simp [intOf]; omega
          · have hge : ¬ (k : Int) < 2 := by omega
            clear hsd
            go_wp2_with fail
            go_roundw
            case rel => exact ⟨i + 1, by rw [← hnn]; go_num, by omega, below_then BLIT.out HBk.out⟩
            case measure => rw [← hnn]; simp [intOf]; omega
      · have HB7 := Lib.hid (below_then HB6.out HBi.out)
        have HC7 := Lib.hid (HC6.out.kept HC6.out.lt HBi.out)
        have HV7 := Lib.hid (HV.out.below HBi.out)
        go_wp2_with fail
        refine (chans_any g wo HC7.out).mono ?_; rintro e w8 ⟨v8, rfl, m, hsm, hcr, hc8, hg8⟩
        have HM := Lib.hid hsm
        have HV8 := Lib.hid (HV7.out.grown hg8 (codes_is HC7.out))
        have HB8 := Lib.hid (below_poke HB7.out hg8 hwg)
        obtain ⟨am, cm, rfl, -⟩ := hsm.len
        clear hsm hcr hc8 hg8 HV HV7 HB7 HB6 HC7
        have T1 := Lib.hid (qSame_any _ _ l m w8 HV8.out HM.out)
        have T2 := Lib.hid fun w' (hb : Below w8.heap.size w8 w') => rSame_any _ _ l m w' (HV8.out.below hb) (HM.out.below hb)
        have T3 := Lib.hid fun w' (hb : Below w8.heap.size w8 w') => qSame_any _ _ l l w' (HV8.out.below hb) (HV8.out.below hb)
        obtain ⟨q, hq⟩ : ∃ q, sameB l m = q := ⟨_, rfl⟩
        rw [hq] at T1 T2
        rw [sameB_refl] at T3
        clear hq
        go_wp2_with fail
        refine T1.out.mono ?_; rintro e w9 ⟨rfl, hb9⟩
        have HB9 := Lib.hid hb9
        clear hb9 T1
        go_wp2_with fail
        refine (T2.out _ HB9.out).mono ?_; rintro e wa ⟨rfl, hba⟩
        have HBA := Lib.hid (below_then HB9.out hba)
        clear hba T2 HB9
        have hqq : (q == q) = true := by simp
        go_wp2_with fail
        refine (T3.out _ HBA.out).mono ?_; rintro e wb ⟨rfl, hbb⟩
        have HBB := Lib.hid (below_then HB8.out (below_then HBA.out hbb))
        clear hbb T3 HBA
        go_wp2
        go_ret
        exact ⟨rfl, HBB.out⟩
set_option maxRecDepth 100000 in
theorem lifted (os : Os) (started : os.Started) (H : Type) (enc : TypeId × Value → H) :
    ReturnsInHanded {} Try.checked os 7 .any (Rows.modelReadySpec.pre6 enc Try.prog Try.f7 Rows.modelReadyRow.domain false) (Rows.modelReadySpec.post enc Try.prog Try.f7 false true false false) := by
  refine returnsInHanded_of_change_sized (C := Try.checked) own started (by kernel_rfl) Try.func7
    (ChangeSpec.witness6 (enc := enc) (C := Try.checked) false ⟨#[], #[.slice none 0 0, .int .i64 0], []⟩ 8 (by kernel_rfl) (by kernel_rfl) (by kernel_rfl) (by kernel_rfl)) ?_
  intro W base args ds gs before hval0 hW _ hsz0 _
  have hsz : (DataW.weightsEach Try.prog (Try.f7.params.toList ++ Rows.modelReadySpec.plain.varTypes Try.prog) (ds ++ gs)).all (· ≤ reachBytes) = true := hsz0
  clear hsz0
  have hval : ∀ (j : Nat) t v, Try.f7.params[j]? = some t → args[j]? = some v → Value.okWide Try.prog W .any base t v := hval0
  have hW' := hW
  obtain ⟨p, q, hA0, hV, rfl, _, _⟩ := hW
  have hA : DataW.TrodAll enc Try.prog W 0 (fun _ => true) true Try.f7.params.toList args.toList ds p := hA0
  rw [Try.params7] at hA hval hsz
  obtain ⟨v0, vs0, d0, ds0, p0, q0, hargs, rfl, rfl, h0, r0⟩ := trodAll_cons hA
  obtain ⟨v1, vs1, d1, ds1, p1, q1, rfl, rfl, rfl, h1, r1⟩ := trodAll_cons r0
  obtain ⟨rfl, rfl, rfl⟩ := trodAll_nil r1
  obtain rfl : args = #[v0, v1] := by cases args; simp_all
  obtain ⟨rfl, rfl⟩ := trodVars_none hV
  have k0 := h0
  have k1 := h1
  obtain ⟨l0, s0⟩ := view_sl (k := .u8) Try.underlying22 Try.underlying5 (by kernel_rfl) (fun elems sp hd => sized_slice hsz (j := 0) (t := 22) (e := 5) rfl (by rw [hd]; rfl) Try.underlying22) (of_decide_eq_true (by kernel_rfl)) (hval 0 22 v0 rfl rfl) h0
  obtain ⟨a1, rfl, -, -, w1⟩ := open_int Try.underlying3 (hval 1 3 v1 rfl rfl) h1
  clear hA0 hval0
  simp only [List.append_nil] at hW'
  have hlt := hW'.lt
  refine (walk W v0 l0 s0 a1 w1).mono fun e W' ⟨he, hb⟩ => ?_
  subst he
  exact ⟨_, rfl, _, _, _, [], _, [], hW', trodAll_cons_mk (shut_bool Try.underlying4 _) trodAll_mk0, (trodAll_cons_mk (Below.trod Try.laidOut (by kernel_rfl) (of_decide_eq_true (by kernel_rfl)) k0 hb (fun x hx => by simpa using hlt x (by simp [hx]))) (trodAll_cons_mk (Below.trod Try.laidOut (by kernel_rfl) (of_decide_eq_true (by kernel_rfl)) k1 hb (fun x hx => by simpa using hlt x (by simp [hx]))) trodAll_mk0)), rfl, hb.frame _, fun h => by cases h⟩
theorem over : Rows.modelReadyRow.holds Try.pinned (OpenSpec.ofChange Rows.modelReadySpec) :=
  OpenClaim.holds_of_wide 7 Try.f7 rfl rfl rfl rfl rfl rfl rfl ⟨rfl, rfl, rfl, rfl, rfl⟩ rfl rfl rfl rfl rfl (by kernel_rfl) Try.func7 (by kernel_rfl)
    (of_decide_eq_true (by kernel_rfl)) (by unfold Func.isWrapper; first | (rw [if_pos (by decide +kernel)]; kernel_rfl) | (rw [if_neg (by decide +kernel)]; exact ⟨rfl, rfl⟩))
    (fun os started H enc _ => lifted os started H enc)
/-- THE STATEMENT -/
theorem proved : Rows.ModelReadySaid :=
  over
end Go.Proofs.Ytckjdlphilpgfaa.modelReady
