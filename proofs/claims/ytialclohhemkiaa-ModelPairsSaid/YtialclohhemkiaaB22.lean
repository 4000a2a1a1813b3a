import Derived.Deep.DeepCutAuto
import Derived.Deep.CutBlock
import Derived.Test.YtialclohhemkiaaB08
import Derived.Test.YtialclohhemkiaaB10
import Derived.Test.YtialclohhemkiaaB16
set_option linter.unusedVariables false
set_option linter.unusedSimpArgs false
/- Layer 14: the reference's half and Pair. -/
namespace Go.Proofs.Ytialclohhemkiaa
open Go.ChangeShapes Go.WideShapes Go.ChangeAt Go.RowKit
set_option maxRecDepth 100000

def halfM (l : List ChanM) (v : Int) (o1 o2 : Option CaseM) : Bool := match o1, o2 with
  | some p, some q => p.send && !q.send && decide (p.chan = q.chan) && exB l p.chan && decide ((chE l p.chan).cap ≤ 0) && !(chE l p.chan).closed && decide (v = p.val)
  | _, _ => false
theorem halfB_eq (l : List ChanM) (a : OpM) (x : ResM) (b : OpM) (y : ResM) : halfB l a x b y = (decide (x.kind = 1 ∧ y.kind = 2) && onlyB x false false && onlyB y true false && y.ok && halfM l y.val (chosenE a x) (chosenE b y)) := rfl
set_option maxRecDepth 100000 in
set_option maxHeartbeats 16000000 in
theorem rhalf_any (v va vb : Value) (l : List ChanM) (a : OpM) (x : ResM) (b : OpM) (y : ResM) (w : World) (hv : SlH w v l) (ha : OpV w va a) (hb : OpV w vb b) : Calls Try.prog 55 #[v, va, resW x, vb, resW y] w fun e w' => e = .returned (.bool (halfB l a x b y)) ∧ Below w.heap.size w w' := by
  have TXa := Lib.hid fun w' (h : Below w.heap.size w w') => mchosen_any va a x w' (ha.below h)
  have TXb := Lib.hid fun w' (h : Below w.heap.size w w') => mchosen_any vb b y w' (hb.below h)
  have TE := Lib.hid fun n w' (h : Below w.heap.size w w') => mexists_any v l n w' (hv.below h)
  have TO1 := Lib.hid fun w' => monly_any x false false w'
  have TO2 := Lib.hid fun w' => monly_any y true false w'
  have HV := Lib.hid hv
  obtain ⟨mb, hmb⟩ : ∃ z, halfB l a x b y = z := ⟨_, rfl⟩
  rw [hmb]
  rw [halfB_eq] at hmb
  obtain ⟨oa, hoa⟩ : ∃ o, chosenE a x = o := ⟨_, rfl⟩
  obtain ⟨ob, hob⟩ : ∃ o, chosenE b y = o := ⟨_, rfl⟩
  rw [hoa, hob] at hmb
  rw [hoa] at TXa
  rw [hob] at TXb
  obtain ⟨bo1, ho1⟩ : ∃ o, onlyB x false false = o := ⟨_, rfl⟩
  obtain ⟨bo2, ho2⟩ : ∃ o, onlyB y true false = o := ⟨_, rfl⟩
  rw [ho1, ho2] at hmb
  rw [ho1] at TO1
  rw [ho2] at TO2
  clear hoa hob ho1 ho2
  obtain ⟨vc, vd, rfl, hc, hd⟩ := ha
  obtain ⟨kd, md, ch, vl, dl, cs, ds⟩ := a
  dsimp only at *
  obtain ⟨a3, cap3, rfl⟩ := hc.len
  obtain ⟨a4, cap4, rfl, -⟩ := hd.len
  obtain ⟨vc2, vd2, rfl, hc2, hd2⟩ := hb
  obtain ⟨kd2, md2, ch2, vl2, dl2, cs2, ds2⟩ := b
  dsimp only at *
  obtain ⟨a32, cap32, rfl⟩ := hc2.len
  obtain ⟨a42, cap42, rfl, -⟩ := hd2.len
  obtain ⟨rk, rc, rv, rok, nm⟩ := x
  obtain ⟨rk2, rc2, rv2, rok2, nm2⟩ := y
  unfold resW at TO1 TO2 TXa TXb ⊢
  dsimp only at TO1 TO2 TXa TXb hmb ⊢
  have HMB := Lib.hid hmb
  obtain ⟨aq, cap, hve, -⟩ := hv.len
  subst hve
  clear hv hmb hc hd hc2 hd2
  obtain ⟨W, hW, HB, R0, R1, R2, R3, hz⟩ := four_new w (.cells #[.int .i64 kd, .int .i64 md, .int .i64 ch, .int .u64 vl, .int .i64 dl, .slice a3 cs.length cap3, .slice a4 ds.length cap4] 38) (.cells #[.int .i64 rk, .int .i64 rc, .int .u64 rv, .bool rok, .int .i64 nm] 25) (.cells #[.int .i64 kd2, .int .i64 md2, .int .i64 ch2, .int .u64 vl2, .int .i64 dl2, .slice a32 cs2.length cap32, .slice a42 ds2.length cap42] 38) (.cells #[.int .i64 rk2, .int .i64 rc2, .int .u64 rv2, .bool rok2, .int .i64 nm2] 25)
  have HW := Lib.hid hW
  clear hW
  go_enter Try.func55, Try.ntmps55
  go_upto_region 1 with fail
  rw [HW.out]
  clear HW
  obtain ⟨x0_0, x0_1, x0_2, x0_3, x0_4, x0_5, x0_6⟩ := rowc7 R0.out
  obtain ⟨x1_0, x1_1, x1_2, x1_3, x1_4⟩ := rowc5 R1.out
  obtain ⟨x2_0, x2_1, x2_2, x2_3, x2_4, x2_5, x2_6⟩ := rowc7 R2.out
  obtain ⟨x3_0, x3_1, x3_2, x3_3, x3_4⟩ := rowc5 R3.out
  clear x0_0 x0_1 x0_2 x0_3 x0_4 x0_5 x0_6 x1_0 x1_1 x1_2 x1_3 x1_4 x2_0 x2_1 x2_2 x2_3 x2_4 x2_5 x2_6 x3_0 x3_1 x3_2 x3_3 x3_4
  obtain ⟨o0, o1, o2, o3, o4, o5, o6⟩ := rowc7 R0.out
  obtain ⟨r0, r1, r2, r3, r4⟩ := rowc5 R1.out
  obtain ⟨p0, p1, p2, p3, p4, p5, p6⟩ := rowc7 R2.out
  obtain ⟨zz0, zz1, zz2, zz3, zz4⟩ := rowc5 R3.out
  by_cases k1 : rk = 1
  case neg =>
    have k1b : (rk != 1) = true := by simpa using k1
    have hr : mb = false := by rw [← HMB.out]; simp [k1]
    subst hr
    clear HMB
    go_wp2
    go_ret
    exact ⟨rfl, HB.out⟩
  subst k1
  by_cases k2 : rk2 = 2
  case neg =>
    have k2b : (rk2 != 2) = true := by simpa using k2
    have hr : mb = false := by rw [← HMB.out]; simp [k2]
    subst hr
    clear HMB
    go_wp2
    go_ret
    exact ⟨rfl, HB.out⟩
  subst k2
  go_wp2_with fail
  refine (TO1.out _).mono ?_; rintro e w1 ⟨rfl, hb1⟩
  have HB1 := Lib.hid (below_then HB.out hb1)
  clear o0 o1 o2 o3 o4 o5 o6 r0 r1 r2 r3 r4 p0 p1 p2 p3 p4 p5 p6 zz0 zz1 zz2 zz3 zz4
  have C1_0 := Lib.hid ((hb1.block (w.heap.size) (Array.getElem?_eq_some_iff.1 R0.out).1).trans R0.out)
  have C1_1 := Lib.hid ((hb1.block (w.heap.size + 1) (Array.getElem?_eq_some_iff.1 R1.out).1).trans R1.out)
  have C1_2 := Lib.hid ((hb1.block (w.heap.size + 2) (Array.getElem?_eq_some_iff.1 R2.out).1).trans R2.out)
  have C1_3 := Lib.hid ((hb1.block (w.heap.size + 3) (Array.getElem?_eq_some_iff.1 R3.out).1).trans R3.out)
  clear hb1 TO1
  obtain ⟨o0, o1, o2, o3, o4, o5, o6⟩ := rowc7 C1_0.out
  obtain ⟨r0, r1, r2, r3, r4⟩ := rowc5 C1_1.out
  obtain ⟨p0, p1, p2, p3, p4, p5, p6⟩ := rowc7 C1_2.out
  obtain ⟨zz0, zz1, zz2, zz3, zz4⟩ := rowc5 C1_3.out
  cases bo1 with
  | false =>
    have hr : mb = false := by rw [← HMB.out]; simp
    subst hr
    clear HMB
    go_wp2
    go_ret
    exact ⟨rfl, HB1.out⟩
  | true =>
    go_wp2_with fail
    refine (TO2.out _).mono ?_; rintro e w2 ⟨rfl, hb2⟩
    have HB2 := Lib.hid (below_then HB1.out hb2)
    clear o0 o1 o2 o3 o4 o5 o6 r0 r1 r2 r3 r4 p0 p1 p2 p3 p4 p5 p6 zz0 zz1 zz2 zz3 zz4
    have C2_0 := Lib.hid ((hb2.block (w.heap.size) (Array.getElem?_eq_some_iff.1 C1_0.out).1).trans C1_0.out)
    have C2_1 := Lib.hid ((hb2.block (w.heap.size + 1) (Array.getElem?_eq_some_iff.1 C1_1.out).1).trans C1_1.out)
    have C2_2 := Lib.hid ((hb2.block (w.heap.size + 2) (Array.getElem?_eq_some_iff.1 C1_2.out).1).trans C1_2.out)
    have C2_3 := Lib.hid ((hb2.block (w.heap.size + 3) (Array.getElem?_eq_some_iff.1 C1_3.out).1).trans C1_3.out)
    clear hb2 TO2
    obtain ⟨o0, o1, o2, o3, o4, o5, o6⟩ := rowc7 C2_0.out
    obtain ⟨r0, r1, r2, r3, r4⟩ := rowc5 C2_1.out
    obtain ⟨p0, p1, p2, p3, p4, p5, p6⟩ := rowc7 C2_2.out
    obtain ⟨zz0, zz1, zz2, zz3, zz4⟩ := rowc5 C2_3.out
    cases bo2 with
    | false =>
      have hr : mb = false := by rw [← HMB.out]; simp
      subst hr
      clear HMB
      go_wp2
      go_ret
      exact ⟨rfl, HB2.out⟩
    | true =>
      cases rok2 with
      | false =>
        have hr : mb = false := by rw [← HMB.out]; simp
        subst hr
        clear HMB
        go_wp2
        go_ret
        exact ⟨rfl, HB2.out⟩
      | true =>
        have HR : Hid (mb = halfM l rv2 oa ob) := by show _ = _; rw [← HMB.out]; simp
        clear HMB
        go_wp2_with fail
        refine (TXa.out _ HB2.out).mono ?_; rintro e w3 ⟨⟨s1, s2, s3⟩, b1, rfl, hx1, hb3⟩
        unfold caseW
        dsimp only
        have HX1 := Lib.hid hx1
        have HB3 := Lib.hid (below_then HB2.out hb3)
        clear o0 o1 o2 o3 o4 o5 o6 r0 r1 r2 r3 r4 p0 p1 p2 p3 p4 p5 p6 zz0 zz1 zz2 zz3 zz4
        have C3_0 := Lib.hid ((hb3.block (w.heap.size) (Array.getElem?_eq_some_iff.1 C2_0.out).1).trans C2_0.out)
        have C3_1 := Lib.hid ((hb3.block (w.heap.size + 1) (Array.getElem?_eq_some_iff.1 C2_1.out).1).trans C2_1.out)
        have C3_2 := Lib.hid ((hb3.block (w.heap.size + 2) (Array.getElem?_eq_some_iff.1 C2_2.out).1).trans C2_2.out)
        have C3_3 := Lib.hid ((hb3.block (w.heap.size + 3) (Array.getElem?_eq_some_iff.1 C2_3.out).1).trans C2_3.out)
        clear hb3 hx1 TXa
        obtain ⟨Wx, hWx⟩ : ∃ Wx, (w3.alloc (.cells #[.bool false, .int .i64 0, .int .u64 0] 74)).setRow w3.heap.size #[.bool s1, .int .i64 s2, .int .u64 s3] = Wx := ⟨_, rfl⟩
        have Nx : Hid ((w3.alloc (.cells #[.bool false, .int .i64 0, .int .u64 0] 74)).heap[w3.heap.size]? = some (.cells #[.bool false, .int .i64 0, .int .u64 0] 74 (0, 0))) := heap_alloc_new _ _
        have HBx : Hid (Below w3.heap.size w3 Wx) := hWx ▸ row_below (below_new (Below.refl _ _) _) (Nat.le_refl _) _
        have Rx : Hid (Wx.heap[w3.heap.size]? = some (.cells #[.bool s1, .int .i64 s2, .int .u64 s3] 74 (0, 0))) := hWx ▸ setRow_heap _ _ _ _ _ (0, 0) Nx.out
        have HWx := Lib.hid hWx
        clear hWx
        go_upto_region 4 with (refine wpList_store_row rfl 74 _ _ rfl (w3.heap.size) _ rfl rfl 74 #[.bool false, .int .i64 0, .int .u64 0] Nx.out (by kernel_rfl) rfl (by simp [Value.oneCell']) ?_)
        rw [HWx.out]
        try simp only [Act.put]
        clear HWx Nx
        obtain ⟨X, hX⟩ : ∃ X, w3.heap.size = X := ⟨_, rfl⟩
        rw [hX] at Rx
        rw [hX]
        clear hX
        have C4_0 := Lib.hid ((HBx.out.block (w.heap.size) (Array.getElem?_eq_some_iff.1 C3_0.out).1).trans C3_0.out)
        have C4_1 := Lib.hid ((HBx.out.block (w.heap.size + 1) (Array.getElem?_eq_some_iff.1 C3_1.out).1).trans C3_1.out)
        have C4_2 := Lib.hid ((HBx.out.block (w.heap.size + 2) (Array.getElem?_eq_some_iff.1 C3_2.out).1).trans C3_2.out)
        have C4_3 := Lib.hid ((HBx.out.block (w.heap.size + 3) (Array.getElem?_eq_some_iff.1 C3_3.out).1).trans C3_3.out)
        have HBX := Lib.hid (below_then HB3.out HBx.out)
        obtain ⟨p0, p1, p2, p3, p4, p5, p6⟩ := rowc7 C4_2.out
        obtain ⟨zz0, zz1, zz2, zz3, zz4⟩ := rowc5 C4_3.out
        go_wp2_with fail
        refine (TXb.out _ HBX.out).mono ?_; rintro e w5 ⟨⟨t1, t2, t3⟩, b2, rfl, hx2, hb5⟩
        unfold caseW
        dsimp only
        have HX2 := Lib.hid hx2
        have HB5 := Lib.hid (below_then HBX.out hb5)
        clear p0 p1 p2 p3 p4 p5 p6 zz0 zz1 zz2 zz3 zz4
        have C5_0 := Lib.hid ((hb5.block (w.heap.size) (Array.getElem?_eq_some_iff.1 C4_0.out).1).trans C4_0.out)
        have C5_1 := Lib.hid ((hb5.block (w.heap.size + 1) (Array.getElem?_eq_some_iff.1 C4_1.out).1).trans C4_1.out)
        have C5_2 := Lib.hid ((hb5.block (w.heap.size + 2) (Array.getElem?_eq_some_iff.1 C4_2.out).1).trans C4_2.out)
        have C5_3 := Lib.hid ((hb5.block (w.heap.size + 3) (Array.getElem?_eq_some_iff.1 C4_3.out).1).trans C4_3.out)
        have C5_4 := Lib.hid ((hb5.block (X) (Array.getElem?_eq_some_iff.1 Rx.out).1).trans Rx.out)
        clear hb5 hx2 TXb
        obtain ⟨Wy, hWy⟩ : ∃ Wy, (w5.alloc (.cells #[.bool false, .int .i64 0, .int .u64 0] 74)).setRow w5.heap.size #[.bool t1, .int .i64 t2, .int .u64 t3] = Wy := ⟨_, rfl⟩
        have Ny : Hid ((w5.alloc (.cells #[.bool false, .int .i64 0, .int .u64 0] 74)).heap[w5.heap.size]? = some (.cells #[.bool false, .int .i64 0, .int .u64 0] 74 (0, 0))) := heap_alloc_new _ _
        have HBy : Hid (Below w5.heap.size w5 Wy) := hWy ▸ row_below (below_new (Below.refl _ _) _) (Nat.le_refl _) _
        have Ry : Hid (Wy.heap[w5.heap.size]? = some (.cells #[.bool t1, .int .i64 t2, .int .u64 t3] 74 (0, 0))) := hWy ▸ setRow_heap _ _ _ _ _ (0, 0) Ny.out
        have HWy := Lib.hid hWy
        clear hWy
        go_upto_region 5 with (refine wpList_store_row rfl 74 _ _ rfl (w5.heap.size) _ rfl rfl 74 #[.bool false, .int .i64 0, .int .u64 0] Ny.out (by kernel_rfl) rfl (by simp [Value.oneCell']) ?_)
        rw [HWy.out]
        try simp only [Act.put]
        clear HWy Ny
        obtain ⟨Y, hY⟩ : ∃ Y, w5.heap.size = Y := ⟨_, rfl⟩
        rw [hY] at Ry
        rw [hY]
        clear hY
        have C6_0 := Lib.hid ((HBy.out.block (w.heap.size) (Array.getElem?_eq_some_iff.1 C5_0.out).1).trans C5_0.out)
        have C6_1 := Lib.hid ((HBy.out.block (w.heap.size + 1) (Array.getElem?_eq_some_iff.1 C5_1.out).1).trans C5_1.out)
        have C6_2 := Lib.hid ((HBy.out.block (w.heap.size + 2) (Array.getElem?_eq_some_iff.1 C5_2.out).1).trans C5_2.out)
        have C6_3 := Lib.hid ((HBy.out.block (w.heap.size + 3) (Array.getElem?_eq_some_iff.1 C5_3.out).1).trans C5_3.out)
        have C6_4 := Lib.hid ((HBy.out.block (X) (Array.getElem?_eq_some_iff.1 C5_4.out).1).trans C5_4.out)
        have HBY := Lib.hid (below_then HB5.out HBy.out)
        obtain ⟨o0, o1, o2, o3, o4, o5, o6⟩ := rowc7 C6_0.out
        obtain ⟨r0, r1, r2, r3, r4⟩ := rowc5 C6_1.out
        obtain ⟨p0, p1, p2, p3, p4, p5, p6⟩ := rowc7 C6_2.out
        obtain ⟨zz0, zz1, zz2, zz3, zz4⟩ := rowc5 C6_3.out
        obtain ⟨x0, x1, x2⟩ := rowc3 C6_4.out
        obtain ⟨y0, y1, y2⟩ := rowc3 Ry.out
        have HA : Hid (b1 = true → oa = some ⟨s1, s2, s3⟩) := fun h => by
          rcases HX1.out with ⟨-, h2⟩ | ⟨h2, -⟩
          · exact h2
          · rw [h] at h2; cases h2
        have HNA : Hid (b1 = false → oa = none) := fun h => by
          rcases HX1.out with ⟨h2, -⟩ | ⟨-, h2⟩
          · rw [h] at h2; cases h2
          · exact h2
        have HBq : Hid (b2 = true → ob = some ⟨t1, t2, t3⟩) := fun h => by
          rcases HX2.out with ⟨-, h2⟩ | ⟨h2, -⟩
          · exact h2
          · rw [h] at h2; cases h2
        have HNB : Hid (b2 = false → ob = none) := fun h => by
          rcases HX2.out with ⟨h2, -⟩ | ⟨-, h2⟩
          · rw [h] at h2; cases h2
          · exact h2
        clear HX1 HX2
        cases b1 with
        | false =>
          have hr : mb = false := by rw [HR.out]; rw [HNA.out rfl]; rfl
          subst hr
          clear HR
          go_wp2
          go_ret
          exact ⟨rfl, HBY.out⟩
        | true =>
          cases b2 with
          | false =>
            have hr : mb = false := by rw [HR.out]; rw [HNB.out rfl]; cases oa <;> rfl
            subst hr
            clear HR
            go_wp2
            go_ret
            exact ⟨rfl, HBY.out⟩
          | true =>
            rw [HA.out rfl, HBq.out rfl] at HR
            unfold halfM at HR
            dsimp only at HR
            clear HA HNA HBq HNB
            cases s1 with
            | false =>
              have hr : mb = false := by rw [HR.out]; rfl
              subst hr
              clear HR
              go_wp2
              go_ret
              exact ⟨rfl, HBY.out⟩
            | true =>
              cases t1 with
              | true =>
                have hr : mb = false := by rw [HR.out]; rfl
                subst hr
                clear HR
                go_wp2
                go_ret
                exact ⟨rfl, HBY.out⟩
              | false =>
                by_cases hch : s2 = t2
                case neg =>
                  have hchb : (s2 != t2) = true := by simpa using hch
                  have hr : mb = false := by rw [HR.out]; simp [hch]
                  subst hr
                  clear HR
                  go_wp2
                  go_ret
                  exact ⟨rfl, HBY.out⟩
                subst hch
                obtain ⟨ex, hex⟩ : ∃ b, exB l s2 = b := ⟨_, rfl⟩
                have TE1 := Lib.hid (TE.out s2 _ HBY.out)
                rw [hex] at TE1 HR
                have HEX := Lib.hid hex
                clear hex
                go_wp2_with fail
                refine TE1.out.mono ?_; rintro e w' ⟨rfl, rfl⟩
                clear TE1
                cases ex with
                | false =>
                  have hr : mb = false := by rw [HR.out]; simp
                  subst hr
                  clear HR
                  go_wp2
                  go_ret
                  exact ⟨rfl, HBY.out⟩
                | true =>
                  obtain ⟨i, hi, hil, hce⟩ := exB_nat HEX.out
                  subst hi
                  have hiI : (i : Int) < (l.length : Int) := by omega
                  obtain ⟨b, off, cap', u, hve, hb, c0, c1, c2, hu⟩ := (HV.out.below HBY.out).at i hil
                  simp only [Value.slice.injEq] at hve
                  obtain ⟨rfl, -, rfl⟩ := hve
                  obtain ⟨⟨cc, bf, cl⟩, hcc⟩ : ∃ c, l.getD i noChan = c := ⟨_, rfl⟩
                  rw [hcc] at c0 c2 hu hce
                  dsimp only at c0 c2 hu
                  rw [hce] at HR
                  dsimp only at HR
                  obtain ⟨ua, uc, rfl, -⟩ := hu.len
                  clear hcc hce hu HEX TE HV
                  obtain ⟨Wq, hWq⟩ : ∃ Wq, (Wy.alloc (.cells #[.int .i64 0, .slice none 0 0, .bool false] 79)).setRow Wy.heap.size #[.int .i64 cc, .slice ua bf.length uc, .bool cl] = Wq := ⟨_, rfl⟩
                  have Nq : Hid ((Wy.alloc (.cells #[.int .i64 0, .slice none 0 0, .bool false] 79)).heap[Wy.heap.size]? = some (.cells #[.int .i64 0, .slice none 0 0, .bool false] 79 (0, 0))) := heap_alloc_new _ _
                  have HBq : Hid (Below Wy.heap.size Wy Wq) := hWq ▸ row_below (below_new (Below.refl _ _) _) (Nat.le_refl _) _
                  have Rq : Hid (Wq.heap[Wy.heap.size]? = some (.cells #[.int .i64 cc, .slice ua bf.length uc, .bool cl] 79 (0, 0))) := hWq ▸ setRow_heap _ _ _ _ _ (0, 0) Nq.out
                  have HWq := Lib.hid hWq
                  clear hWq
                  go_upto_region 8 with (refine wpList_store_row rfl 79 _ _ rfl (Wy.heap.size) _ rfl rfl 79 #[.int .i64 0, .slice none 0 0, .bool false] Nq.out (by kernel_rfl) rfl (by simp [Value.oneCell']) ?_)
                  rw [HWq.out]
                  try simp only [Act.put]
                  clear HWq Nq
                  obtain ⟨Q, hQ⟩ : ∃ Q, Wy.heap.size = Q := ⟨_, rfl⟩
                  rw [hQ] at Rq
                  rw [hQ]
                  clear hQ
                  clear o0 o1 o2 o3 o4 o5 o6 r0 r1 r2 r3 r4 p0 p1 p2 p3 p4 p5 p6 zz0 zz1 zz2 zz3 zz4 x0 x1 x2 y0 y1 y2
                  have C7_0 := Lib.hid ((HBq.out.block (w.heap.size) (Array.getElem?_eq_some_iff.1 C6_0.out).1).trans C6_0.out)
                  have C7_1 := Lib.hid ((HBq.out.block (w.heap.size + 1) (Array.getElem?_eq_some_iff.1 C6_1.out).1).trans C6_1.out)
                  have C7_2 := Lib.hid ((HBq.out.block (w.heap.size + 2) (Array.getElem?_eq_some_iff.1 C6_2.out).1).trans C6_2.out)
                  have C7_3 := Lib.hid ((HBq.out.block (w.heap.size + 3) (Array.getElem?_eq_some_iff.1 C6_3.out).1).trans C6_3.out)
                  have C7_4 := Lib.hid ((HBq.out.block (X) (Array.getElem?_eq_some_iff.1 C6_4.out).1).trans C6_4.out)
                  have C7_5 := Lib.hid ((HBq.out.block (Y) (Array.getElem?_eq_some_iff.1 Ry.out).1).trans Ry.out)
                  obtain ⟨o0, o1, o2, o3, o4, o5, o6⟩ := rowc7 C7_0.out
                  obtain ⟨r0, r1, r2, r3, r4⟩ := rowc5 C7_1.out
                  obtain ⟨p0, p1, p2, p3, p4, p5, p6⟩ := rowc7 C7_2.out
                  obtain ⟨zz0, zz1, zz2, zz3, zz4⟩ := rowc5 C7_3.out
                  obtain ⟨x0, x1, x2⟩ := rowc3 C7_4.out
                  obtain ⟨y0, y1, y2⟩ := rowc3 C7_5.out
                  have HBQ := Lib.hid (below_then HBY.out HBq.out)
                  obtain ⟨q0, q1, q2⟩ := rowc3 Rq.out
                  clear c0 c1 c2 hb
                  obtain ⟨b3, hb3⟩ : ∃ b, decide (cc ≤ 0) = b := ⟨_, rfl⟩
                  obtain ⟨b4, hb4⟩ : ∃ b, decide (rv2 = s3) = b := ⟨_, rfl⟩
                  have hb4' : (rv2 == s3) = b4 := by rw [← hb4, Bool.eq_iff_iff]; simp
                  rw [hb3, hb4] at HR
                  cases b3 <;> cases cl
                  all_goals (
                    have hr := HR.out
                    clear HR
                    go_wp2
                    go_ret
                    exact ⟨by rw [hr]; first | rfl | simp [*], HBQ.out⟩)
set_option maxRecDepth 100000 in
set_option maxHeartbeats 16000000 in
theorem rPair_any (v va vb : Value) (l : List ChanM) (a : OpM) (x : ResM) (b : OpM) (y : ResM) (w : World) (hv : SlH w v l) (ha : OpV w va a) (hb : OpV w vb b) : Calls Try.prog 18 #[v, va, resW x, vb, resW y] w fun e w' => e = .returned (.bool (pairB l a x b y)) ∧ Below w.heap.size w w' := by
  have T1 := Lib.hid fun w' (h : Below w.heap.size w w') => rhalf_any v va vb l a x b y w' (hv.below h) (ha.below h) (hb.below h)
  have T3 := Lib.hid fun w' (h : Below w.heap.size w w') => rhalf_any v vb va l b y a x w' (hv.below h) (hb.below h) (ha.below h)
  obtain ⟨mb, hmb⟩ : ∃ z, pairB l a x b y = z := ⟨_, rfl⟩
  rw [hmb]
  unfold pairB at hmb
  obtain ⟨h1, hh1⟩ : ∃ z, halfB l a x b y = z := ⟨_, rfl⟩
  obtain ⟨h2, hh2⟩ : ∃ z, halfB l b y a x = z := ⟨_, rfl⟩
  rw [hh1, hh2] at hmb
  rw [hh1] at T1
  rw [hh2] at T3
  clear hh1 hh2
  obtain ⟨vc, vd, rfl, hc, hd⟩ := ha
  obtain ⟨kd, md, ch, vl, dl, cs, ds⟩ := a
  dsimp only at *
  obtain ⟨a3, cap3, rfl⟩ := hc.len
  obtain ⟨a4, cap4, rfl, -⟩ := hd.len
  obtain ⟨vc2, vd2, rfl, hc2, hd2⟩ := hb
  obtain ⟨kd2, md2, ch2, vl2, dl2, cs2, ds2⟩ := b
  dsimp only at *
  obtain ⟨a32, cap32, rfl⟩ := hc2.len
  obtain ⟨a42, cap42, rfl, -⟩ := hd2.len
  obtain ⟨rk, rc, rv, rok, nm⟩ := x
  obtain ⟨rk2, rc2, rv2, rok2, nm2⟩ := y
  unfold resW at T1 T3 ⊢
  dsimp only at T1 T3 ⊢
  have HMB := Lib.hid hmb
  obtain ⟨aq, cap, hve, -⟩ := hv.len
  subst hve
  clear hv hmb hc hd hc2 hd2
  obtain ⟨W, hW, HB, R0, R1, R2, R3, hz⟩ := four_new w (.cells #[.int .i64 kd, .int .i64 md, .int .i64 ch, .int .u64 vl, .int .i64 dl, .slice a3 cs.length cap3, .slice a4 ds.length cap4] 38) (.cells #[.int .i64 rk, .int .i64 rc, .int .u64 rv, .bool rok, .int .i64 nm] 25) (.cells #[.int .i64 kd2, .int .i64 md2, .int .i64 ch2, .int .u64 vl2, .int .i64 dl2, .slice a32 cs2.length cap32, .slice a42 ds2.length cap42] 38) (.cells #[.int .i64 rk2, .int .i64 rc2, .int .u64 rv2, .bool rok2, .int .i64 nm2] 25)
  have HW := Lib.hid hW
  clear hW
  go_enter Try.func18, Try.ntmps18
  go_upto_region 1 with fail
  rw [HW.out]
  clear HW
  obtain ⟨x0_0, x0_1, x0_2, x0_3, x0_4, x0_5, x0_6⟩ := rowc7 R0.out
  obtain ⟨x1_0, x1_1, x1_2, x1_3, x1_4⟩ := rowc5 R1.out
  obtain ⟨x2_0, x2_1, x2_2, x2_3, x2_4, x2_5, x2_6⟩ := rowc7 R2.out
  obtain ⟨x3_0, x3_1, x3_2, x3_3, x3_4⟩ := rowc5 R3.out
  clear x0_0 x0_1 x0_2 x0_3 x0_4 x0_5 x0_6 x1_0 x1_1 x1_2 x1_3 x1_4 x2_0 x2_1 x2_2 x2_3 x2_4 x2_5 x2_6 x3_0 x3_1 x3_2 x3_3 x3_4
  obtain ⟨o0, o1, o2, o3, o4, o5, o6⟩ := rowc7 R0.out
  obtain ⟨r0, r1, r2, r3, r4⟩ := rowc5 R1.out
  obtain ⟨p0, p1, p2, p3, p4, p5, p6⟩ := rowc7 R2.out
  obtain ⟨zz0, zz1, zz2, zz3, zz4⟩ := rowc5 R3.out
  go_wp2_with fail
  refine (T1.out _ HB.out).mono ?_; rintro e w1 ⟨rfl, hb1⟩
  have HB1 := Lib.hid (below_then HB.out hb1)
  clear o0 o1 o2 o3 o4 o5 o6 r0 r1 r2 r3 r4 p0 p1 p2 p3 p4 p5 p6 zz0 zz1 zz2 zz3 zz4
  have C1_0 := Lib.hid ((hb1.block (w.heap.size) (Array.getElem?_eq_some_iff.1 R0.out).1).trans R0.out)
  have C1_1 := Lib.hid ((hb1.block (w.heap.size + 1) (Array.getElem?_eq_some_iff.1 R1.out).1).trans R1.out)
  have C1_2 := Lib.hid ((hb1.block (w.heap.size + 2) (Array.getElem?_eq_some_iff.1 R2.out).1).trans R2.out)
  have C1_3 := Lib.hid ((hb1.block (w.heap.size + 3) (Array.getElem?_eq_some_iff.1 R3.out).1).trans R3.out)
  clear hb1 T1
  obtain ⟨o0, o1, o2, o3, o4, o5, o6⟩ := rowc7 C1_0.out
  obtain ⟨r0, r1, r2, r3, r4⟩ := rowc5 C1_1.out
  obtain ⟨p0, p1, p2, p3, p4, p5, p6⟩ := rowc7 C1_2.out
  obtain ⟨zz0, zz1, zz2, zz3, zz4⟩ := rowc5 C1_3.out
  cases h1 with
  | true =>
    have hr : mb = true := by rw [← HMB.out]; rfl
    subst hr
    clear HMB
    go_wp2
    go_ret
    exact ⟨rfl, HB1.out⟩
  | false =>
    have HR : Hid (mb = h2) := by show _ = _; rw [← HMB.out]; rfl
    clear HMB
    go_wp2_with fail
    refine (T3.out _ HB1.out).mono ?_; rintro e w2 ⟨rfl, hb2⟩
    have HB2 := Lib.hid (below_then HB1.out hb2)
    clear hb2 T3 o0 o1 o2 o3 o4 o5 o6 r0 r1 r2 r3 r4 p0 p1 p2 p3 p4 p5 p6 zz0 zz1 zz2 zz3 zz4
    go_wp2
    go_ret
    exact ⟨by rw [HR.out]; rfl, HB2.out⟩
end Go.Proofs.Ytialclohhemkiaa
