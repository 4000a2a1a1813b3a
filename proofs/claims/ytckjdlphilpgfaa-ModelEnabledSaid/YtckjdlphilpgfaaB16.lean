import Derived.Deep.DeepCutAuto
import Derived.Deep.CutBlock
import Derived.RowKit
import Derived.Test.YtckjdlphilpgfaaB15
import Derived.Test.YtckjdlphilpgfaaB12
import Derived.Test.YtckjdlphilpgfaaB04
import Derived.Test.YtckjdlphilpgfaaB05
set_option linter.unusedVariables false
set_option linter.unusedSimpArgs false
/- Layer 14: the program's Pair. -/
namespace Go.Proofs.Ytckjdlphilpgfaa
open Go.ChangeShapes Go.WideShapes Go.ChangeAt Go.RowKit
set_option maxRecDepth 100000

theorem four_new (w : World) (a b c d : Obj) : ∃ W, (((w.alloc a).alloc b).alloc c).alloc d = W ∧ Hid (Below w.heap.size w W) ∧ Hid (W.heap[w.heap.size]? = some a) ∧ Hid (W.heap[w.heap.size + 1]? = some b) ∧ Hid (W.heap[w.heap.size + 2]? = some c) ∧ Hid (W.heap[w.heap.size + 3]? = some d) ∧ w.heap.size + 4 = W.heap.size := by
  refine ⟨_, rfl, below_new (below_new (below_new (below_new (Below.refl w.heap.size w) _) _) _) _, Lib.hid ?_, Lib.hid ?_, Lib.hid ?_, Lib.hid ?_, by simp⟩
  · rw [heap_alloc_old _ _ (by simp <;> omega), heap_alloc_old _ _ (by simp <;> omega), heap_alloc_old _ _ (by simp <;> omega), heap_alloc_new]
  · rw [heap_alloc_old _ _ (by simp <;> omega), heap_alloc_old _ _ (by simp <;> omega)]
    simpa using heap_alloc_new (w.alloc a) b
  · rw [heap_alloc_old _ _ (by simp <;> omega)]
    simpa using heap_alloc_new ((w.alloc a).alloc b) c
  · simpa using heap_alloc_new (((w.alloc a).alloc b).alloc c) d
def pairC (o1 o2 : Option CaseM) (l : List ChanM) (x y : ResM) : Bool := match o1, o2 with | some p, some q => rdvB l p q && (if p.send then passB p.val x y else passB q.val y x) | _, _ => false
def pairP (l : List ChanM) (a : OpM) (x : ResM) (b : OpM) (y : ResM) : Bool := pairC (chosenE a x) (chosenE b y) l x y
set_option maxRecDepth 100000 in
set_option maxHeartbeats 16000000 in
theorem qPair_any (v va vb : Value) (l : List ChanM) (a : OpM) (x : ResM) (b : OpM) (y : ResM) (w : World) (hv : SlH w v l) (ha : OpV w va a) (hb : OpV w vb b) : Calls Try.prog 19 #[v, va, resW x, vb, resW y] w fun e w' => e = .returned (.bool (pairP l a x b y)) ∧ Below w.heap.size w w' := by
  have TXa := Lib.hid fun w' (h : Below w.heap.size w w') => qchosen_any va a x x.case rfl w' (ha.below h)
  have TXb := Lib.hid fun w' (h : Below w.heap.size w w') => qchosen_any vb b y y.case rfl w' (hb.below h)
  have TR := Lib.hid fun p q w' (h : Below w.heap.size w w') => qrdv_any v l p q w' (hv.below h)
  have TP := Lib.hid fun n w' => qpasses_any n x y w'
  have TQ := Lib.hid fun n w' => qpasses_any n y x w'
  obtain ⟨mb, hmb⟩ : ∃ z, pairP l a x b y = z := ⟨_, rfl⟩
  rw [hmb]
  unfold pairP at hmb
  obtain ⟨oa, hoa⟩ : ∃ o, chosenE a x = o := ⟨_, rfl⟩
  obtain ⟨ob, hob⟩ : ∃ o, chosenE b y = o := ⟨_, rfl⟩
  rw [hoa, hob] at hmb
  rw [hoa] at TXa
  rw [hob] at TXb
  clear hoa hob
  obtain ⟨vc, vd, rfl, hc, hd⟩ := ha
  obtain ⟨kd, md, ch, vl, dl, cs, ds⟩ := a
  dsimp only at *
  obtain ⟨a3, cap3, rfl⟩ := hc.len
  obtain ⟨a4, cap4, rfl, -⟩ := hd.len
  obtain ⟨vc2, vd2, rfl, hc2, hd2⟩ := hb
  obtain ⟨kd2, md2, ch2, vl2, dl2, cs2, ds2⟩ := b
  dsimp only at *
  obtain ⟨a32, cap32, rfl⟩ := hc2.len
  obtain ⟨a42, cap42, rfl, -⟩ := hd2.len
  obtain ⟨cp, hcp⟩ : ∃ c, rdvB l = c := ⟨_, rfl⟩
  have HRD : Hid (∀ p q, pairC (some p) (some q) l x y = (cp p q && (if p.send then passB p.val x y else passB q.val y x))) := fun p q => by rw [← hcp]; rfl
  rw [hcp] at TR
  clear hcp
  obtain ⟨pB, hpB⟩ : ∃ c, (fun n => passB n x y) = c := ⟨_, rfl⟩
  obtain ⟨qB, hqB⟩ : ∃ c, (fun n => passB n y x) = c := ⟨_, rfl⟩
  have HRD2 : Hid (∀ p q, pairC (some p) (some q) l x y = (cp p q && (if p.send then pB p.val else qB q.val))) := fun p q => by rw [HRD.out, ← hpB, ← hqB]
  have TP2 : Hid (∀ n w', Calls Try.prog 46 #[.int .u64 n, resW x, resW y] w' fun e w2 => e = .returned (.bool (pB n)) ∧ Below w'.heap.size w' w2) := fun n w' => by rw [← hpB]; exact TP.out n w'
  have TQ2 : Hid (∀ n w', Calls Try.prog 46 #[.int .u64 n, resW y, resW x] w' fun e w2 => e = .returned (.bool (qB n)) ∧ Below w'.heap.size w' w2) := fun n w' => by rw [← hqB]; exact TQ.out n w'
  clear hpB hqB HRD TP TQ
  have HMB := Lib.hid hmb
  obtain ⟨rk, rc, rv, rok, nm⟩ := x
  obtain ⟨rk2, rc2, rv2, rok2, nm2⟩ := y
  unfold resW at TP2 TQ2 ⊢
  dsimp only at TP2 TQ2 TXa TXb ⊢
  obtain ⟨aq, cap, hve, -⟩ := hv.len
  subst hve
  clear hv hmb hc hd hc2 hd2
  obtain ⟨W, hW, HB, R0, R1, R2, R3, hz⟩ := four_new w (.cells #[.int .i64 kd, .int .i64 md, .int .i64 ch, .int .u64 vl, .int .i64 dl, .slice a3 cs.length cap3, .slice a4 ds.length cap4] 38) (.cells #[.int .i64 rk, .int .i64 rc, .int .u64 rv, .bool rok, .int .i64 nm] 25) (.cells #[.int .i64 kd2, .int .i64 md2, .int .i64 ch2, .int .u64 vl2, .int .i64 dl2, .slice a32 cs2.length cap32, .slice a42 ds2.length cap42] 38) (.cells #[.int .i64 rk2, .int .i64 rc2, .int .u64 rv2, .bool rok2, .int .i64 nm2] 25)
  have HW := Lib.hid hW
  clear hW
  go_enter Try.func19, Try.ntmps19
  go_upto_region 1 with fail
  rw [HW.out]
  clear HW
  obtain ⟨x0_0, x0_1, x0_2, x0_3, x0_4, x0_5, x0_6⟩ := rowc7 R0.out
  obtain ⟨x1_0, x1_1, x1_2, x1_3, x1_4⟩ := rowc5 R1.out
  obtain ⟨x2_0, x2_1, x2_2, x2_3, x2_4, x2_5, x2_6⟩ := rowc7 R2.out
  obtain ⟨x3_0, x3_1, x3_2, x3_3, x3_4⟩ := rowc5 R3.out
  clear x0_0 x0_1 x0_2 x0_3 x0_4 x0_5 x0_6 x1_0 x1_1 x1_2 x1_3 x1_4 x2_0 x2_1 x2_2 x2_3 x2_4 x2_5 x2_6 x3_0 x3_1 x3_2 x3_3 x3_4
  obtain ⟨o0, o1, o2, o3, o4, o5, o6⟩ := rowc7 R0.out
  obtain ⟨r0, r1, r2, r3, r4⟩ := rowc5 R1.out
  go_wp2_with fail
  refine (TXa.out _ HB.out).mono ?_; rintro e w1 ⟨⟨s1, s2, s3⟩, b1, rfl, hx1, hb1⟩
  unfold caseW
  dsimp only
  have HX1 := Lib.hid hx1
  have HB1 := Lib.hid (below_then HB.out hb1)
  have C1_0 := Lib.hid ((hb1.block (w.heap.size) (Array.getElem?_eq_some_iff.1 R0.out).1).trans R0.out)
  have C1_1 := Lib.hid ((hb1.block (w.heap.size + 1) (Array.getElem?_eq_some_iff.1 R1.out).1).trans R1.out)
  have C1_2 := Lib.hid ((hb1.block (w.heap.size + 2) (Array.getElem?_eq_some_iff.1 R2.out).1).trans R2.out)
  have C1_3 := Lib.hid ((hb1.block (w.heap.size + 3) (Array.getElem?_eq_some_iff.1 R3.out).1).trans R3.out)
  clear o0 o1 o2 o3 o4 o5 o6 r0 r1 r2 r3 r4
  clear hb1 hx1 TXa
  obtain ⟨Wx, hWx⟩ : ∃ Wx, (w1.alloc (.cells #[.bool false, .int .i64 0, .int .u64 0] 63)).setRow w1.heap.size #[.bool s1, .int .i64 s2, .int .u64 s3] = Wx := ⟨_, rfl⟩
  have Nx : Hid ((w1.alloc (.cells #[.bool false, .int .i64 0, .int .u64 0] 63)).heap[w1.heap.size]? = some (.cells #[.bool false, .int .i64 0, .int .u64 0] 63 (0, 0))) := heap_alloc_new _ _
  have HBx : Hid (Below w1.heap.size w1 Wx) := hWx ▸ row_below (below_new (Below.refl _ _) _) (Nat.le_refl _) _
  have Rx : Hid (Wx.heap[w1.heap.size]? = some (.cells #[.bool s1, .int .i64 s2, .int .u64 s3] 63 (0, 0))) := hWx ▸ setRow_heap _ _ _ _ _ (0, 0) Nx.out
  have HWx := Lib.hid hWx
  clear hWx
  go_upto_region 2 with (refine wpList_store_row rfl 63 _ _ rfl (w1.heap.size) _ rfl rfl 63 #[.bool false, .int .i64 0, .int .u64 0] Nx.out (by kernel_rfl) rfl (by simp [Value.oneCell']) ?_)
  rw [HWx.out]
  try simp only [Act.put]
  clear HWx Nx
  obtain ⟨X, hX⟩ : ∃ X, w1.heap.size = X := ⟨_, rfl⟩
  rw [hX] at Rx
  rw [hX]
  clear hX
  have C2_0 := Lib.hid ((HBx.out.block (w.heap.size) (Array.getElem?_eq_some_iff.1 C1_0.out).1).trans C1_0.out)
  have C2_1 := Lib.hid ((HBx.out.block (w.heap.size + 1) (Array.getElem?_eq_some_iff.1 C1_1.out).1).trans C1_1.out)
  have C2_2 := Lib.hid ((HBx.out.block (w.heap.size + 2) (Array.getElem?_eq_some_iff.1 C1_2.out).1).trans C1_2.out)
  have C2_3 := Lib.hid ((HBx.out.block (w.heap.size + 3) (Array.getElem?_eq_some_iff.1 C1_3.out).1).trans C1_3.out)
  have HBX := Lib.hid (below_then HB1.out HBx.out)
  obtain ⟨p0, p1, p2, p3, p4, p5, p6⟩ := rowc7 C2_2.out
  obtain ⟨zz0, zz1, zz2, zz3, zz4⟩ := rowc5 C2_3.out
  go_wp2_with fail
  refine (TXb.out _ HBX.out).mono ?_; rintro e w3 ⟨⟨t1, t2, t3⟩, b2, rfl, hx2, hb3⟩
  unfold caseW
  dsimp only
  have HX2 := Lib.hid hx2
  have HB3 := Lib.hid (below_then HBX.out hb3)
  clear p0 p1 p2 p3 p4 p5 p6 zz0 zz1 zz2 zz3 zz4
  have C3_0 := Lib.hid ((hb3.block (w.heap.size) (Array.getElem?_eq_some_iff.1 C2_0.out).1).trans C2_0.out)
  have C3_1 := Lib.hid ((hb3.block (w.heap.size + 1) (Array.getElem?_eq_some_iff.1 C2_1.out).1).trans C2_1.out)
  have C3_2 := Lib.hid ((hb3.block (w.heap.size + 2) (Array.getElem?_eq_some_iff.1 C2_2.out).1).trans C2_2.out)
  have C3_3 := Lib.hid ((hb3.block (w.heap.size + 3) (Array.getElem?_eq_some_iff.1 C2_3.out).1).trans C2_3.out)
  have C3_4 := Lib.hid ((hb3.block (X) (Array.getElem?_eq_some_iff.1 Rx.out).1).trans Rx.out)
  clear hb3 hx2 TXb
  obtain ⟨Wy, hWy⟩ : ∃ Wy, (w3.alloc (.cells #[.bool false, .int .i64 0, .int .u64 0] 63)).setRow w3.heap.size #[.bool t1, .int .i64 t2, .int .u64 t3] = Wy := ⟨_, rfl⟩
  have Ny : Hid ((w3.alloc (.cells #[.bool false, .int .i64 0, .int .u64 0] 63)).heap[w3.heap.size]? = some (.cells #[.bool false, .int .i64 0, .int .u64 0] 63 (0, 0))) := heap_alloc_new _ _
  have HBy : Hid (Below w3.heap.size w3 Wy) := hWy ▸ row_below (below_new (Below.refl _ _) _) (Nat.le_refl _) _
  have Ry : Hid (Wy.heap[w3.heap.size]? = some (.cells #[.bool t1, .int .i64 t2, .int .u64 t3] 63 (0, 0))) := hWy ▸ setRow_heap _ _ _ _ _ (0, 0) Ny.out
  have HWy := Lib.hid hWy
  clear hWy
  go_upto_region 3 with (refine wpList_store_row rfl 63 _ _ rfl (w3.heap.size) _ rfl rfl 63 #[.bool false, .int .i64 0, .int .u64 0] Ny.out (by kernel_rfl) rfl (by simp [Value.oneCell']) ?_)
  rw [HWy.out]
  try simp only [Act.put]
  clear HWy Ny
  obtain ⟨Y, hY⟩ : ∃ Y, w3.heap.size = Y := ⟨_, rfl⟩
  rw [hY] at Ry
  rw [hY]
  clear hY
  have C4_0 := Lib.hid ((HBy.out.block (w.heap.size) (Array.getElem?_eq_some_iff.1 C3_0.out).1).trans C3_0.out)
  have C4_1 := Lib.hid ((HBy.out.block (w.heap.size + 1) (Array.getElem?_eq_some_iff.1 C3_1.out).1).trans C3_1.out)
  have C4_2 := Lib.hid ((HBy.out.block (w.heap.size + 2) (Array.getElem?_eq_some_iff.1 C3_2.out).1).trans C3_2.out)
  have C4_3 := Lib.hid ((HBy.out.block (w.heap.size + 3) (Array.getElem?_eq_some_iff.1 C3_3.out).1).trans C3_3.out)
  have C4_4 := Lib.hid ((HBy.out.block (X) (Array.getElem?_eq_some_iff.1 C3_4.out).1).trans C3_4.out)
  have HBY := Lib.hid (below_then HB3.out HBy.out)
  obtain ⟨o0, o1, o2, o3, o4, o5, o6⟩ := rowc7 C4_0.out
  obtain ⟨r0, r1, r2, r3, r4⟩ := rowc5 C4_1.out
  obtain ⟨p0, p1, p2, p3, p4, p5, p6⟩ := rowc7 C4_2.out
  obtain ⟨zz0, zz1, zz2, zz3, zz4⟩ := rowc5 C4_3.out
  obtain ⟨x0, x1, x2⟩ := rowc3 C4_4.out
  obtain ⟨y0, y1, y2⟩ := rowc3 Ry.out
  cases b1 with
  | false =>
    have hr : mb = false := by
      rw [← HMB.out]
      rcases HX1.out with ⟨h, -⟩ | ⟨-, h⟩
      · cases h
      · rw [h]; rfl
    subst hr
    clear HMB
    go_wp2
    go_ret
    exact ⟨rfl, HBY.out⟩
  | true =>
    cases b2 with
    | false =>
      have hr : mb = false := by
        rw [← HMB.out]
        rcases HX2.out with ⟨h, -⟩ | ⟨-, h⟩
        · cases h
        · rw [h]; cases oa <;> rfl
      subst hr
      clear HMB
      go_wp2
      go_ret
      exact ⟨rfl, HBY.out⟩
    | true =>
      have HR : Hid (mb = (cp ⟨s1, s2, s3⟩ ⟨t1, t2, t3⟩ && (if s1 = true then pB s3 else qB t3))) := by
        show _ = _
        rw [← HMB.out]
        rcases HX1.out with ⟨-, h⟩ | ⟨h, -⟩
        · rcases HX2.out with ⟨-, h2⟩ | ⟨h2, -⟩
          · rw [h, h2]; exact HRD2.out _ _
          · cases h2
        · cases h
      have TR1 := Lib.hid (TR.out ⟨s1, s2, s3⟩ ⟨t1, t2, t3⟩ _ HBY.out)
      unfold caseW at TR1
      dsimp only at TR1
      obtain ⟨q, hq⟩ : ∃ q, cp ⟨s1, s2, s3⟩ ⟨t1, t2, t3⟩ = q := ⟨_, rfl⟩
      rw [hq] at TR1 HR
      clear HMB hq HX1 HX2 TR HRD2
      go_wp2_with fail
      refine TR1.out.mono ?_; rintro e w5 ⟨rfl, hb5⟩
      have HB5 := Lib.hid (below_then HBY.out hb5)
      clear o0 o1 o2 o3 o4 o5 o6 r0 r1 r2 r3 r4 p0 p1 p2 p3 p4 p5 p6 zz0 zz1 zz2 zz3 zz4 x0 x1 x2 y0 y1 y2
      have C5_0 := Lib.hid ((hb5.block (w.heap.size) (Array.getElem?_eq_some_iff.1 C4_0.out).1).trans C4_0.out)
      have C5_1 := Lib.hid ((hb5.block (w.heap.size + 1) (Array.getElem?_eq_some_iff.1 C4_1.out).1).trans C4_1.out)
      have C5_2 := Lib.hid ((hb5.block (w.heap.size + 2) (Array.getElem?_eq_some_iff.1 C4_2.out).1).trans C4_2.out)
      have C5_3 := Lib.hid ((hb5.block (w.heap.size + 3) (Array.getElem?_eq_some_iff.1 C4_3.out).1).trans C4_3.out)
      have C5_4 := Lib.hid ((hb5.block (X) (Array.getElem?_eq_some_iff.1 C4_4.out).1).trans C4_4.out)
      have C5_5 := Lib.hid ((hb5.block (Y) (Array.getElem?_eq_some_iff.1 Ry.out).1).trans Ry.out)
      clear hb5 TR1
      obtain ⟨o0, o1, o2, o3, o4, o5, o6⟩ := rowc7 C5_0.out
      obtain ⟨r0, r1, r2, r3, r4⟩ := rowc5 C5_1.out
      obtain ⟨p0, p1, p2, p3, p4, p5, p6⟩ := rowc7 C5_2.out
      obtain ⟨zz0, zz1, zz2, zz3, zz4⟩ := rowc5 C5_3.out
      obtain ⟨x0, x1, x2⟩ := rowc3 C5_4.out
      obtain ⟨y0, y1, y2⟩ := rowc3 C5_5.out
      cases q with
      | false =>
        have hr : mb = false := by rw [HR.out]; rfl
        subst hr
        clear HR
        go_wp2
        go_ret
        exact ⟨rfl, HB5.out⟩
      | true =>
        cases s1 with
        | true =>
          have HR2 : Hid (mb = pB s3) := by show _ = _; rw [HR.out]; rfl
          go_wp2_with fail
          refine (TP2.out _ _).mono ?_; rintro e w6 ⟨rfl, hb6⟩
          have HB6 := Lib.hid (below_then HB5.out hb6)
          clear hb6 HR TP2 TQ2 o0 o1 o2 o3 o4 o5 o6 r0 r1 r2 r3 r4 p0 p1 p2 p3 p4 p5 p6 zz0 zz1 zz2 zz3 zz4 x0 x1 x2 y0 y1 y2
          go_wp2
          go_ret
          exact ⟨by rw [HR2.out]; rfl, HB6.out⟩
        | false =>
          have HR2 : Hid (mb = qB t3) := by show _ = _; rw [HR.out]; rfl
          go_wp2_with fail
          refine (TQ2.out _ _).mono ?_; rintro e w6 ⟨rfl, hb6⟩
          have HB6 := Lib.hid (below_then HB5.out hb6)
          clear hb6 HR TP2 TQ2 o0 o1 o2 o3 o4 o5 o6 r0 r1 r2 r3 r4 p0 p1 p2 p3 p4 p5 p6 zz0 zz1 zz2 zz3 zz4 x0 x1 x2 y0 y1 y2
          go_wp2
          go_ret
          exact ⟨by rw [HR2.out]; rfl, HB6.out⟩
end Go.Proofs.Ytckjdlphilpgfaa
/- Plain lists and numbers for layer 2 (shuffles, draws, factorials); no Go in sight. -/
namespace Go.Proofs.Ytckjdlphilpgfaa
open Go.RowKit
set_option maxRecDepth 100000

theorem tmod_bd (x : Int) (i : Nat) : - ((i : Int) + 1) < x.tmod (i + 1) ∧ x.tmod (i + 1) < i + 1 := by
  constructor
  · rcases Int.le_total 0 x with h | h
    · have := Int.tmod_nonneg (i + 1 : Int) h; omega
    · have := Int.tmod_nonneg (i + 1 : Int) (show 0 ≤ -x by omega)
      have h2 := Int.tmod_lt_of_pos (-x) (show (0 : Int) < i + 1 by omega)
      rw [Int.neg_tmod] at h2; omega
  · exact Int.tmod_lt_of_pos x (by omega)
theorem tmod_mod (x : Int) (i : Nat) : x % (i + 1) = if x.tmod (i + 1) < 0 then x.tmod (i + 1) + (i + 1) else x.tmod (i + 1) := by
  have hb := tmod_bd x i
  have h := Int.tmod_add_mul_tdiv x (i + 1)
  have h3 : x % (i + 1) = (x.tmod (i + 1)) % (i + 1) := by
    conv => lhs; rw [← h]
    rw [Int.add_mul_emod_self_left]
  rw [h3]
  split
  · rw [← Int.add_emod_right, Int.emod_eq_of_lt (by omega) (by omega)]
  · exact Int.emod_eq_of_lt (by omega) (by omega)
/-- the draw at i, brought into range -/
def drawI (l : List Int) (i : Nat) : Nat := ((l.getD i 0) % (i + 1)).toNat
theorem drawI_le (l : List Int) (i : Nat) : drawI l i ≤ i := by
  unfold drawI
  have h1 := Int.emod_nonneg (l.getD i 0) (show ((i : Int) + 1) ≠ 0 by omega)
  have h2 := Int.emod_lt_of_pos (l.getD i 0) (show (0 : Int) < (i : Int) + 1 by omega)
  omega
theorem drawI_out (l : List Int) (i : Nat) (h : l.length ≤ i) : drawI l i = 0 := by
  unfold drawI; rw [List.getD_eq_getElem?_getD, List.getElem?_eq_none h]; simp
theorem drawI_neg (l : List Int) (i : Nat) (h : (l.getD i 0).tmod (i + 1) < 0) : ((l.getD i 0).tmod (i + 1) + (i + 1)) = (drawI l i : Int) := by
  have e := tmod_mod (l.getD i 0) i
  rw [if_pos h] at e
  have h1 := Int.emod_nonneg (l.getD i 0) (show ((i : Int) + 1) ≠ 0 by omega)
  unfold drawI; omega
theorem drawI_pos (l : List Int) (i : Nat) (h : 0 ≤ (l.getD i 0).tmod (i + 1)) : (l.getD i 0).tmod (i + 1) = (drawI l i : Int) := by
  have e := tmod_mod (l.getD i 0) i
  rw [if_neg (by omega)] at e
  unfold drawI; omega
/-- the first place of x, or the length -/
def fd (x : Int) : List Int → Nat
  | [] => 0
  | y :: t => if y = x then 0 else fd x t + 1
theorem fd_hit (x : Int) (l : List Int) (k : Nat) (hk : k < l.length) (h : ∀ j, j < k → l.getD j 0 ≠ x) (hx : l.getD k 0 = x) : fd x l = k := by
  induction l generalizing k with
  | nil => simp at hk
  | cons y t ih =>
    unfold fd
    cases k with
    | zero => simp at hx; rw [if_pos hx]
    | succ k =>
      have h0 := h 0 (by omega)
      simp at h0
      rw [if_neg h0, ih k (by simpa using hk) (fun j hj => by simpa using h (j + 1) (by omega)) (by simpa using hx)]
theorem fd_miss (x : Int) (l : List Int) (h : ∀ j, j < l.length → l.getD j 0 ≠ x) : fd x l = l.length := by
  induction l with
  | nil => rfl
  | cons y t ih =>
    have h0 := h 0 (by simp)
    simp at h0
    unfold fd
    rw [if_neg h0, ih (fun j hj => by simpa using h (j + 1) (by simpa using hj))]
    simp
theorem ext_same (l m : List Int) (hl : l.length = m.length) (h : ∀ j, j < l.length → l.getD j 0 = m.getD j 0) : l = m := by
  apply List.ext_getElem hl
  intro i h1 h2
  simpa [List.getD_eq_getElem?_getD, h1, h2] using h i h1
def asc (n : Nat) : List Int := (List.range n).map fun (i : Nat) => (i : Int)
theorem asc_length (n : Nat) : (asc n).length = n := by simp [asc]
theorem asc_mem (n : Nat) (x : Int) (h : x ∈ asc n) : 0 ≤ x ∧ x < n := by
  simp [asc] at h; obtain ⟨i, hi, rfl⟩ := h; omega
/-- the numbers 0 to k - 1, then zeros: what has been written after k rounds -/
def fill (n k : Nat) : List Int := asc k ++ List.replicate (n - k) 0
theorem fill_zero (n : Nat) : fill n 0 = List.replicate n 0 := by simp [fill, asc]
theorem fill_full (n : Nat) : fill n n = asc n := by simp [fill]
theorem fill_length (n k : Nat) (h : k ≤ n) : (fill n k).length = n := by simp [fill, asc_length]; omega
theorem fill_step (n k : Nat) (h : k < n) : (fill n k).set k (k : Int) = fill n (k + 1) := by
  unfold fill
  rw [List.set_append_right _ _ (by simp [asc_length])]
  obtain ⟨m, hm⟩ : ∃ m, n - k = m + 1 := ⟨n - k - 1, by omega⟩
  rw [hm, show n - (k + 1) = m by omega]
  simp [List.replicate_succ, asc, List.range_succ]
def swp (l : List Int) (i k : Nat) : List Int := (l.set i (l.getD k 0)).set k (l.getD i 0)
theorem swp_length (l : List Int) (i k : Nat) : (swp l i k).length = l.length := by simp [swp]
theorem swp_mem (l : List Int) (i k : Nat) (hi : i < l.length) (hk : k < l.length) (x : Int) (h : x ∈ swp l i k) : x ∈ l := by
  unfold swp at h
  rcases List.mem_or_eq_of_mem_set h with h | rfl
  · rcases List.mem_or_eq_of_mem_set h with h | rfl
    · exact h
    · simp [List.getD_eq_getElem?_getD, hk]
  · simp [List.getD_eq_getElem?_getD, hi]
/-- the shuffle: the rounds i, i - 1, .., 1 -/
def shuf (d : List Int) : Nat → List Int → List Int
  | 0, l => l
  | i + 1, l => shuf d i (swp l (i + 1) (drawI d (i + 1)))
theorem shuf_length (d : List Int) (i : Nat) (l : List Int) : (shuf d i l).length = l.length := by
  induction i generalizing l with
  | zero => rfl
  | succ i ih => unfold shuf; rw [ih, swp_length]
theorem shuf_mem (d : List Int) (i : Nat) (l : List Int) (hi : i < l.length) (x : Int) (h : x ∈ shuf d i l) : x ∈ l := by
  induction i generalizing l with
  | zero => exact h
  | succ i ih =>
    unfold shuf at h
    have := drawI_le d (i + 1)
    exact swp_mem l (i + 1) _ hi (by omega) x (ih _ (by rw [swp_length]; omega) h)
theorem shuf_round (d l : List Int) (k j : Nat) (hk : 0 < k) (hj : drawI d k = j) : shuf d k l = shuf d (k - 1) (swp l k j) := by
  obtain ⟨i, rfl⟩ : ∃ i, k = i + 1 := ⟨k - 1, by omega⟩
  subst hj
  rfl
def fact : Nat → Nat
  | 0 => 1
  | n + 1 => (n + 1) * fact n
theorem fact_pos (n : Nat) : 1 ≤ fact n := by
  induction n with
  | zero => simp [fact]
  | succ n ih => unfold fact; exact Nat.le_trans ih (Nat.le_mul_of_pos_left _ (by omega))
theorem fact_le (m n : Nat) (h : m ≤ n) : fact m ≤ fact n := by
  induction n with
  | zero => obtain rfl : m = 0 := by omega
            exact Nat.le_refl _
  | succ n ih =>
    by_cases e : m = n + 1
    · subst e; exact Nat.le_refl _
    · refine Nat.le_trans (ih (by omega)) ?_
      rw [fact]; exact Nat.le_mul_of_pos_left _ (by omega)
theorem fact_20 (n : Nat) (h : n ≤ 20) : fact n ≤ 2432902008176640000 := Nat.le_trans (fact_le n 20 h) (by decide)
theorem wrap_small (x : Nat) (h : x ≤ 2432902008176640000) : wrap64 (x : Int) = x := by unfold wrap64; omega
/-- down: what is left to be multiplied is i! -/
theorem fact_down (n c i : Nat) (hn : n ≤ 20) (h : c * fact i = fact n) (hi : 1 < i) : wrap64 ((c : Int) * i) = ((c * i : Nat) : Int) ∧ (c * i) * fact (i - 1) = fact n := by
  obtain ⟨j, rfl⟩ : ∃ j, i = j + 1 := ⟨i - 1, by omega⟩
  have e : (c * (j + 1)) * fact (j + 1 - 1) = fact n := by rw [← h, fact, Nat.mul_assoc]; simp
  refine ⟨?_, e⟩
  rw [← Int.natCast_mul]
  refine wrap_small _ (Nat.le_trans ?_ (fact_20 n hn))
  rw [← e]
  exact Nat.le_mul_of_pos_right _ (fact_pos _)
/-- up: what has been multiplied is (i - 1)! -/
theorem fact_up (n c i : Nat) (hn : n ≤ 20) (h : c = fact (i - 1)) (hi : 1 ≤ i) (hin : i ≤ n) : wrap64 ((c : Int) * i) = ((c * i : Nat) : Int) ∧ c * i = fact i := by
  obtain ⟨j, rfl⟩ : ∃ j, i = j + 1 := ⟨i - 1, by omega⟩
  have e : c * (j + 1) = fact (j + 1) := by rw [h, fact, Nat.mul_comm]; simp
  refine ⟨?_, e⟩
  rw [← Int.natCast_mul, e]
  exact wrap_small _ (fact_20 _ (by omega))
def cntI (n : Int) : Int := if 0 ≤ n ∧ n ≤ 20 then (fact n.toNat : Int) else 0
theorem cntI_in (m : Nat) (h : m ≤ 20) : cntI m = fact m := by unfold cntI; rw [if_pos (by omega)]; simp
theorem cntI_out (n : Int) (h : ¬ (0 ≤ n ∧ n ≤ 20)) : cntI n = 0 := by unfold cntI; rw [if_neg h]
/-- the list of draws with a number, from the last element on -/
def nthR : Nat → Nat → List Int
  | 0, _ => []
  | i + 1, k => nthR i (k / (i + 1)) ++ [((k % (i + 1) : Nat) : Int)]
theorem nthR_length (n k : Nat) : (nthR n k).length = n := by
  induction n generalizing k with
  | zero => rfl
  | succ n ih => simp [nthR, ih]
theorem nthR_mem (n k : Nat) (x : Int) (h : x ∈ nthR n k) : 0 ≤ x ∧ x < n := by
  induction n generalizing k with
  | zero => simp [nthR] at h
  | succ n ih =>
    rw [nthR, List.mem_append, List.mem_singleton] at h
    rcases h with h | h
    · have := ih _ h; omega
    · have := Nat.mod_lt k (show 0 < n + 1 by omega); omega
theorem set_drop (l : List Int) (i : Nat) (x : Int) (h : i < l.length) : (l.set i x).drop i = x :: l.drop (i + 1) := by
  rw [List.drop_eq_getElem_cons (by simpa using h)]
  simp [List.drop_set]
theorem nthR_step (n k0 i k : Nat) (l : List Int) (hl : i < l.length) (h : nthR (i + 1) k ++ l.drop (i + 1) = nthR n k0) :
    nthR i (k / (i + 1)) ++ (l.set i ((k % (i + 1) : Nat) : Int)).drop i = nthR n k0 := by
  rw [set_drop _ _ _ hl, ← h, nthR, List.append_assoc]; rfl
def nthB (n k : Int) : Bool := decide (0 ≤ k ∧ k < cntI n)
def nthL (n k : Int) : List Int := if 0 ≤ k ∧ k < cntI n then nthR n.toNat k.toNat else []
theorem nth_yes (n k : Int) (h : 0 ≤ k ∧ k < cntI n) : 0 ≤ n ∧ n ≤ 20 ∧ nthB n k = true ∧ nthL n k = nthR n.toNat k.toNat := by
  refine ⟨?_, ?_, by unfold nthB; simpa using h, by unfold nthL; rw [if_pos h]⟩
  · refine Classical.byContradiction fun hc => ?_
    have := cntI_out n (by omega); omega
  · refine Classical.byContradiction fun hc => ?_
    have := cntI_out n (by omega); omega
theorem nth_no (n k : Int) (h : ¬ (0 ≤ k ∧ k < cntI n)) : nthB n k = false ∧ nthL n k = [] :=
  ⟨by unfold nthB; exact decide_eq_false h, by unfold nthL; rw [if_neg h]⟩
/-- the number of a list of draws, from the first element on -/
def idxR : Nat → Nat → List Int → Nat
  | _, a, [] => a
  | i, a, x :: t => idxR (i + 1) (a * (i + 1) + x.toNat) t
def okD : Nat → List Int → Bool
  | _, [] => true
  | i, x :: t => decide (0 ≤ x ∧ x ≤ i) && okD (i + 1) t
def idxB (l : List Int) : Bool := decide (l.length ≤ 20) && okD 0 l
def idxI (l : List Int) : Int := if idxB l = true then (idxR 0 0 l : Int) else 0
theorem idx_step (l : List Int) (k a : Nat) (hk : k < l.length) (hk2 : k ≤ 19) (ha : a < fact k) (x : Int) (hx : l.getD k 0 = x) (x0 : 0 ≤ x) (x1 : x ≤ k) :
    idxR k a (l.drop k) = idxR (k + 1) (a * (k + 1) + x.toNat) (l.drop (k + 1)) ∧ okD k (l.drop k) = okD (k + 1) (l.drop (k + 1)) ∧ a * (k + 1) + x.toNat < fact (k + 1) ∧
    wrap64 ((a : Int) * ((k : Int) + 1)) = ((a * (k + 1) : Nat) : Int) ∧ wrap64 (((a * (k + 1) : Nat) : Int) + x) = ((a * (k + 1) + x.toNat : Nat) : Int) := by
  have e : l.drop k = x :: l.drop (k + 1) := by
    rw [List.drop_eq_getElem_cons hk]; congr 1
    simpa [List.getD_eq_getElem?_getD, hk] using hx
  have h2 : a * (k + 1) + (k + 1) ≤ fact (k + 1) := by
    rw [fact, ← Nat.succ_mul, Nat.mul_comm (k + 1)]
    exact Nat.mul_le_mul_right _ ha
  have h3 := fact_20 (k + 1) (by omega)
  have h1 : a * (k + 1) ≤ 2432902008176640000 := by omega
  refine ⟨by rw [e]; rfl, by rw [e, okD, decide_eq_true ⟨x0, x1⟩]; rfl, by omega, ?_, ?_⟩
  · rw [show (a : Int) * ((k : Int) + 1) = ((a * (k + 1) : Nat) : Int) by push_cast; rfl]
    exact wrap_small _ h1
  · rw [show (((a * (k + 1) : Nat) : Int) + x) = ((a * (k + 1) + x.toNat : Nat) : Int) by omega]
    exact wrap_small _ (by omega)
theorem idx_bad (l : List Int) (k : Nat) (hk : k < l.length) (x : Int) (hx : l.getD k 0 = x) (h : ¬ (0 ≤ x ∧ x ≤ k)) (he : okD k (l.drop k) = okD 0 l) : idxB l = false ∧ idxI l = 0 := by
  have e : l.drop k = x :: l.drop (k + 1) := by
    rw [List.drop_eq_getElem_cons hk]; congr 1
    simpa [List.getD_eq_getElem?_getD, hk] using hx
  have h1 : okD 0 l = false := by rw [← he, e, okD, decide_eq_false h]; rfl
  have h2 : idxB l = false := by unfold idxB; rw [h1]; simp
  exact ⟨h2, by unfold idxI; rw [if_neg (by rw [h2]; simp)]⟩
theorem idx_long (l : List Int) (h : 20 < l.length) : idxB l = false ∧ idxI l = 0 := by
  have h2 : idxB l = false := by unfold idxB; rw [decide_eq_false (by omega)]; rfl
  exact ⟨h2, by unfold idxI; rw [if_neg (by rw [h2]; simp)]⟩
theorem idx_end (l : List Int) (a : Nat) (hl : l.length ≤ 20) (he : okD l.length (l.drop l.length) = okD 0 l) (hi : idxR l.length a (l.drop l.length) = idxR 0 0 l) : idxB l = true ∧ idxI l = a := by
  rw [List.drop_length] at he hi
  have h2 : idxB l = true := by unfold idxB; rw [decide_eq_true hl, ← he]; rfl
  exact ⟨h2, by unfold idxI; rw [if_pos h2, ← hi]; rfl⟩
end Go.Proofs.Ytckjdlphilpgfaa
/- Operations, plainly: the words of the document's check. -/
namespace Go.Proofs.Ytckjdlphilpgfaa
open Go.RowKit
set_option maxRecDepth 100000

def namedB (n : Int) : Bool := decide (-1 ≤ n) && decide (n < 8)
def rangesB (op : OpM) : Bool := namedB op.chan && decide (0 ≤ op.dl) && decide (op.dl ≤ 1099511627776) && op.cases.all fun c => namedB c.chan
def shapeB (op : OpM) : Bool :=
  if ((op.kind == 3 || op.kind == 5 || op.kind == 6) && op.mode != 0) || (op.dl != 0 && op.mode != 2) then false
  else if op.kind != 4 then decide (op.cases.length = 0) && decide (op.draws.length = 0) && (op.kind == 1 || op.val == 0)
  else if op.chan != 0 || op.val != 0 || decide (op.draws.length ≠ op.cases.length) then false
  else op.cases.all fun c => c.send || c.val == 0
def kindB (op : OpM) : Bool := decide (1 ≤ op.kind) && decide (op.kind ≤ 6) && decide (0 ≤ op.mode) && decide (op.mode ≤ 2)
def checkE (op : OpM) : Int :=
  if kindB op = false then 2 else if rangesB op = false then 2 else if 6 < op.cases.length ∨ 6 < op.draws.length then 3
  else if okD 0 op.draws = false then 2 else if shapeB op = false then 5 else 0
structure OpM.ok (op : OpM) : Prop where
  kind : op.kind = IntKind.i64.wrap op.kind
  mode : op.mode = IntKind.i64.wrap op.mode
  chan : op.chan = IntKind.i64.wrap op.chan
  val : op.val = IntKind.u64.wrap op.val
  dl : op.dl = IntKind.i64.wrap op.dl
/-- a valid operation of small numbers -/
structure OpM.good (op : OpM) : Prop where
  check : checkE op = 0
  ok : op.ok
  cases : op.cases.length ≤ 6
  draws : op.draws.length ≤ 6
  cok : ∀ c ∈ op.cases, c.ok
theorem i64_small (x : Int) (h0 : -2000000000000 ≤ x) (h1 : x ≤ 2000000000000) : x = IntKind.i64.wrap x := i64_ok x (by omega) (by omega)
theorem good_one (kd md ch vl dl : Int) (hk : 1 ≤ kd ∧ kd ≤ 6) (h4 : kd ≠ 4) (hm : (md = 0 ∧ dl = 0) ∨ ((kd = 1 ∨ kd = 2) ∧ ((md = 1 ∧ dl = 0) ∨ (md = 2 ∧ 0 ≤ dl ∧ dl < 5)))) (hc : -1 ≤ ch ∧ ch < 8) (hv : vl = IntKind.u64.wrap vl) (hv2 : kd = 1 ∨ vl = 0) :
    OpM.good ⟨kd, md, ch, vl, dl, [], []⟩ := by
  have hm2 : 0 ≤ md ∧ md ≤ 2 := by omega
  have hd2 : 0 ≤ dl ∧ dl < 5 := by omega
  refine ⟨?_, ⟨i64_small _ (by simp only; omega) (by simp only; omega), i64_small _ (by simp only; omega) (by simp only; omega), i64_small _ (by simp only; omega) (by simp only; omega), hv, i64_small _ (by simp only; omega) (by simp only; omega)⟩, by simp, by simp, by simp⟩
  have k1 : kindB ⟨kd, md, ch, vl, dl, [], []⟩ = true := by simp [kindB]; omega
  have k2 : rangesB ⟨kd, md, ch, vl, dl, [], []⟩ = true := by simp [rangesB, namedB]; omega
  have k3 : shapeB ⟨kd, md, ch, vl, dl, [], []⟩ = true := by
    unfold shapeB
    have a1 : (kd == 4) = false := by simpa using h4
    have a2 : (kd != 4) = true := by simpa using h4
    have a3 : (((kd == 3 || kd == 5 || kd == 6) && md != 0) || (dl != 0 && md != 2)) = false := by
      rcases hm with ⟨rfl, rfl⟩ | ⟨h, ⟨rfl, rfl⟩ | ⟨rfl, _⟩⟩
      · simp
      · rcases h with rfl | rfl <;> decide
      · rcases h with rfl | rfl <;> simp
    simp only [a3, a2, if_true, Bool.false_eq_true, if_false]
    rcases hv2 with rfl | rfl <;> simp
  simp [checkE, k1, k2, k3, okD]
end Go.Proofs.Ytckjdlphilpgfaa
/- Lists of waiters that read. -/
namespace Go.Proofs.Ytckjdlphilpgfaa
open Go.ChangeShapes Go.WideShapes Go.ChangeAt Go.RowKit
set_option maxRecDepth 100000

def opZ : OpM := ⟨0, 0, 0, 0, 0, [], []⟩
def watZ : WaitM := ⟨0, opZ⟩
def wat (l : List WaitM) (i : Nat) : WaitM := l.getD i watZ
def wtL (x : WaitM) (vc vd : Value) : List Value := [.int .i64 x.thr, .int .i64 x.op.kind, .int .i64 x.op.mode, .int .i64 x.op.chan, .int .u64 x.op.val, .int .i64 x.op.dl, vc, vd]
/-- The slice value v reads in w as the waiters l. -/
def SlW (w : World) (v : Value) (l : List WaitM) : Prop :=
  ∃ rows : List (List Value), rows.length = l.length ∧ SlS w 8 v rows ∧ ∀ i, i < l.length → ∃ vc vd, rows.getD i [] = wtL (wat l i) vc vd ∧ SlC w vc (wat l i).op.cases ∧ SlI w .i64 vd (wat l i).op.draws
theorem SlW.below {w w' : World} {v : Value} {l : List WaitM} (h : SlW w v l) (hb : Below w.heap.size w w') : SlW w' v l := by
  obtain ⟨rows, h1, h2, h3⟩ := h
  exact ⟨rows, h1, h2.below hb, fun i hi => by
    obtain ⟨vc, vd, e, h4, h5⟩ := h3 i hi
    exact ⟨vc, vd, e, h4.below hb, h5.below hb⟩⟩
theorem SlW.len {w : World} {v : Value} {l : List WaitM} (h : SlW w v l) : ∃ a cap, v = .slice a l.length cap ∧ l.length ≤ cap := by
  obtain ⟨rows, h1, h2, -⟩ := h
  obtain ⟨a, cap, rfl, h3⟩ := h2.len
  rw [h1] at h3 ⊢
  exact ⟨a, cap, rfl, h3⟩
theorem SlW.bound {w : World} {v : Value} {l : List WaitM} (h : SlW w v l) : l.length ≤ 140737488351232 := by
  obtain ⟨rows, h1, h2, -⟩ := h
  have := h2.1
  omega
/-- one waiter of a list -/
theorem SlW.at {w : World} {v : Value} {l : List WaitM} (h : SlW w v l) (i : Nat) (hi : i < l.length) : ∃ b off cap vc vd, v = .slice (some ⟨b, off, none⟩) l.length cap ∧ b < w.heap.size ∧
    w.cell? ⟨b, off + i * 8, none⟩ = some (.int .i64 (wat l i).thr) ∧ w.cell? ⟨b, off + i * 8 + 1, none⟩ = some (.int .i64 (wat l i).op.kind) ∧ w.cell? ⟨b, off + i * 8 + 2, none⟩ = some (.int .i64 (wat l i).op.mode) ∧ w.cell? ⟨b, off + i * 8 + 3, none⟩ = some (.int .i64 (wat l i).op.chan) ∧ w.cell? ⟨b, off + i * 8 + 4, none⟩ = some (.int .u64 (wat l i).op.val) ∧ w.cell? ⟨b, off + i * 8 + 5, none⟩ = some (.int .i64 (wat l i).op.dl) ∧ w.cell? ⟨b, off + i * 8 + 6, none⟩ = some vc ∧ w.cell? ⟨b, off + i * 8 + 7, none⟩ = some vd ∧
    SlC w vc (wat l i).op.cases ∧ SlI w .i64 vd (wat l i).op.draws := by
  obtain ⟨rows, h1, h2, h3⟩ := h
  obtain ⟨b, off, cap, rfl, hb, hr⟩ := h2.open (by omega)
  obtain ⟨vc, vd, e, h4, h5⟩ := h3 i hi
  have h6 := hr i (by omega)
  rw [e] at h6
  exact ⟨b, off, cap, vc, vd, by rw [h1], hb, h6 0 _ rfl, h6 1 _ rfl, h6 2 _ rfl, h6 3 _ rfl, h6 4 _ rfl, h6 5 _ rfl, h6 6 _ rfl, h6 7 _ rfl, h4, h5⟩
theorem rowc8 {w : World} {g : Nat} {T : TypeId} {v0 v1 v2 v3 v4 v5 v6 v7 : Value} (h : w.heap[g]? = some (.cells #[v0, v1, v2, v3, v4, v5, v6, v7] T (0, 0))) : w.cell? ⟨g, 0, none⟩ = some v0 ∧ w.cell? ⟨g, 1, none⟩ = some v1 ∧ w.cell? ⟨g, 2, none⟩ = some v2 ∧ w.cell? ⟨g, 3, none⟩ = some v3 ∧ w.cell? ⟨g, 4, none⟩ = some v4 ∧ w.cell? ⟨g, 5, none⟩ = some v5 ∧ w.cell? ⟨g, 6, none⟩ = some v6 ∧ w.cell? ⟨g, 7, none⟩ = some v7 :=
  ⟨cell_of_row _ _ 0 _ _ _ h, cell_of_row _ _ 1 _ _ _ h, cell_of_row _ _ 2 _ _ _ h, cell_of_row _ _ 3 _ _ _ h, cell_of_row _ _ 4 _ _ _ h, cell_of_row _ _ 5 _ _ _ h, cell_of_row _ _ 6 _ _ _ h, cell_of_row _ _ 7 _ _ _ h⟩
/-- an operation whose numbers are good -/
structure OpM.fine (op : OpM) : Prop where
  ok : op.chan = IntKind.i64.wrap op.chan ∧ op.val = IntKind.u64.wrap op.val
  cok : ∀ x ∈ op.cases, x.ok
  len : (casesE op).length ≤ 100000
theorem OpM.good.fine {op : OpM} (h : op.good) : op.fine := ⟨⟨h.ok.chan, h.ok.val⟩, h.cok, by
  unfold casesE
  have := h.cases
  split
  · omega
  · split <;> simp⟩
end Go.Proofs.Ytckjdlphilpgfaa
