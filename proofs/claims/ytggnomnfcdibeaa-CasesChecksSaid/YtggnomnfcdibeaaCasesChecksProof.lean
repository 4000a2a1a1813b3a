/- Proved: CasesChecks returns true, and its arguments read afterwards as before, for every operation raw and every list of codes; no condition. -/
import Derived.Test.YtggnomnfcdibeaaLaw
import Derived.Test.YtggnomnfcdibeaaLawOp
import Derived.Test.YtggnomnfcdibeaaL3Awake
import Derived.Test.YtggnomnfcdibeaaCodes7
import Derived.Test.YtggnomnfcdibeaaLawOp
import Derived.Deep.DeepCutAuto
import Derived.Deep.RegionLaw
import Derived.LoopTactic
import Derived.WalkKit
import Derived.ProofKit
import Derived.OpenShut
import Derived.SizedLaws
namespace Go.Proofs.Ytggnomnfcdibeaa.casesChecks
open Go.ChangeShapes Go.WideShapes Go.ChangeAt Go.RowKit
set_option linter.unusedVariables false
/-- seven cells of a row, from an offset on -/
def Seven (w : World) (b o : Nat) (op : OpM) (vc vd : Value) : Prop :=
  w.cell? ⟨b, o, none⟩ = some (.int .i64 op.kind) ∧ w.cell? ⟨b, o + 1, none⟩ = some (.int .i64 op.mode) ∧ w.cell? ⟨b, o + 2, none⟩ = some (.int .i64 op.chan) ∧ w.cell? ⟨b, o + 3, none⟩ = some (.int .u64 op.val) ∧
  w.cell? ⟨b, o + 4, none⟩ = some (.int .i64 op.dl) ∧ w.cell? ⟨b, o + 5, none⟩ = some vc ∧ w.cell? ⟨b, o + 6, none⟩ = some vd
theorem Seven.below {w w' : World} {b o B : Nat} {op : OpM} {vc vd : Value} (h : Seven w b o op vc vd) (hb : b < B) (hw : Below B w w') : Seven w' b o op vc vd := by
  obtain ⟨h0, h1, h2, h3, h4, h5, h6⟩ := h
  have k : ∀ j, w'.cell? ⟨b, j, none⟩ = w.cell? ⟨b, j, none⟩ := fun j => hw.cell (p := ⟨b, j, none⟩) hb
  exact ⟨(k _).trans h0, (k _).trans h1, (k _).trans h2, (k _).trans h3, (k _).trans h4, (k _).trans h5, (k _).trans h6⟩
/-- a list of operations that was just laid in block b: each reads as an operation of at most n cases -/
def OpsAt (w : World) (b n m : Nat) : Prop :=
  b < w.heap.size ∧ ∀ i, i < n → ∃ op vc vd, Seven w b (i * 7) op vc vd ∧ SlC w vc op.cases ∧ SlI w .i64 vd op.draws ∧ op.ok ∧ op.cases.length ≤ m
theorem OpsAt.below {w w' : World} {b n m : Nat} (h : OpsAt w b n m) (hw : Below w.heap.size w w') : OpsAt w' b n m := by
  refine ⟨Nat.lt_of_lt_of_le h.1 hw.size, fun i hi => ?_⟩
  obtain ⟨op, vc, vd, h1, h2, h3, h4⟩ := h.2 i hi
  exact ⟨op, vc, vd, h1.below h.1 hw, h2.below hw, h3.below hw, h4⟩
theorem OpsAt.three {w : World} {b m : Nat} {op0 op1 op2 : OpM} {a0 a1 a2 b0 b1 b2 : Value} {T : TypeId}
    (h : w.heap[b]? = some (.cells #[.int .i64 op0.kind, .int .i64 op0.mode, .int .i64 op0.chan, .int .u64 op0.val, .int .i64 op0.dl, a0, b0, .int .i64 op1.kind, .int .i64 op1.mode, .int .i64 op1.chan, .int .u64 op1.val, .int .i64 op1.dl, a1, b1, .int .i64 op2.kind, .int .i64 op2.mode, .int .i64 op2.chan, .int .u64 op2.val, .int .i64 op2.dl, a2, b2] T (0, 0)))
    (h0 : SlC w a0 op0.cases ∧ SlI w .i64 b0 op0.draws ∧ op0.ok ∧ op0.cases.length ≤ m) (h1 : SlC w a1 op1.cases ∧ SlI w .i64 b1 op1.draws ∧ op1.ok ∧ op1.cases.length ≤ m) (h2 : SlC w a2 op2.cases ∧ SlI w .i64 b2 op2.draws ∧ op2.ok ∧ op2.cases.length ≤ m) : OpsAt w b 3 m := by
  refine ⟨(Array.getElem?_eq_some_iff.1 h).1, fun i hi => ?_⟩
  have k : ∀ j, w.cell? ⟨b, j, none⟩ = _ := fun j => cell_of_row w b j _ _ _ h
  obtain rfl | rfl | rfl : i = 0 ∨ i = 1 ∨ i = 2 := by omega
  · exact ⟨op0, a0, b0, ⟨k 0, k 1, k 2, k 3, k 4, k 5, k 6⟩, h0⟩
  · exact ⟨op1, a1, b1, ⟨k 7, k 8, k 9, k 10, k 11, k 12, k 13⟩, h1⟩
  · exact ⟨op2, a2, b2, ⟨k 14, k 15, k 16, k 17, k 18, k 19, k 20⟩, h2⟩
theorem ops_made2 {w : World} {g m : Nat} {op0 op1 op2 : OpM} {a0 b0 a1 b1 a2 b2 : Value} {T T2 : TypeId} {o : Array Value} (h0 : OpX w g (.agg #[.int .i64 op0.kind, .int .i64 op0.mode, .int .i64 op0.chan, .int .u64 op0.val, .int .i64 op0.dl, a0, b0]) op0)
    (h1 : OpX w g (.agg #[.int .i64 op1.kind, .int .i64 op1.mode, .int .i64 op1.chan, .int .u64 op1.val, .int .i64 op1.dl, a1, b1]) op1)
    (h2 : OpX w g (.agg #[.int .i64 op2.kind, .int .i64 op2.mode, .int .i64 op2.chan, .int .u64 op2.val, .int .i64 op2.dl, a2, b2]) op2) (k0 : op0.ok ∧ op0.cases.length ≤ m) (k1 : op1.ok ∧ op1.cases.length ≤ m) (k2 : op2.ok ∧ op2.cases.length ≤ m) :
    OpsAt ((w.alloc (.cells o T2)).alloc (.cells #[.int .i64 op0.kind, .int .i64 op0.mode, .int .i64 op0.chan, .int .u64 op0.val, .int .i64 op0.dl, a0, b0, .int .i64 op1.kind, .int .i64 op1.mode, .int .i64 op1.chan, .int .u64 op1.val, .int .i64 op1.dl, a1, b1, .int .i64 op2.kind, .int .i64 op2.mode, .int .i64 op2.chan, .int .u64 op2.val, .int .i64 op2.dl, a2, b2] T)) (w.heap.size + 1) 3 m := by
  have e7 := below_new (below_new (Below.refl w.heap.size w) (.cells o T2)) (.cells #[.int .i64 op0.kind, .int .i64 op0.mode, .int .i64 op0.chan, .int .u64 op0.val, .int .i64 op0.dl, a0, b0, .int .i64 op1.kind, .int .i64 op1.mode, .int .i64 op1.chan, .int .u64 op1.val, .int .i64 op1.dl, a1, b1, .int .i64 op2.kind, .int .i64 op2.mode, .int .i64 op2.chan, .int .u64 op2.val, .int .i64 op2.dl, a2, b2] T)
  obtain ⟨_, _, e, p1, p2⟩ := h0.opv.below e7
  simp only [Value.agg.injEq, Array.mk.injEq, List.cons.injEq, and_true, true_and] at e
  obtain ⟨rfl, rfl⟩ := e
  obtain ⟨_, _, e, q1, q2⟩ := h1.opv.below e7
  simp only [Value.agg.injEq, Array.mk.injEq, List.cons.injEq, and_true, true_and] at e
  obtain ⟨rfl, rfl⟩ := e
  obtain ⟨_, _, e, r1, r2⟩ := h2.opv.below e7
  simp only [Value.agg.injEq, Array.mk.injEq, List.cons.injEq, and_true, true_and] at e
  obtain ⟨rfl, rfl⟩ := e
  exact OpsAt.three (heap_alloc2_new _ _ _) ⟨p1, p2, k0⟩ ⟨q1, q2, k1⟩ ⟨r1, r2, k2⟩
set_option maxRecDepth 100000 in
set_option maxHeartbeats 8000000 in
theorem walk (w : World) (v0 : Value) (op0 : OpM) (s0 : OpV w v0 op0) (o0 : op0.ok) (v1 : Value) (l1 : List Int) (s1 : SlI w .u8 v1 l1) :
    Calls Try.prog 3 #[v0, v1] w fun e w' => e = .returned (.bool true) ∧ Below w.heap.size w w' := by
  have HS0 := Lib.hid s0
  have HO0 := Lib.hid o0
  have HS1 := Lib.hid s1
  have AW := Lib.hid fun w' => awake_any w'
  have BG := Lib.hid fun w' h => big_any v0 op0 w' h
  obtain ⟨bg, hbg⟩ : ∃ bg, bigB op0 = bg := ⟨_, rfl⟩
  rw [hbg] at BG
  have HBG := Lib.hid hbg
  obtain ⟨vc, vd, rfl, hvc, hvd⟩ := s0
  obtain ⟨a3, cap3, rfl⟩ := hvc.len
  obtain ⟨a4, cap4, rfl, -⟩ := hvd.len
  clear hvc hvd o0 s1 hbg
  obtain ⟨W, hW⟩ : ∃ W, w.alloc (.cells #[.int .i64 op0.kind, .int .i64 op0.mode, .int .i64 op0.chan, .int .u64 op0.val, .int .i64 op0.dl, .slice a3 op0.cases.length cap3, .slice a4 op0.draws.length cap4] 26) = W := ⟨_, rfl⟩
  have HB : Hid (Below w.heap.size w W) := hW ▸ below_new (Below.refl w.heap.size w) _
  have hz : w.heap.size < W.heap.size := by rw [← hW]; simp
  have R0 : Hid (W.heap[w.heap.size]? = some (.cells #[.int .i64 op0.kind, .int .i64 op0.mode, .int .i64 op0.chan, .int .u64 op0.val, .int .i64 op0.dl, .slice a3 op0.cases.length cap3, .slice a4 op0.draws.length cap4] 26 (0, 0))) := by
    show _ = _
    rw [← hW]; exact heap_alloc_new _ _
  have HW := Lib.hid hW
  clear hW
  go_enter Try.func3, Try.ntmps3
  go_wp2_with fail
  rw [HW.out]
  refine (AW.out _).mono ?_; rintro e w1 ⟨rfl, hb1⟩
  have HB1 := Lib.hid (HB.out.trans (hb1.mono (Nat.le_of_lt hz)))
  have R1 := Lib.hid ((hb1.block w.heap.size hz).trans R0.out)
  have hz1 : w.heap.size < w1.heap.size := Nat.lt_of_lt_of_le hz hb1.size
  clear hb1
  obtain ⟨c0, c1, c2, c3, c4, c5, c6⟩ := row7 R1.out
  go_wp2_with fail
  refine (BG.out _ (HS0.out.below HB1.out)).mono ?_; rintro e w2 ⟨rfl, hb2⟩
  have HB2 := Lib.hid (below_then HB1.out hb2)
  have R2 := Lib.hid ((hb2.block w.heap.size hz1).trans R1.out)
  have hz2 : w.heap.size < w2.heap.size := Nat.lt_of_lt_of_le hz1 hb2.size
  clear hb2 c0 c1 c2 c3 c4 c5 c6
  cases bg with
  | true =>
    go_wp2_with fail
    go_ret
    exact ⟨rfl, HB2.out⟩
  | false =>
    have hlen : op0.cases.length ≤ 20 ∧ op0.draws.length ≤ 20 := by
      have := HBG.out
      simp [bigB] at this
      exact this
    have HLEN := Lib.hid hlen
    clear hlen
    go_wp2_with fail
    refine (new_any _ l1 60 _ (HS1.out.below HB2.out) (by omega)).mono ?_; rintro e w3 ⟨rfl, hc3, hb3⟩
    have hz3 : w.heap.size < w3.heap.size := Nat.lt_of_lt_of_le hz2 hb3.size
    have hgw : w.heap.size < w2.heap.size := hz2
    have hC3 : Hid (CodesE w3 w2.heap.size) := ⟨_, _, hc3⟩
    have HB3 := Lib.hid (below_then HB2.out hb3)
    have R3 := Lib.hid ((hb3.block w.heap.size hz2).trans R2.out)
    have HOX3 : Hid (OpX w3 w2.heap.size (.agg #[.int .i64 op0.kind, .int .i64 op0.mode, .int .i64 op0.chan, .int .u64 op0.val, .int .i64 op0.dl, .slice a3 op0.cases.length cap3, .slice a4 op0.draws.length cap4]) op0) := ((HS0.out.below HB2.out).opx (Nat.le_refl _)).below hb3
    clear hc3 hb3 R2 hz2
    generalize w2.heap.size = g at *
    go_wp2_with fail
    refine (configE g _ hC3.out).mono ?_; rintro e w4 ⟨cv, cf, rfl, hcf, hcl, hc1, hc3, ht1, ht2, hc4, hg4⟩
    have HB4 : Hid (w.grownBy w4 (some g)) := grownBy_trans (grown_of_below HB3.out) hg4
    have HOX4 := Lib.hid (HOX3.out.grown hg4)
    have R4 := Lib.hid ((hg4.block w.heap.size hz3 (by simp; omega)).trans R3.out)
    have hz4 : w.heap.size < w4.heap.size := Nat.lt_of_lt_of_le hz3 hg4.size
    have hC4 := Lib.hid hc4
    have HCF := Lib.hid hcf
    obtain ⟨cvc, cvs, rfl, hs1, hs2, -⟩ := hcf
    obtain ⟨a5, cap5, rfl, -⟩ := hs1.len
    obtain ⟨a6, cap6, rfl, -⟩ := hs2.len
    clear hg4 hc4 hs1 hs2 hcl hc1 ht1 ht2 R3 HOX3
    go_wp2_with fail
    obtain ⟨w5, hw5⟩ : ∃ w5, w4.alloc (.cells #[.slice a5 cf.caps.length cap5, .slice a6 cf.starts.length cap6, .int .i64 cf.threads] 34) = w5 := ⟨_, rfl⟩
    have hb5 : Below w4.heap.size w4 w5 := hw5 ▸ below_new (Below.refl _ _) _
    have hz5 : w.heap.size < w5.heap.size := Nat.lt_of_lt_of_le hz4 hb5.size
    have hq5 : w4.heap.size < w5.heap.size := by rw [← hw5]; simp
    have hg4 := hC4.out.lt
    have R5 := Lib.hid ((hb5.block w.heap.size hz4).trans R4.out)
    have Q5 : Hid (w5.heap[w4.heap.size]? = some (.cells #[.slice a5 cf.caps.length cap5, .slice a6 cf.starts.length cap6, .int .i64 cf.threads] 34 (0, 0))) := hw5 ▸ heap_alloc_new _ _
    have hC5 := Lib.hid (hC4.out.kept hg4 hb5)
    have HCF5 := Lib.hid (HCF.out.below hb5)
    have HOX5 := Lib.hid (HOX4.out.below hb5)
    have HB5 : Hid (w.grownBy w5 (some g)) := grownBy_trans HB4.out (grown_of_below hb5)
    rw [hw5]
    clear hb5 hw5 R4 hC4 HCF HOX4 HB4 HB3 hC3 HB2 HB1 R1 R0 HB
    generalize w4.heap.size = C at *
    refine (opE g _ cf _ hC5.out HCF5.out (by omega)).mono ?_; rintro e w6 ⟨u1, op1, rfl, ho1, hgood1, hc6, hg6⟩
    have HB6 : Hid (w.grownBy w6 (some g)) := grownBy_trans HB5.out hg6
    have HOX6 := Lib.hid (HOX5.out.grown hg6)
    have R6 := Lib.hid ((hg6.block w.heap.size hz5 (by simp; omega)).trans R5.out)
    have hz6 : w.heap.size < w6.heap.size := Nat.lt_of_lt_of_le hz5 hg6.size
    have hC6 := Lib.hid hc6
    have HO1 := Lib.hid ho1
    have HGD := Lib.hid hgood1
    have hg5 : g < w5.heap.size := hC5.out.lt
    obtain ⟨vc1, vd1, rfl, k1, k2, -⟩ := ho1
    obtain ⟨b1, e1, rfl⟩ := k1.len
    obtain ⟨b2, e2, rfl, -⟩ := k2.len
    have HM1 : Hid (OpM.mild op1 6) := ⟨HGD.out.ok, HGD.out.cases, HGD.out.draws, k1.2.1, k2.2.1⟩
    have HX1 := Lib.hid (HO1.out.opx hg5)
    clear hc6 hg6 hgood1 k1 k2 R5 HOX5 HB5 hC5 HCF5 HO1 Q5
    go_wp2_with fail
    obtain ⟨w7, hw7⟩ : ∃ w7, w6.alloc (.cells #[.int .i64 op1.kind, .int .i64 op1.mode, .int .i64 op1.chan, .int .u64 op1.val, .int .i64 op1.dl, .slice b1 op1.cases.length e1, .slice b2 op1.draws.length e2] 26) = w7 := ⟨_, rfl⟩
    have hb7 : Below w6.heap.size w6 w7 := hw7 ▸ below_new (Below.refl _ _) _
    have hp7 : w6.heap.size < w7.heap.size := by rw [← hw7]; simp
    have P7 : w7.heap[w6.heap.size]? = some (.cells #[.int .i64 op1.kind, .int .i64 op1.mode, .int .i64 op1.chan, .int .u64 op1.val, .int .i64 op1.dl, .slice b1 op1.cases.length e1, .slice b2 op1.draws.length e2] 26 (0, 0)) := hw7 ▸ heap_alloc_new _ _
    rw [hw7]
    refine (ownCheck_any _ op1 _ (HX1.out.below hb7).opv HGD.out.ok (by have := HGD.out.cases; omega)).mono ?_; rintro e w8 ⟨rfl, hb8⟩
    rw [HGD.out.check]
    have hbx : Below w6.heap.size w6 w8 := hb7.trans (hb8.mono (Nat.le_of_lt hp7))
    have hg6 := hC6.out.lt
    have hz8 : w.heap.size < w8.heap.size := Nat.lt_of_lt_of_le hz6 hbx.size
    have P8 := Lib.hid ((hb8.block w6.heap.size hp7).trans P7)
    have R8 := Lib.hid ((hbx.block w.heap.size hz6).trans R6.out)
    have hC8 := Lib.hid (hC6.out.kept hg6 hbx)
    have HB8 : Hid (w.grownBy w8 (some g)) := grownBy_trans HB6.out (grown_of_below hbx)
    have HOX8 := Lib.hid (HOX6.out.below hbx)
    have HX8 := Lib.hid (HX1.out.below hbx)
    clear hw7 hb7 hb8 P7 hbx R6 hC6 HB6 HOX6 HX1 hg6 HGD hp7
    generalize w6.heap.size = P at *
    obtain ⟨p0, p1, p2, p3, p4, p5, p6⟩ := row7 P8.out
    go_wp2_with fail
    refine (spoilE g 6 _ op1 _ hC8.out HX8.out HM1.out (by omega)).mono ?_; rintro e w9 ⟨u2, op2, rfl, ho2, hm2, hc9, hg9⟩
    have hg8 := hC8.out.lt
    have HX9 := Lib.hid (ho2.opx hg8)
    have HM2 := Lib.hid hm2
    have hC9 := Lib.hid hc9
    have HB9 : Hid (w.grownBy w9 (some g)) := grownBy_trans HB8.out hg9
    have HOX9 := Lib.hid (HOX8.out.grown hg9)
    have R9 := Lib.hid ((hg9.block w.heap.size hz8 (by simp; omega)).trans R8.out)
    have hz9 : w.heap.size < w9.heap.size := Nat.lt_of_lt_of_le hz8 hg9.size
    obtain ⟨vc2, vd2, rfl, k1, k2, -⟩ := ho2
    obtain ⟨b3, e3, rfl⟩ := k1.len
    obtain ⟨b4, e4, rfl, -⟩ := k2.len
    clear hc9 hm2 k1 k2 hg9 hg8 R8 hC8 HB8 HOX8 HX8 HM1 P8 p0 p1 p2 p3 p4 p5 p6
    go_wp2_with fail
    obtain ⟨w10, hw10⟩ : ∃ w10, w9.alloc (.cells #[.int .i64 op2.kind, .int .i64 op2.mode, .int .i64 op2.chan, .int .u64 op2.val, .int .i64 op2.dl, .slice b3 op2.cases.length e3, .slice b4 op2.draws.length e4] 26) = w10 := ⟨_, rfl⟩
    have hb10 : Below w9.heap.size w9 w10 := hw10 ▸ below_new (Below.refl _ _) _
    have hp10 : w9.heap.size < w10.heap.size := by rw [← hw10]; simp
    have Y10 : w10.heap[w9.heap.size]? = some (.cells #[.int .i64 op2.kind, .int .i64 op2.mode, .int .i64 op2.chan, .int .u64 op2.val, .int .i64 op2.dl, .slice b3 op2.cases.length e3, .slice b4 op2.draws.length e4] 26 (0, 0)) := hw10 ▸ heap_alloc_new _ _
    have hg9 := hC9.out.lt
    have hz10 : w.heap.size < w10.heap.size := Nat.lt_of_lt_of_le hz9 hb10.size
    rw [hw10]
    refine (spoilE g 14 _ op2 _ (hC9.out.kept hg9 hb10) (HX9.out.below hb10) HM2.out (by omega)).mono ?_; rintro e w11 ⟨u3, op3, rfl, ho3, hm3, hc11, hg11⟩
    have HX11 := Lib.hid ((HX9.out.below hb10).grown hg11)
    have HZ11 := Lib.hid (ho3.opx (Nat.lt_of_lt_of_le hg9 hb10.size))
    have HM3 := Lib.hid hm3
    have HB11 : Hid (w.grownBy w11 (some g)) := grownBy_trans (grownBy_trans HB9.out (grown_of_below hb10)) hg11
    have HOX11 := Lib.hid ((HOX9.out.below hb10).grown hg11)
    have R11 := Lib.hid ((hg11.block w.heap.size hz10 (by simp; omega)).trans ((hb10.block w.heap.size hz9).trans R9.out))
    have Y11 := Lib.hid ((hg11.block w9.heap.size hp10 (by simp; omega)).trans Y10)
    have hz11 : w.heap.size < w11.heap.size := Nat.lt_of_lt_of_le hz10 hg11.size
    have hy11 : w9.heap.size < w11.heap.size := Nat.lt_of_lt_of_le hp10 hg11.size
    obtain ⟨vc3, vd3, rfl, k1, k2, -⟩ := ho3
    obtain ⟨b5, e5, rfl⟩ := k1.len
    obtain ⟨b6, e6, rfl, -⟩ := k2.len
    clear hw10 hb10 Y10 hc11 hm3 k1 k2 hg11 R9 hC9 HB9 HOX9 HX9 hz10 hp10
    generalize w9.heap.size = Y at *
    obtain ⟨c0, c1, c2, c3, c4, c5, c6⟩ := row7 R11.out
    obtain ⟨d0, d1, d2, d3, d4, d5, d6⟩ := row7 Y11.out
    go_wp2_with fail
    have HOPS := Lib.hid (ops_made2 (T := 26) (T2 := 26) (o := #[.int .i64 op3.kind, .int .i64 op3.mode, .int .i64 op3.chan, .int .u64 op3.val, .int .i64 op3.dl, .slice b5 op3.cases.length e5, .slice b6 op3.draws.length e6]) HOX11.out HX11.out HZ11.out (m := 22) ⟨HO0.out, by have := HLEN.out.1; omega⟩ ⟨HM2.out.ok, by have := HM2.out.cases; omega⟩ ⟨HM3.out.ok, HM3.out.cases⟩)
    have HBX0 : Hid (Below w.heap.size w w11) := ⟨HB11.out.os, HB11.out.tape, HB11.out.output, HB11.out.size, fun j hj => HB11.out.block j hj (by simp; omega)⟩
    have hBX := Lib.hid (below_new (below_new HBX0.out (.cells #[.int .i64 op3.kind, .int .i64 op3.mode, .int .i64 op3.chan, .int .u64 op3.val, .int .i64 op3.dl, .slice b5 op3.cases.length e5, .slice b6 op3.draws.length e6] 26)) (.cells #[.int .i64 op0.kind, .int .i64 op0.mode, .int .i64 op0.chan, .int .u64 op0.val, .int .i64 op0.dl, .slice a3 op0.cases.length cap3, .slice a4 op0.draws.length cap4, .int .i64 op2.kind, .int .i64 op2.mode, .int .i64 op2.chan, .int .u64 op2.val, .int .i64 op2.dl, .slice b3 op2.cases.length e3, .slice b4 op2.draws.length e4, .int .i64 op3.kind, .int .i64 op3.mode, .int .i64 op3.chan, .int .u64 op3.val, .int .i64 op3.dl, .slice b5 op3.cases.length e5, .slice b6 op3.draws.length e6] 26))
    clear c0 c1 c2 c3 c4 c5 c6 d0 d1 d2 d3 d4 d5 d6 HBX0 R11 Y11 HOX11 HX11 HZ11 HB11 hz11 hy11
    generalize (w11.alloc (.cells #[.int .i64 op3.kind, .int .i64 op3.mode, .int .i64 op3.chan, .int .u64 op3.val, .int .i64 op3.dl, .slice b5 op3.cases.length e5, .slice b6 op3.draws.length e6] 26)).alloc (.cells #[.int .i64 op0.kind, .int .i64 op0.mode, .int .i64 op0.chan, .int .u64 op0.val, .int .i64 op0.dl, .slice a3 op0.cases.length cap3, .slice a4 op0.draws.length cap4, .int .i64 op2.kind, .int .i64 op2.mode, .int .i64 op2.chan, .int .u64 op2.val, .int .i64 op2.dl, .slice b3 op2.cases.length e3, .slice b4 op2.draws.length e4, .int .i64 op3.kind, .int .i64 op3.mode, .int .i64 op3.chan, .int .u64 op3.val, .int .i64 op3.dl, .slice b5 op3.cases.length e5, .slice b6 op3.draws.length e6] 26) = X at *
    generalize w11.heap.size + 1 = B at *
    go_loopw [37] (fun c wr => ∃ k : Nat, k ≤ 3 ∧ c = .int .i64 k ∧ Hid (Below X.heap.size X wr)) (fun c _ => 3 - (intOf c).toNat)
    case atStart => exact ⟨0, by omega, rfl, Below.refl _ _⟩
    case round =>
      obtain ⟨k, hk, rfl, hb⟩ := hrel
      obtain ⟨wo, rfl⟩ : ∃ wo : World, wo = wr := ⟨_, rfl⟩
      by_cases hlt : k < 3
      · obtain ⟨op, vc, vd, hsev, hsc, hsd, hok, hln⟩ := (HOPS.out.below hb.out).2 k hlt
        obtain ⟨x0, x1, x2, x3, x4, x5, x6⟩ := hsev
        obtain ⟨f1, j1, rfl⟩ := hsc.len
        obtain ⟨f2, j2, rfl, -⟩ := hsd.len
        obtain ⟨w1, hw1⟩ : ∃ w1, wo.alloc (.cells #[.int .i64 op.kind, .int .i64 op.mode, .int .i64 op.chan, .int .u64 op.val, .int .i64 op.dl, .slice f1 op.cases.length j1, .slice f2 op.draws.length j2] 26) = w1 := ⟨_, rfl⟩
        have hb1 : Below wo.heap.size wo w1 := hw1 ▸ below_new (Below.refl _ _) _
        have hr1 : w1.heap[wo.heap.size]? = some (.cells #[.int .i64 op.kind, .int .i64 op.mode, .int .i64 op.chan, .int .u64 op.val, .int .i64 op.dl, .slice f1 op.cases.length j1, .slice f2 op.draws.length j2] 26 (0, 0)) := hw1 ▸ heap_alloc_new _ _
        have hz1 : wo.heap.size < w1.heap.size := by rw [← hw1]; simp
        have HV1 : Hid (OpV w1 (.agg #[.int .i64 op.kind, .int .i64 op.mode, .int .i64 op.chan, .int .u64 op.val, .int .i64 op.dl, .slice f1 op.cases.length j1, .slice f2 op.draws.length j2]) op) := ⟨_, _, rfl, hsc.below hb1, hsd.below hb1⟩
        have HR1 := Lib.hid hr1
        have HB1 := Lib.hid (hb.out.trans (hb1.mono hb.out.size))
        have HW1 := Lib.hid hw1
        have OC := Lib.hid fun v' w' h => ownCheck_any v' op w' h hok (by omega)
        have RC := Lib.hid fun v' w' h => check_any v' op w' h
        clear hb1 hr1 hw1 hsc hsd hok
        generalize checkE op = ce at *
        go_upto_region 15 with fail
        rw [HW1.out]
        clear HW1 x0 x1 x2 x3 x4 x5 x6
        obtain ⟨x0, x1, x2, x3, x4, x5, x6⟩ := row7 HR1.out
        go_region_law (first
          | (go_simp; go_at_call 14; refine (RC.out _ _ (by exact HV2.out)).mono ?_; rintro e w3 ⟨rfl, hb3⟩; have HB3 := Lib.hid (HB2.out.trans (hb3.mono HB2.out.size)); clear hb3)
          | (go_simp; go_at_call 12; refine (OC.out _ _ (by exact HV1.out)).mono ?_; rintro e w2 ⟨rfl, hb2⟩; have hb2 : Below w1.heap.size w1 w2 := undrewB hb2; have HV2 := Lib.hid (HV1.out.below hb2); have HB2 := Lib.hid (HB1.out.trans (hb2.mono HB1.out.size)); obtain ⟨x0, x1, x2, x3, x4, x5, x6⟩ := row7 ((hb2.block wo.heap.size hz1).trans HR1.out); clear hb2))
        all_goals
          go_wp2_with fail
          go_roundw
          case rel => exact ⟨k + 1, by omega, by go_num, HB3⟩
          case measure => simp [intOf]; omega
      · obtain rfl : k = 3 := by omega
        go_wp2
        go_ret
        exact ⟨rfl, hBX.out.trans (hb.out.mono hBX.out.size)⟩
set_option maxRecDepth 100000 in
theorem lifted (os : Os) (started : os.Started) (H : Type) (enc : TypeId × Value → H) :
    ReturnsInHanded {} Try.checked os 3 .any (Rows.casesChecksSpec.pre6 enc Try.prog Try.f3 Rows.casesChecksRow.domain false) (Rows.casesChecksSpec.post enc Try.prog Try.f3 false true false false) := by
  refine returnsInHanded_of_change_sized (C := Try.checked) own started (by kernel_rfl) Try.func3
    (ChangeSpec.witness6 (enc := enc) (C := Try.checked) false ⟨#[], #[.agg #[.int .i64 0, .int .i64 0, .int .i64 0, .int .u64 0, .int .i64 0, .slice none 0 0, .slice none 0 0], .slice none 0 0], []⟩ 8 (by kernel_rfl) (by kernel_rfl) (by kernel_rfl) (by kernel_rfl)) ?_
  intro W base args ds gs before hval0 hW _ hsz0 _
  have hsz : (DataW.weightsEach Try.prog (Try.f3.params.toList ++ Rows.casesChecksSpec.plain.varTypes Try.prog) (ds ++ gs)).all (· ≤ reachBytes) = true := hsz0
  clear hsz0
  have hval : ∀ (j : Nat) t v, Try.f3.params[j]? = some t → args[j]? = some v → Value.okWide Try.prog W .any base t v := hval0
  have hW' := hW
  obtain ⟨p, q, hA0, hV, rfl, _, _⟩ := hW
  have hA : DataW.TrodAll enc Try.prog W 0 (fun _ => true) true Try.f3.params.toList args.toList ds p := hA0
  rw [Try.params3] at hA hval hsz
  obtain ⟨v0, vs0, d0, ds0, p0, q0, hargs, rfl, rfl, h0, r0⟩ := trodAll_cons hA
  obtain ⟨v1, vs1, d1, ds1, p1, q1, rfl, rfl, rfl, h1, r1⟩ := trodAll_cons r0
  obtain ⟨rfl, rfl, rfl⟩ := trodAll_nil r1
  obtain rfl : args = #[v0, v1] := by cases args; simp_all
  obtain ⟨rfl, rfl⟩ := trodVars_none hV
  have k0 := h0
  have k1 := h1
  obtain ⟨op0, s0, o0⟩ := view_op (fun parts hd => sized_agg hsz (j := 0) (t := 26) rfl (by rw [hd]; rfl) Try.underlying26) (hval 0 26 v0 rfl rfl) h0
  obtain ⟨l1, s1⟩ := view_sl (k := .u8) Try.underlying27 Try.underlying5 (by kernel_rfl) (fun elems sp hd => sized_slice hsz (j := 1) (t := 27) (e := 5) rfl (by rw [hd]; rfl) Try.underlying27) (of_decide_eq_true (by kernel_rfl)) (hval 1 27 v1 rfl rfl) h1
  clear hA0 hval0
  simp only [List.append_nil] at hW'
  have hlt := hW'.lt
  refine (walk W v0 op0 s0 o0 v1 l1 s1).mono fun e W' ⟨he, hb⟩ => ?_
  subst he
  exact ⟨_, rfl, _, _, _, [], _, [], hW', trodAll_cons_mk (shut_bool Try.underlying4 _) trodAll_mk0, (trodAll_cons_mk (Below.trod Try.laidOut (by kernel_rfl) (of_decide_eq_true (by kernel_rfl)) k0 hb (fun x hx => by simpa using hlt x (by simp [hx]))) (trodAll_cons_mk (Below.trod Try.laidOut (by kernel_rfl) (of_decide_eq_true (by kernel_rfl)) k1 hb (fun x hx => by simpa using hlt x (by simp [hx]))) trodAll_mk0)), rfl, hb.frame _, fun h => by cases h⟩
theorem over : Rows.casesChecksRow.holds Try.pinned (OpenSpec.ofChange Rows.casesChecksSpec) :=
  OpenClaim.holds_of_wide 3 Try.f3 rfl rfl rfl rfl rfl rfl rfl ⟨rfl, rfl, rfl, rfl, rfl⟩ rfl rfl rfl rfl rfl (by kernel_rfl) Try.func3 (by kernel_rfl)
    (of_decide_eq_true (by kernel_rfl)) (by unfold Func.isWrapper; first | (rw [if_pos (by decide +kernel)]; kernel_rfl) | (rw [if_neg (by decide +kernel)]; exact ⟨rfl, rfl⟩))
    (fun os started H enc _ => lifted os started H enc)
/-- THE STATEMENT -/
theorem proved : Rows.CasesChecksSaid :=
  over
end Go.Proofs.Ytggnomnfcdibeaa.casesChecks
