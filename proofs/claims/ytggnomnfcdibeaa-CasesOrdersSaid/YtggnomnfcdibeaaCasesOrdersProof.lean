/- Proved: CasesOrders returns true, and its arguments read afterwards as before, for every operation raw and every list of codes; no condition. -/
import Derived.Test.YtggnomnfcdibeaaLaw
import Derived.Test.YtggnomnfcdibeaaLawOp
import Derived.Test.YtggnomnfcdibeaaL3Awake
import Derived.Test.YtggnomnfcdibeaaCodes5
import Derived.Test.YtggnomnfcdibeaaLawOp
import Derived.Deep.DeepCutAuto
import Derived.Deep.RegionLaw
import Derived.LoopTactic
import Derived.WalkKit
import Derived.ProofKit
import Derived.OpenShut
import Derived.SizedLaws
namespace Go.Proofs.Ytggnomnfcdibeaa.casesOrders
open Go.ChangeShapes Go.WideShapes Go.ChangeAt Go.RowKit
set_option linter.unusedVariables false
/-- seven cells of a row, from an offset on -/
def Seven (w : World) (b o : Nat) (op : OpM) (vc vd : Value) : Prop :=
  w.cell? ⟨b, o, none⟩ = some (.int .i64 op.kind) ∧ w.cell? ⟨b, o + 1, none⟩ = some (.int .i64 op.mode) ∧ w.cell? ⟨b, o + 2, none⟩ = some (.int .i64 op.chan) ∧ w.cell? ⟨b, o + 3, none⟩ = some (.int .u64 op.val) ∧
  w.cell? ⟨b, o + 4, none⟩ = some (.int .i64 op.dl) ∧ w.cell? ⟨b, o + 5, none⟩ = some vc ∧ w.cell? ⟨b, o + 6, none⟩ = some vd
theorem Seven.below {w w' : World} {b o B : Nat} {op : OpM} {vc vd : Value} (h : Seven w b o op vc vd) (hb : b < B) (hw : Below B w w') : Seven w' b o op vc vd := by
  obtain ⟨h0, h1, h2, h3, h4, h5, h6⟩ := h
  have k : ∀ j, w'.cell? ⟨b, j, none⟩ = w.cell? ⟨b, j, none⟩ := fun j => hw.cell (p := ⟨b, j, none⟩) hb
  exact ⟨(k _).trans h0, (k _).trans h1, (k _).trans h2, (k _).trans h3, (k _).trans h4, (k _).trans h5, (k _).trans h6⟩
/-- a list of operations that was just laid in block b: each reads as an operation of at most n cases -/
def OpsAt (w : World) (b n m : Nat) : Prop :=
  b < w.heap.size ∧ ∀ i, i < n → ∃ op vc vd, Seven w b (i * 7) op vc vd ∧ SlC w vc op.cases ∧ SlI w .i64 vd op.draws ∧ op.ok ∧ op.cases.length ≤ m
theorem OpsAt.below {w w' : World} {b n m : Nat} (h : OpsAt w b n m) (hw : Below w.heap.size w w') : OpsAt w' b n m := by
  refine ⟨Nat.lt_of_lt_of_le h.1 hw.size, fun i hi => ?_⟩
  obtain ⟨op, vc, vd, h1, h2, h3, h4⟩ := h.2 i hi
  exact ⟨op, vc, vd, h1.below h.1 hw, h2.below hw, h3.below hw, h4⟩
theorem OpsAt.three {w : World} {b m : Nat} {op0 op1 op2 : OpM} {a0 a1 a2 b0 b1 b2 : Value} {T : TypeId}
    (h : w.heap[b]? = some (.cells #[.int .i64 op0.kind, .int .i64 op0.mode, .int .i64 op0.chan, .int .u64 op0.val, .int .i64 op0.dl, a0, b0, .int .i64 op1.kind, .int .i64 op1.mode, .int .i64 op1.chan, .int .u64 op1.val, .int .i64 op1.dl, a1, b1, .int .i64 op2.kind, .int .i64 op2.mode, .int .i64 op2.chan, .int .u64 op2.val, .int .i64 op2.dl, a2, b2] T (0, 0)))
    (h0 : SlC w a0 op0.cases ∧ SlI w .i64 b0 op0.draws ∧ op0.ok ∧ op0.cases.length ≤ m) (h1 : SlC w a1 op1.cases ∧ SlI w .i64 b1 op1.draws ∧ op1.ok ∧ op1.cases.length ≤ m) (h2 : SlC w a2 op2.cases ∧ SlI w .i64 b2 op2.draws ∧ op2.ok ∧ op2.cases.length ≤ m) : OpsAt w b 3 m := by
  refine ⟨(Array.getElem?_eq_some_iff.1 h).1, fun i hi => ?_⟩
  have k : ∀ j, w.cell? ⟨b, j, none⟩ = _ := fun j => cell_of_row w b j _ _ _ h
  obtain rfl | rfl | rfl : i = 0 ∨ i = 1 ∨ i = 2 := by omega
  · exact ⟨op0, a0, b0, ⟨k 0, k 1, k 2, k 3, k 4, k 5, k 6⟩, h0⟩
  · exact ⟨op1, a1, b1, ⟨k 7, k 8, k 9, k 10, k 11, k 12, k 13⟩, h1⟩
  · exact ⟨op2, a2, b2, ⟨k 14, k 15, k 16, k 17, k 18, k 19, k 20⟩, h2⟩
theorem ops_made {w5 w6 w7 : World} {g : Nat} {op0 op1 op2 : OpM} {a0 b0 a1 b1 a2 b2 : Value} {T : TypeId} (h0 : OpX w5 g (.agg #[.int .i64 op0.kind, .int .i64 op0.mode, .int .i64 op0.chan, .int .u64 op0.val, .int .i64 op0.dl, a0, b0]) op0)
    (hg : g < w5.heap.size) (g6 : w5.grownBy w6 (some g)) (h1 : OpN w6 w5.heap.size (.agg #[.int .i64 op1.kind, .int .i64 op1.mode, .int .i64 op1.chan, .int .u64 op1.val, .int .i64 op1.dl, a1, b1]) op1) (g7 : w6.grownBy w7 (some g))
    (h2 : OpN w7 w6.heap.size (.agg #[.int .i64 op2.kind, .int .i64 op2.mode, .int .i64 op2.chan, .int .u64 op2.val, .int .i64 op2.dl, a2, b2]) op2) (k0 : op0.ok ∧ op0.cases.length ≤ 20) (k1 : op1.good) (k2 : op2.good) :
    OpsAt (w7.alloc (.cells #[.int .i64 op0.kind, .int .i64 op0.mode, .int .i64 op0.chan, .int .u64 op0.val, .int .i64 op0.dl, a0, b0, .int .i64 op1.kind, .int .i64 op1.mode, .int .i64 op1.chan, .int .u64 op1.val, .int .i64 op1.dl, a1, b1, .int .i64 op2.kind, .int .i64 op2.mode, .int .i64 op2.chan, .int .u64 op2.val, .int .i64 op2.dl, a2, b2] T)) w7.heap.size 3 20 := by
  have e7 := below_new (Below.refl w7.heap.size w7) (.cells #[.int .i64 op0.kind, .int .i64 op0.mode, .int .i64 op0.chan, .int .u64 op0.val, .int .i64 op0.dl, a0, b0, .int .i64 op1.kind, .int .i64 op1.mode, .int .i64 op1.chan, .int .u64 op1.val, .int .i64 op1.dl, a1, b1, .int .i64 op2.kind, .int .i64 op2.mode, .int .i64 op2.chan, .int .u64 op2.val, .int .i64 op2.dl, a2, b2] T)
  obtain ⟨_, _, e, p1, p2⟩ := (((h0.grown g6).grown g7).opv).below e7
  simp only [Value.agg.injEq, Array.mk.injEq, List.cons.injEq, and_true, true_and] at e
  obtain ⟨rfl, rfl⟩ := e
  obtain ⟨_, _, e, q1, q2⟩ := (((h1.grown g7 hg).opx hg).opv).below e7
  simp only [Value.agg.injEq, Array.mk.injEq, List.cons.injEq, and_true, true_and] at e
  obtain ⟨rfl, rfl⟩ := e
  obtain ⟨_, _, e, r1, r2⟩ := ((h2.opx (Nat.lt_of_lt_of_le hg g6.size)).opv).below e7
  simp only [Value.agg.injEq, Array.mk.injEq, List.cons.injEq, and_true, true_and] at e
  obtain ⟨rfl, rfl⟩ := e
  exact OpsAt.three (heap_alloc_new _ _) ⟨p1, p2, k0⟩ ⟨q1, q2, k1.ok, by have := k1.cases; omega⟩ ⟨r1, r2, k2.ok, by have := k2.cases; omega⟩
set_option maxRecDepth 100000 in
set_option maxHeartbeats 8000000 in
theorem walk (w : World) (v0 : Value) (op0 : OpM) (s0 : OpV w v0 op0) (o0 : op0.ok) (v1 : Value) (l1 : List Int) (s1 : SlI w .u8 v1 l1) :
    Calls Try.prog 5 #[v0, v1] w fun e w' => e = .returned (.bool true) ∧ Below w.heap.size w w' := by
  have HS0 := Lib.hid s0
  have HO0 := Lib.hid o0
  have HS1 := Lib.hid s1
  have AW := Lib.hid fun w' => awake_any w'
  have BG := Lib.hid fun w' h => big_any v0 op0 w' h
  obtain ⟨bg, hbg⟩ : ∃ bg, bigB op0 = bg := ⟨_, rfl⟩
  rw [hbg] at BG
  have HBG := Lib.hid hbg
  obtain ⟨vc, vd, rfl, hvc, hvd⟩ := s0
  obtain ⟨a3, cap3, rfl⟩ := hvc.len
  obtain ⟨a4, cap4, rfl, -⟩ := hvd.len
  clear hvc hvd o0 s1 hbg
  obtain ⟨W, hW⟩ : ∃ W, w.alloc (.cells #[.int .i64 op0.kind, .int .i64 op0.mode, .int .i64 op0.chan, .int .u64 op0.val, .int .i64 op0.dl, .slice a3 op0.cases.length cap3, .slice a4 op0.draws.length cap4] 26) = W := ⟨_, rfl⟩
  have HB : Hid (Below w.heap.size w W) := hW ▸ below_new (Below.refl w.heap.size w) _
  have hz : w.heap.size < W.heap.size := by rw [← hW]; simp
  have R0 : Hid (W.heap[w.heap.size]? = some (.cells #[.int .i64 op0.kind, .int .i64 op0.mode, .int .i64 op0.chan, .int .u64 op0.val, .int .i64 op0.dl, .slice a3 op0.cases.length cap3, .slice a4 op0.draws.length cap4] 26 (0, 0))) := by
    show _ = _
    rw [← hW]; exact heap_alloc_new _ _
  have HW := Lib.hid hW
  clear hW
  go_enter Try.func5, Try.ntmps5
  go_wp2_with fail
  rw [HW.out]
  refine (AW.out _).mono ?_; rintro e w1 ⟨rfl, hb1⟩
  have HB1 := Lib.hid (HB.out.trans (hb1.mono (Nat.le_of_lt hz)))
  have R1 := Lib.hid ((hb1.block w.heap.size hz).trans R0.out)
  have hz1 : w.heap.size < w1.heap.size := Nat.lt_of_lt_of_le hz hb1.size
  clear hb1
  obtain ⟨c0, c1, c2, c3, c4, c5, c6⟩ := row7 R1.out
  go_wp2_with fail
  refine (BG.out _ (HS0.out.below HB1.out)).mono ?_; rintro e w2 ⟨rfl, hb2⟩
  have HB2 := Lib.hid (below_then HB1.out hb2)
  have R2 := Lib.hid ((hb2.block w.heap.size hz1).trans R1.out)
  have hz2 : w.heap.size < w2.heap.size := Nat.lt_of_lt_of_le hz1 hb2.size
  clear hb2 c0 c1 c2 c3 c4 c5 c6
  cases bg with
  | true =>
    go_wp2_with fail
    go_ret
    exact ⟨rfl, HB2.out⟩
  | false =>
    have hlen : op0.cases.length ≤ 20 ∧ op0.draws.length ≤ 20 := by
      have := HBG.out
      simp [bigB] at this
      exact this
    have HLEN := Lib.hid hlen
    clear hlen
    go_wp2_with fail
    refine (new_any _ l1 60 _ (HS1.out.below HB2.out) (by omega)).mono ?_; rintro e w3 ⟨rfl, hc3, hb3⟩
    have hz3 : w.heap.size < w3.heap.size := Nat.lt_of_lt_of_le hz2 hb3.size
    have hgw : w.heap.size < w2.heap.size := hz2
    have hC3 : Hid (CodesE w3 w2.heap.size) := ⟨_, _, hc3⟩
    have HB3 := Lib.hid (below_then HB2.out hb3)
    have R3 := Lib.hid ((hb3.block w.heap.size hz2).trans R2.out)
    have HOX3 : Hid (OpX w3 w2.heap.size (.agg #[.int .i64 op0.kind, .int .i64 op0.mode, .int .i64 op0.chan, .int .u64 op0.val, .int .i64 op0.dl, .slice a3 op0.cases.length cap3, .slice a4 op0.draws.length cap4]) op0) := ((HS0.out.below HB2.out).opx (Nat.le_refl _)).below hb3
    clear hc3 hb3 R2 hz2
    generalize w2.heap.size = g at *
    go_wp2_with fail
    refine (configE g _ hC3.out).mono ?_; rintro e w4 ⟨cv, cf, rfl, hcf, hcl, hc1, hc3, ht1, ht2, hc4, hg4⟩
    have HB4 : Hid (w.grownBy w4 (some g)) := grownBy_trans (grown_of_below HB3.out) hg4
    have HOX4 := Lib.hid (HOX3.out.grown hg4)
    have R4 := Lib.hid ((hg4.block w.heap.size hz3 (by simp; omega)).trans R3.out)
    have hz4 : w.heap.size < w4.heap.size := Nat.lt_of_lt_of_le hz3 hg4.size
    have hC4 := Lib.hid hc4
    have HCF := Lib.hid hcf
    obtain ⟨cvc, cvs, rfl, hs1, hs2, -⟩ := hcf
    obtain ⟨a5, cap5, rfl, -⟩ := hs1.len
    obtain ⟨a6, cap6, rfl, -⟩ := hs2.len
    clear hg4 hc4 hs1 hs2 hcl hc1 ht1 ht2 R3 HOX3
    go_upto_region 7 with fail
    obtain ⟨w5, hw5⟩ : ∃ w5, w4.alloc (.cells #[.slice a5 cf.caps.length cap5, .slice a6 cf.starts.length cap6, .int .i64 cf.threads] 34) = w5 := ⟨_, rfl⟩
    have hb5 : Below w4.heap.size w4 w5 := hw5 ▸ below_new (Below.refl _ _) _
    have hz5 : w.heap.size < w5.heap.size := Nat.lt_of_lt_of_le hz4 hb5.size
    have hq5 : w4.heap.size < w5.heap.size := by rw [← hw5]; simp
    have hg4 := hC4.out.lt
    have R5 := Lib.hid ((hb5.block w.heap.size hz4).trans R4.out)
    have Q5 : Hid (w5.heap[w4.heap.size]? = some (.cells #[.slice a5 cf.caps.length cap5, .slice a6 cf.starts.length cap6, .int .i64 cf.threads] 34 (0, 0))) := hw5 ▸ heap_alloc_new _ _
    have hC5 := Lib.hid (hC4.out.kept hg4 hb5)
    have HCF5 := Lib.hid (HCF.out.below hb5)
    have HOX5 := Lib.hid (HOX4.out.below hb5)
    have HB5 : Hid (w.grownBy w5 (some g)) := grownBy_trans HB4.out (grown_of_below hb5)
    rw [hw5]
    clear hb5 hw5 R4 hC4 HCF HOX4 HB4 HB3 hC3 HB2 HB1 R1 R0 HB
    generalize w4.heap.size = C at *
    go_cut [28, 29, 30] (fun s28 s29 s30 wx => ∃ B : Nat, s28 = .slice (some ⟨B, 0, none⟩) 3 3 ∧ s29 = .int .i64 3 ∧ s30 = .int .i64 0 ∧ Hid (OpsAt wx B 3 20) ∧ Hid (Below w.heap.size w wx))
    case first =>
      obtain ⟨c0, c1, c2, c3, c4, c5, c6⟩ := row7 R5.out
      obtain ⟨d0, d1, d2⟩ := row3 Q5.out
      go_region_law (first
        | (go_simp; go_at_call 11; refine (opE g _ cf _ (by exact hC5.out) (by exact HCF5.out) (by omega)).mono ?_; rintro e w6 ⟨u1, op1, rfl, ho1, hgood1, hc6, hg6⟩; have HG6 : Hid (w5.grownBy w6 (some g)) := undrewG hg6; have HO1 := Lib.hid ho1; have hC6 := Lib.hid hc6; have HGD1 := Lib.hid hgood1; obtain ⟨c0, c1, c2, c3, c4, c5, c6⟩ := row7 ((HG6.out.block w.heap.size hz5 (by simp; omega)).trans R5.out); obtain ⟨d0, d1, d2⟩ := row3 ((HG6.out.block C hq5 (by simp; omega)).trans Q5.out); obtain ⟨vc1, vd1, rfl, k1, k2, -⟩ := ho1; obtain ⟨b1, e1, rfl⟩ := k1.len; obtain ⟨b2, e2, rfl, -⟩ := k2.len; clear hc6 hg6 hgood1 k1 k2)
        | (go_simp; go_at_call 22; refine (selectE g 6 _ cf _ (by exact hC6.out) (by exact HCF5.out.grown HG6.out) (by omega) (by omega)).mono ?_; rintro e w7 ⟨u2, op2, rfl, ho2, hgood2, hc7, hg7⟩; have HG7 := Lib.hid hg7; have HO2 := Lib.hid ho2; have HGD2 := Lib.hid hgood2; obtain ⟨c0, c1, c2, c3, c4, c5, c6⟩ := row7 ((hg7.block w.heap.size (Nat.lt_of_lt_of_le hz5 HG6.out.size) (by simp; omega)).trans ((HG6.out.block w.heap.size hz5 (by simp; omega)).trans R5.out)); obtain ⟨vc2, vd2, rfl, k1, k2, -⟩ := ho2; obtain ⟨b3, e3, rfl⟩ := k1.len; obtain ⟨b4, e4, rfl, -⟩ := k2.len; clear hc7 hg7 hgood2 k1 k2))
      all_goals
        clear c0 c1 c2 c3 c4 c5 c6
        try clear d0 d1 d2
        go_wp2_with fail
        go_meet
        refine ⟨w7.heap.size, rfl, rfl, rfl, ops_made HOX5.out (by omega) HG6.out HO1.out HG7.out HO2.out ⟨HO0.out, HLEN.out.1⟩ HGD1.out HGD2.out, ?_⟩
        have hgf := grownBy_trans (grownBy_trans HB5.out HG6.out) HG7.out
        exact below_new ⟨hgf.os, hgf.tape, hgf.output, hgf.size, fun j hj => hgf.block j hj (by simp; omega)⟩ _
    case rest =>
      obtain ⟨B, rfl, rfl, rfl, hOPS, hBX⟩ := hcut
      clear hC5 HCF5 HOX5 HB5 Q5 R5 hz5 hq5
      obtain ⟨X, rfl⟩ : ∃ X : World, X = wc := ⟨_, rfl⟩
      go_wp2_with fail
      go_loopw [30] (fun c wr => ∃ k : Nat, k ≤ 3 ∧ c = .int .i64 k ∧ Hid (Below X.heap.size X wr)) (fun c _ => 3 - (intOf c).toNat)
      case atStart => exact ⟨0, by omega, rfl, Below.refl _ _⟩
      case round =>
        obtain ⟨k, hk, rfl, hb⟩ := hrel
        obtain ⟨wo, rfl⟩ : ∃ wo : World, wo = wr := ⟨_, rfl⟩
        by_cases hlt : k < 3
        · obtain ⟨op, vc, vd, hsev, hsc, hsd, hok, hln⟩ := (hOPS.out.below hb.out).2 k hlt
          obtain ⟨x0, x1, x2, x3, x4, x5, x6⟩ := hsev
          obtain ⟨b1, e1, rfl⟩ := hsc.len
          obtain ⟨b2, e2, rfl, -⟩ := hsd.len
          obtain ⟨w1, hw1⟩ : ∃ w1, wo.alloc (.cells #[.int .i64 op.kind, .int .i64 op.mode, .int .i64 op.chan, .int .u64 op.val, .int .i64 op.dl, .slice b1 op.cases.length e1, .slice b2 op.draws.length e2] 26) = w1 := ⟨_, rfl⟩
          have hb1 : Below wo.heap.size wo w1 := hw1 ▸ below_new (Below.refl _ _) _
          have hr1 : w1.heap[wo.heap.size]? = some (.cells #[.int .i64 op.kind, .int .i64 op.mode, .int .i64 op.chan, .int .u64 op.val, .int .i64 op.dl, .slice b1 op.cases.length e1, .slice b2 op.draws.length e2] 26 (0, 0)) := hw1 ▸ heap_alloc_new _ _
          have hz1 : wo.heap.size < w1.heap.size := by rw [← hw1]; simp
          have HV1 : Hid (OpV w1 (.agg #[.int .i64 op.kind, .int .i64 op.mode, .int .i64 op.chan, .int .u64 op.val, .int .i64 op.dl, .slice b1 op.cases.length e1, .slice b2 op.draws.length e2]) op) := ⟨_, _, rfl, hsc.below hb1, hsd.below hb1⟩
          have HR1 := Lib.hid hr1
          have HB1 := Lib.hid (hb.out.trans (hb1.mono hb.out.size))
          have HW1 := Lib.hid hw1
          clear hb1 hr1 hw1 hsc hsd
          go_wp2_with fail
          rw [HW1.out]
          refine (single_any _ op _ HV1.out).mono ?_; rintro e w2 ⟨rfl, hb2⟩
          rw [show caseW (sgC op) = .agg #[.bool (sgC op).send, .int .i64 (sgC op).chan, .int .u64 (sgC op).val] from rfl]
          have HV2 := Lib.hid (HV1.out.below hb2)
          have HR2 := Lib.hid ((hb2.block wo.heap.size hz1).trans HR1.out)
          have hz2 : wo.heap.size < w2.heap.size := Nat.lt_of_lt_of_le hz1 hb2.size
          have HB2 := Lib.hid (HB1.out.trans (hb2.mono HB1.out.size))
          clear hb2 HV1 HR1 HB1 HW1 x0 x1 x2 x3 x4 x5 x6
          have RS := Lib.hid fun v' w' h => rsingle_any v' op w' h
          rw [show caseW (sgC op) = .agg #[.bool (sgC op).send, .int .i64 (sgC op).chan, .int .u64 (sgC op).val] from rfl] at RS
          generalize sgC op = sc at *
          generalize sgB op = sb at *
          obtain ⟨w3, hw3⟩ : ∃ w3, w2.alloc (.cells #[.bool sc.send, .int .i64 sc.chan, .int .u64 sc.val] 50) = w3 := ⟨_, rfl⟩
          have hb3 : Below w2.heap.size w2 w3 := hw3 ▸ below_new (Below.refl _ _) _
          have HV3 := Lib.hid (HV2.out.below hb3)
          have HR3 := Lib.hid ((hb3.block wo.heap.size hz2).trans HR2.out)
          have HA3 : Hid (w3.heap[w2.heap.size]? = some (.cells #[.bool sc.send, .int .i64 sc.chan, .int .u64 sc.val] 50 (0, 0))) := hw3 ▸ heap_alloc_new _ _
          have hz3 : w2.heap.size < w3.heap.size := by rw [← hw3]; simp
          have HB3 := Lib.hid (HB2.out.trans (hb3.mono HB2.out.size))
          have HW3 := Lib.hid hw3
          obtain ⟨x0, x1, x2, x3, x4, x5, x6⟩ := row7 HR2.out
          obtain ⟨y0, y1, y2, y3, y4, y5, y6⟩ := row7 HR3.out
          clear hb3 hw3 HV2 HR2 HB2
          go_wp2_with fail
          rw [HW3.out]
          refine (RS.out _ _ HV3.out).mono ?_; rintro e w4 ⟨rfl, hb4⟩
          have HV4 := Lib.hid (HV3.out.below hb4)
          have HR4 := Lib.hid ((hb4.block wo.heap.size (by omega)).trans HR3.out)
          have HA4 := Lib.hid ((hb4.block w2.heap.size hz3).trans HA3.out)
          have HB4 := Lib.hid (HB3.out.trans (hb4.mono HB3.out.size))
          have hz4 : w2.heap.size < w4.heap.size := Nat.lt_of_lt_of_le hz3 hb4.size
          clear hb4 HV3 HR3 HA3 HB3 HW3 x0 x1 x2 x3 x4 x5 x6 y0 y1 y2 y3 y4 y5 y6
          obtain ⟨w5, hw5⟩ : ∃ w5, w4.alloc (.cells #[.bool sc.send, .int .i64 sc.chan, .int .u64 sc.val] 50) = w5 := ⟨_, rfl⟩
          have hb5 : Below w4.heap.size w4 w5 := hw5 ▸ below_new (Below.refl _ _) _
          have HV5 := Lib.hid (HV4.out.below hb5)
          have HR5 := Lib.hid ((hb5.block wo.heap.size (by omega)).trans HR4.out)
          have HA5 := Lib.hid ((hb5.block w2.heap.size hz4).trans HA4.out)
          have HC5 : Hid (w5.heap[w4.heap.size]? = some (.cells #[.bool sc.send, .int .i64 sc.chan, .int .u64 sc.val] 50 (0, 0))) := hw5 ▸ heap_alloc_new _ _
          have HB5 := Lib.hid (HB4.out.trans (hb5.mono HB4.out.size))
          have hz5 : w4.heap.size < w5.heap.size := by rw [← hw5]; simp
          have HW5 := Lib.hid hw5
          clear hb5 hw5 HV4 HR4 HA4 HB4
          go_upto_region 12 with fail
          rw [HW5.out]
          clear HW5
          go_cut [59] (fun s59 wx => s59 = .bool false ∧ Hid (Below X.heap.size X wx))
          case first =>
            obtain ⟨x0, x1, x2, x3, x4, x5, x6⟩ := row7 HR5.out
            obtain ⟨y0, y1, y2⟩ := row3 HA5.out
            obtain ⟨z0, z1, z2⟩ := row3 HC5.out
            have ES : decide (ordL op.cases.length op.draws = ordL op.cases.length op.draws) = true := decide_eq_true rfl
            have OA := Lib.hid fun v' w' h => ownOrder_any v' op w' h
            have OB := Lib.hid fun v' w' h => refOrder_any v' op w' h
            generalize ordL op.cases.length op.draws = ol at *
            have HES := Lib.hid ES
            clear ES
            go_region_law (first
              | (go_simp; go_at_call 25; refine (OA.out _ _ (by exact HV5.out)).mono ?_; rintro e w6 ⟨uo, rfl, hu6, hb6⟩; have hb6 : Below w5.heap.size w5 w6 := undrewB hb6; have HV6 := Lib.hid (HV5.out.below hb6); have HU6 := Lib.hid hu6; have HB6 := Lib.hid (HB5.out.trans (hb6.mono HB5.out.size)); obtain ⟨x0, x1, x2, x3, x4, x5, x6⟩ := row7 ((hb6.block wo.heap.size (by omega)).trans HR5.out); obtain ⟨y0, y1, y2⟩ := row3 ((hb6.block w2.heap.size (by omega)).trans HA5.out); obtain ⟨z0, z1, z2⟩ := row3 ((hb6.block w4.heap.size hz5).trans HC5.out); clear hb6 hu6)
              | (go_simp; go_at_call 26; refine (OB.out _ _ (by exact HV6.out)).mono ?_; rintro e w7 ⟨ur, rfl, hu7, hb7⟩; have HU7 := Lib.hid hu7; have HU6b := Lib.hid (HU6.out.below hb7); have HB7 := Lib.hid (HB6.out.trans (hb7.mono HB6.out.size)); clear hb7 hu7)
              | (go_simp; go_at_call 17; refine (same_any _ _ ol ol _ (by exact HU6b.out) (by exact HU7.out)).mono ?_; rintro e w8 ⟨n8, rfl, rfl⟩; rw [HES.out]; have HB8 := Lib.hid (below_drewN HB7.out n8)))
            all_goals
              (go_wp2_with fail
               go_meet
               exact ⟨rfl, HB8⟩)
          case rest =>
            obtain ⟨rfl, hBX2⟩ := hcut
            go_wp2
            go_roundw
            case rel => exact ⟨k + 1, by omega, by go_num, hBX2⟩
            case measure => simp [intOf]; omega
        · obtain rfl : k = 3 := by omega
          go_wp2
          go_ret
          exact ⟨rfl, hBX.out.trans (hb.out.mono hBX.out.size)⟩
set_option maxRecDepth 100000 in
theorem lifted (os : Os) (started : os.Started) (H : Type) (enc : TypeId × Value → H) :
    ReturnsInHanded {} Try.checked os 5 .any (Rows.casesOrdersSpec.pre6 enc Try.prog Try.f5 Rows.casesOrdersRow.domain false) (Rows.casesOrdersSpec.post enc Try.prog Try.f5 false true false false) := by
  refine returnsInHanded_of_change_sized (C := Try.checked) own started (by kernel_rfl) Try.func5
    (ChangeSpec.witness6 (enc := enc) (C := Try.checked) false ⟨#[], #[.agg #[.int .i64 0, .int .i64 0, .int .i64 0, .int .u64 0, .int .i64 0, .slice none 0 0, .slice none 0 0], .slice none 0 0], []⟩ 8 (by kernel_rfl) (by kernel_rfl) (by kernel_rfl) (by kernel_rfl)) ?_
  intro W base args ds gs before hval0 hW _ hsz0 _
  have hsz : (DataW.weightsEach Try.prog (Try.f5.params.toList ++ Rows.casesOrdersSpec.plain.varTypes Try.prog) (ds ++ gs)).all (· ≤ reachBytes) = true := hsz0
  clear hsz0
  have hval : ∀ (j : Nat) t v, Try.f5.params[j]? = some t → args[j]? = some v → Value.okWide Try.prog W .any base t v := hval0
  have hW' := hW
  obtain ⟨p, q, hA0, hV, rfl, _, _⟩ := hW
  have hA : DataW.TrodAll enc Try.prog W 0 (fun _ => true) true Try.f5.params.toList args.toList ds p := hA0
  rw [Try.params5] at hA hval hsz
  obtain ⟨v0, vs0, d0, ds0, p0, q0, hargs, rfl, rfl, h0, r0⟩ := trodAll_cons hA
  obtain ⟨v1, vs1, d1, ds1, p1, q1, rfl, rfl, rfl, h1, r1⟩ := trodAll_cons r0
  obtain ⟨rfl, rfl, rfl⟩ := trodAll_nil r1
  obtain rfl : args = #[v0, v1] := by cases args; simp_all
  obtain ⟨rfl, rfl⟩ := trodVars_none hV
  have k0 := h0
  have k1 := h1
  obtain ⟨op0, s0, o0⟩ := view_op (fun parts hd => sized_agg hsz (j := 0) (t := 26) rfl (by rw [hd]; rfl) Try.underlying26) (hval 0 26 v0 rfl rfl) h0
  obtain ⟨l1, s1⟩ := view_sl (k := .u8) Try.underlying27 Try.underlying5 (by kernel_rfl) (fun elems sp hd => sized_slice hsz (j := 1) (t := 27) (e := 5) rfl (by rw [hd]; rfl) Try.underlying27) (of_decide_eq_true (by kernel_rfl)) (hval 1 27 v1 rfl rfl) h1
  clear hA0 hval0
  simp only [List.append_nil] at hW'
  have hlt := hW'.lt
  refine (walk W v0 op0 s0 o0 v1 l1 s1).mono fun e W' ⟨he, hb⟩ => ?_
  subst he
  exact ⟨_, rfl, _, _, _, [], _, [], hW', trodAll_cons_mk (shut_bool Try.underlying4 _) trodAll_mk0, (trodAll_cons_mk (Below.trod Try.laidOut (by kernel_rfl) (of_decide_eq_true (by kernel_rfl)) k0 hb (fun x hx => by simpa using hlt x (by simp [hx]))) (trodAll_cons_mk (Below.trod Try.laidOut (by kernel_rfl) (of_decide_eq_true (by kernel_rfl)) k1 hb (fun x hx => by simpa using hlt x (by simp [hx]))) trodAll_mk0)), rfl, hb.frame _, fun h => by cases h⟩
theorem over : Rows.casesOrdersRow.holds Try.pinned (OpenSpec.ofChange Rows.casesOrdersSpec) :=
  OpenClaim.holds_of_wide 5 Try.f5 rfl rfl rfl rfl rfl rfl rfl ⟨rfl, rfl, rfl, rfl, rfl⟩ rfl rfl rfl rfl rfl (by kernel_rfl) Try.func5 (by kernel_rfl)
    (of_decide_eq_true (by kernel_rfl)) (by unfold Func.isWrapper; first | (rw [if_pos (by decide +kernel)]; kernel_rfl) | (rw [if_neg (by decide +kernel)]; exact ⟨rfl, rfl⟩))
    (fun os started H enc _ => lifted os started H enc)
/-- THE STATEMENT -/
theorem proved : Rows.CasesOrdersSaid :=
  over
end Go.Proofs.Ytggnomnfcdibeaa.casesOrders
