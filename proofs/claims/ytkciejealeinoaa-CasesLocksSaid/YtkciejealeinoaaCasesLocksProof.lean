/- Proved: CasesLocks returns true, and its arguments read afterwards as before, for every operation raw, every list of codes and every int channel; no condition. -/
import Derived.Test.YtkciejealeinoaaLaw
import Derived.Test.YtkciejealeinoaaLawOp
import Derived.Test.YtkciejealeinoaaL3Awake
import Derived.Test.YtkciejealeinoaaCodes6
import Derived.Test.YtkciejealeinoaaCodes7
import Derived.Test.YtkciejealeinoaaL3RLocks
import Derived.Test.YtkciejealeinoaaLawOp
import Derived.Deep.DeepCutAuto
import Derived.Deep.RegionLaw
import Derived.LoopTactic
import Derived.WalkKit
import Derived.ProofKit
import Derived.OpenShut
import Derived.SizedLaws
namespace Go.Proofs.Ytkciejealeinoaa.casesLocks
open Go.ChangeShapes Go.WideShapes Go.ChangeAt Go.RowKit
set_option linter.unusedVariables false
/-- seven cells of a row, from an offset on -/
def Seven (w : World) (b o : Nat) (op : OpM) (vc vd : Value) : Prop :=
  w.cell? ⟨b, o, none⟩ = some (.int .i64 op.kind) ∧ w.cell? ⟨b, o + 1, none⟩ = some (.int .i64 op.mode) ∧ w.cell? ⟨b, o + 2, none⟩ = some (.int .i64 op.chan) ∧ w.cell? ⟨b, o + 3, none⟩ = some (.int .u64 op.val) ∧
  w.cell? ⟨b, o + 4, none⟩ = some (.int .i64 op.dl) ∧ w.cell? ⟨b, o + 5, none⟩ = some vc ∧ w.cell? ⟨b, o + 6, none⟩ = some vd
theorem Seven.below {w w' : World} {b o B : Nat} {op : OpM} {vc vd : Value} (h : Seven w b o op vc vd) (hb : b < B) (hw : Below B w w') : Seven w' b o op vc vd := by
  obtain ⟨h0, h1, h2, h3, h4, h5, h6⟩ := h
  have k : ∀ j, w'.cell? ⟨b, j, none⟩ = w.cell? ⟨b, j, none⟩ := fun j => hw.cell (p := ⟨b, j, none⟩) hb
  exact ⟨(k _).trans h0, (k _).trans h1, (k _).trans h2, (k _).trans h3, (k _).trans h4, (k _).trans h5, (k _).trans h6⟩
/-- a list of operations that was just laid in block b: each reads as an operation of at most n cases -/
def OpsAt (w : World) (b n m : Nat) : Prop :=
  b < w.heap.size ∧ ∀ i, i < n → ∃ op vc vd, Seven w b (i * 7) op vc vd ∧ SlC w vc op.cases ∧ SlI w .i64 vd op.draws ∧ op.ok ∧ op.cases.length ≤ m
theorem OpsAt.below {w w' : World} {b n m : Nat} (h : OpsAt w b n m) (hw : Below w.heap.size w w') : OpsAt w' b n m := by
  refine ⟨Nat.lt_of_lt_of_le h.1 hw.size, fun i hi => ?_⟩
  obtain ⟨op, vc, vd, h1, h2, h3, h4⟩ := h.2 i hi
  exact ⟨op, vc, vd, h1.below h.1 hw, h2.below hw, h3.below hw, h4⟩
theorem OpsAt.three {w : World} {b m : Nat} {op0 op1 op2 : OpM} {a0 a1 a2 b0 b1 b2 : Value} {T : TypeId}
    (h : w.heap[b]? = some (.cells #[.int .i64 op0.kind, .int .i64 op0.mode, .int .i64 op0.chan, .int .u64 op0.val, .int .i64 op0.dl, a0, b0, .int .i64 op1.kind, .int .i64 op1.mode, .int .i64 op1.chan, .int .u64 op1.val, .int .i64 op1.dl, a1, b1, .int .i64 op2.kind, .int .i64 op2.mode, .int .i64 op2.chan, .int .u64 op2.val, .int .i64 op2.dl, a2, b2] T (0, 0)))
    (h0 : SlC w a0 op0.cases ∧ SlI w .i64 b0 op0.draws ∧ op0.ok ∧ op0.cases.length ≤ m) (h1 : SlC w a1 op1.cases ∧ SlI w .i64 b1 op1.draws ∧ op1.ok ∧ op1.cases.length ≤ m) (h2 : SlC w a2 op2.cases ∧ SlI w .i64 b2 op2.draws ∧ op2.ok ∧ op2.cases.length ≤ m) : OpsAt w b 3 m := by
  refine ⟨(Array.getElem?_eq_some_iff.1 h).1, fun i hi => ?_⟩
  have k : ∀ j, w.cell? ⟨b, j, none⟩ = _ := fun j => cell_of_row w b j _ _ _ h
  obtain rfl | rfl | rfl : i = 0 ∨ i = 1 ∨ i = 2 := by omega
  · exact ⟨op0, a0, b0, ⟨k 0, k 1, k 2, k 3, k 4, k 5, k 6⟩, h0⟩
  · exact ⟨op1, a1, b1, ⟨k 7, k 8, k 9, k 10, k 11, k 12, k 13⟩, h1⟩
  · exact ⟨op2, a2, b2, ⟨k 14, k 15, k 16, k 17, k 18, k 19, k 20⟩, h2⟩
theorem ops_made3 {w : World} {g m : Nat} {op0 op1 op2 : OpM} {a0 b0 a1 b1 a2 b2 : Value} {T : TypeId} (h0 : OpX w g (.agg #[.int .i64 op0.kind, .int .i64 op0.mode, .int .i64 op0.chan, .int .u64 op0.val, .int .i64 op0.dl, a0, b0]) op0)
    (h1 : OpX w g (.agg #[.int .i64 op1.kind, .int .i64 op1.mode, .int .i64 op1.chan, .int .u64 op1.val, .int .i64 op1.dl, a1, b1]) op1)
    (h2 : OpX w g (.agg #[.int .i64 op2.kind, .int .i64 op2.mode, .int .i64 op2.chan, .int .u64 op2.val, .int .i64 op2.dl, a2, b2]) op2) (k0 : op0.ok ∧ op0.cases.length ≤ m) (k1 : op1.ok ∧ op1.cases.length ≤ m) (k2 : op2.ok ∧ op2.cases.length ≤ m) :
    OpsAt (w.alloc (.cells #[.int .i64 op0.kind, .int .i64 op0.mode, .int .i64 op0.chan, .int .u64 op0.val, .int .i64 op0.dl, a0, b0, .int .i64 op1.kind, .int .i64 op1.mode, .int .i64 op1.chan, .int .u64 op1.val, .int .i64 op1.dl, a1, b1, .int .i64 op2.kind, .int .i64 op2.mode, .int .i64 op2.chan, .int .u64 op2.val, .int .i64 op2.dl, a2, b2] T)) w.heap.size 3 m := by
  have e7 := below_new (Below.refl w.heap.size w) (.cells #[.int .i64 op0.kind, .int .i64 op0.mode, .int .i64 op0.chan, .int .u64 op0.val, .int .i64 op0.dl, a0, b0, .int .i64 op1.kind, .int .i64 op1.mode, .int .i64 op1.chan, .int .u64 op1.val, .int .i64 op1.dl, a1, b1, .int .i64 op2.kind, .int .i64 op2.mode, .int .i64 op2.chan, .int .u64 op2.val, .int .i64 op2.dl, a2, b2] T)
  obtain ⟨_, _, e, p1, p2⟩ := h0.opv.below e7
  simp only [Value.agg.injEq, Array.mk.injEq, List.cons.injEq, and_true, true_and] at e
  obtain ⟨rfl, rfl⟩ := e
  obtain ⟨_, _, e, q1, q2⟩ := h1.opv.below e7
  simp only [Value.agg.injEq, Array.mk.injEq, List.cons.injEq, and_true, true_and] at e
  obtain ⟨rfl, rfl⟩ := e
  obtain ⟨_, _, e, r1, r2⟩ := h2.opv.below e7
  simp only [Value.agg.injEq, Array.mk.injEq, List.cons.injEq, and_true, true_and] at e
  obtain ⟨rfl, rfl⟩ := e
  exact OpsAt.three (heap_alloc_new _ _) ⟨p1, p2, k0⟩ ⟨q1, q2, k1⟩ ⟨r1, r2, k2⟩
/-- a list of two configurations that was just laid in block b -/
def ConfsAt (w : World) (b m : Nat) : Prop :=
  b < w.heap.size ∧ ∀ i, i < 2 → ∃ (c : ConfM) (vc vs : Value), w.cell? ⟨b, i * 3, none⟩ = some vc ∧ w.cell? ⟨b, i * 3 + 1, none⟩ = some vs ∧ w.cell? ⟨b, i * 3 + 2, none⟩ = some (.int .i64 c.threads) ∧ SlI w .i64 vc c.caps ∧ SlI w .u64 vs c.starts ∧ c.caps.length ≤ m
theorem ConfsAt.below {w w' : World} {b m : Nat} (h : ConfsAt w b m) (hw : Below w.heap.size w w') : ConfsAt w' b m := by
  refine ⟨Nat.lt_of_lt_of_le h.1 hw.size, fun i hi => ?_⟩
  obtain ⟨c, vc, vs, h1, h2, h3, h4, h5, h6⟩ := h.2 i hi
  have k : ∀ j, w'.cell? ⟨b, j, none⟩ = w.cell? ⟨b, j, none⟩ := fun j => hw.cell (p := ⟨b, j, none⟩) h.1
  exact ⟨c, vc, vs, (k _).trans h1, (k _).trans h2, (k _).trans h3, h4.below hw, h5.below hw, h6⟩
theorem confs_made {w : World} {m : Nat} {x y : ConfM} {a0 b0 a1 b1 : Value} {T : TypeId} (h0 : SlI w .i64 a0 x.caps ∧ SlI w .u64 b0 x.starts ∧ x.caps.length ≤ m) (h1 : SlI w .i64 a1 y.caps ∧ SlI w .u64 b1 y.starts ∧ y.caps.length ≤ m) :
    ConfsAt (w.alloc (.cells #[a0, b0, .int .i64 x.threads, a1, b1, .int .i64 y.threads] T)) w.heap.size m := by
  have hn := below_new (Below.refl w.heap.size w) (.cells #[a0, b0, .int .i64 x.threads, a1, b1, .int .i64 y.threads] T)
  refine ⟨by simp, fun i hi => ?_⟩
  have k : ∀ j, (w.alloc (.cells #[a0, b0, .int .i64 x.threads, a1, b1, .int .i64 y.threads] T)).cell? ⟨w.heap.size, j, none⟩ = _ := fun j => cell_of_row _ _ j _ _ _ (heap_alloc_new w _)
  obtain rfl | rfl : i = 0 ∨ i = 1 := by omega
  · exact ⟨x, a0, b0, k 0, k 1, k 2, h0.1.below hn, h0.2.1.below hn, h0.2.2⟩
  · exact ⟨y, a1, b1, k 3, k 4, k 5, h1.1.below hn, h1.2.1.below hn, h1.2.2⟩
theorem asc_at (n : Nat) (l : List Int) (i : Nat) (h : i + 1 < (lockL n l).length) : decide ((lockL n l).getD (i + 1) 0 ≤ (lockL n l).getD i 0) = false := by
  have h2 := List.pairwise_iff_getElem.1 (lockL_asc n l) i (i + 1) (by omega) h (by omega)
  have e1 : (lockL n l).getD (i + 1) 0 = (lockL n l)[i + 1] := by simp [List.getD_eq_getElem?_getD, h]
  have e2 : (lockL n l).getD i 0 = (lockL n l)[i]'(by omega) := by simp [List.getD_eq_getElem?_getD, show i < (lockL n l).length by omega]
  rw [e1, e2]
  simpa using h2
set_option maxRecDepth 100000 in
set_option maxHeartbeats 8000000 in
theorem walk (w : World) (v0 : Value) (op0 : OpM) (s0 : OpV w v0 op0) (o0 : op0.ok) (v1 : Value) (l1 : List Int) (s1 : SlI w .u8 v1 l1) (a2 : Int) (w2 : (Lit.int .i64 a2).wf = true) :
    Calls Try.prog 3 #[v0, v1, .int .i64 a2] w fun e w' => e = .returned (.bool true) ∧ Below w.heap.size w w' := by
  have HS0 := Lib.hid s0
  have HO0 := Lib.hid o0
  have HS1 := Lib.hid s1
  have AW := Lib.hid fun w' => awake_any w'
  have BG := Lib.hid fun w' h => big_any v0 op0 w' h
  obtain ⟨bg, hbg⟩ : ∃ bg, bigB op0 = bg := ⟨_, rfl⟩
  rw [hbg] at BG
  have HBG := Lib.hid hbg
  obtain ⟨vc, vd, rfl, hvc, hvd⟩ := s0
  obtain ⟨a3, cap3, rfl⟩ := hvc.len
  obtain ⟨a4, cap4, rfl, -⟩ := hvd.len
  clear hvc hvd o0 s1 hbg
  obtain ⟨W, hW⟩ : ∃ W, w.alloc (.cells #[.int .i64 op0.kind, .int .i64 op0.mode, .int .i64 op0.chan, .int .u64 op0.val, .int .i64 op0.dl, .slice a3 op0.cases.length cap3, .slice a4 op0.draws.length cap4] 26) = W := ⟨_, rfl⟩
  have HB : Hid (Below w.heap.size w W) := hW ▸ below_new (Below.refl w.heap.size w) _
  have hz : w.heap.size < W.heap.size := by rw [← hW]; simp
  have R0 : Hid (W.heap[w.heap.size]? = some (.cells #[.int .i64 op0.kind, .int .i64 op0.mode, .int .i64 op0.chan, .int .u64 op0.val, .int .i64 op0.dl, .slice a3 op0.cases.length cap3, .slice a4 op0.draws.length cap4] 26 (0, 0))) := by
    show _ = _
    rw [← hW]; exact heap_alloc_new _ _
  have HW := Lib.hid hW
  clear hW
  go_enter Try.func3, Try.ntmps3
  go_wp2_with fail
  rw [HW.out]
  refine (AW.out _).mono ?_; rintro e w1 ⟨rfl, hb1⟩
  have HB1 := Lib.hid (HB.out.trans (hb1.mono (Nat.le_of_lt hz)))
  have R1 := Lib.hid ((hb1.block w.heap.size hz).trans R0.out)
  have hz1 : w.heap.size < w1.heap.size := Nat.lt_of_lt_of_le hz hb1.size
  clear hb1
  obtain ⟨c0, c1, c2, c3, c4, c5, c6⟩ := row7 R1.out
  go_wp2_with fail
  refine (BG.out _ (HS0.out.below HB1.out)).mono ?_; rintro e w2 ⟨rfl, hb2⟩
  have HB2 := Lib.hid (below_then HB1.out hb2)
  have R2 := Lib.hid ((hb2.block w.heap.size hz1).trans R1.out)
  have hz2 : w.heap.size < w2.heap.size := Nat.lt_of_lt_of_le hz1 hb2.size
  clear hb2 c0 c1 c2 c3 c4 c5 c6
  cases bg with
  | true =>
    go_wp2_with fail
    go_ret
    exact ⟨rfl, HB2.out⟩
  | false =>
    have hlen : op0.cases.length ≤ 20 ∧ op0.draws.length ≤ 20 := by
      have := HBG.out
      simp [bigB] at this
      exact this
    have HLEN := Lib.hid hlen
    clear hlen
    go_wp2_with fail
    refine (new_any _ l1 60 _ (HS1.out.below HB2.out) (by omega)).mono ?_; rintro e w3 ⟨rfl, hc3, hb3⟩
    have hz3 : w.heap.size < w3.heap.size := Nat.lt_of_lt_of_le hz2 hb3.size
    have hgw : w.heap.size < w2.heap.size := hz2
    have hC3 : Hid (CodesE w3 w2.heap.size) := ⟨_, _, hc3⟩
    have HB3 := Lib.hid (below_then HB2.out hb3)
    have R3 := Lib.hid ((hb3.block w.heap.size hz2).trans R2.out)
    have HOX3 : Hid (OpX w3 w2.heap.size (.agg #[.int .i64 op0.kind, .int .i64 op0.mode, .int .i64 op0.chan, .int .u64 op0.val, .int .i64 op0.dl, .slice a3 op0.cases.length cap3, .slice a4 op0.draws.length cap4]) op0) := ((HS0.out.below HB2.out).opx (Nat.le_refl _)).below hb3
    clear hc3 hb3 R2 hz2
    generalize w2.heap.size = g at *
    go_wp2_with fail
    refine (configE g _ hC3.out).mono ?_; rintro e w4 ⟨cv, cf, rfl, hcf, hcl, hc1, hc3, ht1, ht2, hc4, hg4⟩
    have HB4 : Hid (w.grownBy w4 (some g)) := grownBy_trans (grown_of_below HB3.out) hg4
    have HOX4 := Lib.hid (HOX3.out.grown hg4)
    have R4 := Lib.hid ((hg4.block w.heap.size hz3 (by simp; omega)).trans R3.out)
    have hz4 : w.heap.size < w4.heap.size := Nat.lt_of_lt_of_le hz3 hg4.size
    have hC4 := Lib.hid hc4
    have HCF := Lib.hid hcf
    obtain ⟨cvc, cvs, rfl, hs1, hs2, -⟩ := hcf
    obtain ⟨a5, cap5, rfl, -⟩ := hs1.len
    obtain ⟨a6, cap6, rfl, -⟩ := hs2.len
    clear hg4 hc4 hs1 hs2 hcl hc1 ht1 ht2 R3 HOX3
    go_wp2_with fail
    refine (wideE g _ hC4.out).mono ?_; rintro e w5 ⟨u5, cw, rfl, hcw, hwl, hc5, hg5⟩
    have HB5 : Hid (w.grownBy w5 (some g)) := grownBy_trans HB4.out hg5
    have HOX5 := Lib.hid (HOX4.out.grown hg5)
    have HCF5 := Lib.hid (HCF.out.grown hg5)
    have HCW5 := Lib.hid hcw
    have R5 := Lib.hid ((hg5.block w.heap.size hz4 (by simp; omega)).trans R4.out)
    have hz5 : w.heap.size < w5.heap.size := Nat.lt_of_lt_of_le hz4 hg5.size
    have hC5 := Lib.hid hc5
    obtain ⟨cwc, cws, rfl, hs1, hs2, -⟩ := hcw
    obtain ⟨a7, cap7, rfl, -⟩ := hs1.len
    obtain ⟨a8, cap8, rfl, -⟩ := hs2.len
    clear hg5 hc5 hs1 hs2 R4 HOX4 HCF HB4 HB3 hC3 HB2 HB1 R1 R0 HB hC4
    go_wp2_with fail
    obtain ⟨w6, hw6⟩ : ∃ w6, (w5.alloc (.cells #[.slice a5 cf.caps.length cap5, .slice a6 cf.starts.length cap6, .int .i64 cf.threads] 34)).alloc (.cells #[.slice a7 cw.caps.length cap7, .slice a8 cw.starts.length cap8, .int .i64 cw.threads] 34) = w6 := ⟨_, rfl⟩
    have hb6 : Below w5.heap.size w5 w6 := hw6 ▸ below_new (below_new (Below.refl _ _) _) _
    have hq6 : w5.heap.size + 1 < w6.heap.size := by rw [← hw6]; simp
    have X6 : w6.heap[w5.heap.size]? = some (.cells #[.slice a5 cf.caps.length cap5, .slice a6 cf.starts.length cap6, .int .i64 cf.threads] 34 (0, 0)) := hw6 ▸ heap_alloc2_old _ _ _
    have W6 : w6.heap[w5.heap.size + 1]? = some (.cells #[.slice a7 cw.caps.length cap7, .slice a8 cw.starts.length cap8, .int .i64 cw.threads] 34 (0, 0)) := hw6 ▸ heap_alloc2_new _ _ _
    rw [hw6]
    refine (opE g _ cf _ (hC5.out.kept hC5.out.lt hb6) (HCF5.out.below hb6) (by omega)).mono ?_; rintro e w7 ⟨u1, op1, rfl, ho1, hgood1, hc7, hg7⟩
    have hg6 := hC5.out.lt
    have HB7 : Hid (w.grownBy w7 (some g)) := grownBy_trans (grownBy_trans HB5.out (grown_of_below hb6)) hg7
    have HOX7 := Lib.hid ((HOX5.out.below hb6).grown hg7)
    have HCF7 := Lib.hid ((HCF5.out.below hb6).grown hg7)
    have HCW7 := Lib.hid ((HCW5.out.below hb6).grown hg7)
    have R7 := Lib.hid ((hg7.block w.heap.size (Nat.lt_of_lt_of_le hz5 hb6.size) (by simp; omega)).trans ((hb6.block w.heap.size hz5).trans R5.out))
    have X7 := Lib.hid ((hg7.block w5.heap.size (by omega) (by simp; omega)).trans X6)
    have W7 := Lib.hid ((hg7.block (w5.heap.size + 1) (by omega) (by simp; omega)).trans W6)
    have hz7 : w5.heap.size + 1 < w7.heap.size := Nat.lt_of_lt_of_le hq6 hg7.size
    have hC7 := Lib.hid hc7
    have HO1 := Lib.hid (ho1.opx (Nat.lt_of_lt_of_le hg6 hb6.size))
    have HGD := Lib.hid hgood1
    obtain ⟨vc1, vd1, rfl, k1, k2, -⟩ := ho1
    obtain ⟨b1, e1, rfl⟩ := k1.len
    obtain ⟨b2, e2, rfl, -⟩ := k2.len
    have HM1 : Hid (OpM.mild op1 6) := ⟨HGD.out.ok, HGD.out.cases, HGD.out.draws, k1.2.1, k2.2.1⟩
    clear hw6 hb6 hq6 X6 W6 hc7 hg7 hgood1 k1 k2 R5 hC5 HB5 HOX5 HCF5 HCW5
    generalize w5.heap.size = C at *
    go_wp2_with fail
    obtain ⟨w8, hw8⟩ : ∃ w8, w7.alloc (.cells #[.int .i64 op1.kind, .int .i64 op1.mode, .int .i64 op1.chan, .int .u64 op1.val, .int .i64 op1.dl, .slice b1 op1.cases.length e1, .slice b2 op1.draws.length e2] 26) = w8 := ⟨_, rfl⟩
    have hb8 : Below w7.heap.size w7 w8 := hw8 ▸ below_new (Below.refl _ _) _
    have hp8 : w7.heap.size < w8.heap.size := by rw [← hw8]; simp
    have P8 : Hid (w8.heap[w7.heap.size]? = some (.cells #[.int .i64 op1.kind, .int .i64 op1.mode, .int .i64 op1.chan, .int .u64 op1.val, .int .i64 op1.dl, .slice b1 op1.cases.length e1, .slice b2 op1.draws.length e2] 26 (0, 0))) := hw8 ▸ heap_alloc_new _ _
    rw [hw8]
    have hg7 := hC7.out.lt
    have hzw : w.heap.size < w7.heap.size := HB7.out.size |> fun h => by omega
    have hC8 := Lib.hid (hC7.out.kept hg7 hb8)
    have HX8 := Lib.hid (HO1.out.below hb8)
    have HB8 : Hid (w.grownBy w8 (some g)) := grownBy_trans HB7.out (grown_of_below hb8)
    have HOX8 := Lib.hid (HOX7.out.below hb8)
    have HCF8 := Lib.hid (HCF7.out.below hb8)
    have HCW8 := Lib.hid (HCW7.out.below hb8)
    have R8 := Lib.hid ((hb8.block w.heap.size hzw).trans R7.out)
    have X8 := Lib.hid ((hb8.block C (by omega)).trans X7.out)
    have W8 := Lib.hid ((hb8.block (C + 1) (by omega)).trans W7.out)
    have hz8 : C + 1 < w8.heap.size := Nat.lt_of_lt_of_le hz7 hb8.size
    go_cut [37, 38, 39] (fun s37 s38 s39 wx => ∃ B : Nat, s37 = .slice (some ⟨B, 0, none⟩) 3 3 ∧ s38 = .int .i64 3 ∧ s39 = .int .i64 0 ∧ Hid (OpsAt wx B 3 20) ∧ Hid (Below w.heap.size w wx) ∧ C + 1 < wx.heap.size ∧ Hid (ConfX wx g (.agg #[.slice a5 cf.caps.length cap5, .slice a6 cf.starts.length cap6, .int .i64 cf.threads]) cf) ∧ Hid (ConfX wx g (.agg #[.slice a7 cw.caps.length cap7, .slice a8 cw.starts.length cap8, .int .i64 cw.threads]) cw) ∧ Hid (wx.heap[C]? = some (.cells #[.slice a5 cf.caps.length cap5, .slice a6 cf.starts.length cap6, .int .i64 cf.threads] 34 (0, 0))) ∧ Hid (wx.heap[C + 1]? = some (.cells #[.slice a7 cw.caps.length cap7, .slice a8 cw.starts.length cap8, .int .i64 cw.threads] 34 (0, 0))))
    case first =>
      clear HO1 HB7 HOX7 HCF7 HCW7 R7 X7 W7 hC7 hw8 hb8
      obtain ⟨c0, c1, c2, c3, c4, c5, c6⟩ := row7 R8.out
      obtain ⟨d0, d1, d2, d3, d4, d5, d6⟩ := row7 P8.out
      have hq8 := hC8.out.lt
      have hzw8 : w.heap.size < w8.heap.size := by omega
      generalize w7.heap.size = P at *
      go_region_law (first
        | (go_simp; go_at_call 16; refine (spoilE g 6 _ op1 _ (by exact hC8.out) (by exact HX8.out) HM1.out (by omega)).mono ?_; rintro e w9 ⟨u2, op2, rfl, ho2, hm2, hc9, hg9⟩; have HG9 : Hid (w8.grownBy w9 (some g)) := undrewG hg9; have HX9 := Lib.hid (ho2.opx hq8); have HM2 := Lib.hid hm2; obtain ⟨c0, c1, c2, c3, c4, c5, c6⟩ := row7 ((HG9.out.block w.heap.size hzw8 (by simp; omega)).trans R8.out); obtain ⟨d0, d1, d2, d3, d4, d5, d6⟩ := row7 ((HG9.out.block P hp8 (by simp; omega)).trans P8.out); obtain ⟨vc2, vd2, rfl, k1, k2, -⟩ := ho2; obtain ⟨b3, e3, rfl⟩ := k1.len; obtain ⟨b4, e4, rfl, -⟩ := k2.len; clear hc9 hg9 hm2 k1 k2))
      all_goals
        clear c0 c1 c2 c3 c4 c5 c6 d0 d1 d2 d3 d4 d5 d6
        go_wp2_with fail
        go_meet
        have hgf := grownBy_trans HB8.out HG9.out
        have hsz := HG9.out.size
        have hn := below_new (Below.refl w9.heap.size w9) (.cells #[.int .i64 op0.kind, .int .i64 op0.mode, .int .i64 op0.chan, .int .u64 op0.val, .int .i64 op0.dl, .slice a3 op0.cases.length cap3, .slice a4 op0.draws.length cap4, .int .i64 op1.kind, .int .i64 op1.mode, .int .i64 op1.chan, .int .u64 op1.val, .int .i64 op1.dl, .slice b1 op1.cases.length e1, .slice b2 op1.draws.length e2, .int .i64 op2.kind, .int .i64 op2.mode, .int .i64 op2.chan, .int .u64 op2.val, .int .i64 op2.dl, .slice b3 op2.cases.length e3, .slice b4 op2.draws.length e4] 26)
        refine ⟨w9.heap.size, rfl, rfl, rfl, ops_made3 (HOX8.out.grown HG9.out) (HX8.out.grown HG9.out) HX9.out ⟨HO0.out, HLEN.out.1⟩ ⟨HM1.out.ok, by have := HM1.out.cases; omega⟩ ⟨HM2.out.ok, by have := HM2.out.cases; omega⟩, ?_, by simp; omega, (HCF8.out.grown HG9.out).below hn, (HCW8.out.grown HG9.out).below hn, (hn.block C (by omega)).trans ((HG9.out.block C (by omega) (by simp; omega)).trans X8.out), (hn.block (C + 1) (by omega)).trans ((HG9.out.block (C + 1) (by omega) (by simp; omega)).trans W8.out)⟩
        exact below_new ⟨hgf.os, hgf.tape, hgf.output, hgf.size, fun j hj => hgf.block j hj (by simp; omega)⟩ _
    case rest =>
      obtain ⟨B, rfl, rfl, rfl, hOPS, hBX, hzx, hCFX, hCWX, hXX, hWX⟩ := hcut
      clear HO1 HB7 HOX7 HCF7 HCW7 R7 X7 W7 hC7 hw8 hb8 P8 HX8 hC8 HB8 HOX8 HCF8 HCW8 R8 X8 W8 hz8 hp8 hz7 hg7
      obtain ⟨X, rfl⟩ : ∃ X : World, X = wc := ⟨_, rfl⟩
      have HCV : Hid (∀ wr, Below X.heap.size X wr → SlI wr .i64 (.slice a5 cf.caps.length cap5) cf.caps ∧ SlI wr .u64 (.slice a6 cf.starts.length cap6) cf.starts ∧ SlI wr .i64 (.slice a7 cw.caps.length cap7) cw.caps ∧ SlI wr .u64 (.slice a8 cw.starts.length cap8) cw.starts) := fun wr hb => by
        obtain ⟨_, _, e, h1, h2, _⟩ := hCFX.out.below hb
        simp only [Value.agg.injEq, Array.mk.injEq, List.cons.injEq, and_true, true_and] at e
        obtain ⟨rfl, rfl⟩ := e
        obtain ⟨_, _, e, h3, h4, _⟩ := hCWX.out.below hb
        simp only [Value.agg.injEq, Array.mk.injEq, List.cons.injEq, and_true, true_and] at e
        obtain ⟨rfl, rfl⟩ := e
        exact ⟨h1, h2, h3, h4⟩
      have HCL : Hid (cf.caps.length ≤ 8 ∧ cw.caps.length ≤ 8) := ⟨by omega, hwl⟩
      clear hCFX hCWX
      go_wp2_with fail
      go_loopw [39] (fun c wr => ∃ k : Nat, k ≤ 3 ∧ c = .int .i64 k ∧ Hid (Below X.heap.size X wr)) (fun c _ => 3 - (intOf c).toNat)
      case atStart => exact ⟨0, by omega, rfl, Below.refl _ _⟩
      case round =>
        obtain ⟨k, hk, rfl, hb⟩ := hrel
        obtain ⟨wo, rfl⟩ : ∃ wo : World, wo = wr := ⟨_, rfl⟩
        by_cases hlt : k < 3
        · obtain ⟨op, vc, vd, hsev, hsc, hsd, hok, hln⟩ := (hOPS.out.below hb.out).2 k hlt
          obtain ⟨x0, x1, x2, x3, x4, x5, x6⟩ := hsev
          obtain ⟨f1, j1, rfl⟩ := hsc.len
          obtain ⟨f2, j2, rfl, -⟩ := hsd.len
          obtain ⟨w1, hw1⟩ : ∃ w1, wo.alloc (.cells #[.int .i64 op.kind, .int .i64 op.mode, .int .i64 op.chan, .int .u64 op.val, .int .i64 op.dl, .slice f1 op.cases.length j1, .slice f2 op.draws.length j2] 26) = w1 := ⟨_, rfl⟩
          have hb1 : Below wo.heap.size wo w1 := hw1 ▸ below_new (Below.refl _ _) _
          have hr1 : w1.heap[wo.heap.size]? = some (.cells #[.int .i64 op.kind, .int .i64 op.mode, .int .i64 op.chan, .int .u64 op.val, .int .i64 op.dl, .slice f1 op.cases.length j1, .slice f2 op.draws.length j2] 26 (0, 0)) := hw1 ▸ heap_alloc_new _ _
          have hz1 : wo.heap.size < w1.heap.size := by rw [← hw1]; simp
          have HV1 : Hid (OpV w1 (.agg #[.int .i64 op.kind, .int .i64 op.mode, .int .i64 op.chan, .int .u64 op.val, .int .i64 op.dl, .slice f1 op.cases.length j1, .slice f2 op.draws.length j2]) op) := ⟨_, _, rfl, hsc.below hb1, hsd.below hb1⟩
          have HR1 := Lib.hid hr1
          have HB1 := Lib.hid (hb.out.trans (hb1.mono hb.out.size))
          have HW1 := Lib.hid hw1
          have hzo := hb.out.size
          have hzB := hOPS.out.1
          have hltB : decide ((k : Int) < 3) = true := decide_eq_true (by omega)
          clear hb1 hr1 hw1 hsc hsd
          go_upto_region 11 with fail
          rw [HW1.out]
          clear HW1 x0 x1 x2 x3 x4 x5 x6
          obtain ⟨c0, c1, c2⟩ := row3 ((HB1.out.block C (by omega)).trans hXX.out)
          obtain ⟨d0, d1, d2⟩ := row3 ((HB1.out.block (C + 1) (by omega)).trans hWX.out)
          obtain ⟨w2, hw2⟩ : ∃ w2, w1.alloc (.cells #[.slice a5 cf.caps.length cap5, .slice a6 cf.starts.length cap6, .int .i64 cf.threads, .slice a7 cw.caps.length cap7, .slice a8 cw.starts.length cap8, .int .i64 cw.threads] 34) = w2 := ⟨_, rfl⟩
          have HCS : Hid (ConfsAt w2 w1.heap.size 8) := hw2 ▸ confs_made ⟨(HCV.out _ HB1.out).1, (HCV.out _ HB1.out).2.1, HCL.out.1⟩ ⟨(HCV.out _ HB1.out).2.2.1, (HCV.out _ HB1.out).2.2.2, HCL.out.2⟩
          have hb2 : Below w1.heap.size w1 w2 := hw2 ▸ below_new (Below.refl _ _) _
          have HR2 := Lib.hid ((hb2.block wo.heap.size hz1).trans HR1.out)
          have HV2 := Lib.hid (HV1.out.below hb2)
          have HB2 := Lib.hid (HB1.out.trans (hb2.mono HB1.out.size))
          have hz2 : w1.heap.size < w2.heap.size := by rw [← hw2]; simp
          have HW2 := Lib.hid hw2
          clear hb2 hw2 HR1 HV1 HB1
          go_wp2_with fail
          rw [HW2.out]
          clear HW2
          go_loopw [47] (fun c wr => ∃ j : Nat, j ≤ 2 ∧ c = .int .i64 j ∧ Hid (Below w2.heap.size w2 wr)) (fun c _ => 2 - (intOf c).toNat)
          case atStart => exact ⟨0, by omega, rfl, Below.refl _ _⟩
          case round =>
            obtain ⟨j, hj, rfl, hq⟩ := hrel
            obtain ⟨wp, rfl⟩ : ∃ wp : World, wp = wr := ⟨_, rfl⟩
            by_cases hjl : j < 2
            · obtain ⟨kf, kc, ks, p0, p1, p2, hkc, hks, hkl⟩ := (HCS.out.below hq.out).2 j hjl
              obtain ⟨g1, i1, rfl, -⟩ := hkc.len
              obtain ⟨g2, i2, rfl, -⟩ := hks.len
              obtain ⟨w3, hw3⟩ : ∃ w3, wp.alloc (.cells #[.slice g1 kf.caps.length i1, .slice g2 kf.starts.length i2, .int .i64 kf.threads] 34) = w3 := ⟨_, rfl⟩
              have hb3 : Below wp.heap.size wp w3 := hw3 ▸ below_new (Below.refl _ _) _
              have hr3 : w3.heap[wp.heap.size]? = some (.cells #[.slice g1 kf.caps.length i1, .slice g2 kf.starts.length i2, .int .i64 kf.threads] 34 (0, 0)) := hw3 ▸ heap_alloc_new _ _
              have hz3 : wp.heap.size < w3.heap.size := by rw [← hw3]; simp
              have hzq := hq.out.size
              have HK3 : Hid (ConfV w3 (.agg #[.slice g1 kf.caps.length i1, .slice g2 kf.starts.length i2, .int .i64 kf.threads]) kf) := ⟨_, _, rfl, hkc.below hb3, hks.below hb3⟩
              have HV3 := Lib.hid ((HV2.out.below hq.out).below hb3)
              have HR3 := Lib.hid ((hb3.block wo.heap.size (by omega)).trans ((hq.out.block wo.heap.size (by omega)).trans HR2.out))
              have HQ3 := Lib.hid (hq.out.trans (hb3.mono hzq))
              have HK := Lib.hid hr3
              have HW3 := Lib.hid hw3
              have hln3 : op.cases.length ≤ 1000 := by omega
              have hkl3 : kf.caps.length ≤ 1000000 := by omega
              have LK := Lib.hid fun v' u' w' h1 h2 => locks_any v' u' kf op w' h1 h2 hln3 hkl3
              have RK := Lib.hid fun v' u' w' h1 h2 => rlocks_any v' u' kf op w' h1 h2 hkl3
              have HASC := Lib.hid (asc_at kf.caps.length (concL op))
              have HLL := lockL_length kf.caps.length (concL op)
              generalize lockL kf.caps.length (concL op) = ll at *
              clear hkc hks hb3 hr3 hw3 hkl3 hln3
              have hnl : ll.length ≤ 8 := by omega
              clear HLL
              go_upto_region 14 with fail
              rw [HW3.out]
              clear HW3 p0 p1 p2
              obtain ⟨x0, x1, x2, x3, x4, x5, x6⟩ := row7 HR3.out
              obtain ⟨y0, y1, y2⟩ := row3 HK.out
              go_wp2_with fail
              refine (LK.out _ _ _ HK3.out HV3.out).mono ?_; rintro e w4 ⟨r, rfl, hr4, hb4⟩
              have HK4 := Lib.hid (HK3.out.below hb4)
              have HV4 := Lib.hid (HV3.out.below hb4)
              have HR4 := Lib.hid ((hb4.block wo.heap.size (by omega)).trans HR3.out)
              have HKB4 := Lib.hid ((hb4.block wp.heap.size hz3).trans HK.out)
              have HQ4 := Lib.hid (HQ3.out.trans (hb4.mono HQ3.out.size))
              have HL4 := Lib.hid hr4
              obtain ⟨lb, lc, rfl, hlc⟩ := hr4.len
              clear hb4 hr4 HK3 HV3 HR3 HK HQ3 x0 x1 x2 x3 x4 x5 x6 y0 y1 y2
              obtain ⟨x0, x1, x2, x3, x4, x5, x6⟩ := row7 HR4.out
              obtain ⟨y0, y1, y2⟩ := row3 HKB4.out
              go_wp2_with fail
              refine (RK.out _ _ _ HK4.out HV4.out).mono ?_; rintro e w5 ⟨r5, rfl, hr5, hb5⟩
              have HL5 := Lib.hid (HL4.out.below hb5)
              have HM5 := Lib.hid hr5
              have HQ5 := Lib.hid (HQ4.out.trans (hb5.mono HQ4.out.size))
              clear hb5 hr5 HK4 HV4 HR4 HKB4 HQ4 HL4 x0 x1 x2 x3 x4 x5 x6 y0 y1 y2
              go_wp2_with fail
              refine (same_any _ _ ll ll _ HL5.out HM5.out).mono ?_; rintro e w6 ⟨n6, rfl, rfl⟩
              rw [show decide (ll = ll) = true from decide_eq_true rfl]
              have HL6 := Lib.hid (HL5.out.drew n6)
              have HQ6 := Lib.hid (below_drewN HQ5.out n6)
              clear HL5 HM5 HQ5
              generalize w5.drewN n6 = w6 at *
              go_wp2_with fail
              go_loopw [16] (fun c wr => ∃ i : Nat, (i + 1 ≤ ll.length ∨ i = 0) ∧ c = .int .i64 (((i + 1 : Nat)) : Int) ∧ Hid (SlI wr .i64 (.slice lb ll.length lc) ll) ∧ Hid (Below w2.heap.size w2 wr)) (fun c _ => 10 - (intOf c).toNat)
              case atStart => exact ⟨0, .inr rfl, rfl, HL6, HQ6⟩
              case round =>
                obtain ⟨i, hi, rfl, hL, hQ⟩ := hrel
                obtain ⟨wq, rfl⟩ : ∃ wq : World, wq = wr := ⟨_, rfl⟩
                by_cases hil : i + 1 < ll.length
                · have ha := HASC.out i hil
                  obtain ⟨_, _, a', cap', e, _, h5⟩ := hL.out
                  obtain ⟨b, off, rfl, hb, z0⟩ := h5 i (by omega)
                  obtain ⟨b', off', e2, -, z1⟩ := h5 (i + 1) hil
                  simp only [Option.some.injEq, Addr.mk.injEq, and_true] at e2
                  obtain ⟨rfl, rfl⟩ := e2
                  simp only [Value.slice.injEq] at e
                  obtain ⟨rfl, -, rfl⟩ := e
                  generalize ll.getD i 0 = u at *
                  generalize ll.getD (i + 1) 0 = v at *
                  clear h5
                  go_upto_region 20 with fail
                  go_quiet (fail)
                  go_wp2
                  go_roundw
                  case rel => exact ⟨i + 1, .inl (by omega), by go_num, hL.out.drew _, below_drewN hQ.out _⟩
                  case measure => simp [intOf]; omega
                · go_wp2
                  go_roundw
                  case rel => exact ⟨j + 1, by omega, by go_num, hQ⟩
                  case measure => simp [intOf]; omega
            · obtain rfl : j = 2 := by omega
              go_wp2
              go_roundw
              case rel => exact ⟨k + 1, by omega, by go_num, HB2.out.trans (hq.out.mono HB2.out.size)⟩
              case measure => simp [intOf]; omega
        · obtain rfl : k = 3 := by omega
          have hzo := hb.out.size
          have EX := Lib.hid fun v x w' h => exists_any v cf x w' h
          have RX := Lib.hid fun v x w' h => rexists_any v cf x w' h
          have EW := Lib.hid fun v x w' h => exists_any v cw x w' h
          have RW := Lib.hid fun v x w' h => rexists_any v cw x w' h
          obtain ⟨z, hz⟩ : ∃ z, a2 % 12 = z := ⟨_, rfl⟩
          have hz01 : 0 ≤ z ∧ z < 12 := by omega
          have HZ := Lib.hid hz
          clear hz
          obtain ⟨hz0, hz1⟩ := hz01
          go_wp2_with fail
          refine (mod_any a2 12 _ (by omega) (by omega)).mono ?_; rintro e w1 ⟨rfl, rfl⟩
          rw [HZ.out]
          clear HZ
          obtain ⟨w2, hw2⟩ : ∃ w2, wo.alloc (.cells #[.int .i64 a2, .int .i64 (z - 2)] 3) = w2 := ⟨_, rfl⟩
          have hb2 : Below wo.heap.size wo w2 := hw2 ▸ below_new (Below.refl _ _) _
          have HR2 : Hid (w2.heap[wo.heap.size]? = some (.cells #[.int .i64 a2, .int .i64 (z - 2)] 3 (0, 0))) := hw2 ▸ heap_alloc_new _ _
          have hz2 : wo.heap.size < w2.heap.size := by rw [← hw2]; simp
          have HB2 := Lib.hid (hb.out.trans (hb2.mono hb.out.size))
          have HW2 := Lib.hid hw2
          clear hb2 hw2
          go_wp2_with fail
          rw [HW2.out]
          clear HW2
          go_loopw [84] (fun c wr => ∃ q : Nat, q ≤ 2 ∧ c = .int .i64 q ∧ Hid (Below w2.heap.size w2 wr)) (fun c _ => 2 - (intOf c).toNat)
          case atStart => exact ⟨0, by omega, rfl, Below.refl _ _⟩
          case round =>
            obtain ⟨q, hq, rfl, hq2⟩ := hrel
            obtain ⟨wq, rfl⟩ : ∃ wq : World, wq = wr := ⟨_, rfl⟩
            by_cases hql : q < 2
            · have hqc : ∃ x : Int, wq.cell? ⟨wo.heap.size, q, none⟩ = some (.int .i64 x) := by
                have hr := cell_of_row _ _ q _ _ _ ((hq2.out.block wo.heap.size hz2).trans HR2.out)
                obtain rfl | rfl : q = 0 ∨ q = 1 := by omega
                · exact ⟨_, hr⟩
                · exact ⟨_, hr⟩
              obtain ⟨x, hxc⟩ := hqc
              have HQ := Lib.hid (HB2.out.trans (hq2.out.mono HB2.out.size))
              have RC := Lib.hid ((HQ.out.block C (by omega)).trans hXX.out)
              have RD := Lib.hid ((HQ.out.block (C + 1) (by omega)).trans hWX.out)
              have VC := Lib.hid (show ConfV wq (.agg #[.slice a5 cf.caps.length cap5, .slice a6 cf.starts.length cap6, .int .i64 cf.threads]) cf from ⟨_, _, rfl, (HCV.out _ HQ.out).1, (HCV.out _ HQ.out).2.1⟩)
              have VD := Lib.hid (show ConfV wq (.agg #[.slice a7 cw.caps.length cap7, .slice a8 cw.starts.length cap8, .int .i64 cw.threads]) cw from ⟨_, _, rfl, (HCV.out _ HQ.out).2.2.1, (HCV.out _ HQ.out).2.2.2⟩)
              have hzq := hq2.out.size
              have F1 := Lib.hid fun v w' h => EX.out v x w' h
              have F2 := Lib.hid fun v w' h => RX.out v x w' h
              have F3 := Lib.hid fun v w' h => EW.out v x w' h
              have F4 := Lib.hid fun v w' h => RW.out v x w' h
              clear EX RX EW RW HR2
              have hzC : C + 1 < wq.heap.size := by omega
              generalize exB cf.caps.length x = bf at *
              generalize exB cw.caps.length x = bw at *
              go_upto_region 27 with fail
              go_cut [103] (fun s103 wx => s103 = .bool false ∧ Hid (Below w2.heap.size w2 wx))
              case first =>
                clear hxc
                obtain ⟨c0, c1, c2⟩ := row3 RC.out
                obtain ⟨d0, d1, d2⟩ := row3 RD.out
                go_region_law (first
                  | (go_simp; go_at_call 22; refine (F4.out _ _ (by exact HW3)).mono ?_; rintro e w8 ⟨rfl, hb8⟩; have HQ4 := Lib.hid (HQ3.out.trans (hb8.mono HQ3.out.size)); clear hb8)
                  | (go_simp; go_at_call 21; refine (F3.out _ _ (by exact HV2)).mono ?_; rintro e w8 ⟨rfl, hb8⟩; have HW3 := HV2.below hb8; have HQ3 := Lib.hid (HQ2.out.trans (hb8.mono HQ2.out.size)); obtain ⟨d0, d1, d2⟩ := row3 ((hb8.block (C + 1) (by omega)).trans HD2.out); clear hb8)
                  | (go_simp; go_at_call 22; refine (F2.out _ _ (by exact HX1.out)).mono ?_; rintro e w8 ⟨rfl, hb8⟩; have HV2 := HY1.out.below hb8; have HQ2 := Lib.hid (HQ1.out.trans (hb8.mono HQ1.out.size)); have HD2 := Lib.hid ((hb8.block (C + 1) (by omega)).trans HD1.out); obtain ⟨d0, d1, d2⟩ := row3 HD2.out; have hzC2 : C + 1 < w8.heap.size := (by have := hb8.size; omega); clear hb8)
                  | (go_simp; go_at_call 21; refine (F1.out _ _ (by exact VC.out)).mono ?_; rintro e w8 ⟨rfl, hb8⟩; have hb8 : Below wq.heap.size wq w8 := undrewB hb8; have HX1 := Lib.hid (VC.out.below hb8); have HY1 := Lib.hid (VD.out.below hb8); have HQ1 := Lib.hid (hq2.out.trans (hb8.mono hq2.out.size)); have HD1 := Lib.hid ((hb8.block (C + 1) (by omega)).trans RD.out); obtain ⟨c0, c1, c2⟩ := row3 ((hb8.block C (by omega)).trans RC.out); obtain ⟨d0, d1, d2⟩ := row3 HD1.out; have hzC1 : C + 1 < w8.heap.size := (by have := hb8.size; omega); clear hb8))
                all_goals
                  (go_wp2_with fail
                   go_meet
                   exact ⟨by simp, HQ4⟩)
              case rest =>
                obtain ⟨rfl, hQ⟩ := hcut
                go_wp2
                go_roundw
                case rel => exact ⟨q + 1, by omega, by go_num, hQ⟩
                case measure => simp [intOf]; omega
            · go_wp2
              go_ret
              exact ⟨rfl, hBX.out.trans ((HB2.out.trans (hq2.out.mono HB2.out.size)).mono hBX.out.size)⟩
set_option maxRecDepth 100000 in
theorem lifted (os : Os) (started : os.Started) (H : Type) (enc : TypeId × Value → H) :
    ReturnsInHanded {} Try.checked os 3 .any (Rows.casesLocksSpec.pre6 enc Try.prog Try.f3 Rows.casesLocksRow.domain false) (Rows.casesLocksSpec.post enc Try.prog Try.f3 false true false false) := by
  refine returnsInHanded_of_change_sized (C := Try.checked) own started (by kernel_rfl) Try.func3
    (ChangeSpec.witness6 (enc := enc) (C := Try.checked) false ⟨#[], #[.agg #[.int .i64 0, .int .i64 0, .int .i64 0, .int .u64 0, .int .i64 0, .slice none 0 0, .slice none 0 0], .slice none 0 0, .int .i64 0], []⟩ 8 (by kernel_rfl) (by kernel_rfl) (by kernel_rfl) (by kernel_rfl)) ?_
  intro W base args ds gs before hval0 hW _ hsz0 _
  have hsz : (DataW.weightsEach Try.prog (Try.f3.params.toList ++ Rows.casesLocksSpec.plain.varTypes Try.prog) (ds ++ gs)).all (· ≤ reachBytes) = true := hsz0
  clear hsz0
  have hval : ∀ (j : Nat) t v, Try.f3.params[j]? = some t → args[j]? = some v → Value.okWide Try.prog W .any base t v := hval0
  have hW' := hW
  obtain ⟨p, q, hA0, hV, rfl, _, _⟩ := hW
  have hA : DataW.TrodAll enc Try.prog W 0 (fun _ => true) true Try.f3.params.toList args.toList ds p := hA0
  rw [Try.params3] at hA hval hsz
  obtain ⟨v0, vs0, d0, ds0, p0, q0, hargs, rfl, rfl, h0, r0⟩ := trodAll_cons hA
  obtain ⟨v1, vs1, d1, ds1, p1, q1, rfl, rfl, rfl, h1, r1⟩ := trodAll_cons r0
  obtain ⟨v2, vs2, d2, ds2, p2, q2, rfl, rfl, rfl, h2, r2⟩ := trodAll_cons r1
  obtain ⟨rfl, rfl, rfl⟩ := trodAll_nil r2
  obtain rfl : args = #[v0, v1, v2] := by cases args; simp_all
  obtain ⟨rfl, rfl⟩ := trodVars_none hV
  have k0 := h0
  have k1 := h1
  have k2 := h2
  obtain ⟨op0, s0, o0⟩ := view_op (fun parts hd => sized_agg hsz (j := 0) (t := 26) rfl (by rw [hd]; rfl) Try.underlying26) (hval 0 26 v0 rfl rfl) h0
  obtain ⟨l1, s1⟩ := view_sl (k := .u8) Try.underlying27 Try.underlying5 (by kernel_rfl) (fun elems sp hd => sized_slice hsz (j := 1) (t := 27) (e := 5) rfl (by rw [hd]; rfl) Try.underlying27) (of_decide_eq_true (by kernel_rfl)) (hval 1 27 v1 rfl rfl) h1
  obtain ⟨a2, rfl, -, -, w2⟩ := open_int Try.underlying3 (hval 2 3 v2 rfl rfl) h2
  clear hA0 hval0
  simp only [List.append_nil] at hW'
  have hlt := hW'.lt
  refine (walk W v0 op0 s0 o0 v1 l1 s1 a2 w2).mono fun e W' ⟨he, hb⟩ => ?_
  subst he
  exact ⟨_, rfl, _, _, _, [], _, [], hW', trodAll_cons_mk (shut_bool Try.underlying4 _) trodAll_mk0, (trodAll_cons_mk (Below.trod Try.laidOut (by kernel_rfl) (of_decide_eq_true (by kernel_rfl)) k0 hb (fun x hx => by simpa using hlt x (by simp [hx]))) (trodAll_cons_mk (Below.trod Try.laidOut (by kernel_rfl) (of_decide_eq_true (by kernel_rfl)) k1 hb (fun x hx => by simpa using hlt x (by simp [hx]))) (trodAll_cons_mk (Below.trod Try.laidOut (by kernel_rfl) (of_decide_eq_true (by kernel_rfl)) k2 hb (fun x hx => by simpa using hlt x (by simp [hx]))) trodAll_mk0))), rfl, hb.frame _, fun h => by cases h⟩
theorem over : Rows.casesLocksRow.holds Try.pinned (OpenSpec.ofChange Rows.casesLocksSpec) :=
  OpenClaim.holds_of_wide 3 Try.f3 rfl rfl rfl rfl rfl rfl rfl ⟨rfl, rfl, rfl, rfl, rfl⟩ rfl rfl rfl rfl rfl (by kernel_rfl) Try.func3 (by kernel_rfl)
    (of_decide_eq_true (by kernel_rfl)) (by unfold Func.isWrapper; first | (rw [if_pos (by decide +kernel)]; kernel_rfl) | (rw [if_neg (by decide +kernel)]; exact ⟨rfl, rfl⟩))
    (fun os started H enc _ => lifted os started H enc)
/-- THE STATEMENT -/
theorem proved : Rows.CasesLocksSaid :=
  over
end Go.Proofs.Ytkciejealeinoaa.casesLocks
