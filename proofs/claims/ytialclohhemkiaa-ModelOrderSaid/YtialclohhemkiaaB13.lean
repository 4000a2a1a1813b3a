import Derived.Deep.DeepCutAuto
import Derived.Deep.CutBlock
import Derived.Test.YtialclohhemkiaaB12
import Derived.Test.YtialclohhemkiaaB06
set_option linter.unusedVariables false
set_option linter.unusedSimpArgs false
/- Layer 14: equal results; Index, Contains. -/
namespace Go.Proofs.Ytialclohhemkiaa
open Go.ChangeShapes Go.WideShapes Go.ChangeAt Go.RowKit
set_option maxRecDepth 100000

def resEqB (a b : ResM) : Bool := a.kind == b.kind && (a.case == b.case && (a.val == b.val && (a.ok == b.ok && a.num == b.num)))
theorem resEqB_iff (a b : ResM) : resEqB a b = true ↔ a = b := by
  obtain ⟨a1, a2, a3, a4, a5⟩ := a
  obtain ⟨b1, b2, b3, b4, b5⟩ := b
  simp [resEqB]
def resZ : ResM := ⟨0, 0, 0, false, 0⟩
def memB (l : List ResM) (r : ResM) : Bool := l.any fun x => resEqB r x
theorem memB_hit {l : List ResM} {r : ResM} {i : Nat} (hi : i < l.length) (h : resEqB r (l.getD i resZ) = true) : memB l r = true := by
  unfold memB
  rw [List.any_eq_true]
  rw [List.getD_eq_getElem?_getD, List.getElem?_eq_getElem hi] at h
  exact ⟨_, List.getElem_mem hi, h⟩
theorem memB_miss {l : List ResM} {r : ResM} (h : ∀ j, j < l.length → resEqB r (l.getD j resZ) = false) : memB l r = false := by
  unfold memB
  rw [List.any_eq_false]
  intro x hx
  obtain ⟨j, hj, rfl⟩ := List.mem_iff_getElem.1 hx
  have h1 := h j hj
  rw [List.getD_eq_getElem?_getD, List.getElem?_eq_getElem hj] at h1
  simpa using h1
theorem run_eql_res (a b : ResM) (w : World) : (binOp .eql 25 (resW a) (resW b)).run Try.prog w = .ok (.bool (resEqB a b)) w := by
  obtain ⟨a1, a2, a3, a4, a5⟩ := a
  obtain ⟨b1, b2, b3, b4, b5⟩ := b
  unfold resW resEqB
  dsimp only
  have hu := Try.underlying25
  simp [go_sem]
  repeat' split
  all_goals simp_all
def IdxQ (l : List ResM) (r : ResM) (w : World) (e : Ending) (w' : World) : Prop := ∃ k : Int, e = .returned (.int .i64 k) ∧ decide (k ≥ 0) = memB l r ∧ Below w.heap.size w w'
set_option maxRecDepth 100000 in
set_option maxHeartbeats 16000000 in
theorem qindex_any (v : Value) (l : List ResM) (r : ResM) (w : World) (hv : SlS w 5 v (resRows l)) (hl : l.length ≤ 1000000) : Calls Try.prog 115 #[v, resW r] w fun e w' => IdxQ l r w e w' := by
  have HQ := Lib.hid fun (k : Int) (w' : World) (h : decide (k ≥ 0) = memB l r) (hb : Below w.heap.size w w') => (show IdxQ l r w (.returned (.int .i64 k)) w' from ⟨k, rfl, h, hb⟩)
  have HHIT := Lib.hid fun i (hi : i < l.length) (h : resEqB r (l.getD i resZ) = true) => memB_hit hi h
  have HMISS := Lib.hid fun (h : ∀ j, j < l.length → resEqB r (l.getD j resZ) = false) => memB_miss h
  have HEQ := Lib.hid fun y w => run_eql_res r y w
  obtain ⟨IQ, hiq⟩ : ∃ q, IdxQ l r w = q := ⟨_, rfl⟩
  rw [hiq] at HQ
  simp only [hiq]
  clear hiq
  have HV := Lib.hid hv
  obtain ⟨a, cap, hve, -⟩ := hv.lenR
  subst hve
  clear hv
  obtain ⟨kd, cs, rv, rok, nm⟩ := r
  unfold resW at HEQ ⊢
  dsimp only at HEQ ⊢
  obtain ⟨W, hW, HB, R0, hz⟩ := one_new w (.cells #[.int .i64 kd, .int .i64 cs, .int .u64 rv, .bool rok, .int .i64 nm] 25)
  have HW := Lib.hid hW
  clear hW
  go_enter Try.func115, Try.ntmps115
  go_upto_region 1 with fail
  rw [HW.out]
  clear HW
  obtain ⟨x0_0, x0_1, x0_2, x0_3, x0_4⟩ := rowc5 R0.out
  clear x0_0 x0_1 x0_2 x0_3 x0_4
  go_wp2_with fail
  go_loopw [8] (fun u8 wr => ∃ i : Nat, u8 = .int .i64 i ∧ i ≤ l.length ∧ Hid (∀ j, j < i → resEqB ⟨kd, cs, rv, rok, nm⟩ (l.getD j resZ) = false) ∧ Hid (Below W.heap.size W wr)) (fun u8 _ => l.length - (intOf u8).toNat)
  case atStart => exact ⟨0, rfl, by omega, fun j hj => by omega, Below.refl _ _⟩
  case round =>
    obtain ⟨i, rfl, hi, HN, HBi⟩ := hrel
    obtain ⟨wo, rfl⟩ : ∃ wo : World, wo = wr := ⟨_, rfl⟩
    by_cases hlt : i < l.length
    · have hltI : (i : Int) < (l.length : Int) := by omega
      obtain ⟨⟨p1, p2, p3, p4, p5⟩, hp⟩ : ∃ r, l.getD i resZ = r := ⟨_, rfl⟩
      obtain ⟨b, off, cap', hve, hb, c0, c1, c2, c3, c4⟩ := (HV.out.below (below_then HB.out HBi.out)).res i hlt hp
      simp only [Value.slice.injEq] at hve
      obtain ⟨rfl, -, rfl⟩ := hve
      dsimp only at c0 c1 c2 c3 c4
      have R0o := Lib.hid ((HBi.out.block w.heap.size (Array.getElem?_eq_some_iff.1 R0.out).1).trans R0.out)
      obtain ⟨x0, x1, x2, x3, x4⟩ := rowc5 R0o.out
      obtain ⟨bb, hbb⟩ : ∃ q, resEqB ⟨kd, cs, rv, rok, nm⟩ ⟨p1, p2, p3, p4, p5⟩ = q := ⟨_, rfl⟩
      have q0 := HEQ.out ⟨p1, p2, p3, p4, p5⟩
      rw [hbb] at q0
      dsimp only at q0
      have HPB := Lib.hid (And.intro hp hbb)
      clear hp hbb
      go_upto_region 4 with fail
      have Xx0 := ext_cell _ _ ((Array.getElem?_eq_some_iff.1 R0o.out).1) _ x0
      have Xx1 := ext_cell _ _ ((Array.getElem?_eq_some_iff.1 R0o.out).1) _ x1
      have Xx2 := ext_cell _ _ ((Array.getElem?_eq_some_iff.1 R0o.out).1) _ x2
      have Xx3 := ext_cell _ _ ((Array.getElem?_eq_some_iff.1 R0o.out).1) _ x3
      have Xx4 := ext_cell _ _ ((Array.getElem?_eq_some_iff.1 R0o.out).1) _ x4
      have Xc0 := ext_cell _ _ (hb) _ c0
      have Xc1 := ext_cell _ _ (hb) _ c1
      have Xc2 := ext_cell _ _ (hb) _ c2
      have Xc3 := ext_cell _ _ (hb) _ c3
      have Xc4 := ext_cell _ _ (hb) _ c4
      clear x0 x1 x2 x3 x4 c0 c1 c2 c3 c4
      refine wp_region_ext wo (by kernel_rfl) (by kernel_rfl) (Below.refl _ _) ?_
      repeat (go_big_quiet_step (fail))
      refine wpQuiet_nil ?_
      intro _ hw'
      obtain ⟨n9, rfl⟩ := hw'
      have HB9 := Lib.hid (below_then HBi.out n9.below)
      generalize n9.wd = w9 at *
      clear q0 Xx0 Xx1 Xx2 Xx3 Xx4 Xc0 Xc1 Xc2 Xc3 Xc4 hb
      cases bb with
      | true =>
        have hm := HHIT.out i hlt (by rw [HPB.out.1]; exact HPB.out.2)
        have HF := Lib.hid (HQ.out (i : Int) w9 (by rw [hm]; exact decide_eq_true (by omega)) (below_then HB.out HB9.out))
        clear hm
        go_wp2
        exact HF.out
      | false =>
        go_wp2_with fail
        go_roundw
        case rel => exact ⟨i + 1, by go_num, by omega, fun j hj => by
          by_cases e : j = i
          · rw [e, HPB.out.1]; exact HPB.out.2
          · exact HN.out j (by omega), HB9⟩
        case measure => simp [intOf]; omega
    · have hge : ¬ (i : Int) < (l.length : Int) := by omega
      have hm := HMISS.out fun j hj => HN.out j (by omega)
      have HF := Lib.hid (HQ.out (-1) wo (by rw [hm]; rfl) (below_then HB.out HBi.out))
      clear hm
      go_wp2
      exact HF.out
set_option maxRecDepth 100000 in
set_option maxHeartbeats 16000000 in
theorem qcontains_any (v : Value) (l : List ResM) (r : ResM) (w : World) (hv : SlS w 5 v (resRows l)) (hl : l.length ≤ 1000000) : Calls Try.prog 90 #[v, resW r] w fun e w' => e = .returned (.bool (memB l r)) ∧ Below w.heap.size w w' := by
  have TI := Lib.hid fun w' (hb : Below w.heap.size w w') => qindex_any v l r w' (hv.below hb) hl
  obtain ⟨mb, hmb⟩ : ∃ b, memB l r = b := ⟨_, rfl⟩
  unfold IdxQ at TI
  rw [hmb] at TI ⊢
  obtain ⟨a, cap, hve, -⟩ := hv.lenR
  subst hve
  clear hv hmb
  obtain ⟨kd, cs, rv, rok, nm⟩ := r
  unfold resW at TI ⊢
  dsimp only at TI ⊢
  obtain ⟨W, hW, HB, R0, hz⟩ := one_new w (.cells #[.int .i64 kd, .int .i64 cs, .int .u64 rv, .bool rok, .int .i64 nm] 25)
  have HW := Lib.hid hW
  clear hW
  go_enter Try.func90, Try.ntmps90
  go_upto_region 1 with fail
  rw [HW.out]
  clear HW
  obtain ⟨x0_0, x0_1, x0_2, x0_3, x0_4⟩ := rowc5 R0.out
  go_wp2_with fail
  refine (TI.out _ HB.out).mono ?_; rintro e w1 ⟨k, rfl, hk, hb1⟩
  have HB1 := Lib.hid (below_then HB.out hb1)
  have HK := Lib.hid hk
  clear hk hb1
  go_wp2
  go_ret
  exact ⟨by rw [← HK.out]; rfl, HB1.out⟩
end Go.Proofs.Ytialclohhemkiaa
/- Layer 14: the program's blocks. -/
namespace Go.Proofs.Ytialclohhemkiaa
open Go.ChangeShapes Go.WideShapes Go.ChangeAt Go.RowKit
set_option maxRecDepth 100000

def blkB (l : List ChanM) (op : OpM) : Bool := (op.kind == 1 || (op.kind == 2 || op.kind == 4)) && (op.mode == 1 && (((couldP l op).length : Int) == 0))
set_option maxRecDepth 100000 in
set_option maxHeartbeats 16000000 in
theorem qblocks_any (v vo : Value) (l : List ChanM) (op : OpM) (w : World) (hv : SlH w v l) (h : OpV w vo op) (hok : op.chan = IntKind.i64.wrap op.chan ∧ op.val = IntKind.u64.wrap op.val) (hcl : (casesE op).length ≤ 100000) : Calls Try.prog 88 #[v, vo] w fun e w' => e = .returned (.bool (blkB l op)) ∧ Below w.heap.size w w' := by
  have TC := Lib.hid fun w' (hb : Below w.heap.size w w') => qcould_any v vo l op w' (hv.below hb) (h.below hb) hok hcl
  obtain ⟨mb, hmb⟩ : ∃ b, blkB l op = b := ⟨_, rfl⟩
  rw [hmb]
  unfold blkB at hmb
  obtain ⟨cd, hcd⟩ : ∃ b, couldP l op = b := ⟨_, rfl⟩
  rw [hcd] at hmb TC
  clear hcl hok hcd
  obtain ⟨vc, vd, rfl, hc, hd⟩ := h
  obtain ⟨kd, md, ch, vl, dl, cs, ds⟩ := op
  dsimp only at *
  obtain ⟨a3, cap3, rfl⟩ := hc.len
  obtain ⟨a4, cap4, rfl, -⟩ := hd.len
  obtain ⟨n, hn⟩ : ∃ n, cd.length = n := ⟨_, rfl⟩
  have HN := Lib.hid hn
  rw [hn] at hmb
  have HMB := Lib.hid hmb
  obtain ⟨a, cap, hve, -⟩ := hv.len
  subst hve
  clear hv hmb hc hd hn
  obtain ⟨W, hW, HB, R0, hz⟩ := one_new w (.cells #[.int .i64 kd, .int .i64 md, .int .i64 ch, .int .u64 vl, .int .i64 dl, .slice a3 cs.length cap3, .slice a4 ds.length cap4] 38)
  have HW := Lib.hid hW
  clear hW
  go_enter Try.func88, Try.ntmps88
  go_upto_region 1 with fail
  rw [HW.out]
  clear HW
  obtain ⟨x0_0, x0_1, x0_2, x0_3, x0_4, x0_5, x0_6⟩ := rowc7 R0.out
  by_cases k1 : kd = 1 ∨ kd = 2 ∨ kd = 4
  · by_cases m1 : md = 1
    · subst m1
      rcases k1 with rfl | rfl | rfl
      all_goals (
        obtain ⟨qz, hqz⟩ : ∃ b, ((n : Int) == 0) = b := ⟨_, rfl⟩
        have hr : Hid (mb = qz) := by show _ = _; rw [← HMB.out, ← hqz]; simp
        go_wp2_with fail
        refine (TC.out _ HB.out).mono ?_; rintro e w1 ⟨u, rfl, hs, hb1⟩
        obtain ⟨ua, uc, rfl, -⟩ := hs.lenR
        rw [HN.out]
        have HB1 := Lib.hid (below_then HB.out hb1)
        clear hs hb1 x0_0 x0_1 x0_2 x0_3 x0_4 x0_5 x0_6
        go_wp2
        go_ret
        exact ⟨by rw [hr.out]; rfl, HB1.out⟩)
    · have m1b : (md == 1) = false := by simpa using m1
      rcases k1 with rfl | rfl | rfl
      all_goals (
        have hr : mb = false := by rw [← HMB.out]; simp [m1]
        subst hr
        go_wp2
        go_ret
        exact ⟨rfl, HB.out⟩)
  · have k1b : (kd == 1) = false := by simp; omega
    have k2b : (kd == 2) = false := by simp; omega
    have k4b : (kd == 4) = false := by simp; omega
    have hr : mb = false := by rw [← HMB.out]; simp [k1b, k2b, k4b]
    subst hr
    go_wp2
    go_ret
    exact ⟨rfl, HB.out⟩
end Go.Proofs.Ytialclohhemkiaa
/- Layer 14: the program's allows. -/
namespace Go.Proofs.Ytialclohhemkiaa
open Go.ChangeShapes Go.WideShapes Go.ChangeAt Go.RowKit
set_option maxRecDepth 100000

def cntB (o : Option ResM) (r : ResM) : Bool := match o with | some x => resEqB r x | none => false
def allowB (l : List ChanM) (op : OpM) (r : ResM) : Bool :=
  if r.kind = 3 then resEqB r ⟨3, -1, 0, false, 0⟩ && blkB l op
  else if r.kind = 4 then resEqB r ⟨4, -1, 0, false, 0⟩ && op.mode == 2
  else if r.kind = 7 then cntB (cntE l op) r
  else memB (couldP l op) r
set_option maxRecDepth 100000 in
set_option maxHeartbeats 16000000 in
theorem qallows_any (v vo : Value) (l : List ChanM) (op : OpM) (r : ResM) (w : World) (hv : SlH w v l) (h : OpV w vo op) (hok : op.chan = IntKind.i64.wrap op.chan ∧ op.val = IntKind.u64.wrap op.val) (hcl : (casesE op).length ≤ 100000) : Calls Try.prog 57 #[v, vo, resW r] w fun e w' => e = .returned (.bool (allowB l op r)) ∧ Below w.heap.size w w' := by
  have TB := Lib.hid fun w' (hb : Below w.heap.size w w') => qblocks_any v vo l op w' (hv.below hb) (h.below hb) hok hcl
  have TN := Lib.hid fun w' (hb : Below w.heap.size w w') => qcounted_any v vo l op w' (hv.below hb) (h.below hb)
  have TCD := Lib.hid fun w' (hb : Below w.heap.size w w') => qcould_any v vo l op w' (hv.below hb) (h.below hb) hok hcl
  have HCL : Hid ((couldP l op).length ≤ 1000000) := by
    show _ ≤ _
    unfold couldP
    split
    · simp
    · have := couldAt_le l op (casesE op).length; omega
  have HEQ := Lib.hid fun y w => run_eql_res r y w
  obtain ⟨mb, hmb⟩ : ∃ b, allowB l op r = b := ⟨_, rfl⟩
  rw [hmb]
  unfold allowB at hmb
  obtain ⟨cd, hcd⟩ : ∃ b, couldP l op = b := ⟨_, rfl⟩
  rw [hcd] at hmb TCD HCL
  obtain ⟨bk, hbk⟩ : ∃ b, blkB l op = b := ⟨_, rfl⟩
  rw [hbk] at hmb TB
  obtain ⟨cn, hcn⟩ : ∃ b, cntE l op = b := ⟨_, rfl⟩
  rw [hcn] at hmb TN
  have TM := Lib.hid fun w' u (hs : SlS w' 5 u (resRows cd)) => qcontains_any u cd r w' hs HCL.out
  clear hok hcl hcd hbk hcn
  obtain ⟨vc, vd, rfl, hc, hd⟩ := h
  obtain ⟨kd, md, ch, vl, dl, cs, ds⟩ := op
  dsimp only at *
  obtain ⟨a3, cap3, rfl⟩ := hc.len
  obtain ⟨a4, cap4, rfl, -⟩ := hd.len
  have HMB := Lib.hid hmb
  obtain ⟨a, cap, hve, -⟩ := hv.len
  subst hve
  clear hv hmb hc hd
  obtain ⟨rk, rc, rv, rok, nm⟩ := r
  unfold resW at TM HEQ ⊢
  dsimp only at TM HEQ HMB ⊢
  obtain ⟨W, hW, HB, R0, R1, hz⟩ := two_new w (.cells #[.int .i64 kd, .int .i64 md, .int .i64 ch, .int .u64 vl, .int .i64 dl, .slice a3 cs.length cap3, .slice a4 ds.length cap4] 38) (.cells #[.int .i64 rk, .int .i64 rc, .int .u64 rv, .bool rok, .int .i64 nm] 25)
  have HW := Lib.hid hW
  clear hW
  go_enter Try.func57, Try.ntmps57
  go_upto_region 1 with fail
  rw [HW.out]
  clear HW
  obtain ⟨x0_0, x0_1, x0_2, x0_3, x0_4, x0_5, x0_6⟩ := rowc7 R0.out
  obtain ⟨x1_0, x1_1, x1_2, x1_3, x1_4⟩ := rowc5 R1.out
  by_cases k3 : rk = 3
  · subst k3
    have q0 := HEQ.out ⟨3, -1, 0, false, 0⟩
    dsimp only at q0
    obtain ⟨bb, hbb⟩ : ∃ q, resEqB ⟨3, rc, rv, rok, nm⟩ ⟨3, -1, 0, false, 0⟩ = q := ⟨_, rfl⟩
    rw [hbb] at q0
    have HR : Hid (mb = (bb && bk)) := by show _ = _; rw [← HMB.out, ← hbb]; rfl
    clear hbb HMB
    cases bb with
    | false =>
      have hr : mb = false := HR.out
      subst hr
      clear HR
      go_wp2
      go_ret
      exact ⟨rfl, HB.out⟩
    | true =>
      go_wp2_with fail
      refine (TB.out _ HB.out).mono ?_; rintro e w1 ⟨rfl, hb1⟩
      have HB1 := Lib.hid (below_then HB.out hb1)
      clear hb1 q0 x0_0 x0_1 x0_2 x0_3 x0_4 x0_5 x0_6 x1_0 x1_1 x1_2 x1_3 x1_4
      go_wp2
      go_ret
      exact ⟨by rw [HR.out]; rfl, HB1.out⟩
  have k3b : (rk == 3) = false := by simpa using k3
  by_cases k4 : rk = 4
  · subst k4
    have q0 := HEQ.out ⟨4, -1, 0, false, 0⟩
    dsimp only at q0
    obtain ⟨bb, hbb⟩ : ∃ q, resEqB ⟨4, rc, rv, rok, nm⟩ ⟨4, -1, 0, false, 0⟩ = q := ⟨_, rfl⟩
    rw [hbb] at q0
    obtain ⟨bm, hbm⟩ : ∃ q, (md == 2) = q := ⟨_, rfl⟩
    have HR : Hid (mb = (bb && bm)) := by show _ = _; rw [← HMB.out, ← hbb, ← hbm]; rfl
    clear hbb HMB
    cases bb
    all_goals (
      have hr := HR.out
      go_wp2
      go_ret
      exact ⟨by rw [HR.out]; rfl, HB.out⟩)
  have k4b : (rk == 4) = false := by simpa using k4
  by_cases k7 : rk = 7
  · subst k7
    have HR : Hid (mb = cntB cn ⟨7, rc, rv, rok, nm⟩) := by show _ = _; rw [← HMB.out]; rfl
    clear HMB
    go_wp2_with fail
    refine (TN.out _ HB.out).mono ?_; rintro e w1 ⟨⟨q1, q2, q3, q4, q5⟩, b, rfl, hr, hb1⟩
    unfold resW
    dsimp only
    have HB1 := Lib.hid (below_then HB.out hb1)
    have HC := Lib.hid hr
    have R1b := Lib.hid ((hb1.block (w.heap.size + 1) (Array.getElem?_eq_some_iff.1 R1.out).1).trans R1.out)
    clear hr hb1 x0_0 x0_1 x0_2 x0_3 x0_4 x0_5 x0_6 x1_0 x1_1 x1_2 x1_3 x1_4
    obtain ⟨Wx, hWx⟩ : ∃ Wx, (w1.alloc (.cells #[.int .i64 0, .int .i64 0, .int .u64 0, .bool false, .int .i64 0] 25)).setRow w1.heap.size #[.int .i64 q1, .int .i64 q2, .int .u64 q3, .bool q4, .int .i64 q5] = Wx := ⟨_, rfl⟩
    have Nx : Hid ((w1.alloc (.cells #[.int .i64 0, .int .i64 0, .int .u64 0, .bool false, .int .i64 0] 25)).heap[w1.heap.size]? = some (.cells #[.int .i64 0, .int .i64 0, .int .u64 0, .bool false, .int .i64 0] 25 (0, 0))) := heap_alloc_new _ _
    have HBx : Hid (Below w1.heap.size w1 Wx) := hWx ▸ row_below (below_new (Below.refl _ _) _) (Nat.le_refl _) _
    have Rx : Hid (Wx.heap[w1.heap.size]? = some (.cells #[.int .i64 q1, .int .i64 q2, .int .u64 q3, .bool q4, .int .i64 q5] 25 (0, 0))) := hWx ▸ setRow_heap _ _ _ _ _ (0, 0) Nx.out
    have HWx := Lib.hid hWx
    clear hWx
    go_upto_region 8 with (refine wpList_store_row rfl 25 _ _ rfl (w1.heap.size) _ rfl rfl 25 #[.int .i64 0, .int .i64 0, .int .u64 0, .bool false, .int .i64 0] Nx.out (by kernel_rfl) rfl (by simp [Value.oneCell']) ?_)
    rw [HWx.out]
    try simp only [Act.put]
    clear HWx Nx
    have HBX := Lib.hid (below_then HB1.out HBx.out)
    have R1c := Lib.hid ((HBx.out.block (w.heap.size + 1) (Array.getElem?_eq_some_iff.1 R1b.out).1).trans R1b.out)
    obtain ⟨y0, y1, y2, y3, y4⟩ := rowc5 Rx.out
    obtain ⟨x0, x1, x2, x3, x4⟩ := rowc5 R1c.out
    have q0 := HEQ.out ⟨q1, q2, q3, q4, q5⟩
    dsimp only at q0
    obtain ⟨bb, hbb⟩ : ∃ q, resEqB ⟨7, rc, rv, rok, nm⟩ ⟨q1, q2, q3, q4, q5⟩ = q := ⟨_, rfl⟩
    rw [hbb] at q0
    have HR2 : Hid (mb = (b && bb)) := by
      show _ = _
      rw [HR.out]
      rcases HC.out with ⟨rfl, h⟩ | ⟨rfl, h⟩
      · rw [h]; exact hbb
      · rw [h]; rfl
    clear hbb HR HC
    cases b
    all_goals (
      go_wp2
      go_ret
      exact ⟨by rw [HR2.out]; rfl, HBX.out⟩)
  have k7b : (rk == 7) = false := by simpa using k7
  have HR : Hid (mb = memB cd ⟨rk, rc, rv, rok, nm⟩) := by show _ = _; rw [← HMB.out, if_neg k3, if_neg k4, if_neg k7]
  clear HMB k3 k4 k7
  go_upto_region 9 with fail
  have KSd : Hid (∀ w', Below W.heap.size W w' → (fun w' : World => (w'.cell? ⟨w.heap.size, 0, none⟩ = some (.int .i64 kd) ∧ w'.cell? ⟨w.heap.size, 1, none⟩ = some (.int .i64 md) ∧ w'.cell? ⟨w.heap.size, 2, none⟩ = some (.int .i64 ch) ∧ w'.cell? ⟨w.heap.size, 3, none⟩ = some (.int .u64 vl) ∧ w'.cell? ⟨w.heap.size, 4, none⟩ = some (.int .i64 dl) ∧ w'.cell? ⟨w.heap.size, 5, none⟩ = some (.slice a3 cs.length cap3) ∧ w'.cell? ⟨w.heap.size, 6, none⟩ = some (.slice a4 ds.length cap4)) ∧ (w'.cell? ⟨w.heap.size + 1, 0, none⟩ = some (.int .i64 rk) ∧ w'.cell? ⟨w.heap.size + 1, 1, none⟩ = some (.int .i64 rc) ∧ w'.cell? ⟨w.heap.size + 1, 2, none⟩ = some (.int .u64 rv) ∧ w'.cell? ⟨w.heap.size + 1, 3, none⟩ = some (.bool rok) ∧ w'.cell? ⟨w.heap.size + 1, 4, none⟩ = some (.int .i64 nm))) w') := fun w' hb => ⟨rowc7 ((hb.block _ (Array.getElem?_eq_some_iff.1 R0.out).1).trans R0.out), rowc5 ((hb.block _ (Array.getElem?_eq_some_iff.1 R1.out).1).trans R1.out)⟩
  clear x0_0 x0_1 x0_2 x0_3 x0_4 x0_5 x0_6 x1_0 x1_1 x1_2 x1_3 x1_4
  clear k3b k4b k7b
  refine untilK KSd 4 6 (by kernel_rfl) rfl ?_
  obtain ⟨u0, hu0, HU0⟩ := drew_pack W
  rw [hu0]
  clear hu0
  have hSU0 := KSd.out _ HU0.out
  refine tkU (v := ?_) 3 la3 hSU0 (by kernel_rfl) (fun _ _ _ h => h) rfl ?_ ?_
  rotate_left
  · (intro w hSw; (try dsimp only at hSw); go_simp <;> with_reducible rfl)
  simp only [Act.put, List.setIfInBounds_toArray, List.set_cons_zero, List.set_cons_succ]
  refine wpAnyU_takeW (v := ?_) 0 la0 (by kernel_rfl) (by kernel_rfl) (by kernel_rfl) (by kernel_rfl) (fun _ _ _ h => h) (fun _ => hSU0) rfl ?_ ?_
  rotate_left
  · (intro w; go_simp <;> with_reducible rfl)
  simp only [Act.put, List.setIfInBounds_toArray, List.set_cons_zero, List.set_cons_succ]
  refine wpAnyU_ready (rs := [1]) (by kernel_rfl) rfl ?_
  refine AllReadyU.cons la1 rfl (fun K hK => ?_) ?_
  · obtain ⟨⟨d0, d1, d2, d3, d4, d5, d6⟩, -⟩ := KSd.out _ HU0.out
    go_simp
    clear d0 d1 d2 d3 d4 d5 d6
    refine hK.out _ _ ?_ (fun hSU1 => ?_)
    · exact hSU0
    clear hK K hSU0
    try simp only [Act.put, List.setIfInBounds_toArray, List.set_cons_zero, List.set_cons_succ]
    refine wpAnyU_ready (rs := [2]) (by kernel_rfl) rfl ?_
    refine AllReadyU.cons la2 rfl (fun K hK => ?_) ?_
    · go_simp
      go_at_call 91
      refine (TCD.out _ (below_then HB.out HU0.out)).mono ?_
      rintro e u1 ⟨v1, rfl, hs, hb⟩
      have HS1 := Lib.hid hs
      have HU1 := Lib.hid (below_then HU0.out hb)
      obtain ⟨pa, pc, rfl, -⟩ := hs.lenR
      clear hb hs
      refine hK.out _ _ ?_ (fun hSU2 => ?_)
      · exact KSd.out _ HU1.out
      clear hK K hSU1
      try simp only [Act.put, List.setIfInBounds_toArray, List.set_cons_zero, List.set_cons_succ]
      refine wpAnyU_ready (rs := [4]) (by kernel_rfl) rfl ?_
      refine AllReadyU.free la4 rfl (by kernel_rfl) (fun K hK => ?_) ?_
      · go_simp
        go_at_call 90
        refine (TM.out _ _ HS1.out).mono ?_
        rintro e u2 ⟨rfl, hb⟩
        have HU2 := Lib.hid (below_then HU1.out hb)
        clear hb
        refine hK.out _ _ ?_
        clear hK K hSU2
        try simp only [Act.put, List.setIfInBounds_toArray, List.set_cons_zero, List.set_cons_succ]
        refine wpAnyU_takeW (v := ?_) 5 la5 (by kernel_rfl) (by kernel_rfl) (by kernel_rfl) (by kernel_rfl) (fun _ _ _ h => h) (past_k (by kernel_rfl)) rfl ?_ ?_
        rotate_left
        · (intro w; go_simp <;> with_reducible rfl)
        simp only [Act.put, List.setIfInBounds_toArray, List.set_cons_zero, List.set_cons_succ]
        refine wpAnyU_done (by kernel_rfl) ?_ _
        go_wp2_with fail
        go_ret
        exact ⟨by rw [HR.out]; rfl, below_then HB.out HU2.out⟩
      exact AllReadyU.nil
    exact AllReadyU.nil
  exact AllReadyU.nil
end Go.Proofs.Ytialclohhemkiaa
/- Layer 14: whether no case is ready. -/
namespace Go.Proofs.Ytialclohhemkiaa
open Go.ChangeShapes Go.WideShapes Go.ChangeAt Go.RowKit
set_option maxRecDepth 100000

theorem blockedB_no {l : List ChanM} {op : OpM} {k : Nat} (hk : k < (casesE op).length) (h : readyB l ((casesE op).getD k noCase) = true) : blockedB l op = false := by
  unfold blockedB
  rw [List.all_eq_false]
  rw [List.getD_eq_getElem?_getD, List.getElem?_eq_getElem hk] at h
  exact ⟨_, List.getElem_mem hk, by simpa using h⟩
theorem blockedB_yes {l : List ChanM} {op : OpM} (h : ∀ j, j < (casesE op).length → readyB l ((casesE op).getD j noCase) = false) : blockedB l op = true := by
  unfold blockedB
  rw [List.all_eq_true]
  intro x hx
  obtain ⟨j, hj, rfl⟩ := List.mem_iff_getElem.1 hx
  have h1 := h j hj
  rw [List.getD_eq_getElem?_getD, List.getElem?_eq_getElem hj] at h1
  simpa using h1
set_option maxRecDepth 100000 in
set_option maxHeartbeats 16000000 in
theorem mblocked_any (v vo : Value) (l : List ChanM) (op : OpM) (w : World) (hv : SlH w v l) (h : OpV w vo op) (hok : op.chan = IntKind.i64.wrap op.chan ∧ op.val = IntKind.u64.wrap op.val) : Calls Try.prog 130 #[v, vo] w fun e w' => e = .returned (.bool (blockedB l op)) ∧ Below w.heap.size w w' := by
  have TC := Lib.hid fun w' (hb : Below w.heap.size w w') => rcases_any vo op w' (h.below hb) hok
  have TR := Lib.hid fun x w' (hb : Below w.heap.size w w') => mready_any v l x w' (hv.below hb)
  have HNO : Hid (∀ k, k < (casesE op).length → readyB l ((casesE op).getD k noCase) = true → blockedB l op = false) := fun k hk h => blockedB_no hk h
  have HYES : Hid ((∀ j, j < (casesE op).length → readyB l ((casesE op).getD j noCase) = false) → blockedB l op = true) := fun h => blockedB_yes h
  obtain ⟨rb, hrb⟩ : ∃ b, blockedB l op = b := ⟨_, rfl⟩
  rw [hrb] at HNO HYES ⊢
  obtain ⟨cl, hcl⟩ : ∃ l, casesE op = l := ⟨_, rfl⟩
  rw [hcl] at TC HNO HYES
  clear hrb hcl
  obtain ⟨al, cpl, hve, -⟩ := hv.len
  obtain ⟨vc, vd, rfl, hc, hd⟩ := h
  obtain ⟨kd, md, ch, vl, dl, cs, ds⟩ := op
  dsimp only at *
  obtain ⟨a3, cap3, rfl⟩ := hc.len
  obtain ⟨a4, cap4, rfl, -⟩ := hd.len
  subst hve
  clear hc hd hv hok
  obtain ⟨W, hW, HB, R0, hz⟩ := one_new w (.cells #[.int .i64 kd, .int .i64 md, .int .i64 ch, .int .u64 vl, .int .i64 dl, .slice a3 cs.length cap3, .slice a4 ds.length cap4] 38)
  have HW := Lib.hid hW
  clear hW
  go_enter Try.func130, Try.ntmps130
  go_upto_region 1 with fail
  rw [HW.out]
  clear HW
  obtain ⟨x0_0, x0_1, x0_2, x0_3, x0_4, x0_5, x0_6⟩ := rowc7 R0.out
  go_wp2_with fail
  refine (TC.out _ HB.out).mono ?_; rintro e w1 ⟨u, rfl, hu, hb1⟩
  have HB1 := Lib.hid (below_then HB.out hb1)
  have HU := Lib.hid hu
  obtain ⟨au, cu, hue⟩ := hu.len
  subst hue
  have hbl := hu.1
  clear hb1 hu TC
  clear x0_0 x0_1 x0_2 x0_3 x0_4 x0_5 x0_6
  go_wp2_with fail
  go_loopw [6] (fun u6 wr => ∃ i : Nat, u6 = .int .i64 i ∧ i ≤ cl.length ∧ Hid (∀ j, j < i → readyB l (cl.getD j noCase) = false) ∧ Hid (Below w1.heap.size w1 wr)) (fun u6 _ => cl.length - (intOf u6).toNat)
  case atStart => exact ⟨0, rfl, by omega, fun j hj => by omega, Below.refl _ _⟩
  case round =>
    obtain ⟨i, rfl, hi, HN, HBi⟩ := hrel
    obtain ⟨wo, rfl⟩ : ∃ wo : World, wo = wr := ⟨_, rfl⟩
    by_cases hlt : i < cl.length
    · have hltI : (i : Int) < (cl.length : Int) := by omega
      obtain ⟨-, -, a', cap', hve, -, hcell⟩ := HU.out.below HBi.out
      simp only [Value.slice.injEq, true_and] at hve
      obtain ⟨rfl, rfl⟩ := hve
      obtain ⟨b, off, rfl, hbb, hca⟩ := hcell i hlt
      obtain ⟨⟨s1, s2, s3⟩, hx⟩ : ∃ x, cl.getD i noCase = x := ⟨_, rfl⟩
      rw [hx] at hca
      obtain ⟨c0, c1, c2⟩ := hca
      dsimp only at c0 c1 c2
      have HX := Lib.hid hx
      have T := Lib.hid (TR.out ⟨s1, s2, s3⟩ wo (below_then HB1.out HBi.out))
      unfold caseW at T
      dsimp only at T
      obtain ⟨q, hq⟩ : ∃ q, readyB l ⟨s1, s2, s3⟩ = q := ⟨_, rfl⟩
      rw [hq] at T
      have HQ := Lib.hid hq
      clear hcell hx hq
      go_wp2_with fail
      refine T.out.mono ?_; rintro e w3 ⟨rfl, hb3⟩
      have HB3 := Lib.hid (below_then HBi.out hb3)
      clear c0 c1 c2 hb3 T hbb
      cases q with
      | true =>
        have hr : rb = false := HNO.out i hlt (by rw [HX.out]; exact HQ.out)
        subst hr
        have HBF := Lib.hid (below_then HB1.out HB3.out)
        go_wp2
        go_ret
        exact ⟨rfl, HBF.out⟩
      | false =>
        go_wp2_with fail
        go_roundw
        case rel => exact ⟨i + 1, by go_num, by omega, fun j hj => by
          by_cases e : j = i
          · rw [e, HX.out]; exact HQ.out
          · exact HN.out j (by omega), HB3⟩
        case measure => simp [intOf]; omega
    · have hge : ¬ (i : Int) < (cl.length : Int) := by omega
      have hr : rb = true := HYES.out fun j hj => HN.out j (by omega)
      subst hr
      have HBF := Lib.hid (below_then HB1.out HBi.out)
      go_wp2
      go_ret
      exact ⟨rfl, HBF.out⟩
end Go.Proofs.Ytialclohhemkiaa
