import Derived.Deep.DeepCutAuto
import Derived.Deep.CutBlock
import Derived.Test.YtckjdlphilpgfaaB15
import Derived.Test.YtckjdlphilpgfaaB12
import Derived.Test.YtckjdlphilpgfaaB29
import Derived.Test.YtckjdlphilpgfaaB27
import Derived.Test.YtckjdlphilpgfaaB16
set_option linter.unusedVariables false
set_option linter.unusedSimpArgs false
/- Layer 14: the program's Meets. -/
namespace Go.Proofs.Ytckjdlphilpgfaa
open Go.ChangeShapes Go.WideShapes Go.ChangeAt Go.RowKit
set_option maxRecDepth 100000

def meetP (l : List ChanM) (a b : OpM) : Bool := (casesE a).any fun x => (casesE b).any fun y => rdvB l x y
theorem meetP_yes {l : List ChanM} {a b : OpM} {i k : Nat} (hi : i < (casesE a).length) (hk : k < (casesE b).length) (h : rdvB l ((casesE a).getD i noCase) ((casesE b).getD k noCase) = true) : meetP l a b = true := by
  rw [List.getD_eq_getElem?_getD, List.getD_eq_getElem?_getD, List.getElem?_eq_getElem hi, List.getElem?_eq_getElem hk] at h
  unfold meetP
  rw [List.any_eq_true]
  refine ⟨_, List.getElem_mem hi, ?_⟩
  rw [List.any_eq_true]
  exact ⟨_, List.getElem_mem hk, h⟩
theorem meetP_no {l : List ChanM} {a b : OpM} (h : ∀ i, i < (casesE a).length → ∀ k, k < (casesE b).length → rdvB l ((casesE a).getD i noCase) ((casesE b).getD k noCase) = false) : meetP l a b = false := by
  unfold meetP
  rw [List.any_eq_false]
  intro x hx
  rw [Bool.not_eq_true, List.any_eq_false]
  intro y hy
  obtain ⟨i, hi, rfl⟩ := List.mem_iff_getElem.1 hx
  obtain ⟨k, hk, rfl⟩ := List.mem_iff_getElem.1 hy
  have := h i hi k hk
  rw [List.getD_eq_getElem?_getD, List.getD_eq_getElem?_getD, List.getElem?_eq_getElem hi, List.getElem?_eq_getElem hk] at this
  simpa using this
set_option maxRecDepth 100000 in
set_option maxHeartbeats 16000000 in
theorem qMeets_any (v va vb : Value) (l : List ChanM) (a b : OpM) (w : World) (hv : SlH w v l) (ha : OpV w va a) (hb : OpV w vb b) (hoka : a.chan = IntKind.i64.wrap a.chan ∧ a.val = IntKind.u64.wrap a.val) (hokb : b.chan = IntKind.i64.wrap b.chan ∧ b.val = IntKind.u64.wrap b.val) : Calls Try.prog 26 #[v, va, vb] w fun e w' => e = .returned (.bool (meetP l a b)) ∧ Below w.heap.size w w' := by
  have TCa := Lib.hid fun w' (h : Below w.heap.size w w') => qalt_any va a w' (ha.below h) hoka
  have TCb := Lib.hid fun w' (h : Below w.heap.size w w') => qalt_any vb b w' (hb.below h) hokb
  have TR := Lib.hid fun p q w' (h : Below w.heap.size w w') => qrdv_any v l p q w' (hv.below h)
  have HYES := Lib.hid fun i k (hi : i < (casesE a).length) (hk : k < (casesE b).length) (h : rdvB l ((casesE a).getD i noCase) ((casesE b).getD k noCase) = true) => meetP_yes hi hk h
  have HNO := Lib.hid fun (h : ∀ i, i < (casesE a).length → ∀ k, k < (casesE b).length → rdvB l ((casesE a).getD i noCase) ((casesE b).getD k noCase) = false) => meetP_no h
  obtain ⟨mb, hmb⟩ : ∃ z, meetP l a b = z := ⟨_, rfl⟩
  obtain ⟨ca, hca⟩ : ∃ z, casesE a = z := ⟨_, rfl⟩
  obtain ⟨cb, hcb⟩ : ∃ z, casesE b = z := ⟨_, rfl⟩
  obtain ⟨cp, hcp⟩ : ∃ c, rdvB l = c := ⟨_, rfl⟩
  rw [hca] at TCa HYES HNO
  rw [hcb] at TCb HYES HNO
  rw [hmb] at HYES HNO
  rw [hcp] at HYES HNO TR
  rw [hmb]
  clear hmb hca hcb hcp hoka hokb
  obtain ⟨vc, vd, rfl, hc, hd⟩ := ha
  obtain ⟨kd, md, ch, vl, dl, cs, ds⟩ := a
  dsimp only at *
  obtain ⟨a3, cap3, rfl⟩ := hc.len
  obtain ⟨a4, cap4, rfl, -⟩ := hd.len
  obtain ⟨vc2, vd2, rfl, hc2, hd2⟩ := hb
  obtain ⟨kd2, md2, ch2, vl2, dl2, cs2, ds2⟩ := b
  dsimp only at *
  obtain ⟨a32, cap32, rfl⟩ := hc2.len
  obtain ⟨a42, cap42, rfl, -⟩ := hd2.len
  obtain ⟨aq, cap, hve, -⟩ := hv.len
  subst hve
  clear hv hc hd hc2 hd2
  obtain ⟨W, hW, HB, R0, R1, hz⟩ := two_new w (.cells #[.int .i64 kd, .int .i64 md, .int .i64 ch, .int .u64 vl, .int .i64 dl, .slice a3 cs.length cap3, .slice a4 ds.length cap4] 38) (.cells #[.int .i64 kd2, .int .i64 md2, .int .i64 ch2, .int .u64 vl2, .int .i64 dl2, .slice a32 cs2.length cap32, .slice a42 ds2.length cap42] 38)
  have HW := Lib.hid hW
  clear hW
  go_enter Try.func26, Try.ntmps26
  go_upto_region 1 with fail
  rw [HW.out]
  clear HW
  obtain ⟨x0_0, x0_1, x0_2, x0_3, x0_4, x0_5, x0_6⟩ := rowc7 R0.out
  obtain ⟨x1_0, x1_1, x1_2, x1_3, x1_4, x1_5, x1_6⟩ := rowc7 R1.out
  go_wp2_with fail
  refine (TCa.out _ HB.out).mono ?_; rintro e w1 ⟨u, rfl, hu, hb1⟩
  have HB1 := Lib.hid (below_then HB.out hb1)
  have R1b := Lib.hid ((hb1.block (w.heap.size + 1) (Array.getElem?_eq_some_iff.1 R1.out).1).trans R1.out)
  obtain ⟨ua, uc, rfl⟩ := hu.len
  have HU := Lib.hid hu
  have hlb := hu.1
  clear x0_0 x0_1 x0_2 x0_3 x0_4 x0_5 x0_6 x1_0 x1_1 x1_2 x1_3 x1_4 x1_5 x1_6 hb1 hu TCa
  go_wp2_with fail
  go_loopw [14] (fun u14 wr => ∃ i : Nat, u14 = .int .i64 i ∧ i ≤ ca.length ∧ Hid (∀ j, j < i → ∀ k, k < cb.length → cp (ca.getD j noCase) (cb.getD k noCase) = false) ∧ Hid (Below w1.heap.size w1 wr)) (fun u14 _ => ca.length - (intOf u14).toNat)
  case atStart => exact ⟨0, rfl, by omega, fun j hj => by omega, Below.refl _ _⟩
  case round =>
    obtain ⟨i, rfl, hi, HN, HBi⟩ := hrel
    obtain ⟨wo, rfl⟩ : ∃ wo : World, wo = wr := ⟨_, rfl⟩
    by_cases hlt : i < ca.length
    · have hltI : (i : Int) < (ca.length : Int) := by omega
      obtain ⟨-, -, a', cap', hve, -, hcell⟩ := HU.out.below HBi.out
      simp only [Value.slice.injEq, true_and] at hve
      obtain ⟨rfl, rfl⟩ := hve
      obtain ⟨b, off, rfl, hbb, hca⟩ := hcell i hlt
      obtain ⟨⟨s1, s2, s3⟩, hx⟩ : ∃ x, ca.getD i noCase = x := ⟨_, rfl⟩
      rw [hx] at hca
      obtain ⟨c0, c1, c2⟩ := hca
      dsimp only at c0 c1 c2
      have HX := Lib.hid hx
      have R1i := Lib.hid ((HBi.out.block (w.heap.size + 1) (Array.getElem?_eq_some_iff.1 R1b.out).1).trans R1b.out)
      clear hcell hx hbb
      obtain ⟨Wx, hWx⟩ : ∃ Wx, (wo.alloc (.cells #[.bool false, .int .i64 0, .int .u64 0] 63)).setRow wo.heap.size #[.bool s1, .int .i64 s2, .int .u64 s3] = Wx := ⟨_, rfl⟩
      have Nx : Hid ((wo.alloc (.cells #[.bool false, .int .i64 0, .int .u64 0] 63)).heap[wo.heap.size]? = some (.cells #[.bool false, .int .i64 0, .int .u64 0] 63 (0, 0))) := heap_alloc_new _ _
      have HBx : Hid (Below wo.heap.size wo Wx) := hWx ▸ row_below (below_new (Below.refl _ _) _) (Nat.le_refl _) _
      have Rx : Hid (Wx.heap[wo.heap.size]? = some (.cells #[.bool s1, .int .i64 s2, .int .u64 s3] 63 (0, 0))) := hWx ▸ setRow_heap _ _ _ _ _ (0, 0) Nx.out
      have HWx := Lib.hid hWx
      clear hWx
      go_upto_region 4 with (refine wpList_store_row rfl 63 _ _ rfl (wo.heap.size) _ rfl rfl 63 #[.bool false, .int .i64 0, .int .u64 0] Nx.out (by kernel_rfl) rfl (by simp [Value.oneCell']) ?_)
      rw [HWx.out]
      try simp only [Act.put]
      clear HWx Nx
      obtain ⟨X, hX⟩ : ∃ X, wo.heap.size = X := ⟨_, rfl⟩
      rw [hX] at Rx
      rw [hX]
      clear hX
      have HBX := Lib.hid (below_then (below_then HB1.out HBi.out) HBx.out)
      have R1x := Lib.hid ((HBx.out.block (w.heap.size + 1) (Array.getElem?_eq_some_iff.1 R1i.out).1).trans R1i.out)
      clear c0 c1 c2
      obtain ⟨z0, z1, z2, z3, z4, z5, z6⟩ := rowc7 R1x.out
      go_wp2_with fail
      refine (TCb.out _ HBX.out).mono ?_; rintro e w3 ⟨u2, rfl, hu2, hb3⟩
      have HB3 := Lib.hid (below_then (below_then HBi.out HBx.out) hb3)
      have Rx3 := Lib.hid ((hb3.block X (Array.getElem?_eq_some_iff.1 Rx.out).1).trans Rx.out)
      obtain ⟨ub, ud, rfl⟩ := hu2.len
      have HU2 := Lib.hid hu2
      have hlb2 := hu2.1
      clear z0 z1 z2 z3 z4 z5 z6 hb3 hu2
      go_wp2_with fail
      go_loopw [21] (fun u21 wr => ∃ k : Nat, u21 = .int .i64 k ∧ k ≤ cb.length ∧ Hid (∀ j, j < k → cp ⟨s1, s2, s3⟩ (cb.getD j noCase) = false) ∧ Hid (Below w3.heap.size w3 wr)) (fun u21 _ => cb.length - (intOf u21).toNat)
      case atStart => exact ⟨0, rfl, by omega, fun j hj => by omega, Below.refl _ _⟩
      case round =>
        obtain ⟨k, rfl, hk, HN2, HBk⟩ := hrel
        obtain ⟨wp, rfl⟩ : ∃ wp : World, wp = wr := ⟨_, rfl⟩
        by_cases hlk : k < cb.length
        · have hlkI : (k : Int) < (cb.length : Int) := by omega
          obtain ⟨-, -, a', cap', hve, -, hcell⟩ := HU2.out.below HBk.out
          simp only [Value.slice.injEq, true_and] at hve
          obtain ⟨rfl, rfl⟩ := hve
          obtain ⟨b2, off2, rfl, hbb, hcb⟩ := hcell k hlk
          obtain ⟨⟨t1, t2, t3⟩, hx⟩ : ∃ x, cb.getD k noCase = x := ⟨_, rfl⟩
          rw [hx] at hcb
          obtain ⟨d0, d1, d2⟩ := hcb
          dsimp only at d0 d1 d2
          have HX2 := Lib.hid hx
          have Rxk := Lib.hid ((HBk.out.block X (Array.getElem?_eq_some_iff.1 Rx3.out).1).trans Rx3.out)
          clear hcell hx hbb
          obtain ⟨Wy, hWy⟩ : ∃ Wy, (wp.alloc (.cells #[.bool false, .int .i64 0, .int .u64 0] 63)).setRow wp.heap.size #[.bool t1, .int .i64 t2, .int .u64 t3] = Wy := ⟨_, rfl⟩
          have Ny : Hid ((wp.alloc (.cells #[.bool false, .int .i64 0, .int .u64 0] 63)).heap[wp.heap.size]? = some (.cells #[.bool false, .int .i64 0, .int .u64 0] 63 (0, 0))) := heap_alloc_new _ _
          have HBy : Hid (Below wp.heap.size wp Wy) := hWy ▸ row_below (below_new (Below.refl _ _) _) (Nat.le_refl _) _
          have Ry : Hid (Wy.heap[wp.heap.size]? = some (.cells #[.bool t1, .int .i64 t2, .int .u64 t3] 63 (0, 0))) := hWy ▸ setRow_heap _ _ _ _ _ (0, 0) Ny.out
          have HWy := Lib.hid hWy
          clear hWy
          go_upto_region 7 with (refine wpList_store_row rfl 63 _ _ rfl (wp.heap.size) _ rfl rfl 63 #[.bool false, .int .i64 0, .int .u64 0] Ny.out (by kernel_rfl) rfl (by simp [Value.oneCell']) ?_)
          rw [HWy.out]
          try simp only [Act.put]
          clear HWy Ny
          obtain ⟨Y, hY⟩ : ∃ Y, wp.heap.size = Y := ⟨_, rfl⟩
          rw [hY] at Ry
          rw [hY]
          clear hY
          have HBY := Lib.hid (below_then HBk.out HBy.out)
          have HBZ := Lib.hid (below_then HB1.out (below_then HB3.out HBY.out))
          have Rxy := Lib.hid ((HBy.out.block X (Array.getElem?_eq_some_iff.1 Rxk.out).1).trans Rxk.out)
          have T := Lib.hid (TR.out ⟨s1, s2, s3⟩ ⟨t1, t2, t3⟩ _ HBZ.out)
          unfold caseW at T
          dsimp only at T
          obtain ⟨q, hq⟩ : ∃ q, cp ⟨s1, s2, s3⟩ ⟨t1, t2, t3⟩ = q := ⟨_, rfl⟩
          rw [hq] at T
          have HQ := Lib.hid hq
          clear d0 d1 d2 hq
          obtain ⟨x0, x1, x2⟩ := rowc3 Rxy.out
          obtain ⟨y0, y1, y2⟩ := rowc3 Ry.out
          go_wp2_with fail
          refine T.out.mono ?_; rintro e w5 ⟨rfl, hb5⟩
          have HB5 := Lib.hid (below_then HBY.out hb5)
          have HBF := Lib.hid (below_then HBZ.out hb5)
          clear x0 x1 x2 y0 y1 y2 hb5 T
          cases q with
          | true =>
            have hr : mb = true := HYES.out i k hlt hlk (by rw [HX.out, HX2.out]; exact HQ.out)
            subst hr
            go_wp2
            go_ret
            exact ⟨rfl, HBF.out⟩
          | false =>
            go_wp2_with fail
            go_roundw
            case rel => exact ⟨k + 1, by go_num, by omega, fun j hj => by
              by_cases e : j = k
              · rw [e, HX2.out]; exact HQ.out
              · exact HN2.out j (by omega), HB5⟩
            case measure => simp [intOf]; omega
        · have hge : ¬ (k : Int) < (cb.length : Int) := by omega
          go_wp2_with fail
          go_roundw
          case rel => exact ⟨i + 1, by go_num, by omega, fun j hj => by
            by_cases e : j = i
            · rw [e, HX.out]; exact fun k2 hk2 => HN2.out k2 (by omega)
            · exact HN.out j (by omega), below_then HB3.out HBk.out⟩
          case measure => simp [intOf]; omega
    · have hge : ¬ (i : Int) < (ca.length : Int) := by omega
      have hr : mb = false := HNO.out fun j hj => HN.out j (by omega)
      subst hr
      have HBF := Lib.hid (below_then HB1.out HBi.out)
      go_wp2
      go_ret
      exact ⟨rfl, HBF.out⟩
end Go.Proofs.Ytckjdlphilpgfaa
/- Layer 14, plainly: the program's Pair and Meets are the document's. -/
namespace Go.Proofs.Ytckjdlphilpgfaa
open Go.ChangeShapes Go.WideShapes Go.ChangeAt Go.RowKit
set_option maxRecDepth 100000

theorem rdv_exB {l : List ChanM} {p q : CaseM} (h : p.chan = q.chan) : rdvB l p q = rdvB l q p := by
  unfold rdvB fndE
  rw [h]
  cases exB l q.chan <;> cases p.send <;> cases q.send <;> simp
/-- a sends to b -/
theorem half_iff (l : List ChanM) (a : OpM) (x : ResM) (b : OpM) (y : ResM) : halfB l a x b y = true ↔ ∃ p q, chosenE a x = some p ∧ chosenE b y = some q ∧ p.send = true ∧ q.send = false ∧ rdvB l p q = true ∧ passB p.val x y = true := by
  rw [halfB_eq]
  constructor
  · intro h
    simp only [Bool.and_eq_true, decide_eq_true_eq] at h
    obtain ⟨⟨⟨⟨⟨h1, h2⟩, h3⟩, h4⟩, h5⟩, h6⟩ := h
    unfold halfM at h6
    cases hp : chosenE a x with
    | none => rw [hp] at h6; cases h6
    | some p =>
      cases hq : chosenE b y with
      | none => rw [hp, hq] at h6; cases h6
      | some q =>
        rw [hp, hq] at h6
        simp only [Bool.and_eq_true, decide_eq_true_eq, Bool.not_eq_true'] at h6
        obtain ⟨⟨⟨⟨⟨⟨k1, k2⟩, k3⟩, k4⟩, k5⟩, k6⟩, k7⟩ := h6
        refine ⟨p, q, rfl, rfl, k1, k2, ?_, ?_⟩
        · unfold rdvB fndE
          rw [k4, if_pos rfl]
          rw [k3] at k5 k6
          simp [k3, k1, k2, k5, k6]
        · unfold onlyB at h3 h4
          simp only [Bool.false_or, Bool.true_or, Bool.true_and, Bool.and_eq_true, beq_iff_eq, Bool.not_eq_true'] at h3 h4
          unfold passB
          simp [h1, h2, h3, h4, h5, k7]
  · rintro ⟨p, q, hp, hq, k1, k2, hr, hs⟩
    unfold passB at hs
    simp only [Bool.and_eq_true, beq_iff_eq, Bool.not_eq_true'] at hs
    obtain ⟨⟨s1, s2, s3, s4⟩, s5, s6, s7, s8⟩ := hs
    unfold rdvB fndE at hr
    simp only [Bool.and_eq_true, beq_iff_eq, Bool.not_eq_true', decide_eq_true_eq] at hr
    obtain ⟨r1, r2, r3, r4, r5⟩ := hr
    rw [r1, if_pos rfl] at r4 r5
    unfold onlyB halfM
    rw [hp, hq]
    simp [s1, s2, s3, s4, s5, s6, s7, s8, k1, k2, r1, ← r2, r4, r5]
theorem pairP_eq (l : List ChanM) (a : OpM) (x : ResM) (b : OpM) (y : ResM) : pairP l a x b y = pairB l a x b y := by
  rw [Bool.eq_iff_iff]
  unfold pairB
  rw [Bool.or_eq_true, half_iff, half_iff]
  unfold pairP pairC
  constructor
  · intro h
    cases hp : chosenE a x with
    | none => rw [hp] at h; cases h
    | some p =>
      cases hq : chosenE b y with
      | none => rw [hp, hq] at h; cases h
      | some q =>
        rw [hp, hq] at h
        simp only [Bool.and_eq_true] at h
        obtain ⟨h1, h2⟩ := h
        have hne : p.send ≠ q.send ∧ p.chan = q.chan := by
          unfold rdvB at h1
          simp only [Bool.and_eq_true, beq_iff_eq, bne_iff_ne] at h1
          exact ⟨h1.2.2.1, h1.2.1⟩
        cases hs : p.send with
        | true =>
          rw [hs, if_pos rfl] at h2
          exact .inl ⟨p, q, rfl, rfl, hs, by rw [hs] at hne; cases hq2 : q.send <;> simp_all, h1, h2⟩
        | false =>
          rw [hs, if_neg (by simp)] at h2
          refine .inr ⟨q, p, rfl, rfl, by rw [hs] at hne; cases hq2 : q.send <;> simp_all, hs, ?_, h2⟩
          rw [rdv_exB hne.2.symm]; exact h1
  · rintro (⟨p, q, hp, hq, h1, h2, h3, h4⟩ | ⟨q, p, hq, hp, h1, h2, h3, h4⟩)
    · rw [hp, hq]
      simp [h1, h3, h4]
    · rw [hp, hq]
      have hch : q.chan = p.chan := by
        unfold rdvB at h3
        simp only [Bool.and_eq_true, beq_iff_eq] at h3
        exact h3.2.1
      simp [h2, h4, rdv_exB hch.symm, h3]
/-- two cases meet with the results of Meeting exactly if they can -/
theorem pairB_meetPQ {l : List ChanM} {a b : OpM} {i k : Nat} (hi : i < (casesE a).length) (hk : k < (casesE b).length) : pairB l a (meetPQ a b i k).1 b (meetPQ a b i k).2 = rdvB l ((casesE a).getD i noCase) ((casesE b).getD k noCase) := by
  rw [← pairP_eq]
  unfold pairP meetPQ
  have ha : ∀ r : ResM, r.case = numE a i → chosenE a r = some ((casesE a).getD i noCase) := fun r hr => (chosen_iff a r _).2 ⟨i, hi, rfl, hr⟩
  have hb : ∀ r : ResM, r.case = numE b k → chosenE b r = some ((casesE b).getD k noCase) := fun r hr => (chosen_iff b r _).2 ⟨k, hk, rfl, hr⟩
  generalize (casesE a).getD i noCase = x at ha ⊢
  generalize (casesE b).getD k noCase = y at hb ⊢
  cases hs : x.send with
  | true =>
    simp only [if_true]
    rw [ha _ rfl, hb _ rfl]
    unfold pairC
    simp [hs, passB]
  | false =>
    simp only [Bool.false_eq_true, if_false]
    rw [ha _ rfl, hb _ rfl]
    unfold pairC
    simp [hs, passB]
theorem meetsB_eq (l : List ChanM) (a b : OpM) : meetsB l a b = meetP l a b := by
  rw [Bool.eq_iff_iff]
  unfold meetsB
  rw [Bool.not_eq_true', List.isEmpty_eq_false_iff_exists_mem]
  unfold meetP
  rw [List.any_eq_true]
  constructor
  · rintro ⟨pq, h⟩
    unfold meetingE at h
    rw [List.mem_flatten] at h
    obtain ⟨row, hr, hm⟩ := h
    obtain ⟨i, hi, rfl⟩ := List.mem_map.1 hr
    rw [List.mem_range] at hi
    unfold meetRow at hm
    rw [List.mem_filter] at hm
    obtain ⟨hm, hp⟩ := hm
    obtain ⟨k, hk, rfl⟩ := List.mem_map.1 hm
    rw [List.mem_range] at hk
    rw [pairB_meetPQ hi hk] at hp
    rw [List.getD_eq_getElem?_getD, List.getD_eq_getElem?_getD, List.getElem?_eq_getElem hi, List.getElem?_eq_getElem hk] at hp
    exact ⟨_, List.getElem_mem hi, List.any_eq_true.2 ⟨_, List.getElem_mem hk, hp⟩⟩
  · rintro ⟨x, hx, h⟩
    rw [List.any_eq_true] at h
    obtain ⟨y, hy, h⟩ := h
    obtain ⟨i, hi, rfl⟩ := List.mem_iff_getElem.1 hx
    obtain ⟨k, hk, rfl⟩ := List.mem_iff_getElem.1 hy
    refine ⟨meetPQ a b i k, ?_⟩
    unfold meetingE
    rw [List.mem_flatten]
    refine ⟨_, List.mem_map.2 ⟨i, List.mem_range.2 hi, rfl⟩, ?_⟩
    unfold meetRow
    rw [List.mem_filter]
    refine ⟨List.mem_map.2 ⟨k, List.mem_range.2 hk, rfl⟩, ?_⟩
    rw [pairB_meetPQ hi hk, List.getD_eq_getElem?_getD, List.getD_eq_getElem?_getD, List.getElem?_eq_getElem hi, List.getElem?_eq_getElem hk]
    exact h
theorem meetP_symm (l : List ChanM) (a b : OpM) : meetP l a b = meetP l b a := by
  have h1 : ∀ x y : CaseM, rdvB l x y = rdvB l y x := fun x y => by
    by_cases h : x.chan = y.chan
    · exact rdv_exB h
    · unfold rdvB
      have h2 : (x.chan == y.chan) = false := by simpa using h
      have h3 : (y.chan == x.chan) = false := by simpa using fun e => h e.symm
      rw [h2, h3]
      simp
  rw [Bool.eq_iff_iff]
  unfold meetP
  rw [List.any_eq_true, List.any_eq_true]
  constructor
  · rintro ⟨x, hx, h⟩
    rw [List.any_eq_true] at h
    obtain ⟨y, hy, h⟩ := h
    exact ⟨y, hy, List.any_eq_true.2 ⟨x, hx, by rw [h1]; exact h⟩⟩
  · rintro ⟨x, hx, h⟩
    rw [List.any_eq_true] at h
    obtain ⟨y, hy, h⟩ := h
    exact ⟨y, hy, List.any_eq_true.2 ⟨x, hx, by rw [h1]; exact h⟩⟩
end Go.Proofs.Ytckjdlphilpgfaa
/- Layer 14: the program's Enabled. -/
namespace Go.Proofs.Ytckjdlphilpgfaa
open Go.ChangeShapes Go.WideShapes Go.ChangeAt Go.RowKit
set_option maxRecDepth 100000

def enP (l : List ChanM) (wl : List WaitM) (i k : Nat) : Bool := (wat wl i).thr != (wat wl k).thr && meetP l (wat wl i).op (wat wl k).op
def enabP (l : List ChanM) (wl : List WaitM) : Bool := (List.range wl.length).any fun i => decide (0 < (couldP l (wat wl i).op).length) || (List.range i).any fun k => enP l wl i k
theorem enabP_could {l : List ChanM} {wl : List WaitM} {i : Nat} (hi : i < wl.length) (h : 0 < (couldP l (wat wl i).op).length) : enabP l wl = true := by
  unfold enabP
  rw [List.any_eq_true]
  exact ⟨i, List.mem_range.2 hi, by simp [h]⟩
theorem enabP_meet {l : List ChanM} {wl : List WaitM} {i k : Nat} (hi : i < wl.length) (hk : k < i) (h : enP l wl i k = true) : enabP l wl = true := by
  unfold enabP
  rw [List.any_eq_true]
  refine ⟨i, List.mem_range.2 hi, ?_⟩
  rw [Bool.or_eq_true, List.any_eq_true]
  exact .inr ⟨k, List.mem_range.2 hk, h⟩
theorem enabP_no {l : List ChanM} {wl : List WaitM} (h1 : ∀ i, i < wl.length → (couldP l (wat wl i).op).length = 0) (h2 : ∀ i, i < wl.length → ∀ k, k < i → enP l wl i k = false) : enabP l wl = false := by
  unfold enabP
  rw [List.any_eq_false]
  intro i hi
  rw [List.mem_range] at hi
  rw [Bool.not_eq_true, Bool.or_eq_false_iff, List.any_eq_false]
  refine ⟨by rw [h1 i hi]; rfl, fun k hk => ?_⟩
  rw [List.mem_range] at hk
  rw [h2 i hi k hk]
  simp
set_option maxRecDepth 100000 in
set_option maxHeartbeats 16000000 in
theorem qEnabled_any (v vw : Value) (l : List ChanM) (wl : List WaitM) (w : World) (hv : SlH w v l) (hw : SlW w vw wl) (hf : ∀ i, i < wl.length → (wat wl i).op.fine) : Calls Try.prog 24 #[v, vw] w fun e w' => e = .returned (.bool (enabP l wl)) ∧ Below w.heap.size w w' := by
  have TC := Lib.hid fun vo op w' (hb : Below w.heap.size w w') (h : OpV w' vo op) (hf : op.fine) => qcould_any v vo l op w' (hv.below hb) h hf.ok hf.len
  have TM := Lib.hid fun va vb a b w' (hb : Below w.heap.size w w') (h : OpV w' va a) (h2 : OpV w' vb b) (hf : a.fine) (hf2 : b.fine) => qMeets_any v va vb l a b w' (hv.below hb) h h2 hf.ok hf2.ok
  have HYC := Lib.hid fun i (hi : i < wl.length) (h : 0 < (couldP l (wat wl i).op).length) => enabP_could hi h
  have HYM := Lib.hid fun i k (hi : i < wl.length) (hk : k < i) (h : enP l wl i k = true) => enabP_meet hi hk h
  have HNO := Lib.hid fun h1 h2 => enabP_no (l := l) (wl := wl) h1 h2
  have HF := Lib.hid hf
  obtain ⟨mb, hmb⟩ : ∃ z, enabP l wl = z := ⟨_, rfl⟩
  rw [hmb] at HYC HYM HNO
  rw [hmb]
  have HW := Lib.hid hw
  have hbd := hw.bound
  obtain ⟨aq, cap, hve, -⟩ := hv.len
  subst hve
  obtain ⟨aw, capw, hve, hcw⟩ := hw.len
  subst hve
  have hcwI : (wl.length : Int) ≤ (capw : Int) := by omega
  clear hv hmb hw hf
  go_enter Try.func24, Try.ntmps24
  go_wp2_with fail
  go_loopw [11] (fun u11 wr => ∃ i : Nat, u11 = .int .i64 i ∧ i ≤ wl.length ∧ Hid (∀ j, j < i → (couldP l (wat wl j).op).length = 0) ∧ Hid (∀ j, j < i → ∀ k, k < j → enP l wl j k = false) ∧ Hid (Below w.heap.size w wr)) (fun u11 _ => wl.length - (intOf u11).toNat)
  case atStart => exact ⟨0, rfl, by omega, fun j hj => by omega, fun j hj => by omega, Below.refl _ _⟩
  case round =>
    obtain ⟨i, rfl, hi, HN1, HN2, HBi⟩ := hrel
    obtain ⟨wo, rfl⟩ : ∃ wo : World, wo = wr := ⟨_, rfl⟩
    by_cases hlt : i < wl.length
    · have hltI : (i : Int) < (wl.length : Int) := by omega
      obtain ⟨b, off, capx, vc, vd, hve, hbb, c0, c1, c2, c3, c4, c5, c6, c7, hc, hd⟩ := (HW.out.below HBi.out).at i ‹_›
      simp only [Value.slice.injEq] at hve
      obtain ⟨rfl, -, rfl⟩ := hve
      obtain ⟨⟨th, ⟨kd, md, ch, vl, dl, cs, ds⟩⟩, hx⟩ : ∃ x, wat wl i = x := ⟨_, rfl⟩
      rw [hx] at c0 c1 c2 c3 c4 c5 hc hd
      dsimp only at c0 c1 c2 c3 c4 c5 hc hd
      obtain ⟨a3, cap3, rfl⟩ := hc.len
      obtain ⟨a4, cap4, rfl, -⟩ := hd.len
      have HX := Lib.hid hx
      have HSC := Lib.hid hc
      have HSD := Lib.hid hd
      clear hx
      have hbi := HBi.out.size
      clear hd hc hbb
      obtain ⟨Wx, hWx⟩ : ∃ Wx, (wo.alloc (.cells #[.int .i64 0, .int .i64 0, .int .i64 0, .int .i64 0, .int .u64 0, .int .i64 0, .slice none 0 0, .slice none 0 0] 56)).setRow wo.heap.size #[.int .i64 th, .int .i64 kd, .int .i64 md, .int .i64 ch, .int .u64 vl, .int .i64 dl, .slice a3 cs.length cap3, .slice a4 ds.length cap4] = Wx := ⟨_, rfl⟩
      have Nx : Hid ((wo.alloc (.cells #[.int .i64 0, .int .i64 0, .int .i64 0, .int .i64 0, .int .u64 0, .int .i64 0, .slice none 0 0, .slice none 0 0] 56)).heap[wo.heap.size]? = some (.cells #[.int .i64 0, .int .i64 0, .int .i64 0, .int .i64 0, .int .u64 0, .int .i64 0, .slice none 0 0, .slice none 0 0] 56 (0, 0))) := heap_alloc_new _ _
      have HBx : Hid (Below wo.heap.size wo Wx) := hWx ▸ row_below (below_new (Below.refl _ _) _) (Nat.le_refl _) _
      have Rx : Hid (Wx.heap[wo.heap.size]? = some (.cells #[.int .i64 th, .int .i64 kd, .int .i64 md, .int .i64 ch, .int .u64 vl, .int .i64 dl, .slice a3 cs.length cap3, .slice a4 ds.length cap4] 56 (0, 0))) := hWx ▸ setRow_heap _ _ _ _ _ (0, 0) Nx.out
      have HWx := Lib.hid hWx
      clear hWx
      go_upto_region 4 with (refine wpList_store_row rfl 56 _ _ rfl (wo.heap.size) _ rfl rfl 56 #[.int .i64 0, .int .i64 0, .int .i64 0, .int .i64 0, .int .u64 0, .int .i64 0, .slice none 0 0, .slice none 0 0] Nx.out (by kernel_rfl) rfl (by simp [Value.oneCell']) ?_)
      rw [HWx.out]
      try simp only [Act.put]
      clear HWx Nx
      obtain ⟨X, hX⟩ : ∃ X, wo.heap.size = X := ⟨_, rfl⟩
      rw [hX] at Rx
      rw [hX]
      clear hX
      have HBX := Lib.hid (below_then HBi.out HBx.out)
      obtain ⟨x0, x1, x2, x3, x4, x5, x6, x7⟩ := rowc8 Rx.out
      have HOX : Hid (OpV Wx (.agg #[.int .i64 kd, .int .i64 md, .int .i64 ch, .int .u64 vl, .int .i64 dl, .slice a3 cs.length cap3, .slice a4 ds.length cap4]) ⟨kd, md, ch, vl, dl, cs, ds⟩) := ⟨_, _, rfl, HSC.out.below HBx.out, HSD.out.below HBx.out⟩
      have HFI : Hid (OpM.fine ⟨kd, md, ch, vl, dl, cs, ds⟩) := by have := HF.out i hlt; rw [HX.out] at this; exact this
      have T := Lib.hid (TC.out _ _ Wx HBX.out HOX.out HFI.out)
      obtain ⟨cl, hcl⟩ : ∃ c, couldP l ⟨kd, md, ch, vl, dl, cs, ds⟩ = c := ⟨_, rfl⟩
      rw [hcl] at T
      have HCL := Lib.hid hcl
      clear c0 c1 c2 c3 c4 c5 c6 c7 hcl
      go_wp2_with fail
      refine T.out.mono ?_; rintro e w3 ⟨u3, rfl, hs3, hb3⟩
      obtain ⟨au, cu, rfl, -⟩ := hs3.lenR
      have HB3 := Lib.hid (below_then HBX.out hb3)
      have Rx3 := Lib.hid ((hb3.block X (Array.getElem?_eq_some_iff.1 Rx.out).1).trans Rx.out)
      have HO3 := Lib.hid (HOX.out.below hb3)
      clear x0 x1 x2 x3 x4 x5 x6 x7 hs3 hb3 T
      obtain ⟨nc, hnc⟩ : ∃ n, cl.length = n := ⟨_, rfl⟩
      rw [hnc]
      have HNC := Lib.hid hnc
      clear hnc
      by_cases hz : 0 < nc
      · have hzI : (0 : Int) < (nc : Int) := by omega
        have hr : mb = true := HYC.out i hlt (by rw [HX.out]; show 0 < (couldP l _).length; rw [HCL.out, HNC.out]; exact hz)
        subst hr
        go_wp2
        go_ret
        exact ⟨rfl, HB3.out⟩
      have hz0 : nc = 0 := by omega
      subst hz0
      have HZ : Hid ((couldP l (wat wl i).op).length = 0) := by show _ = 0; rw [HX.out]; show (couldP l _).length = 0; rw [HCL.out, HNC.out]
      have hicI : (i : Int) ≤ (capw : Int) := by omega
      clear hz
      go_wp2_with fail
      go_loopw [26] (fun u26 wr => ∃ k : Nat, u26 = .int .i64 k ∧ k ≤ i ∧ Hid (∀ j, j < k → enP l wl i j = false) ∧ Hid (Below w3.heap.size w3 wr)) (fun u26 _ => i - (intOf u26).toNat)
      case atStart => exact ⟨0, rfl, by omega, fun j hj => by omega, Below.refl _ _⟩
      case round =>
        obtain ⟨k, rfl, hk, HN3, HBk⟩ := hrel
        obtain ⟨wp, rfl⟩ : ∃ wp : World, wp = wr := ⟨_, rfl⟩
        by_cases hlk : k < i
        · have hlkI : (k : Int) < (i : Int) := by omega
          have hkw : k < wl.length := by omega
          have HBk2 := Lib.hid (below_then HB3.out HBk.out)
          obtain ⟨b2, off2, capx2, vc2, vd2, hve, hbb2, d0, d1, d2, d3, d4, d5, d6, d7, hc2, hd2⟩ := (HW.out.below HBk2.out).at k ‹_›
          simp only [Value.slice.injEq, Option.some.injEq, Addr.mk.injEq, and_true, true_and] at hve
          obtain ⟨⟨rfl, rfl⟩, rfl⟩ := hve
          obtain ⟨⟨th2, ⟨kd2, md2, ch2, vl2, dl2, cs2, ds2⟩⟩, hx2⟩ : ∃ x, wat wl k = x := ⟨_, rfl⟩
          rw [hx2] at d0 d1 d2 d3 d4 d5 hc2 hd2
          dsimp only at d0 d1 d2 d3 d4 d5 hc2 hd2
          obtain ⟨a32, cap32, rfl⟩ := hc2.len
          obtain ⟨a42, cap42, rfl, -⟩ := hd2.len
          have HX2 := Lib.hid hx2
          have HSC2 := Lib.hid hc2
          have HSD2 := Lib.hid hd2
          clear hx2
          have Rxk := Lib.hid ((HBk.out.block X (Array.getElem?_eq_some_iff.1 Rx3.out).1).trans Rx3.out)
          clear hd2 hc2 hbb2
          obtain ⟨Wy, hWy⟩ : ∃ Wy, (wp.alloc (.cells #[.int .i64 0, .int .i64 0, .int .i64 0, .int .i64 0, .int .u64 0, .int .i64 0, .slice none 0 0, .slice none 0 0] 56)).setRow wp.heap.size #[.int .i64 th2, .int .i64 kd2, .int .i64 md2, .int .i64 ch2, .int .u64 vl2, .int .i64 dl2, .slice a32 cs2.length cap32, .slice a42 ds2.length cap42] = Wy := ⟨_, rfl⟩
          have Ny : Hid ((wp.alloc (.cells #[.int .i64 0, .int .i64 0, .int .i64 0, .int .i64 0, .int .u64 0, .int .i64 0, .slice none 0 0, .slice none 0 0] 56)).heap[wp.heap.size]? = some (.cells #[.int .i64 0, .int .i64 0, .int .i64 0, .int .i64 0, .int .u64 0, .int .i64 0, .slice none 0 0, .slice none 0 0] 56 (0, 0))) := heap_alloc_new _ _
          have HBy : Hid (Below wp.heap.size wp Wy) := hWy ▸ row_below (below_new (Below.refl _ _) _) (Nat.le_refl _) _
          have Ry : Hid (Wy.heap[wp.heap.size]? = some (.cells #[.int .i64 th2, .int .i64 kd2, .int .i64 md2, .int .i64 ch2, .int .u64 vl2, .int .i64 dl2, .slice a32 cs2.length cap32, .slice a42 ds2.length cap42] 56 (0, 0))) := hWy ▸ setRow_heap _ _ _ _ _ (0, 0) Ny.out
          have HWy := Lib.hid hWy
          clear hWy
          go_upto_region 9 with (refine wpList_store_row rfl 56 _ _ rfl (wp.heap.size) _ rfl rfl 56 #[.int .i64 0, .int .i64 0, .int .i64 0, .int .i64 0, .int .u64 0, .int .i64 0, .slice none 0 0, .slice none 0 0] Ny.out (by kernel_rfl) rfl (by simp [Value.oneCell']) ?_)
          rw [HWy.out]
          try simp only [Act.put]
          clear HWy Ny
          obtain ⟨Y, hY⟩ : ∃ Y, wp.heap.size = Y := ⟨_, rfl⟩
          rw [hY] at Ry
          rw [hY]
          clear hY
          have HBY := Lib.hid (below_then HBk.out HBy.out)
          have HBZ := Lib.hid (below_then HB3.out HBY.out)
          have Rxy := Lib.hid ((HBy.out.block X (Array.getElem?_eq_some_iff.1 Rxk.out).1).trans Rxk.out)
          have HOY : Hid (OpV Wy (.agg #[.int .i64 kd2, .int .i64 md2, .int .i64 ch2, .int .u64 vl2, .int .i64 dl2, .slice a32 cs2.length cap32, .slice a42 ds2.length cap42]) ⟨kd2, md2, ch2, vl2, dl2, cs2, ds2⟩) := ⟨_, _, rfl, HSC2.out.below HBy.out, HSD2.out.below HBy.out⟩
          have HFK : Hid (OpM.fine ⟨kd2, md2, ch2, vl2, dl2, cs2, ds2⟩) := by have := HF.out k hkw; rw [HX2.out] at this; exact this
          have T2 := Lib.hid (TM.out _ _ _ _ Wy HBZ.out (HO3.out.below HBY.out) HOY.out HFI.out HFK.out)
          obtain ⟨q, hq⟩ : ∃ q, meetP l ⟨kd, md, ch, vl, dl, cs, ds⟩ ⟨kd2, md2, ch2, vl2, dl2, cs2, ds2⟩ = q := ⟨_, rfl⟩
          rw [hq] at T2
          have HEN : Hid (enP l wl i k = (th != th2 && q)) := by
            show _ = _
            unfold enP
            rw [HX.out, HX2.out, ← hq]
          clear d0 d1 d2 d3 d4 d5 d6 d7 hq
          obtain ⟨x0, x1, x2, x3, x4, x5, x6, x7⟩ := rowc8 Rxy.out
          obtain ⟨y0, y1, y2, y3, y4, y5, y6, y7⟩ := rowc8 Ry.out
          by_cases hth : th = th2
          · have hn1 : (th != th2) = false := by simpa using hth
            clear hth
            go_wp2_with fail
            go_roundw
            case rel => exact ⟨k + 1, by go_num, by omega, fun j hj => by
              by_cases e : j = k
              · rw [e, HEN.out, hn1]; rfl
              · exact HN3.out j (by omega), HBY⟩
            case measure => simp [intOf]; omega
          · have hn1 : (th != th2) = true := by simpa using hth
            rw [hn1] at HEN
            clear hth
            go_wp2_with fail
            refine T2.out.mono ?_; rintro e w5 ⟨rfl, hb5⟩
            have HB5 := Lib.hid (below_then HBY.out hb5)
            have HBF := Lib.hid (below_then HBZ.out hb5)
            clear x0 x1 x2 x3 x4 x5 x6 x7 y0 y1 y2 y3 y4 y5 y6 y7 hb5 T2 hn1
            cases q with
            | true =>
              have hr : mb = true := HYM.out i k hlt hlk HEN.out
              subst hr
              go_wp2
              go_ret
              exact ⟨rfl, HBF.out⟩
            | false =>
              go_wp2_with fail
              go_roundw
              case rel => exact ⟨k + 1, by go_num, by omega, fun j hj => by
                by_cases e : j = k
                · rw [e]; exact HEN.out
                · exact HN3.out j (by omega), HB5⟩
              case measure => simp [intOf]; omega
        · have hge : ¬ (k : Int) < (i : Int) := by omega
          go_wp2_with fail
          go_roundw
          case rel => exact ⟨i + 1, by go_num, by omega, fun j hj => by
            by_cases e : j = i
            · rw [e]; exact HZ.out
            · exact HN1.out j (by omega), fun j hj => by
            by_cases e : j = i
            · rw [e]; exact fun k2 hk2 => HN3.out k2 (by omega)
            · exact HN2.out j (by omega), below_then HB3.out HBk.out⟩
          case measure => simp [intOf]; omega
    · have hge : ¬ (i : Int) < (wl.length : Int) := by omega
      have hr : mb = false := HNO.out (fun j hj => HN1.out j (by omega)) (fun j hj => HN2.out j (by omega))
      subst hr
      go_wp2
      go_ret
      exact ⟨rfl, HBi.out⟩
end Go.Proofs.Ytckjdlphilpgfaa
