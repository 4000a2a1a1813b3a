import Derived.Deep.DeepCutAuto
import Derived.Deep.CutBlock
import Derived.Test.YtialclohhemkiaaB05
set_option linter.unusedVariables false
set_option linter.unusedSimpArgs false
/- Layer 14: a channel is set; the cases of an operation. -/
namespace Go.Proofs.Ytialclohhemkiaa
open Go.ChangeShapes Go.WideShapes Go.ChangeAt Go.RowKit
set_option maxRecDepth 100000

theorem Try.info_chan : (Try.prog.info? 79).map (fun i => (i.zero, i.size, i.bytes)) = some (some (.agg #[.int .i64 0, .slice none 0 0, .bool false]), 3, 40) := by kernel_rfl
set_option maxRecDepth 100000 in
set_option maxHeartbeats 16000000 in
theorem rcases_any (v : Value) (op : OpM) (w : World) (h : OpV w v op) (hok : op.chan = IntKind.i64.wrap op.chan ∧ op.val = IntKind.u64.wrap op.val) : Calls Try.prog 51 #[v] w fun e w' => ∃ u, e = .returned u ∧ SlC w' u (casesE op) ∧ Below w.heap.size w w' := by
  have TS := Lib.hid fun w' (hb : Below w.heap.size w w') => rsingle_any v op w' (h.below hb)
  obtain ⟨vc, vd, rfl, hc, hd⟩ := h
  obtain ⟨lc, hlc⟩ : ∃ l, casesE op = l := ⟨_, rfl⟩
  rw [hlc]
  have HLC := Lib.hid hlc
  clear hlc
  obtain ⟨kd, md, ch, vl, dl, cs, ds⟩ := op
  dsimp only at *
  obtain ⟨a3, cap3, rfl⟩ := hc.len
  obtain ⟨a4, cap4, rfl, -⟩ := hd.len
  have HOK := Lib.hid hok
  have HSC := Lib.hid fun w' (hb : Below w.heap.size w w') => hc.below hb
  clear hc hd hok
  obtain ⟨W, hW, HB, R0, hz⟩ := one_new w (.cells #[.int .i64 kd, .int .i64 md, .int .i64 ch, .int .u64 vl, .int .i64 dl, .slice a3 cs.length cap3, .slice a4 ds.length cap4] 38)
  have HW := Lib.hid hW
  clear hW
  go_enter Try.func51, Try.ntmps51
  go_upto_region 1 with fail
  rw [HW.out]
  clear HW
  obtain ⟨x0_0, x0_1, x0_2, x0_3, x0_4, x0_5, x0_6⟩ := rowc7 R0.out
  by_cases h4 : kd = 4
  · have hl : lc = cs := by rw [← HLC.out]; unfold casesE; rw [if_pos h4]
    subst hl
    subst h4
    go_wp2
    go_ret
    exact ⟨_, rfl, HSC.out _ HB.out, HB.out⟩
  have hq4 : (kd == 4) = false := by simpa using h4
  obtain ⟨sb, hsb⟩ : ∃ b, sgB ⟨kd, md, ch, vl, dl, cs, ds⟩ = b := ⟨_, rfl⟩
  obtain ⟨⟨s1, s2, s3⟩, hsc⟩ : ∃ c, sgC ⟨kd, md, ch, vl, dl, cs, ds⟩ = c := ⟨_, rfl⟩
  rw [hsb, hsc] at TS
  have HL : Hid (lc = if sb = true then [⟨s1, s2, s3⟩] else []) := by
    show _ = _
    rw [← HLC.out]
    unfold casesE
    rw [if_neg h4]
    show (if oneB _ = true then [oneC _] else []) = _
    rw [← hsb, ← hsc]
    rfl
  have HS2 : Hid (s2 = IntKind.i64.wrap s2 ∧ s3 = IntKind.u64.wrap s3) := by
    have h1 := congrArg CaseM.chan hsc
    have h2 := congrArg CaseM.val hsc
    dsimp only at h1 h2
    show _ ∧ _
    rw [← h1, ← h2]
    unfold sgC
    split
    · exact HOK.out
    · split
      · exact HOK.out
      · exact ⟨by decide, by decide⟩
  unfold caseW at TS
  dsimp only at TS
  clear hsb hsc HLC h4 HSC
  go_wp2_with fail
  refine (TS.out _ HB.out).mono ?_; rintro e w1 ⟨rfl, hb1⟩
  have HB1 := Lib.hid (below_then HB.out hb1)
  clear x0_0 x0_1 x0_2 x0_3 x0_4 x0_5 x0_6 hb1 hq4
  obtain ⟨Wx, hWx⟩ : ∃ Wx, (w1.alloc (.cells #[.bool false, .int .i64 0, .int .u64 0] 74)).setRow w1.heap.size #[.bool s1, .int .i64 s2, .int .u64 s3] = Wx := ⟨_, rfl⟩
  have Nx : Hid ((w1.alloc (.cells #[.bool false, .int .i64 0, .int .u64 0] 74)).heap[w1.heap.size]? = some (.cells #[.bool false, .int .i64 0, .int .u64 0] 74 (0, 0))) := heap_alloc_new _ _
  have HBx : Hid (Below w1.heap.size w1 Wx) := hWx ▸ row_below (below_new (Below.refl _ _) _) (Nat.le_refl _) _
  have Rx : Hid (Wx.heap[w1.heap.size]? = some (.cells #[.bool s1, .int .i64 s2, .int .u64 s3] 74 (0, 0))) := hWx ▸ setRow_heap _ _ _ _ _ (0, 0) Nx.out
  have HWx := Lib.hid hWx
  clear hWx
  go_upto_region 4 with (refine wpList_store_row rfl 74 _ _ rfl (w1.heap.size) _ rfl rfl 74 #[.bool false, .int .i64 0, .int .u64 0] Nx.out (by kernel_rfl) rfl (by simp [Value.oneCell']) ?_)
  rw [HWx.out]
  try simp only [Act.put]
  clear HWx Nx
  have HBX := Lib.hid (below_then HB1.out HBx.out)
  cases sb with
  | true =>
    have hl : lc = [⟨s1, s2, s3⟩] := HL.out
    subst hl
    obtain ⟨y0, y1, y2⟩ := rowc3 Rx.out
    go_wp2
    go_ret
    refine ⟨_, rfl, ⟨by simp, fun x hx => by simp only [List.mem_singleton] at hx; subst hx; exact HS2.out, _, 1, rfl, Nat.le_refl _, fun t ht => ?_⟩, below_new HBX.out _⟩
    have ht0 : t = 0 := by simp at ht; exact ht
    subst ht0
    refine ⟨_, 0, rfl, by simp, ?_⟩
    exact ⟨World.cell?_alloc_at _ _ _ _ rfl, World.cell?_alloc_at _ _ _ _ rfl, World.cell?_alloc_at _ _ _ _ rfl⟩
  | false =>
    have hl : lc = [] := HL.out
    subst hl
    go_wp2
    go_ret
    exact ⟨_, rfl, SlC.nil _, HBX.out⟩
set_option maxRecDepth 100000 in
set_option maxHeartbeats 16000000 in
theorem mset_any (v : Value) (l : List ChanM) (i : Nat) (hi : i < l.length) (c : ChanM) (u : Value) (w : World) (hv : SlH w v l) (hu : SlU w u c.buf) (hcw : c.cap = IntKind.i64.wrap c.cap) (hl : l.length ≤ 1000000) : Calls Try.prog 129 #[v, .int .i64 i, .agg #[.int .i64 c.cap, u, .bool c.closed]] w fun e w' => ∃ v', e = .returned v' ∧ SlH w' v' (l.set i c) ∧ Below w.heap.size w w' := by
  obtain ⟨cc, bf, cl⟩ := c
  dsimp only at *
  obtain ⟨ua, uc, rfl, -⟩ := hu.1.len
  have HU := Lib.hid hu
  obtain ⟨us, h1, h2, h3, h4, -⟩ := hv
  have hlen := chRows_length l us h1
  obtain ⟨a, cap, hve, -⟩ := h2.len
  rw [hlen] at hve
  subst hve
  have HS := Lib.hid h2
  have H3 := Lib.hid h3
  have H4 := Lib.hid h4
  have H1 := Lib.hid h1
  have HLN := Lib.hid hlen
  have HNE : Hid (chRows l us ≠ []) := fun e => by rw [e] at hlen; simp at hlen; omega
  have HCW := Lib.hid hcw
  clear h1 h2 h3 h4 hu hcw hlen
  obtain ⟨W, hW, HB, R0, hz⟩ := one_new w (.cells #[.int .i64 cc, .slice ua bf.length uc, .bool cl] 79)
  have HW := Lib.hid hW
  clear hW
  go_enter Try.func129, Try.ntmps129
  go_upto_region 1 with fail
  rw [HW.out]
  clear HW
  obtain ⟨x0_0, x0_1, x0_2⟩ := rowc3 R0.out
  have HS1 := Lib.hid (HS.out.below HB.out)
  go_upto_region 2 with (at_builtin; refine wp_copy_sls _ 29 (by kernel_rfl) Try.info_chan rfl (by decide) (by decide) rfl _ _ rfl (base := W.heap.size) rfl rfl HS1.out HNE.out (by rw [HLN.out]; omega) (Nat.le_refl _) ?_; intro v2 w2 h5 h6; have H5 := Lib.hid h5; have H6 := Lib.hid h6; clear h5 h6)
  have HB2 : Hid (Below W.heap.size W w2) := (Below.refl W.heap.size W).grown H6.out (Nat.le_refl _) (fun j hj => by cases hj)
  obtain ⟨g, cap2, hve, hg, hg2, -⟩ := H5.out.open (by rw [HLN.out]; omega)
  rw [HLN.out] at hve
  subst hve
  have hT := (H5.out.row i (by rw [HLN.out]; exact hi)).2
  have HT := Lib.hid hT
  have hiI : (i : Int) < (l.length : Int) := by omega
  obtain ⟨y0, y1, y2⟩ := rowc3 ((HB2.out.block w.heap.size (Array.getElem?_eq_some_iff.1 R0.out).1).trans R0.out)
  clear x0_0 x0_1 x0_2 hT
  go_wp2_with (refine wpList_store_mid rfl 79 _ _ rfl g (i * 3) _ rfl rfl HT.out (by kernel_rfl) (by simp [Value.oneCell']) ?_)
  have H7 := H5.out.setRow i (by rw [HLN.out]; exact hi) (r := [.int .i64 cc, .slice ua bf.length uc, .bool cl]) rfl (by intro x hx; simp only [List.mem_cons, List.not_mem_nil, or_false] at hx; rcases hx with rfl | rfl | rfl <;> rfl)
  rw [show ([.int .i64 cc, .slice ua bf.length uc, .bool cl] : List Value) = chRow ⟨cc, bf, cl⟩ (.slice ua bf.length uc) from rfl, chRows_set l us i _ _ H1.out] at H7
  have hb3 : Below w.heap.size w (w2.setCells g (i * 3) (chRow ⟨cc, bf, cl⟩ (.slice ua bf.length uc))) := (below_then HB.out HB2.out).grown (setCells_grown g _ _ _) (below_then HB.out HB2.out).size (fun j hj => by cases hj; have := HB.out.size; omega)
  have hbw : Below W.heap.size W (w2.setCells g (i * 3) (chRow ⟨cc, bf, cl⟩ (.slice ua bf.length uc))) := HB2.out.grown (setCells_grown g _ _ _) HB2.out.size (fun j hj => by cases hj; exact hg)
  go_ret
  refine ⟨_, rfl, H7.slH (by rw [List.length_set, List.length_set]; exact H1.out) (by rw [List.length_set]; exact hl) (fun j hj => ?_) (fun c hc => ?_), hb3⟩
  · rw [List.length_set] at hj
    rw [getD_setL, getD_setL]
    by_cases hji : i = j
    · rw [if_pos ⟨hji, by rw [H1.out]; exact hj⟩, if_pos ⟨hji, hj⟩]
      exact HU.out.below hb3
    · rw [if_neg (fun h => hji h.1), if_neg (fun h => hji h.1)]
      exact (H3.out j hj).below hb3
  · rcases List.mem_or_eq_of_mem_set hc with hc | rfl
    · exact H4.out c hc
    · exact HCW.out
end Go.Proofs.Ytialclohhemkiaa
/- append of a list of words that reads, to one that the call owns. -/
namespace Go.Proofs.Ytialclohhemkiaa
open Go.ChangeShapes Go.WideShapes Go.ChangeAt Go.RowKit
set_option maxRecDepth 100000

theorem run_app_u64 (w : World) (ty : TypeId) (base : Nat) (v : Value) (l : List Int) (hown : OwnI w base 23 .u64 v l) (xv : Value) (l2 : List Int) (hS : SlI w .u64 xv l2)
    (hl : l.length ≤ 1000000) (hl2 : l2.length ≤ 1000000) (hb : base ≤ w.heap.size) :
    ∃ v' w', (Builtin.append_ #[32, 32] ty #[v, xv]).run Try.prog w = .ok v' w' ∧ OwnI w' base 23 .u64 v' (l ++ l2) ∧ w.grownBy w' v.ownBlock := by
  obtain ⟨i0, hi, hz0, hz1, hz2⟩ := info_parts Try.info_u64
  by_cases hne : l2 = []
  · subst hne
    obtain ⟨B, c', rfl, -⟩ := hS.len
    have e : ∃ A c, v = .slice A l.length c ∧ l.length ≤ c := by
      rcases hown.shape with ⟨rfl, rfl⟩ | ⟨g, cap, rfl, _, _, h, _⟩
      · exact ⟨_, _, rfl, Nat.le_refl _⟩
      · exact ⟨_, _, rfl, h⟩
    obtain ⟨A, c, rfl, hc⟩ := e
    refine ⟨_, w, run_append_zero (by kernel_rfl) hi A B l.length c c' hc, by simpa using hown, grownBy_refl _ _⟩
  · obtain ⟨b, off, cap, rfl, hcap, hbk, hc⟩ := hS.open hne
    obtain ⟨v', w', hr, h2, h3, -⟩ := run_append_own (P := Try.prog) w base 32 ty 23 i0 (.int .u64 0) 1 _ (by kernel_rfl) hi hz0 hz1 rfl rfl (by decide) v l.length _ hown ⟨b, off, none⟩ l2.length cap (l2.map (Value.int .u64)) (by simp) (by
      intro j u hj
      rw [add_plain]
      simp only [List.getElem?_map, Option.map_eq_some_iff] at hj
      obtain ⟨y, hy, rfl⟩ := hj
      have hjl : j < l2.length := (List.getElem?_eq_some_iff.1 hy).1
      rw [hc j hjl, List.getD_eq_getElem?_getD, hy]; rfl) (by intro u hu; simp only [List.mem_map] at hu; obtain ⟨y, _, rfl⟩ := hu; rfl) (by unfold maxLen; omega) (by rw [hz2]; omega) hb
    refine ⟨v', w', hr, ?_, h3⟩
    unfold OwnI
    rw [List.length_append, List.map_append]
    exact h2
/-- append of a list that reads, to a list that the call owns -/
theorem wp_app_u64 (w : World) {ops : Array Oper} {rest : List Oper} {o : Oper} {a : Act} {Q : Exit → Act → World → Prop}
    (hg : o.guard = none) (s x : Operand) (hop : o.op = Op.call { callee := Callee.builtin Builtin.append, args := #[s, x], argTypes := #[32, 32] })
    (base : Nat) (v : Value) (l : List Int) (hs : a.eval s = v) (hown : OwnI w base 23 .u64 v l) (xv : Value) (l2 : List Int) (hx : a.eval x = xv) (hS : SlI w .u64 xv l2)
    (hl : l.length ≤ 1000000) (hl2 : l2.length ≤ 1000000) (hb : base ≤ w.heap.size)
    (hK : ∀ v' w', OwnI w' base 23 .u64 v' (l ++ l2) → w.grownBy w' v.ownBlock → wpList Try.prog ops Q rest (a.put o.dst v') w') :
    wpList Try.prog ops Q (o :: rest) a w := by
  obtain ⟨v', w', hr, h1, h2⟩ := run_app_u64 w o.type base v l hown xv l2 hS hl hl2 hb
  exact Lib.wpList_append_run w hg s x _ _ hop _ _ hs hx v' w' hr (hK v' w' h1 h2)
/-- the same inside a region that draws its order -/
theorem step_app_u64 {w : World} {ops : Array Oper} {o : Oper} {a : Act} {K : Act → World → Prop} {Q : Exit → Act → World → Prop} {E : Prop}
    (hgd : o.guard = none) (s x : Operand) (hop : o.op = Op.call { callee := Callee.builtin Builtin.append, args := #[s, x], argTypes := #[32, 32] })
    (base : Nat) (v : Value) (l : List Int) (hs : a.eval s = v) (hown : OwnI w base 23 .u64 v l) (xv : Value) (l2 : List Int) (hx : a.eval x = xv) (hS : SlI w .u64 xv l2)
    (hl : l.length ≤ 1000000) (hl2 : l2.length ≤ 1000000) (hb : base ≤ w.heap.size)
    (hK : ∀ v' w', OwnI w' base 23 .u64 v' (l ++ l2) → w.grownBy w' v.ownBlock → K (a.put o.dst v') w') :
    if Region.wanted o (yielded ops a.tmps) = true then Oper.wp Try.prog o a w K Q else E := by
  have hw : Region.wanted o (yielded ops a.tmps) = true := by simp [Region.wanted, hgd]
  rw [if_pos hw]
  obtain ⟨v', w', hr, h1, h2⟩ := run_app_u64 w o.type base v l hown xv l2 hS hl hl2 hb
  exact Lib.wp_append_run w s x _ _ hop _ _ hs hx v' w' hr (hK v' w' h1 h2)
end Go.Proofs.Ytialclohhemkiaa
