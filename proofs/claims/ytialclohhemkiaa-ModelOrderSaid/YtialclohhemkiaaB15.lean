import Derived.Deep.DeepCutAuto
import Derived.Deep.CutBlock
import Derived.Test.YtialclohhemkiaaB14
import Derived.Test.YtialclohhemkiaaB08
import Derived.Test.YtialclohhemkiaaB13
import Derived.Test.YtialclohhemkiaaB11
set_option linter.unusedVariables false
set_option linter.unusedSimpArgs false
/- Layer 14: Apply. -/
namespace Go.Proofs.Ytialclohhemkiaa
open Go.ChangeShapes Go.WideShapes Go.ChangeAt Go.RowKit
set_option maxRecDepth 100000

/-- what Apply answers: nil if nothing takes effect -/
def DoN (o : Option (List ChanM)) (w : World) (e : Ending) (w' : World) : Prop := ∃ (v' : Value) (ok : Bool), e = .returned (.tuple #[v', .bool ok]) ∧ ((∃ l', o = some l' ∧ ok = true ∧ SlH w' v' l') ∨ (o = none ∧ ok = false ∧ v' = .slice none 0 0)) ∧ Below w.heap.size w w'
theorem DoN.doQ {o : Option (List ChanM)} {w : World} {e : Ending} {w' : World} (h : DoN o w e w') : DoQ o w e w' := by
  obtain ⟨v', ok, he, h1 | ⟨h1, h2, -⟩, hb⟩ := h
  · exact ⟨v', ok, he, .inl h1, hb⟩
  · exact ⟨v', ok, he, .inr ⟨h1, h2⟩, hb⟩
set_option maxRecDepth 100000 in
set_option maxHeartbeats 16000000 in
theorem mApplyN_any (v vo : Value) (l : List ChanM) (op : OpM) (r : ResM) (w : World) (hv : SlH w v l) (hl : l.length ≤ 1000000) (hbf : ∀ c ∈ l, c.buf.length ≤ 999999) (h : OpV w vo op) (hok : op.chan = IntKind.i64.wrap op.chan ∧ op.val = IntKind.u64.wrap op.val) : Calls Try.prog 80 #[v, vo, resW r] w fun e w' => DoN (modE l op r) w e w' := by
  have TA := Lib.hid fun w' (hb : Below w.heap.size w w') => mapply_any v vo l op r w' (hv.below hb) hl hbf (h.below hb) hok
  obtain ⟨lo, hlo⟩ : ∃ o, modE l op r = o := ⟨_, rfl⟩
  rw [hlo] at TA ⊢
  clear hlo
  obtain ⟨vc, vd, rfl, hc, hd⟩ := h
  obtain ⟨kd, md, ch, vl, dl, cs, ds⟩ := op
  obtain ⟨rk, rc, rv, rok, nm⟩ := r
  dsimp only at *
  obtain ⟨a3, cap3, rfl⟩ := hc.len
  obtain ⟨a4, cap4, rfl, -⟩ := hd.len
  unfold resW at TA ⊢
  dsimp only at TA ⊢
  obtain ⟨a, cap, hve, -⟩ := hv.len
  subst hve
  clear hv hl hbf hc hd hok
  obtain ⟨W, hW, HB, R0, R1, hz⟩ := two_new w (.cells #[.int .i64 kd, .int .i64 md, .int .i64 ch, .int .u64 vl, .int .i64 dl, .slice a3 cs.length cap3, .slice a4 ds.length cap4] 38) (.cells #[.int .i64 rk, .int .i64 rc, .int .u64 rv, .bool rok, .int .i64 nm] 25)
  have HW := Lib.hid hW
  clear hW
  go_enter Try.func80, Try.ntmps80
  go_upto_region 1 with fail
  rw [HW.out]
  clear HW
  obtain ⟨x0_0, x0_1, x0_2, x0_3, x0_4, x0_5, x0_6⟩ := rowc7 R0.out
  obtain ⟨x1_0, x1_1, x1_2, x1_3, x1_4⟩ := rowc5 R1.out
  go_wp2_with fail
  refine (TA.out _ HB.out).mono ?_; rintro e w3 ⟨v3, ok3, rfl, hq3, hb3⟩
  have HB3 := Lib.hid (below_then HB.out hb3)
  have HQ3 := Lib.hid hq3
  clear hq3 hb3 x0_0 x0_1 x0_2 x0_3 x0_4 x0_5 x0_6 x1_0 x1_1 x1_2 x1_3 x1_4
  cases ok3 with
  | false =>
    go_wp2_with fail
    refine bodyPost_ret (v := .tuple #[.slice none 0 0, .bool false]) (by simp [results, Try.results80, go_sem]) rfl ?_
    refine ⟨_, false, rfl, .inr ⟨?_, rfl, rfl⟩, HB3.out⟩
    rcases HQ3.out with ⟨l', -, h2, -⟩ | ⟨h1, -⟩
    · cases h2
    · exact h1
  | true =>
    go_wp2_with fail
    refine bodyPost_ret (v := .tuple #[v3, .bool true]) (by simp [results, Try.results80, go_sem]) rfl ?_
    refine ⟨v3, true, rfl, ?_, HB3.out⟩
    rcases HQ3.out with ⟨l', h1, -, h2⟩ | ⟨-, h1⟩
    · exact .inl ⟨l', h1, rfl, h2⟩
    · cases h1
theorem mApply_any (v vo : Value) (l : List ChanM) (op : OpM) (r : ResM) (w : World) (hv : SlH w v l) (hl : l.length ≤ 1000000) (hbf : ∀ c ∈ l, c.buf.length ≤ 999999) (h : OpV w vo op) (hok : op.chan = IntKind.i64.wrap op.chan ∧ op.val = IntKind.u64.wrap op.val) : Calls Try.prog 80 #[v, vo, resW r] w fun e w' => DoQ (modE l op r) w e w' :=
  (mApplyN_any v vo l op r w hv hl hbf h hok).mono fun _ _ h => h.doQ
end Go.Proofs.Ytialclohhemkiaa
/- Layer 14: the program's Apply. -/
namespace Go.Proofs.Ytialclohhemkiaa
open Go.ChangeShapes Go.WideShapes Go.ChangeAt Go.RowKit
set_option maxRecDepth 100000

set_option maxRecDepth 100000 in
set_option maxHeartbeats 16000000 in
theorem qApplyN_any (v vo : Value) (l : List ChanM) (op : OpM) (r : ResM) (w : World) (hv : SlH w v l) (hl : l.length ≤ 1000000) (hbf : ∀ c ∈ l, c.buf.length ≤ 999999) (h : OpV w vo op) (hok : op.chan = IntKind.i64.wrap op.chan ∧ op.val = IntKind.u64.wrap op.val) (hco : ∀ x ∈ op.cases, x.ok) (hcl : (casesE op).length ≤ 100000) (hal : allowB l op r = (modE l op r).isSome) : Calls Try.prog 24 #[v, vo, resW r] w fun e w' => DoN (modE l op r) w e w' := by
  have TA := Lib.hid fun w' (hb : Below w.heap.size w w') => qallows_any v vo l op r w' (hv.below hb) (h.below hb) hok hcl
  have TC := Lib.hid fun w' (hb : Below w.heap.size w w') => qcopied_any v l w' (hv.below hb) hl hbf
  have TX := Lib.hid fun w' (hb : Below w.heap.size w w') => qchosen_any vo op r r.case rfl w' (h.below hb)
  have HVAL := Lib.hid fun x (hx : chosenE op r = some x) => chosen_ok hx hco hok
  have HMR := Lib.hid fun l' (hx : modE l op r = some l') => modE_modR hx
  have HBF : Hid (∀ i, i < l.length → (l.getD i noChan).buf.length ≤ 1000000 ∧ ∀ x ∈ (l.getD i noChan).buf, x = IntKind.u64.wrap x) := fun i hi => by
    refine ⟨?_, ?_⟩
    · rw [List.getD_eq_getElem?_getD, List.getElem?_eq_getElem hi]
      have := hbf _ (List.getElem_mem hi)
      show (l[i]).buf.length ≤ _
      omega
    · obtain ⟨us, -, -, h3, -⟩ := hv
      exact (h3 i hi).1.2.1
  have HB9 : Hid (∀ i, i < l.length → (l.getD i noChan).buf.length ≤ 999999) := fun i hi => by
    rw [List.getD_eq_getElem?_getD, List.getElem?_eq_getElem hi]
    exact hbf _ (List.getElem_mem hi)
  have H4 : Hid (∀ c ∈ l, c.cap = IntKind.i64.wrap c.cap) := by
    obtain ⟨us, -, -, -, h4, -⟩ := hv
    exact h4
  rw [hal] at TA
  obtain ⟨mo, hmo⟩ : ∃ o, modE l op r = o := ⟨_, rfl⟩
  rw [hmo] at TA HMR
  rw [hmo]
  have HL := Lib.hid hl
  clear hmo hal hco hok hbf hl hcl
  obtain ⟨vc, vd, rfl, hc, hd⟩ := h
  obtain ⟨kd, md, ch, vl, dl, cs, ds⟩ := op
  dsimp only at *
  obtain ⟨a3, cap3, rfl⟩ := hc.len
  obtain ⟨a4, cap4, rfl, -⟩ := hd.len
  obtain ⟨rk, rc, rv, rok, nm⟩ := r
  unfold resW at TA ⊢
  dsimp only at TA TX ⊢
  obtain ⟨a, cap, hve, -⟩ := hv.len
  subst hve
  clear hv hc hd
  obtain ⟨W, hW, HB, R0, R1, hz⟩ := two_new w (.cells #[.int .i64 kd, .int .i64 md, .int .i64 ch, .int .u64 vl, .int .i64 dl, .slice a3 cs.length cap3, .slice a4 ds.length cap4] 38) (.cells #[.int .i64 rk, .int .i64 rc, .int .u64 rv, .bool rok, .int .i64 nm] 25)
  have HW := Lib.hid hW
  clear hW
  go_enter Try.func24, Try.ntmps24
  go_upto_region 1 with fail
  rw [HW.out]
  clear HW
  obtain ⟨x0_0, x0_1, x0_2, x0_3, x0_4, x0_5, x0_6⟩ := rowc7 R0.out
  obtain ⟨x1_0, x1_1, x1_2, x1_3, x1_4⟩ := rowc5 R1.out
  go_wp2_with fail
  refine (TA.out _ HB.out).mono ?_; rintro e w1 ⟨rfl, hb1⟩
  have HB1 := Lib.hid (below_then HB.out hb1)
  have R01 := Lib.hid ((hb1.block w.heap.size (Array.getElem?_eq_some_iff.1 R0.out).1).trans R0.out)
  have R11 := Lib.hid ((hb1.block (w.heap.size + 1) (Array.getElem?_eq_some_iff.1 R1.out).1).trans R1.out)
  clear hb1 TA x0_0 x0_1 x0_2 x0_3 x0_4 x0_5 x0_6 x1_0 x1_1 x1_2 x1_3 x1_4
  cases mo with
  | none =>
    go_wp2
    refine bodyPost_ret (v := .tuple #[.slice none 0 0, .bool false]) (by simp [results, Try.results24, go_sem]) rfl ?_
    exact ⟨_, _, rfl, .inr ⟨rfl, rfl, rfl⟩, HB1.out⟩
  | some l2 =>
    have HM := Lib.hid (HMR.out _ rfl)
    have TC1 := Lib.hid (TC.out _ HB1.out)
    go_wp2_with fail
    refine TC1.out.mono ?_; rintro e w2 ⟨v2, us, B, rfl, hC⟩
    have HC := Lib.hid hC
    have hb2 := hC.below
    have HB2 := Lib.hid (below_then HB1.out hb2)
    have R02 := Lib.hid ((hb2.block w.heap.size (Array.getElem?_eq_some_iff.1 R01.out).1).trans R01.out)
    have R12 := Lib.hid ((hb2.block (w.heap.size + 1) (Array.getElem?_eq_some_iff.1 R11.out).1).trans R11.out)
    have hrl := chRows_length l us hC.len
    obtain ⟨ga, gc, hv2⟩ := hC.rows.len
    rw [hrl] at hv2
    subst hv2
    obtain ⟨x0, x1, x2, x3, x4, x5, x6⟩ := rowc7 R02.out
    obtain ⟨r0, r1, r2, r3, r4⟩ := rowc5 R12.out
    clear hC hb2 hrl TC TC1 HMR
    go_wp2_with fail
    refine (TX.out _ HB2.out).mono ?_; rintro e w3 ⟨⟨s1, s2, s3⟩, b, rfl, hx, hb3⟩
    unfold caseW
    dsimp only
    have HX := Lib.hid hx
    have HB3 := Lib.hid (below_then HB2.out hb3)
    have R03 := Lib.hid ((hb3.block w.heap.size (Array.getElem?_eq_some_iff.1 R02.out).1).trans R02.out)
    have R13 := Lib.hid ((hb3.block (w.heap.size + 1) (Array.getElem?_eq_some_iff.1 R12.out).1).trans R12.out)
    have HBw := Lib.hid hb3
    clear hx hb3 x0 x1 x2 x3 x4 x5 x6 r0 r1 r2 r3 r4 TX
    obtain ⟨Wx, hWx⟩ : ∃ Wx, (w3.alloc (.cells #[.bool false, .int .i64 0, .int .u64 0] 74)).setRow w3.heap.size #[.bool s1, .int .i64 s2, .int .u64 s3] = Wx := ⟨_, rfl⟩
    have Nx : Hid ((w3.alloc (.cells #[.bool false, .int .i64 0, .int .u64 0] 74)).heap[w3.heap.size]? = some (.cells #[.bool false, .int .i64 0, .int .u64 0] 74 (0, 0))) := heap_alloc_new _ _
    have HBx : Hid (Below w3.heap.size w3 Wx) := hWx ▸ row_below (below_new (Below.refl _ _) _) (Nat.le_refl _) _
    have Rx : Hid (Wx.heap[w3.heap.size]? = some (.cells #[.bool s1, .int .i64 s2, .int .u64 s3] 74 (0, 0))) := hWx ▸ setRow_heap _ _ _ _ _ (0, 0) Nx.out
    have HWx := Lib.hid hWx
    clear hWx
    go_upto_region 5 with (refine wpList_store_row rfl 74 _ _ rfl (w3.heap.size) _ rfl rfl 74 #[.bool false, .int .i64 0, .int .u64 0] Nx.out (by kernel_rfl) rfl (by simp [Value.oneCell']) ?_)
    rw [HWx.out]
    try simp only [Act.put]
    clear HWx Nx
    obtain ⟨X, hX⟩ : ∃ X, w3.heap.size = X := ⟨_, rfl⟩
    rw [hX] at Rx
    rw [hX]
    have hX3 : w3.heap.size ≤ X := by omega
    clear hX
    have HBX := Lib.hid (below_then HB3.out HBx.out)
    have HBy := Lib.hid (below_then HBw.out HBx.out)
    have R0x := Lib.hid ((HBx.out.block w.heap.size (Array.getElem?_eq_some_iff.1 R03.out).1).trans R03.out)
    have R1x := Lib.hid ((HBx.out.block (w.heap.size + 1) (Array.getElem?_eq_some_iff.1 R13.out).1).trans R13.out)
    obtain ⟨x0, x1, x2⟩ := rowc3 Rx.out
    obtain ⟨o0, o1, o2, o3, o4, o5, o6⟩ := rowc7 R0x.out
    obtain ⟨r0, r1, r2, r3, r4⟩ := rowc5 R1x.out
    have hw12 := HC.out.below.size
    have hw23 := HBw.out.size
    have hw3x := HBx.out.size
    cases HM.out with
    | same h1 h2 h6 e =>
      dsimp only at h1 h2 h6
      have hr : l2 = l := e
      subst hr
      have HF : Hid (∀ W, Below w2.heap.size w2 W → DoN (some l2) w (.returned (.tuple #[.slice ga l2.length gc, .bool true])) W) := fun W hb => ⟨_, _, rfl, .inl ⟨l2, rfl, rfl, HC.out.slH HL.out HBF.out H4.out hb⟩, below_then HB2.out hb⟩
      have k1 : (rk == 1) = false := by simpa using h1
      have k6 : (rk == 6) = false := by simpa using h6
      have HFy := Lib.hid (HF.out _ HBy.out)
      clear HF e h1 h6 HM HX HVAL HC HL HBF HB9 H4
      by_cases k2 : rk = 2
      · subst k2
        have hro : rok = false := by cases rok with | false => rfl | true => exact absurd ⟨rfl, rfl⟩ h2
        subst hro
        clear h2
        go_wp2
        refine bodyPost_ret (v := .tuple #[.slice ga l2.length gc, .bool true]) (by simp [results, Try.results24, go_sem]) rfl ?_
        exact HFy.out
      · have k2b : (rk == 2) = false := by simpa using k2
        clear h2
        go_wp2
        refine bodyPost_ret (v := .tuple #[.slice ga l2.length gc, .bool true]) (by simp [results, Try.results24, go_sem]) rfl ?_
        exact HFy.out
    | shut i hk hx hi e =>
      dsimp only at hx
      subst hx
      dsimp only at hk
      subst hk
      have HE := Lib.hid e
      have hrl := chRows_length l us HC.out.len
      obtain ⟨g, cap', hve, hg, hg2, -⟩ := HC.out.rows.open (by omega)
      rw [hrl] at hve
      simp only [Value.slice.injEq] at hve
      obtain ⟨rfl, -, rfl⟩ := hve
      have hgB := HC.out.vlt g rfl
      have hown := (HC.out.rows.below HBy.out).2
      have hrow := ((HC.out.rows.below HBy.out).row i (by omega)).1
      rw [chRows_row l us i HC.out.len hi (by omega)] at hrow
      rw [hrl] at hown
      have hiI : (i : Int) < (l.length : Int) := by omega
      have HCW : Hid ((l.getD i noChan).cap = IntKind.i64.wrap (l.getD i noChan).cap) := by
        rw [List.getD_eq_getElem?_getD, List.getElem?_eq_getElem hi]
        exact H4.out _ (List.getElem_mem hi)
      clear e HM hrl
      have d2 := hrow 2 _ rfl
      have fz := World.ownsRow.frozenAt hown (i * 3 + 2)
      have hub := (HC.out.bufs i hi).below HBy.out
      have hS := HC.out.put hi HL.out HBF.out H4.out (W := Wx) (grown_below HBy.out) { l.getD i noChan with closed := true } (us.getD i (.slice none 0 0)) (.bool (l.getD i noChan).closed) (.bool true) [.int .i64 (l.getD i noChan).cap, us.getD i (.slice none 0 0)] [] HCW.out rfl rfl rfl ((hub.kept (grownBy_setCell Wx ⟨g, i * 3 + 2, none⟩ (.bool true)) (hub.ne hgB)).slU (by have := (HBF.out i hi).1; show (l.getD i noChan).buf.length ≤ _; omega) (HBF.out i hi).2)
      have HS : Hid (DoN (some l2) w (.returned (.tuple #[.slice (some ⟨g, 0, none⟩) l.length gc, .bool true])) (Wx.setCell ⟨g, i * 3 + 2, none⟩ (.bool true))) := ⟨_, _, rfl, .inl ⟨l2, rfl, rfl, by rw [HE.out]; exact hS⟩, HBX.out.setCell (p := ⟨g, i * 3 + 2, none⟩) (by show w.heap.size ≤ g; have := HB1.out.size; omega) _⟩
      clear hS hub hrow hown HX HVAL HC HL HBF HB9 H4 HE HCW
      go_wp2
      refine bodyPost_ret (v := .tuple #[.slice (some ⟨g, 0, none⟩) l.length gc, .bool true]) (by simp [results, Try.results24, go_sem]) rfl ?_
      exact HS.out
    | got x i y t hk ho hc hx hi hb e =>
      dsimp only at ho
      subst ho
      have hxx : (⟨s1, s2, s3⟩ : CaseM) = x ∧ b = true := by
        rcases HX.out with ⟨h1, h2⟩ | ⟨-, h2⟩
        · rw [hc] at h2; exact ⟨(Option.some.inj h2).symm, h1⟩
        · rw [hc] at h2; cases h2
      obtain ⟨hxx, rfl⟩ := hxx
      subst hxx
      have HV3 := Lib.hid (HVAL.out _ hc)
      dsimp only at hx
      subst hx
      clear hc HX HVAL
      dsimp only at hk
      subst hk
      have HE := Lib.hid e
      have hrl := chRows_length l us HC.out.len
      obtain ⟨g, cap', hve, hg, hg2, -⟩ := HC.out.rows.open (by omega)
      rw [hrl] at hve
      simp only [Value.slice.injEq] at hve
      obtain ⟨rfl, -, rfl⟩ := hve
      have hgB := HC.out.vlt g rfl
      have hown := (HC.out.rows.below HBy.out).2
      have hrow := ((HC.out.rows.below HBy.out).row i (by omega)).1
      rw [chRows_row l us i HC.out.len hi (by omega)] at hrow
      rw [hrl] at hown
      have hiI : (i : Int) < (l.length : Int) := by omega
      have HCW : Hid ((l.getD i noChan).cap = IntKind.i64.wrap (l.getD i noChan).cap) := by
        rw [List.getD_eq_getElem?_getD, List.getElem?_eq_getElem hi]
        exact H4.out _ (List.getElem_mem hi)
      clear e HM hrl
      have d1 := hrow 1 _ rfl
      have fz := World.ownsRow.frozenAt hown (i * 3 + 1)
      have hub := (HC.out.bufs i hi).below HBy.out
      rw [hb] at hub
      have hsu := hub.read (by have := (HBF.out i hi).1; rw [hb] at this; simp only [List.length_cons] at this ⊢; omega) (by have := (HBF.out i hi).2; rw [hb] at this; exact this)
      obtain ⟨ui, hui⟩ : ∃ u, us.getD i (.slice none 0 0) = u := ⟨_, rfl⟩
      have HUI := Lib.hid hui
      rw [hui] at hub hsu d1
      obtain ⟨b2, off2, cap2, rfl, hcp, hb2, hcc2⟩ := hsu.open (by simp)
      have hgb2 : g ≠ b2 := by
        have := hub.own_ge b2 rfl
        omega
      obtain ⟨pa, hpa⟩ : ∃ pa, (if cap2 = 1 then some (⟨b2, off2, none⟩ : Addr) else some ⟨b2, off2 + 1, none⟩) = pa := ⟨_, rfl⟩
      have hS9 : SlI Wx .u64 (.slice pa t.length (cap2 - 1)) t := by
        rw [← hpa]
        split
        · have hbt : t = [] := List.length_eq_zero_iff.1 (by simp at hcp; omega)
          subst hbt
          exact ⟨by simp, by simp, _, _, rfl, Nat.zero_le _, fun t ht => by simp at ht⟩
        · exact hsu.tail1
      have hF9 : fineB Wx (.slice pa t.length (cap2 - 1)) := by
        have hf := own_fine hub (by decide)
        intro a n c e
        rw [← hpa] at e
        rcases hf _ _ _ rfl with h0 | h0
        · simp at h0
        · split at e <;> (cases e; exact .inr h0)
      have hO9 : offB g (.slice pa t.length (cap2 - 1)) := by
        intro a n c e
        rw [← hpa] at e
        refine .inr ?_
        split at e
        · cases e; exact fun e2 => hgb2 e2.symm
        · cases e; exact fun e2 => hgb2 e2.symm
      have hcb : (l.getD i noChan).buf.length = t.length + 1 := by rw [hb]; rfl
      have hS := HC.out.put hi HL.out HBF.out H4.out (W := Wx) (grown_below HBy.out) { l.getD i noChan with buf := t } (.slice pa t.length (cap2 - 1)) (us.getD i (.slice none 0 0)) (.slice pa t.length (cap2 - 1)) [.int .i64 (l.getD i noChan).cap] [.bool (l.getD i noChan).closed] HCW.out rfl rfl rfl ⟨hS9.grown (grownBy_setCell Wx ⟨g, i * 3 + 1, none⟩ (.slice pa t.length (cap2 - 1))) hO9, hF9.setCell _ _⟩
      have HS : Hid (DoN (some l2) w (.returned (.tuple #[.slice (some ⟨g, 0, none⟩) l.length gc, .bool true])) (Wx.setCell ⟨g, i * 3 + 1, none⟩ (.slice pa t.length (cap2 - 1)))) := ⟨_, _, rfl, .inl ⟨l2, rfl, rfl, by rw [HE.out]; exact hS⟩, HBX.out.setCell (p := ⟨g, i * 3 + 1, none⟩) (by show w.heap.size ≤ g; have := HB1.out.size; omega) _⟩
      have HPA := Lib.hid hpa
      simp only [List.length_cons] at d1 hcp
      have htl := (HBF.out i hi).1
      rw [hcb] at htl
      have h03 : (0 : Int) < (t.length : Int) + 1 := by omega
      clear hF9 hS hub hsu hrow hown HC HL HBF HB9 H4 HE HCW hpa hS9 hO9 hcb hcc2 hui hb
      obtain ⟨Wf, hWf⟩ : ∃ W, Wx.setCell ⟨g, i * 3 + 1, none⟩ (.slice pa t.length (cap2 - 1)) = W := ⟨_, rfl⟩
      rw [hWf] at HS
      have HWF := Lib.hid hWf
      clear hWf
      go_upto_region 13 with fail
      rw [HPA.out, HWF.out]
      clear fz d1 x0 x1 x2 o0 o1 o2 o3 o4 o5 o6 r0 r1 r2 r3 r4
      go_wp2
      refine bodyPost_ret (v := .tuple #[.slice (some ⟨g, 0, none⟩) l.length gc, .bool true]) (by simp [results, Try.results24, go_sem]) rfl ?_
      exact HS.out
    | sent x i hk hc hx hi e =>
      have hxx : (⟨s1, s2, s3⟩ : CaseM) = x ∧ b = true := by
        rcases HX.out with ⟨h1, h2⟩ | ⟨-, h2⟩
        · rw [hc] at h2; exact ⟨(Option.some.inj h2).symm, h1⟩
        · rw [hc] at h2; cases h2
      obtain ⟨hxx, rfl⟩ := hxx
      subst hxx
      have HV3 := Lib.hid (HVAL.out _ hc)
      dsimp only at hx
      subst hx
      clear hc HX HVAL
      dsimp only at hk
      subst hk
      have HE := Lib.hid e
      have hrl := chRows_length l us HC.out.len
      obtain ⟨g, cap', hve, hg, hg2, -⟩ := HC.out.rows.open (by omega)
      rw [hrl] at hve
      simp only [Value.slice.injEq] at hve
      obtain ⟨rfl, -, rfl⟩ := hve
      have hgB := HC.out.vlt g rfl
      have hown := (HC.out.rows.below HBy.out).2
      have hrow := ((HC.out.rows.below HBy.out).row i (by omega)).1
      rw [chRows_row l us i HC.out.len hi (by omega)] at hrow
      rw [hrl] at hown
      have hiI : (i : Int) < (l.length : Int) := by omega
      have HCW : Hid ((l.getD i noChan).cap = IntKind.i64.wrap (l.getD i noChan).cap) := by
        rw [List.getD_eq_getElem?_getD, List.getElem?_eq_getElem hi]
        exact H4.out _ (List.getElem_mem hi)
      clear e HM hrl
      have d1 := hrow 1 _ rfl
      have hub := (HC.out.bufs i hi).below HBy.out
      have hbl := HB9.out i hi
      obtain ⟨bf, hbf2⟩ : ∃ b, (l.getD i noChan).buf = b := ⟨_, rfl⟩
      rw [hbf2] at hub hbl
      obtain ⟨ui, hui⟩ : ∃ u, us.getD i (.slice none 0 0) = u := ⟨_, rfl⟩
      have HUI := Lib.hid (And.intro hui hbf2)
      rw [hui] at hub d1
      obtain ⟨ua, un, uc, rfl⟩ : ∃ p n q, ui = .slice p n q := by
        rcases hub.shape with ⟨rfl, -⟩ | ⟨g, c, rfl, -⟩
        · exact ⟨_, _, _, rfl⟩
        · exact ⟨_, _, _, rfl⟩
      have HO0 : Hid (OwnI Wx B 23 .u64 (.slice ua un uc) bf) := hub
      have hgl : g < Wx.heap.size := by omega
      have hXl : X < Wx.heap.size := (Array.getElem?_eq_some_iff.1 Rx.out).1
      have hBs : B ≤ Wx.heap.size := by have := HC.out.hi; have := HBy.out.size; omega
      have HGU : Hid (∀ j, (Value.slice ua un uc).ownBlock = some j → B ≤ j ∧ j < w2.heap.size) := fun j hj => by
        have h := HC.out.bufs i hi
        rw [hui] at h
        exact World.ownsRow.lt h j hj
      have KS7 : Hid (∀ w', Below Wx.heap.size Wx w' → (fun w' : World => w'.cell? ⟨g, i * 3 + 1, none⟩ = some (.slice ua un uc) ∧ w'.cell? ⟨X, 2, none⟩ = some (.int .u64 s3)) w') := fun w' hb => ⟨(hb.cell (p := ⟨g, i * 3 + 1, none⟩) hgl).trans d1, (rowc3 ((hb.block X hXl).trans Rx.out)).2.2⟩
      have hneg : ∀ j, (Value.slice ua un uc).ownBlock = some j → g ≠ j := fun j hj => by have := (HGU.out j hj).1; omega
      have hneX : ∀ j, (Value.slice ua un uc).ownBlock = some j → X ≠ j := fun j hj => by have := (HGU.out j hj).2; omega
      have HNE := Lib.hid (And.intro hneg hneX)
      have HOWN := Lib.hid hown
      clear hrow hui hub hbf2 hneg hneX hown
      go_upto_region 7 with fail
      clear x0 x1 x2 o0 o1 o2 o3 o4 o5 o6 r0 r1 r2 r3 r4 d1
      refine untilK KS7 11 12 (by kernel_rfl) rfl ?_
      obtain ⟨u0, hu0, HU0⟩ := drew_pack Wx
      rw [hu0]
      clear hu0
      have hSU0 := KS7.out _ HU0.out
      refine tkU (v := ?_) 0 la0 hSU0 (by kernel_rfl) (fun _ _ _ h => h) rfl ?_ ?_
      rotate_left
      · (intro w hSw; (try dsimp only at hSw); go_simp <;> with_reducible rfl)
      simp only [Act.put, List.setIfInBounds_toArray, List.set_cons_zero, List.set_cons_succ]
      refine tkU (v := ?_) 1 la1 hSU0 (by kernel_rfl) (fun _ _ _ h => h) rfl ?_ ?_
      rotate_left
      · (intro w hSw; (try dsimp only at hSw); go_simp <;> with_reducible rfl)
      simp only [Act.put, List.setIfInBounds_toArray, List.set_cons_zero, List.set_cons_succ]
      refine tkU (v := ?_) 2 la2 hSU0 (by kernel_rfl) (fun _ _ _ h => h) rfl ?_ ?_
      rotate_left
      · (intro w hSw; (try dsimp only at hSw); go_simp <;> with_reducible rfl)
      simp only [Act.put, List.setIfInBounds_toArray, List.set_cons_zero, List.set_cons_succ]
      refine tkU (v := ?_) 3 la3 hSU0 (by kernel_rfl) (fun _ _ _ h => h) rfl ?_ ?_
      rotate_left
      · (intro w hSw; (try dsimp only at hSw); go_simp <;> with_reducible rfl)
      simp only [Act.put, List.setIfInBounds_toArray, List.set_cons_zero, List.set_cons_succ]
      refine tkU (v := ?_) 4 la4 hSU0 (by kernel_rfl) (fun _ _ _ h => h) rfl ?_ ?_
      rotate_left
      · (intro w hSw; (try dsimp only at hSw); go_simp <;> with_reducible rfl)
      simp only [Act.put, List.setIfInBounds_toArray, List.set_cons_zero, List.set_cons_succ]
      refine tkU (v := ?_) 5 la5 hSU0 (by kernel_rfl) (fun _ _ _ h => h) rfl ?_ ?_
      rotate_left
      · (intro w hSw; (try dsimp only at hSw); go_simp <;> with_reducible rfl)
      simp only [Act.put, List.setIfInBounds_toArray, List.set_cons_zero, List.set_cons_succ]
      refine tkU (v := ?_) 6 la6 hSU0 (by kernel_rfl) (fun _ _ _ h => h) rfl ?_ ?_
      rotate_left
      · (intro w hSw; (try dsimp only at hSw); go_simp <;> with_reducible rfl)
      simp only [Act.put, List.setIfInBounds_toArray, List.set_cons_zero, List.set_cons_succ]
      refine wpAnyU_ready (rs := [7]) (by kernel_rfl) rfl ?_
      refine AllReadyU.cons la7 rfl (fun K hK => ?_) ?_
      · go_simp
        obtain ⟨u1, nb, hv1, hX1, RN, hbn, ltn⟩ := alloc_pack u0 (.cells #[.int .u64 s3] 23)
        rw [hv1, hX1]
        have HU1 := Lib.hid (below_then HU0.out hbn.out)
        have HO1 : Hid (OwnI u1 B 23 .u64 (.slice ua un uc) bf) := HO0.out.below HU1.out
        clear hv1 hX1 hbn ltn
        refine hK.out _ _ ?_ (fun hSU1 => ?_)
        · exact KS7.out _ HU1.out
        clear hK K hSU0
        try simp only [Act.put, List.setIfInBounds_toArray, List.set_cons_zero, List.set_cons_succ]
        refine wpAnyU_ready (rs := [8]) (by kernel_rfl) rfl ?_
        refine AllReadyU.cons la8 rfl (fun K hK => ?_) ?_
        · refine step_append_u64 (w := u1) (by rfl) _ _ (by rfl) B (.slice ua un uc) bf (by rfl) HO1.out s3 nb (by rfl) (by exact cell_of_row _ _ 0 _ _ _ RN.out) (by omega) (by have := HU1.out.size; omega) ?_
          intro v6 u2 ho6 hg6
          obtain ⟨p6, n6, q6, rfl⟩ : ∃ p n q, v6 = .slice p n q := by
            rcases ho6.shape with ⟨rfl, -⟩ | ⟨g, c, rfl, -⟩
            · exact ⟨_, _, _, rfl⟩
            · exact ⟨_, _, _, rfl⟩
          have HO6 : Hid (OwnI u2 B 23 .u64 (.slice p6 n6 q6) (bf ++ [s3])) := ho6
          have HG6 := Lib.hid hg6
          have HK6 : Hid (∀ j, j < u1.heap.size → (∀ k, (Value.slice ua un uc).ownBlock = some k → j ≠ k) → u2.heap[j]? = u1.heap[j]?) := fun j hj hn => hg6.block j hj (fun e => hn j e.symm rfl)
          have hgl1 : g < u1.heap.size := by have := HU1.out.size; omega
          have hXl1 : X < u1.heap.size := by have := HU1.out.size; omega
          have HSB := Lib.hid (HK6.out g hgl1 HNE.out.1)
          have HSX := Lib.hid (HK6.out X hXl1 HNE.out.2)
          clear ho6 hg6
          refine hK.out _ _ ?_ (fun hSU2 => ?_)
          · exact ⟨(cell_of_block HSB.out).trans (KS7.out _ HU1.out).1, (cell_of_block HSX.out).trans (KS7.out _ HU1.out).2⟩
          clear hK K hSU1
          try simp only [Act.put, List.setIfInBounds_toArray, List.set_cons_zero, List.set_cons_succ]
          refine wpAnyU_takeW (v := ?_) 9 la9 (by kernel_rfl) (by kernel_rfl) (by kernel_rfl) (by kernel_rfl) (fun _ _ _ h => h) (fun _ => hSU2) rfl ?_ ?_
          rotate_left
          · (intro w; go_simp <;> with_reducible rfl)
          simp only [Act.put, List.setIfInBounds_toArray, List.set_cons_zero, List.set_cons_succ]
          refine tkU (v := ?_) 10 la10 hSU2 (by kernel_rfl) (fun _ _ _ h => h) rfl ?_ ?_
          rotate_left
          · (intro w hSw; (try dsimp only at hSw); go_simp <;> with_reducible rfl)
          simp only [Act.put, List.setIfInBounds_toArray, List.set_cons_zero, List.set_cons_succ]
          refine wpAnyU_ready (rs := [11]) (by kernel_rfl) rfl ?_
          refine AllReadyU.free la11 rfl (by kernel_rfl) (fun K hK => ?_) ?_
          · have fz : u2.frozen? ⟨g, i * 3 + 1, none⟩ = false := (frozen_of_block HSB.out).trans (World.ownsRow.frozenAt (show u1.ownsRow _ _ _ (.slice (some ⟨g, 0, none⟩) l.length gc) _ _ from own_below HOWN.out HU1.out) (i * 3 + 1))
            have z1 := (cell_of_block (o := i * 3 + 1) HSB.out).trans (KS7.out _ HU1.out).1
            go_simp
            clear z1 fz
            refine hK.out _ _ ?_
            clear hK K hSU2
            try simp only [Act.put, List.setIfInBounds_toArray, List.set_cons_zero, List.set_cons_succ]
            refine wpAnyU_done (by kernel_rfl) ?_ _
            go_wp2_with fail
            refine bodyPost_ret (v := .tuple #[.slice (some ⟨g, 0, none⟩) l.length gc, .bool true]) (by simp [results, Try.results24, go_sem]) rfl ?_
            have hgr : w2.grownBy u2 (us.getD i (.slice none 0 0)).ownBlock := by rw [HUI.out.1]; exact grownBy_trans (grown_below (below_then HBy.out HU1.out)) HG6.out
            have hSi : SlU (u2.setCell ⟨g, i * 3 + 1, none⟩ (.slice p6 n6 q6)) (.slice p6 n6 q6) (bf ++ [s3]) := (HO6.out.kept (grownBy_setCell u2 ⟨g, i * 3 + 1, none⟩ (.slice p6 n6 q6)) (HO6.out.ne hgB)).slU (by simp; omega) (fun x hx => by
              rcases List.mem_append.1 hx with h | h
              · have h9 := (HBF.out i hi).2
                rw [HUI.out.2] at h9
                exact h9 x h
              · rw [List.mem_singleton.1 h]; exact HV3.out)
            have hS := HC.out.put hi HL.out HBF.out H4.out (W := u2) hgr { l.getD i noChan with buf := bf ++ [s3] } (.slice p6 n6 q6) (us.getD i (.slice none 0 0)) (.slice p6 n6 q6) [.int .i64 (l.getD i noChan).cap] [.bool (l.getD i noChan).closed] HCW.out rfl rfl rfl hSi
            have hBl : Below w.heap.size w (u2.setCell ⟨g, i * 3 + 1, none⟩ (.slice p6 n6 q6)) := ((below_then HBX.out HU1.out).grown HG6.out (below_then HBX.out HU1.out).size (fun j hj => by have := (HGU.out j hj).1; have := HC.out.lo; have := HB1.out.size; omega)).setCell (p := ⟨g, i * 3 + 1, none⟩) (by show w.heap.size ≤ g; have := HB1.out.size; omega) _
            exact ⟨_, _, rfl, .inl ⟨l2, rfl, rfl, by rw [HE.out, HUI.out.2]; exact hS⟩, hBl⟩
          exact AllReadyU.nil
        exact AllReadyU.nil
      exact AllReadyU.nil
theorem qApply_any (v vo : Value) (l : List ChanM) (op : OpM) (r : ResM) (w : World) (hv : SlH w v l) (hl : l.length ≤ 1000000) (hbf : ∀ c ∈ l, c.buf.length ≤ 999999) (h : OpV w vo op) (hok : op.chan = IntKind.i64.wrap op.chan ∧ op.val = IntKind.u64.wrap op.val) (hco : ∀ x ∈ op.cases, x.ok) (hcl : (casesE op).length ≤ 100000) (hal : allowB l op r = (modE l op r).isSome) : Calls Try.prog 24 #[v, vo, resW r] w fun e w' => DoQ (modE l op r) w e w' :=
  (qApplyN_any v vo l op r w hv hl hbf h hok hco hcl hal).mono fun _ _ h => h.doQ
end Go.Proofs.Ytialclohhemkiaa
/- Layer 14: the program's passes. -/
namespace Go.Proofs.Ytialclohhemkiaa
open Go.ChangeShapes Go.WideShapes Go.ChangeAt Go.RowKit
set_option maxRecDepth 100000

def passB (v : Int) (s r : ResM) : Bool := (s.kind == 1 && (s.val == 0 && (!s.ok && s.num == 0))) && (r.kind == 2 && (r.val == v && (r.ok && r.num == 0)))
set_option maxRecDepth 100000 in
set_option maxHeartbeats 16000000 in
theorem qpasses_any (n : Int) (x y : ResM) (w : World) : Calls Try.prog 54 #[.int .u64 n, resW x, resW y] w fun e w' => e = .returned (.bool (passB n x y)) ∧ Below w.heap.size w w' := by
  obtain ⟨rb, hrb⟩ : ∃ o, passB n x y = o := ⟨_, rfl⟩
  rw [hrb]
  unfold passB at hrb
  obtain ⟨kd, cs, rv, rok, nm⟩ := x
  obtain ⟨kd2, cs2, rv2, rok2, nm2⟩ := y
  unfold resW
  dsimp only at hrb ⊢
  have HRB := Lib.hid hrb
  clear hrb
  obtain ⟨W, hW, HB, R0, R1, hz⟩ := two_new w (.cells #[.int .i64 kd, .int .i64 cs, .int .u64 rv, .bool rok, .int .i64 nm] 25) (.cells #[.int .i64 kd2, .int .i64 cs2, .int .u64 rv2, .bool rok2, .int .i64 nm2] 25)
  have HW := Lib.hid hW
  clear hW
  go_enter Try.func54, Try.ntmps54
  go_upto_region 1 with fail
  rw [HW.out]
  clear HW
  obtain ⟨x0_0, x0_1, x0_2, x0_3, x0_4⟩ := rowc5 R0.out
  obtain ⟨x1_0, x1_1, x1_2, x1_3, x1_4⟩ := rowc5 R1.out
  go_wp2_with fail
  all_goals (
    go_ret
    exact ⟨by rw [← HRB.out]; simp [*], HB.out⟩)
set_option maxRecDepth 100000 in
set_option maxHeartbeats 16000000 in
theorem qrdv_any (v : Value) (l : List ChanM) (x y : CaseM) (w : World) (hv : SlH w v l) : Calls Try.prog 53 #[v, caseW x, caseW y] w fun e w' => e = .returned (.bool (rdvB l x y)) ∧ Below w.heap.size w w' := by
  have TF := Lib.hid fun w' (hb : Below w.heap.size w w') => qfind_any v l x.chan w' (hv.below hb)
  obtain ⟨rb, hrb⟩ : ∃ o, rdvB l x y = o := ⟨_, rfl⟩
  rw [hrb]
  unfold rdvB at hrb
  obtain ⟨sd, ch, vl⟩ := x
  obtain ⟨sd2, ch2, vl2⟩ := y
  dsimp only at hrb TF
  unfold caseW
  try dsimp only
  obtain ⟨ex, hex⟩ : ∃ b, exB l ch = b := ⟨_, rfl⟩
  obtain ⟨⟨cc, bf, cl⟩, hc⟩ : ∃ c, fndE l ch = c := ⟨_, rfl⟩
  unfold FindQ at TF
  rw [hex, hc] at TF
  dsimp only at TF
  rw [hex, hc] at hrb
  dsimp only at hrb
  obtain ⟨b1, hq1⟩ : ∃ b, (ch == ch2) = b := ⟨_, rfl⟩
  obtain ⟨b3, hq3⟩ : ∃ b, decide (cc ≤ 0) = b := ⟨_, rfl⟩
  rw [hq1, hq3] at hrb
  have HRB := Lib.hid hrb
  obtain ⟨a, cap, hve, -⟩ := hv.len
  subst hve
  clear hv hrb hex hc
  obtain ⟨W, hW, HB, R0, R1, hz⟩ := two_new w (.cells #[.bool sd, .int .i64 ch, .int .u64 vl] 74) (.cells #[.bool sd2, .int .i64 ch2, .int .u64 vl2] 74)
  have HW := Lib.hid hW
  clear hW
  go_enter Try.func53, Try.ntmps53
  go_upto_region 1 with fail
  rw [HW.out]
  clear HW
  obtain ⟨x0_0, x0_1, x0_2⟩ := rowc3 R0.out
  obtain ⟨x1_0, x1_1, x1_2⟩ := rowc3 R1.out
  go_wp2_with fail
  refine (TF.out _ HB.out).mono ?_; rintro e w1 ⟨u, rfl, hu, hb1⟩
  have hbl := hu.1
  obtain ⟨ua, uc, rfl, -⟩ := hu.len
  have HU1 := Lib.hid hu
  have HB1 := Lib.hid (below_then HB.out hb1)
  have R0b := Lib.hid ((hb1.block w.heap.size (Array.getElem?_eq_some_iff.1 R0.out).1).trans R0.out)
  have R1b := Lib.hid ((hb1.block (w.heap.size + 1) (Array.getElem?_eq_some_iff.1 R1.out).1).trans R1.out)
  clear x0_0 x0_1 x0_2 x1_0 x1_1 x1_2
  clear hu hb1
  obtain ⟨Wx, hWx⟩ : ∃ Wx, (w1.alloc (.cells #[.int .i64 0, .slice none 0 0, .bool false] 79)).setRow w1.heap.size #[.int .i64 cc, .slice ua bf.length uc, .bool cl] = Wx := ⟨_, rfl⟩
  have Nx : Hid ((w1.alloc (.cells #[.int .i64 0, .slice none 0 0, .bool false] 79)).heap[w1.heap.size]? = some (.cells #[.int .i64 0, .slice none 0 0, .bool false] 79 (0, 0))) := heap_alloc_new _ _
  have HBx : Hid (Below w1.heap.size w1 Wx) := hWx ▸ row_below (below_new (Below.refl _ _) _) (Nat.le_refl _) _
  have Rx : Hid (Wx.heap[w1.heap.size]? = some (.cells #[.int .i64 cc, .slice ua bf.length uc, .bool cl] 79 (0, 0))) := hWx ▸ setRow_heap _ _ _ _ _ (0, 0) Nx.out
  have HWx := Lib.hid hWx
  clear hWx
  go_upto_region 2 with (refine wpList_store_row rfl 79 _ _ rfl (w1.heap.size) _ rfl rfl 79 #[.int .i64 0, .slice none 0 0, .bool false] Nx.out (by kernel_rfl) rfl (by simp [Value.oneCell']) ?_)
  rw [HWx.out]
  try simp only [Act.put]
  clear HWx Nx
  have HBX := Lib.hid (below_then HB1.out HBx.out)
  have R0c := Lib.hid ((HBx.out.block w.heap.size (Array.getElem?_eq_some_iff.1 R0b.out).1).trans R0b.out)
  have R1c := Lib.hid ((HBx.out.block (w.heap.size + 1) (Array.getElem?_eq_some_iff.1 R1b.out).1).trans R1b.out)
  have HUx := Lib.hid (HU1.out.below HBx.out)
  obtain ⟨y0, y1, y2⟩ := rowc3 Rx.out
  obtain ⟨x0_0, x0_1, x0_2⟩ := rowc3 R0c.out
  obtain ⟨x1_0, x1_1, x1_2⟩ := rowc3 R1c.out
  cases ex with
  | false =>
    have hr : rb = false := by rw [← HRB.out]; rfl
    subst hr
    clear HRB
    go_wp2
    go_ret
    exact ⟨rfl, HBX.out⟩
  | true =>
    cases b1 with
    | false =>
      have hr : rb = false := by rw [← HRB.out]; rfl
      subst hr
      clear HRB
      go_wp2
      go_ret
      exact ⟨rfl, HBX.out⟩
    | true =>
      cases sd <;> cases sd2
      · skip
        have hr : rb = false := by rw [← HRB.out]; rfl
        subst hr
        clear HRB
        go_wp2
        go_ret
        exact ⟨rfl, HBX.out⟩
      · cases b3 with
        | false =>
          have hr : rb = false := by rw [← HRB.out]; rfl
          subst hr
          clear HRB
          go_wp2
          go_ret
          exact ⟨rfl, HBX.out⟩
        | true =>
          cases cl with
          | true =>
            have hr : rb = false := by rw [← HRB.out]; rfl
            subst hr
            clear HRB
            go_wp2
            go_ret
            exact ⟨rfl, HBX.out⟩
          | false =>
            have hr : rb = true := by rw [← HRB.out]; rfl
            subst hr
            clear HRB
            go_wp2
            go_ret
            exact ⟨rfl, HBX.out⟩
      · cases b3 with
        | false =>
          have hr : rb = false := by rw [← HRB.out]; rfl
          subst hr
          clear HRB
          go_wp2
          go_ret
          exact ⟨rfl, HBX.out⟩
        | true =>
          cases cl with
          | true =>
            have hr : rb = false := by rw [← HRB.out]; rfl
            subst hr
            clear HRB
            go_wp2
            go_ret
            exact ⟨rfl, HBX.out⟩
          | false =>
            have hr : rb = true := by rw [← HRB.out]; rfl
            subst hr
            clear HRB
            go_wp2
            go_ret
            exact ⟨rfl, HBX.out⟩
      · skip
        have hr : rb = false := by rw [← HRB.out]; rfl
        subst hr
        clear HRB
        go_wp2
        go_ret
        exact ⟨rfl, HBX.out⟩
end Go.Proofs.Ytialclohhemkiaa
