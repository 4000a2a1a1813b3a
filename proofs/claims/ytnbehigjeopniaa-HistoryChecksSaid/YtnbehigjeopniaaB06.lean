import Derived.Deep.DeepCutAuto
import Derived.Deep.CutBlock
import Derived.Test.YtnbehigjeopniaaB05
set_option linter.unusedVariables false
set_option linter.unusedSimpArgs false
/- Layer 16: the reference's find, Called, Returned, Precedes. -/
namespace Go.Proofs.Ytnbehigjeopniaa
open Go.ChangeShapes Go.WideShapes Go.ChangeAt Go.RowKit
set_option maxRecDepth 100000

theorem Try.info_event : (Try.prog.info? 34).map (fun i => (i.zero, i.size, i.bytes)) = some (some (.agg #[.int .i64 0, .int .i64 0, .bool false, .int .i64 0, .int .i64 0, .int .u64 0, .bool false, .int .i64 0]), 8, 64) := by kernel_rfl
theorem Try.info_pair : (Try.prog.info? 47).map (fun i => (i.zero, i.size, i.bytes)) = some (some (.agg #[.int .i64 0, .int .i64 0]), 2, 16) := by kernel_rfl
theorem isE_of {et eo t o : Int} {er bk q1 q2 q3 : Bool} {r : ResM} (h1 : (et == t) = q1) (h2 : (eo == o) = q2) (h3 : (er == bk) = q3) : isE t o bk ⟨et, eo, er, r⟩ = ((q1 && q2) && q3) := by
  unfold isE
  dsimp only
  rw [h1, h2, h3]
theorem results_cell_tmp3 {fn : Func} {P : Program} {p u : Tmp} {t1 : TypeId} (h : fn.results = #[.cell p t1, .tmp u]) (tmps : Array Value) (w : World) (g1 : Nat) (u1 : TypeId) (c1 : Array Value) (f1 : Nat × Nat) (d1 : TypeDesc)
    (hp : tmps.getD p undef = .pointer (some ⟨g1, 0, none⟩)) (hg1 : w.heap[g1]? = some (.cells c1 u1 f1))
    (hu1 : P.underlying t1 = some d1) (hd1 : (match d1 with | .struct _ | .array _ _ => true | _ => false) = true) (hi1 : (P.info? t1).map (·.size) = some c1.size) (x : Value) (hx : tmps.getD u undef = x) :
    (results fn tmps).run P w = .ok (.tuple #[.agg c1, x]) w := by
  have hp' : tmps[p]?.getD undef = .pointer (some ⟨g1, 0, none⟩) := by simpa using hp
  have hx' : tmps[u]?.getD undef = x := by simpa using hx
  simp [results, h, hp', hx', asAddr, run_loadVar_row w g1 u1 t1 c1 f1 d1 hg1 hu1 hd1 hi1]
theorem keepB {f : FuncId} {args : Array Value} {w : World} {x : Ending} (h : Calls Try.prog f args w fun e w' => e = x ∧ w = w') : Calls Try.prog f args w fun e w' => e = x ∧ Below w.heap.size w w' := h.mono fun _ _ h => ⟨h.1, h.2 ▸ Below.refl _ _⟩
theorem rowc2 {w : World} {g : Nat} {T : TypeId} {v0 v1 : Value} (h : w.heap[g]? = some (.cells #[v0, v1] T (0, 0))) : w.cell? ⟨g, 0, none⟩ = some v0 ∧ w.cell? ⟨g, 1, none⟩ = some v1 := ⟨cell_of_row _ _ 0 _ _ _ h, cell_of_row _ _ 1 _ _ _ h⟩
section
variable {e : TypeId} {s base : Nat} {w : World} {v : Value} {rows : List (List Value)}
/-- a row is appended to an owned list of structs -/
theorem wp_append_s1 (st : TypeId) {bytes : Nat} {z : Value} (hu : Try.prog.underlying st = some (.slice e)) (hinfo : (Try.prog.info? e).map (fun i => (i.zero, i.size, i.bytes)) = some (some z, s, bytes)) (hzs : z.cells.size = s) (hsz : 0 < s) (hby : bytes ≤ 200)
    {ops : Array Oper} {rest : List Oper} {o : Oper} {a : Act} {Q : Exit → Act → World → Prop}
    (hgd : o.guard = none) (sl x : Operand) (hop : o.op = Op.call { callee := Callee.builtin Builtin.append, args := #[sl, x], argTypes := #[st, st] })
    (hs : a.eval sl = v) (hown : OwnS w base e s v rows) (r : List Value) (hr : r.length = s) (hr1 : ∀ u ∈ r, u.oneCell' = true) (g : Nat)
    (hx : a.eval x = .slice (some ⟨g, 0, none⟩) 1 1) (hcell : w.heap[g]? = some (.cells r.toArray e (0, 0))) (hl : rows.length ≤ 1000000) (hb : base ≤ w.heap.size)
    (hK : ∀ v' w', OwnS w' base e s v' (rows ++ [r]) → w.grownBy w' v.ownBlock → wpList Try.prog ops Q rest (a.put o.dst v') w') :
    wpList Try.prog ops Q (o :: rest) a w :=
  wp_append_ss st hu hinfo hzs hsz hby hgd sl x hop hs hown [r] (fun q hq => by rw [List.mem_singleton.1 hq]; exact ⟨hr, hr1⟩) g 1 rfl hx (by simpa using hcell) (by simp; omega) hb hK
end
set_option maxRecDepth 100000 in
set_option maxHeartbeats 16000000 in
theorem erfind_any (v : Value) (l : List EvM) (t o : Int) (bk : Bool) (w : World) (hv : SlS w 8 v (evRows l)) : Calls Try.prog 34 #[v, .int .i64 t, .int .i64 o, .bool bk] w fun e w' => e = .returned (.int .i64 (findI l t o bk)) ∧ w = w' := by
  have HV := Lib.hid hv
  have hbd := hv.boundE
  obtain ⟨a, cap, rfl, -⟩ := hv.lenE
  have HHIT := Lib.hid fun (i : Nat) (hi : i < l.length) hm h => findI_hit (t := t) (o := o) (b := bk) (l := l) (i := i) hi hm h
  have HMISS := Lib.hid fun hm => findI_miss (t := t) (o := o) (b := bk) (l := l) hm
  obtain ⟨R, hR⟩ : ∃ R, findI l t o bk = R := ⟨_, rfl⟩
  rw [hR] at HHIT HMISS ⊢
  clear hv hR
  go_enter Try.func34, Try.ntmps34
  go_wp2_with fail
  go_loopw [9] (fun u9 wr => ∃ i : Nat, u9 = .int .i64 i ∧ i ≤ l.length ∧ Hid (∀ j, j < i → isE t o bk (l.getD j evZ) = false) ∧ wr = w) (fun u9 _ => l.length - (intOf u9).toNat)
  case atStart => exact ⟨0, rfl, by omega, fun j hj => by omega, rfl⟩
  case round =>
    obtain ⟨i, rfl, hi, HM, rfl⟩ := hrel
    by_cases hlt : i < l.length
    · have hltI : (i : Int) < (l.length : Int) := by omega
      obtain ⟨⟨et, eo, er, ⟨rk, rc, rv, ro, rn⟩⟩, he⟩ : ∃ e, l.getD i evZ = e := ⟨_, rfl⟩
      have HE := Lib.hid he
      obtain ⟨b, off, cp, hve, hb, c0, c1, c2, c3, c4, c5, c6, c7⟩ := (HV.out).ev i hlt he
      simp only [Value.slice.injEq] at hve
      obtain ⟨rfl, -, rfl⟩ := hve
      dsimp only at c0 c1 c2 c3 c4 c5 c6 c7
      clear he

      obtain ⟨q1, hq1⟩ : ∃ q, (et == t) = q := ⟨_, rfl⟩
      obtain ⟨q2, hq2⟩ : ∃ q, (eo == o) = q := ⟨_, rfl⟩
      obtain ⟨q3, hq3⟩ : ∃ q, (er == bk) = q := ⟨_, rfl⟩
      have HIS := Lib.hid (isE_of (r := ⟨rk, rc, rv, ro, rn⟩) hq1 hq2 hq3)
      clear c3 c4 c5 c6 c7
      have HNX : Hid (((q1 && q2) && q3) = false → ∀ j, j < i + 1 → isE t o bk (l.getD j evZ) = false) := fun h j hj => by
        rcases Nat.lt_or_ge j i with h1 | h1
        · exact HM.out j h1
        · rw [show j = i by omega, HE.out, HIS.out]; exact h
      cases q1 with
      | false =>
        have HN := Lib.hid (HNX.out rfl)
        clear HNX
        go_wp2
        go_roundw
        case rel => exact ⟨i + 1, by go_num, by omega, HN, by first | rfl | trivial⟩
        case measure => simp [intOf]; omega
      | true =>
        cases q2 with
        | false =>
          have HN := Lib.hid (HNX.out rfl)
          clear HNX
          go_wp2
          go_roundw
          case rel => exact ⟨i + 1, by go_num, by omega, HN, by first | rfl | trivial⟩
          case measure => simp [intOf]; omega
        | true =>
          cases q3 with
          | false =>
            have HN := Lib.hid (HNX.out rfl)
            clear HNX
            go_wp2
            go_roundw
            case rel => exact ⟨i + 1, by go_num, by omega, HN, by first | rfl | trivial⟩
            case measure => simp [intOf]; omega
          | true =>
            have hr := HHIT.out i hlt HM.out (by rw [HE.out, HIS.out]; rfl)
            clear HHIT HMISS HNX
            subst hr
            go_wp2
            go_ret
            exact ⟨rfl, rfl⟩
    · have hge : ¬ (i : Int) < (l.length : Int) := by omega
      have hr := HMISS.out (fun j hj => HM.out j (by omega))
      clear HHIT HMISS
      subst hr
      go_wp2
      go_ret
      exact ⟨rfl, rfl⟩
set_option maxRecDepth 100000 in
set_option maxHeartbeats 16000000 in
theorem ercalled_any (v : Value) (l : List EvM) (t o : Int) (w : World) (hv : SlS w 8 v (evRows l)) : Calls Try.prog 16 #[v, .int .i64 t, .int .i64 o] w fun e w' => e = .returned (.int .i64 (findI l t o false)) ∧ w = w' := by
  have TF := Lib.hid (erfind_any v l t o false w hv)
  obtain ⟨a, cap, rfl, -⟩ := hv.lenE
  clear hv
  go_enter Try.func16, Try.ntmps16
  go_wp2_with fail
  refine TF.out.mono ?_; rintro e w' ⟨rfl, rfl⟩
  go_wp2
  go_ret
  exact ⟨rfl, rfl⟩
def resZ16 : ResM := ⟨0, 0, 0, false, 0⟩
/-- the result of the first return, the zero result if there is none -/
def retR (l : List EvM) (t o : Int) : ResM := if 0 ≤ findI l t o true then (l.getD (findI l t o true).toNat evZ).res else resZ16
set_option maxRecDepth 100000 in
set_option maxHeartbeats 16000000 in
theorem erret_any (v : Value) (l : List EvM) (t o : Int) (w : World) (hv : SlS w 8 v (evRows l)) : Calls Try.prog 14 #[v, .int .i64 t, .int .i64 o] w fun e w' => e = .returned (.tuple #[resW (retR l t o), .int .i64 (findI l t o true)]) ∧ Below w.heap.size w w' := by
  have HV := Lib.hid hv
  have TF := Lib.hid fun w' (hb : Below w.heap.size w w') => keepB (erfind_any v l t o true w' (hv.below hb))
  have hbd := hv.boundE
  obtain ⟨a, cap, rfl, -⟩ := hv.lenE
  obtain ⟨⟨k1, k2, k3, k4, k5⟩, hk⟩ : ∃ r, retR l t o = r := ⟨_, rfl⟩
  rw [hk]
  unfold retR at hk
  have HC := Lib.hid (findI_cases l t o true)
  obtain ⟨R, hR⟩ : ∃ R, findI l t o true = R := ⟨_, rfl⟩
  rw [hR] at hk HC TF ⊢
  have HK := Lib.hid hk
  unfold resW
  dsimp only
  clear hv hR hk
  obtain ⟨W, hW, HB, R0, hz⟩ := one_new w (.cells #[.int .i64 0, .int .i64 0, .int .u64 0, .bool false, .int .i64 0] 32)
  have HW := Lib.hid hW
  clear hW
  go_enter Try.func14, Try.ntmps14
  go_upto_region 1 with fail
  rw [HW.out]
  clear HW
  go_wp2_with fail
  refine (TF.out _ HB.out).mono ?_; rintro e w1 ⟨rfl, hb1⟩
  have HB1 := Lib.hid (below_then HB.out hb1)
  have R01 := Lib.hid ((hb1.block _ (Array.getElem?_eq_some_iff.1 R0.out).1).trans R0.out)
  clear hb1
  rcases HC.out with hm | ⟨i, hi, hlt, -⟩
  · subst hm
    have hk := HK.out
    rw [if_neg (by decide)] at hk
    unfold resZ16 at hk
    cases hk
    clear HK HC TF
    go_wp2_with (refine wpList_store_row rfl 32 _ _ rfl w.heap.size _ rfl rfl 32 #[.int .i64 0, .int .i64 0, .int .u64 0, .bool false, .int .i64 0] R01.out (by kernel_rfl) rfl (by simp [Value.oneCell']) ?_)
    refine bodyPost_ret (v := .tuple #[.agg #[.int .i64 0, .int .i64 0, .int .u64 0, .bool false, .int .i64 0], .int .i64 (-1)]) (results_cell_tmp3 Try.results14 _ _ (w.heap.size) 32 _ (0, 0) _ rfl (setRow_heap _ _ _ _ 32 (0, 0) R01.out) Try.underlying32 rfl (by kernel_rfl) _ rfl) rfl ?_
    exact ⟨rfl, row_below HB1.out (by omega) _⟩
  · subst hi
    have hk := HK.out
    rw [if_pos (by omega), Int.toNat_natCast] at hk
    have hltI : (i : Int) < (l.length : Int) := by omega
    have hi0 : ¬ (i : Int) < 0 := by omega
    have hi1 : ((i : Int) == -1) = false := beq_eq_false_iff_ne.2 (by omega)
    obtain ⟨⟨et, eo, er, ⟨rk, rc, rv, ro, rn⟩⟩, he⟩ : ∃ e, l.getD i evZ = e := ⟨_, rfl⟩
    have HE := Lib.hid he
    obtain ⟨b, off, cp, hve, hb, c0, c1, c2, c3, c4, c5, c6, c7⟩ := (HV.out.below HB1.out).ev i hlt he
    simp only [Value.slice.injEq] at hve
    obtain ⟨rfl, -, rfl⟩ := hve
    dsimp only at c0 c1 c2 c3 c4 c5 c6 c7
    clear he

    rw [HE.out] at hk
    dsimp only at hk
    cases hk
    clear HK HC TF c0 c1 c2
    go_wp2_with (refine wpList_store_row rfl 32 _ _ rfl w.heap.size _ rfl rfl 32 #[.int .i64 0, .int .i64 0, .int .u64 0, .bool false, .int .i64 0] R01.out (by kernel_rfl) rfl (by simp [Value.oneCell']) ?_)
    refine bodyPost_ret (v := .tuple #[.agg #[.int .i64 k1, .int .i64 k2, .int .u64 k3, .bool k4, .int .i64 k5], .int .i64 i]) (results_cell_tmp3 Try.results14 _ _ (w.heap.size) 32 _ (0, 0) _ rfl (setRow_heap _ _ _ _ 32 (0, 0) R01.out) Try.underlying32 rfl (by kernel_rfl) _ rfl) rfl ?_
    exact ⟨rfl, row_below HB1.out (by omega) _⟩
set_option maxRecDepth 100000 in
set_option maxHeartbeats 16000000 in
theorem erprec_any (v : Value) (l : List EvM) (a b : Int × Int) (w : World) (hv : SlS w 8 v (evRows l)) : Calls Try.prog 26 #[v, caV a, caV b] w fun e w' => e = .returned (.bool (precE l a b)) ∧ Below w.heap.size w w' := by
  obtain ⟨a1, a2⟩ := a
  obtain ⟨b1, b2⟩ := b
  have T1 := Lib.hid fun w' (hb : Below w.heap.size w w') => erfind_any v l a1 a2 true w' (hv.below hb)
  have T2 := Lib.hid fun w' (hb : Below w.heap.size w w') => erfind_any v l b1 b2 false w' (hv.below hb)
  obtain ⟨ad, cap, rfl, -⟩ := hv.lenE
  unfold precE caV
  dsimp only
  obtain ⟨x, hx⟩ : ∃ R, findI l a1 a2 true = R := ⟨_, rfl⟩
  obtain ⟨y, hy⟩ : ∃ R, findI l b1 b2 false = R := ⟨_, rfl⟩
  rw [hx] at T1
  rw [hy] at T2
  rw [hx, hy]
  obtain ⟨z, hzz⟩ : ∃ z, ((decide (0 ≤ x) && decide (0 ≤ y)) && decide (x < y)) = z := ⟨_, rfl⟩
  rw [hzz]
  have HZZ := Lib.hid hzz
  clear hv hx hy hzz
  obtain ⟨W, hW, HB, R0, R1, hz⟩ := two_new w (.cells #[.int .i64 a1, .int .i64 a2] 47) (.cells #[.int .i64 b1, .int .i64 b2] 47)
  have HW := Lib.hid hW
  clear hW
  go_enter Try.func26, Try.ntmps26
  go_upto_region 1 with fail
  rw [HW.out]
  clear HW
  obtain ⟨x0_0, x0_1⟩ := rowc2 R0.out
  obtain ⟨x1_0, x1_1⟩ := rowc2 R1.out
  go_upto_region 1 with fail
  have Xx0_0 := ext_cell _ _ (Array.getElem?_eq_some_iff.1 R0.out).1 _ x0_0
  have Xx0_1 := ext_cell _ _ (Array.getElem?_eq_some_iff.1 R0.out).1 _ x0_1
  have Xx1_0 := ext_cell _ _ (Array.getElem?_eq_some_iff.1 R1.out).1 _ x1_0
  have Xx1_1 := ext_cell _ _ (Array.getElem?_eq_some_iff.1 R1.out).1 _ x1_1
  clear x0_0 x0_1 x1_0 x1_1
  refine wp_region_ext W (by kernel_rfl) (by kernel_rfl) (Below.refl _ _) ?_
  repeat (go_big_quiet_step (first
    | (go_at_call 34; with_reducible exact calls_ext (keepB (T1.out _ (below_then HB.out (Ext.below _)))))
    | (go_at_call 34; with_reducible exact calls_ext (keepB (T2.out _ (below_then HB.out (Ext.below _)))))))
  refine wpQuiet_nil ?_
  intro _ hw'
  obtain ⟨n9, rfl⟩ := hw'
  have P1_0 := Lib.hid ((n9.below.block w.heap.size (Array.getElem?_eq_some_iff.1 R0.out).1).trans R0.out)
  have P1_1 := Lib.hid ((n9.below.block (w.heap.size + 1) (Array.getElem?_eq_some_iff.1 R1.out).1).trans R1.out)
  have HB1 := Lib.hid (below_then HB.out n9.below)
  generalize n9.wd = w1 at *
  clear Xx0_0 Xx0_1 Xx1_0 Xx1_1
  obtain ⟨x0_0, x0_1⟩ := rowc2 P1_0.out
  obtain ⟨x1_0, x1_1⟩ := rowc2 P1_1.out
  clear x0_0 x0_1 x1_0 x1_1
  have HBZ := HB1
  by_cases h0 : 0 ≤ x
  · by_cases h1 : 0 ≤ y
    · by_cases h2 : x < y
      · have e : z = true := by rw [← HZZ.out]; simp [h0, h1, h2]
        subst e
        clear HZZ T1 T2
        go_wp2
        go_ret
        exact ⟨rfl, HBZ.out⟩
      · have e : z = false := by rw [← HZZ.out]; simp [h2]
        have hq : decide (x < y) = false := decide_eq_false h2
        subst e
        clear HZZ T1 T2 h2
        go_wp2
        go_ret
        exact ⟨rfl, HBZ.out⟩
    · have e : z = false := by rw [← HZZ.out]; simp [h1]
      have hq : decide (y ≥ 0) = false := decide_eq_false h1
      have hq2 : decide (0 ≤ y) = false := decide_eq_false h1
      subst e
      clear HZZ T1 T2 h1
      go_wp2
      go_ret
      exact ⟨rfl, HBZ.out⟩
  · have e : z = false := by rw [← HZZ.out]; simp [h0]
    have hq : decide (x ≥ 0) = false := decide_eq_false h0
    have hq2 : decide (0 ≤ x) = false := decide_eq_false h0
    subst e
    clear HZZ T1 T2 h0
    go_wp2
    go_ret
    exact ⟨rfl, HBZ.out⟩
end Go.Proofs.Ytnbehigjeopniaa
/- Layer 16: the reference's Calls, Without. -/
namespace Go.Proofs.Ytnbehigjeopniaa
open Go.ChangeShapes Go.WideShapes Go.ChangeAt Go.RowKit
set_option maxRecDepth 100000

set_option maxRecDepth 100000 in
set_option maxHeartbeats 16000000 in
theorem ercalls_any (v : Value) (l : List EvM) (w : World) (hv : SlS w 8 v (evRows l)) (hl : l.length ≤ 1000000) : Calls Try.prog 22 #[v] w fun e w' => ∃ u, e = .returned u ∧ OwnS w' w.heap.size 47 2 u (caRows (callsE l)) ∧ Below w.heap.size w w' := by
  have HV := Lib.hid hv
  obtain ⟨a, cap, rfl, -⟩ := hv.lenE
  clear hv
  go_enter Try.func22, Try.ntmps22
  go_wp2_with fail
  go_loopw [3, 4] (fun u3 u4 wr => ∃ (i : Nat) (u : Value), u = u3 ∧ u4 = .int .i64 i ∧ i ≤ l.length ∧ Hid (OwnS wr w.heap.size 47 2 u (caRows (callsE (l.take i)))) ∧ Hid (Below w.heap.size w wr)) (fun _ u4 _ => l.length - (intOf u4).toNat)
  case atStart => exact ⟨0, _, rfl, rfl, by omega, OwnS.nil _ _ _ _, Below.refl _ _⟩
  case round =>
    obtain ⟨i, u, rfl, rfl, hi, HO, HB⟩ := hrel
    obtain ⟨wo, rfl⟩ : ∃ wo : World, wo = wr := ⟨_, rfl⟩
    by_cases hlt : i < l.length
    · have hltI : (i : Int) < (l.length : Int) := by omega
      have HS := Lib.hid (callsE_take hlt)
      have HLW : Hid ((callsE (l.take i)).length ≤ 1000000) := Nat.le_trans (callsE_le _) (by rw [List.length_take]; omega)
      obtain ⟨⟨et, eo, er, ⟨rk, rc, rv, ro, rn⟩⟩, he⟩ : ∃ e, l.getD i evZ = e := ⟨_, rfl⟩
      have HE := Lib.hid he
      obtain ⟨b, off, cp, hve, hb, c0, c1, c2, c3, c4, c5, c6, c7⟩ := (HV.out.below HB.out).ev i hlt he
      simp only [Value.slice.injEq] at hve
      obtain ⟨rfl, -, rfl⟩ := hve
      dsimp only at c0 c1 c2 c3 c4 c5 c6 c7
      clear he

      rw [HE.out] at HS
      dsimp only [callOf] at HS
      clear c3 c4 c5 c6 c7
      cases er with
      | true =>
        have HS2 : Hid (callsE (l.take (i + 1)) = callsE (l.take i)) := by show _ = _; rw [HS.out, if_pos rfl, List.append_nil]
        go_wp2_with fail
        go_roundw
        case rel => exact ⟨i + 1, u, rfl, by go_num, by omega, by rw [HS2.out]; exact HO, HB⟩
        case measure => simp [intOf]; omega
      | false =>
        have HS2 : Hid (callsE (l.take (i + 1)) = callsE (l.take i) ++ [(et, eo)]) := by show _ = _; rw [HS.out, if_neg (by decide)]
        clear HS
        have KSa : Hid (∀ w', Below wo.heap.size wo w' → (fun w' : World => w'.cell? ⟨b, off + i * 8, none⟩ = some (.int .i64 et) ∧ w'.cell? ⟨b, off + i * 8 + 1, none⟩ = some (.int .i64 eo)) w') := fun w' hb2 => ⟨(hb2.cell (p := ⟨b, off + i * 8, none⟩) hb).trans c0, (hb2.cell (p := ⟨b, off + i * 8 + 1, none⟩) hb).trans c1⟩
        go_upto_region 6 with fail
        clear c0 c1 c2
        refine untilK KSa 11 15 (by kernel_rfl) rfl ?_
        obtain ⟨u0, hu0, HU0⟩ := drew_pack wo
        rw [hu0]
        clear hu0
        have hSU0 := KSa.out _ HU0.out
        refine wpAnyU_takeW (v := ?_) 0 la0 (by kernel_rfl) (by kernel_rfl) (by kernel_rfl) (by kernel_rfl) (fun _ _ _ h => h) (fun _ => hSU0) rfl ?_ ?_
        rotate_left
        · (intro w; go_simp <;> with_reducible rfl)
        simp only [Act.put, List.setIfInBounds_toArray, List.set_cons_zero, List.set_cons_succ]
        refine wpAnyU_takeW (v := ?_) 1 la1 (by kernel_rfl) (by kernel_rfl) (by kernel_rfl) (by kernel_rfl) (fun _ _ _ h => h) (fun _ => hSU0) rfl ?_ ?_
        rotate_left
        · (intro w; go_simp <;> with_reducible rfl)
        simp only [Act.put, List.setIfInBounds_toArray, List.set_cons_zero, List.set_cons_succ]
        refine wpAnyU_takeW (v := ?_) 2 la2 (by kernel_rfl) (by kernel_rfl) (by kernel_rfl) (by kernel_rfl) (fun _ _ _ h => h) (fun _ => hSU0) rfl ?_ ?_
        rotate_left
        · (intro w; go_simp <;> with_reducible rfl)
        simp only [Act.put, List.setIfInBounds_toArray, List.set_cons_zero, List.set_cons_succ]
        refine wpAnyU_takeW (v := ?_) 3 la3 (by kernel_rfl) (by kernel_rfl) (by kernel_rfl) (by kernel_rfl) (fun _ _ _ h => h) (fun _ => hSU0) rfl ?_ ?_
        rotate_left
        · (intro w; go_simp <;> with_reducible rfl)
        simp only [Act.put, List.setIfInBounds_toArray, List.set_cons_zero, List.set_cons_succ]
        refine wpAnyU_takeW (v := ?_) 4 la4 (by kernel_rfl) (by kernel_rfl) (by kernel_rfl) (by kernel_rfl) (fun _ _ _ h => h) (fun _ => hSU0) rfl ?_ ?_
        rotate_left
        · (intro w; go_simp <;> with_reducible rfl)
        simp only [Act.put, List.setIfInBounds_toArray, List.set_cons_zero, List.set_cons_succ]
        refine tkU (v := ?_) 5 la5 hSU0 (by kernel_rfl) (fun _ _ _ h => h) rfl ?_ ?_
        rotate_left
        · (intro w hSw; (try dsimp only at hSw); go_simp <;> with_reducible rfl)
        simp only [Act.put, List.setIfInBounds_toArray, List.set_cons_zero, List.set_cons_succ]
        refine wpAnyU_takeW (v := ?_) 6 la6 (by kernel_rfl) (by kernel_rfl) (by kernel_rfl) (by kernel_rfl) (fun _ _ _ h => h) (fun _ => hSU0) rfl ?_ ?_
        rotate_left
        · (intro w; go_simp <;> with_reducible rfl)
        simp only [Act.put, List.setIfInBounds_toArray, List.set_cons_zero, List.set_cons_succ]
        refine wpAnyU_takeW (v := ?_) 7 la7 (by kernel_rfl) (by kernel_rfl) (by kernel_rfl) (by kernel_rfl) (fun _ _ _ h => h) (fun _ => hSU0) rfl ?_ ?_
        rotate_left
        · (intro w; go_simp <;> with_reducible rfl)
        simp only [Act.put, List.setIfInBounds_toArray, List.set_cons_zero, List.set_cons_succ]
        refine wpAnyU_takeW (v := ?_) 8 la8 (by kernel_rfl) (by kernel_rfl) (by kernel_rfl) (by kernel_rfl) (fun _ _ _ h => h) (fun _ => hSU0) rfl ?_ ?_
        rotate_left
        · (intro w; go_simp <;> with_reducible rfl)
        simp only [Act.put, List.setIfInBounds_toArray, List.set_cons_zero, List.set_cons_succ]
        refine wpAnyU_takeW (v := ?_) 9 la9 (by kernel_rfl) (by kernel_rfl) (by kernel_rfl) (by kernel_rfl) (fun _ _ _ h => h) (fun _ => hSU0) rfl ?_ ?_
        rotate_left
        · (intro w; go_simp <;> with_reducible rfl)
        simp only [Act.put, List.setIfInBounds_toArray, List.set_cons_zero, List.set_cons_succ]
        refine tkU (v := ?_) 10 la10 hSU0 (by kernel_rfl) (fun _ _ _ h => h) rfl ?_ ?_
        rotate_left
        · (intro w hSw; (try dsimp only at hSw); go_simp <;> with_reducible rfl)
        simp only [Act.put, List.setIfInBounds_toArray, List.set_cons_zero, List.set_cons_succ]
        refine wpAnyU_ready (rs := [11]) (by kernel_rfl) rfl ?_
        refine AllReadyU.free la11 rfl (by kernel_rfl) (fun K hK => ?_) ?_
        · go_simp
          refine hK.out _ _ ?_
          clear hK K hSU0
          try simp only [Act.put, List.setIfInBounds_toArray, List.set_cons_zero, List.set_cons_succ]
          refine wpAnyU_ready (rs := [12]) (by kernel_rfl) rfl ?_
          refine AllReadyU.free la12 rfl (by kernel_rfl) (fun K hK => ?_) ?_
          · go_simp
            obtain ⟨u1, nb, hv1, hX, RN, hbn, ltn⟩ := alloc_pack u0 (.cells #[.int .i64 et, .int .i64 eo] 47)
            rw [hv1, hX]
            have HU1 := Lib.hid (below_then HU0.out hbn.out)
            clear hv1 hX hbn ltn
            refine hK.out _ _ ?_
            clear hK K
            try simp only [Act.put, List.setIfInBounds_toArray, List.set_cons_zero, List.set_cons_succ]
            refine wpAnyU_ready (rs := [13]) (by kernel_rfl) rfl ?_
            refine AllReadyU.free la13 rfl (by kernel_rfl) (fun K hK => ?_) ?_
            · refine step_append_s (w := u1) 44 (by kernel_rfl) Try.info_pair rfl (by decide) (by decide) (by rfl) _ _ (by rfl) (by rfl) (HO.out.below HU1.out) (caRow (et, eo)) rfl (fun u hu => caRow_one _ u hu) nb (by rfl) RN.out (by have := HLW.out; rw [caRows_length]; omega) (by have := HU1.out.size; have := HB.out.size; omega) ?_
              intro v2 w3 h1 h2 h3
              have H1 := Lib.hid h1
              have H2 := Lib.hid h2
              clear h1 h2 h3
              refine hK.out _ _ ?_
              clear hK K
              try simp only [Act.put, List.setIfInBounds_toArray, List.set_cons_zero, List.set_cons_succ]
              refine wpAnyU_takeW (v := ?_) 14 la14 (by kernel_rfl) (by kernel_rfl) (by kernel_rfl) (by kernel_rfl) (fun _ _ _ h => h) (past_k (by kernel_rfl)) rfl ?_ ?_
              rotate_left
              · (intro w; go_simp <;> with_reducible rfl)
              simp only [Act.put, List.setIfInBounds_toArray, List.set_cons_zero, List.set_cons_succ]
              refine wpAnyU_done (by kernel_rfl) ?_ _
              have HB3 : Hid (Below w.heap.size w w3) := (below_then HB.out HU1.out).grown H2.out (below_then HB.out HU1.out).size (fun j hj => (HO.out.lt j hj).1)
              go_wp2_with fail
              go_roundw
              case rel => exact ⟨i + 1, v2, rfl, by go_num, by omega, by rw [HS2.out, caRows_snoc]; exact H1, HB3⟩
              case measure => simp [intOf]; omega
            exact AllReadyU.nil
          exact AllReadyU.nil
        exact AllReadyU.nil
    · have hge : ¬ (i : Int) < (l.length : Int) := by omega
      have hkl : l.take i = l := List.take_of_length_le (by omega)
      have HO2 : Hid (OwnS wo w.heap.size 47 2 u (caRows (callsE l))) := by rw [hkl] at HO; exact HO
      clear HO hkl
      go_wp2
      go_ret
      exact ⟨u, rfl, HO2.out, HB.out⟩
set_option maxRecDepth 100000 in
set_option maxHeartbeats 16000000 in
theorem erwithout_any (v : Value) (l : List EvM) (t : Int) (w : World) (hv : SlS w 8 v (evRows l)) (hl : l.length ≤ 1000000) : Calls Try.prog 19 #[v, .int .i64 t] w fun e w' => ∃ u, e = .returned u ∧ OwnS w' w.heap.size 34 8 u (evRows (withoutT l t)) ∧ Below w.heap.size w w' := by
  have HV := Lib.hid hv
  obtain ⟨a, cap, rfl, -⟩ := hv.lenE
  clear hv
  go_enter Try.func19, Try.ntmps19
  go_wp2_with fail
  go_loopw [5, 6] (fun u5 u6 wr => ∃ (i : Nat) (u : Value), u = u5 ∧ u6 = .int .i64 i ∧ i ≤ l.length ∧ Hid (OwnS wr w.heap.size 34 8 u (evRows (withoutT (l.take i) t))) ∧ Hid (Below w.heap.size w wr)) (fun _ u6 _ => l.length - (intOf u6).toNat)
  case atStart => exact ⟨0, _, rfl, rfl, by omega, OwnS.nil _ _ _ _, Below.refl _ _⟩
  case round =>
    obtain ⟨i, u, rfl, rfl, hi, HO, HB⟩ := hrel
    obtain ⟨wo, rfl⟩ : ∃ wo : World, wo = wr := ⟨_, rfl⟩
    by_cases hlt : i < l.length
    · have hltI : (i : Int) < (l.length : Int) := by omega
      have HS := Lib.hid (withoutT_take t hlt)
      have HLW : Hid ((withoutT (l.take i) t).length ≤ 1000000) := Nat.le_trans (List.length_filter_le _ _) (by rw [List.length_take]; omega)
      obtain ⟨⟨et, eo, er, ⟨rk, rc, rv, ro, rn⟩⟩, he⟩ : ∃ e, l.getD i evZ = e := ⟨_, rfl⟩
      have HE := Lib.hid he
      obtain ⟨b, off, cp, hve, hb, c0, c1, c2, c3, c4, c5, c6, c7⟩ := (HV.out.below HB.out).ev i hlt he
      simp only [Value.slice.injEq] at hve
      obtain ⟨rfl, -, rfl⟩ := hve
      dsimp only at c0 c1 c2 c3 c4 c5 c6 c7
      clear he

      rw [HE.out] at HS
      obtain ⟨q, hq⟩ : ∃ q, (et != t) = q := ⟨_, rfl⟩
      have HQ : Hid (notT t ⟨et, eo, er, ⟨rk, rc, rv, ro, rn⟩⟩ = q) := hq
      cases q with
      | false =>
        have HS2 : Hid (withoutT (l.take (i + 1)) t = withoutT (l.take i) t) := by show _ = _; rw [HS.out, HQ.out, if_neg (by decide), List.append_nil]
        clear HS
        go_wp2_with fail
        go_roundw
        case rel => exact ⟨i + 1, u, rfl, by go_num, by omega, by rw [HS2.out]; exact HO, HB⟩
        case measure => simp [intOf]; omega
      | true =>
        have HS2 : Hid (withoutT (l.take (i + 1)) t = withoutT (l.take i) t ++ [⟨et, eo, er, ⟨rk, rc, rv, ro, rn⟩⟩]) := by show _ = _; rw [HS.out, HQ.out, if_pos rfl]
        clear HS
        have hsz := HB.out.size
        go_wp2_with (at_builtin; refine wp_append_s1 23 (by kernel_rfl) Try.info_event rfl (by decide) (by decide) rfl _ _ rfl rfl (HO.out.below (below_new (Below.refl _ _) _)) (evL ⟨et, eo, er, ⟨rk, rc, rv, ro, rn⟩⟩) rfl (fun u hu => evL_one _ u hu) _ rfl (by show (Array.push _ _)[_]? = _; exact Array.getElem?_push_size) (by have := HLW.out; rw [evRows_length]; omega) (by simp; omega) ?_; intro v2 w2 h1 h2; have H1 := Lib.hid h1; have H2 := Lib.hid h2; clear h1 h2)
        have HB2 : Hid (Below w.heap.size w w2) := (below_new HB.out _).grown H2.out (by have := HB.out.size; simp; omega) (fun j hj => (HO.out.lt j hj).1)
        go_roundw
        case rel => exact ⟨i + 1, v2, rfl, by go_num, by omega, by rw [HS2.out, evRows_snoc]; exact H1, HB2⟩
        case measure => simp [intOf]; omega
    · have hge : ¬ (i : Int) < (l.length : Int) := by omega
      have hkl : l.take i = l := List.take_of_length_le (by omega)
      have HO2 : Hid (OwnS wo w.heap.size 34 8 u (evRows (withoutT l t))) := by rw [hkl] at HO; exact HO
      clear HO hkl
      go_wp2
      go_ret
      exact ⟨u, rfl, HO2.out, HB.out⟩
end Go.Proofs.Ytnbehigjeopniaa
