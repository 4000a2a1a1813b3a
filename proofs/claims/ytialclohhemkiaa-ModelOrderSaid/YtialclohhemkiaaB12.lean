import Derived.Deep.DeepCutAuto
import Derived.Deep.CutBlock
import Derived.Test.YtialclohhemkiaaB11
import Derived.Test.YtialclohhemkiaaB04
set_option linter.unusedVariables false
set_option linter.unusedSimpArgs false
/- Layer 14: the program's chosen, alternatives. -/
namespace Go.Proofs.Ytialclohhemkiaa
open Go.ChangeShapes Go.WideShapes Go.ChangeAt Go.RowKit
set_option maxRecDepth 100000

set_option maxRecDepth 100000 in
set_option maxHeartbeats 16000000 in
theorem qchosen_any (v : Value) (op : OpM) (r : ResM) (n : Int) (hn : r.case = n) (w : World) (h : OpV w v op) : Calls Try.prog 52 #[v, .int .i64 n] w (ChosQ (chosenE op r) w) := by
  subst hn
  have TS := Lib.hid fun w' (hb : Below w.heap.size w w') => single_any v op w' (h.below hb)
  obtain ⟨vc, vd, rfl, hc, hd⟩ := h
  obtain ⟨lc, hlc⟩ : ∃ l, chosenE op r = l := ⟨_, rfl⟩
  rw [hlc]
  have HLC := Lib.hid hlc
  clear hlc
  obtain ⟨kd, md, ch, vl, dl, cs, ds⟩ := op
  obtain ⟨rk, rc, rv, rok, nm⟩ := r
  dsimp only at *
  obtain ⟨a3, cap3, rfl⟩ := hc.len
  obtain ⟨a4, cap4, rfl, -⟩ := hd.len
  have HSC := Lib.hid fun w' (hb : Below w.heap.size w w') => hc.below hb
  have hlb := hc.1
  clear hc hd
  obtain ⟨W, hW, HB, R0, R1, hz⟩ := two_new w (.cells #[.int .i64 kd, .int .i64 md, .int .i64 ch, .int .u64 vl, .int .i64 dl, .slice a3 cs.length cap3, .slice a4 ds.length cap4] 38) (.cells #[.bool false, .int .i64 0, .int .u64 0] 74)
  have HW := Lib.hid hW
  clear hW
  go_enter Try.func52, Try.ntmps52
  go_upto_region 1 with fail
  rw [HW.out]
  clear HW
  obtain ⟨x0_0, x0_1, x0_2, x0_3, x0_4, x0_5, x0_6⟩ := rowc7 R0.out
  by_cases h4 : kd = 4
  · subst h4
    have HL : Hid (lc = if rc < 0 ∨ (cs.length : Int) ≤ rc then none else some (cs.getD rc.toNat noCase)) := by
      show _ = _
      rw [← HLC.out]
      unfold chosenE
      rw [if_pos rfl]
    clear HLC TS
    by_cases h0 : rc < 0
    · have hl : lc = none := by rw [HL.out, if_pos (.inl h0)]
      subst hl
      go_wp2_with (refine wpList_store_row rfl 74 _ _ rfl (w.heap.size + 1) _ rfl rfl 74 #[.bool false, .int .i64 0, .int .u64 0] R1.out (by kernel_rfl) rfl (by simp [Value.oneCell']) ?_)
      refine bodyPost_ret (v := .tuple #[.agg #[.bool false, .int .i64 0, .int .u64 0], .bool false]) (results_cell_tmp Try.results52 _ _ (w.heap.size + 1) 74 _ (0, 0) _ rfl (setRow_heap _ _ _ _ 74 (0, 0) R1.out) Try.underlying74 rfl (by kernel_rfl) _ rfl) rfl ?_
      unfold ChosQ
      exact ⟨noCase, false, rfl, .inr ⟨rfl, rfl⟩, row_below HB.out (by omega) _⟩
    by_cases h1 : (cs.length : Int) ≤ rc
    · have hl : lc = none := by rw [HL.out, if_pos (.inr h1)]
      subst hl
      go_wp2_with (refine wpList_store_row rfl 74 _ _ rfl (w.heap.size + 1) _ rfl rfl 74 #[.bool false, .int .i64 0, .int .u64 0] R1.out (by kernel_rfl) rfl (by simp [Value.oneCell']) ?_)
      refine bodyPost_ret (v := .tuple #[.agg #[.bool false, .int .i64 0, .int .u64 0], .bool false]) (results_cell_tmp Try.results52 _ _ (w.heap.size + 1) 74 _ (0, 0) _ rfl (setRow_heap _ _ _ _ 74 (0, 0) R1.out) Try.underlying74 rfl (by kernel_rfl) _ rfl) rfl ?_
      unfold ChosQ
      exact ⟨noCase, false, rfl, .inr ⟨rfl, rfl⟩, row_below HB.out (by omega) _⟩
    have hl : lc = some (cs.getD rc.toNat noCase) := by rw [HL.out, if_neg (by omega)]
    obtain ⟨i, hi⟩ : ∃ i : Nat, rc = (i : Int) := ⟨rc.toNat, by omega⟩
    have hil : i < cs.length := by omega
    have hiI : (i : Int) < (cs.length : Int) := by omega
    have hnl : ¬ (cs.length : Int) ≤ (i : Int) := by omega
    rw [hi, Int.toNat_natCast] at hl
    obtain ⟨-, -, a', cap', hve, -, hcell⟩ := HSC.out W HB.out
    simp only [Value.slice.injEq, true_and] at hve
    obtain ⟨rfl, rfl⟩ := hve
    obtain ⟨b, off, rfl, hbl, hca⟩ := hcell i hil
    obtain ⟨⟨s1, s2, s3⟩, hx⟩ : ∃ x, cs.getD i noCase = x := ⟨_, rfl⟩
    rw [hx] at hca hl
    obtain ⟨c0, c1, c2⟩ := hca
    dsimp only at c0 c1 c2
    subst hl
    clear hcell hx HL HSC h0 h1
    rw [hi]
    clear hi
    go_wp2_with (refine wpList_store_row rfl 74 _ _ rfl (w.heap.size + 1) _ rfl rfl 74 #[.bool false, .int .i64 0, .int .u64 0] R1.out (by kernel_rfl) rfl (by simp [Value.oneCell']) ?_)
    refine bodyPost_ret (v := .tuple #[.agg #[.bool s1, .int .i64 s2, .int .u64 s3], .bool true]) (results_cell_tmp Try.results52 _ _ (w.heap.size + 1) 74 _ (0, 0) _ rfl (setRow_heap _ _ _ _ 74 (0, 0) R1.out) Try.underlying74 rfl (by kernel_rfl) _ rfl) rfl ?_
    unfold ChosQ
    exact ⟨⟨s1, s2, s3⟩, true, rfl, .inl ⟨rfl, rfl⟩, row_below HB.out (by omega) _⟩
  have hq4 : (kd == 4) = false := by simpa using h4
  obtain ⟨sb, hsb⟩ : ∃ b, sgB ⟨kd, md, ch, vl, dl, cs, ds⟩ = b := ⟨_, rfl⟩
  obtain ⟨⟨s1, s2, s3⟩, hsc⟩ : ∃ c, sgC ⟨kd, md, ch, vl, dl, cs, ds⟩ = c := ⟨_, rfl⟩
  rw [hsb, hsc] at TS
  have HL : Hid (lc = if sb = true ∧ rc = -1 then some ⟨s1, s2, s3⟩ else none) := by
    show _ = _
    rw [← HLC.out]
    unfold chosenE
    rw [if_neg h4]
    show (if oneB _ = true ∧ rc = -1 then some (oneC _) else none) = _
    rw [← hsb, ← hsc]
    rfl
  unfold caseW at TS
  dsimp only at TS
  clear hsb hsc HLC h4 HSC
  go_wp2_with fail
  refine (TS.out _ HB.out).mono ?_; rintro e w1 ⟨rfl, hb1⟩
  have HB1 := Lib.hid (below_then HB.out hb1)
  have R1b := Lib.hid ((hb1.block (w.heap.size + 1) (Array.getElem?_eq_some_iff.1 R1.out).1).trans R1.out)
  clear x0_0 x0_1 x0_2 x0_3 x0_4 x0_5 x0_6 hb1 hq4 TS
  obtain ⟨Wx, hWx⟩ : ∃ Wx, (w1.alloc (.cells #[.bool false, .int .i64 0, .int .u64 0] 74)).setRow w1.heap.size #[.bool s1, .int .i64 s2, .int .u64 s3] = Wx := ⟨_, rfl⟩
  have Nx : Hid ((w1.alloc (.cells #[.bool false, .int .i64 0, .int .u64 0] 74)).heap[w1.heap.size]? = some (.cells #[.bool false, .int .i64 0, .int .u64 0] 74 (0, 0))) := heap_alloc_new _ _
  have HBx : Hid (Below w1.heap.size w1 Wx) := hWx ▸ row_below (below_new (Below.refl _ _) _) (Nat.le_refl _) _
  have Rx : Hid (Wx.heap[w1.heap.size]? = some (.cells #[.bool s1, .int .i64 s2, .int .u64 s3] 74 (0, 0))) := hWx ▸ setRow_heap _ _ _ _ _ (0, 0) Nx.out
  have HWx := Lib.hid hWx
  clear hWx
  go_upto_region 3 with (refine wpList_store_row rfl 74 _ _ rfl (w1.heap.size) _ rfl rfl 74 #[.bool false, .int .i64 0, .int .u64 0] Nx.out (by kernel_rfl) rfl (by simp [Value.oneCell']) ?_)
  rw [HWx.out]
  try simp only [Act.put]
  clear HWx Nx
  have HBX := Lib.hid (below_then HB1.out HBx.out)
  have R1c := Lib.hid ((HBx.out.block (w.heap.size + 1) (Array.getElem?_eq_some_iff.1 R1b.out).1).trans R1b.out)
  obtain ⟨y0, y1, y2⟩ := rowc3 Rx.out
  cases sb with
  | false =>
    have hl : lc = none := by rw [HL.out]; rfl
    subst hl
    go_wp2_with (refine wpList_store_row rfl 74 _ _ rfl (w.heap.size + 1) _ rfl rfl 74 #[.bool false, .int .i64 0, .int .u64 0] R1c.out (by kernel_rfl) rfl (by simp [Value.oneCell']) ?_)
    refine bodyPost_ret (v := .tuple #[.agg #[.bool false, .int .i64 0, .int .u64 0], .bool false]) (results_cell_tmp Try.results52 _ _ (w.heap.size + 1) 74 _ (0, 0) _ rfl (setRow_heap _ _ _ _ 74 (0, 0) R1c.out) Try.underlying74 rfl (by kernel_rfl) _ rfl) rfl ?_
    unfold ChosQ
    exact ⟨noCase, false, rfl, .inr ⟨rfl, rfl⟩, row_below HBX.out (by omega) _⟩
  | true =>
    by_cases hrc : rc = -1
    · subst hrc
      have hl : lc = some ⟨s1, s2, s3⟩ := by rw [HL.out]; rfl
      subst hl
      go_wp2_with (refine wpList_store_row rfl 74 _ _ rfl (w.heap.size + 1) _ rfl rfl 74 #[.bool false, .int .i64 0, .int .u64 0] R1c.out (by kernel_rfl) rfl (by simp [Value.oneCell']) ?_)
      refine bodyPost_ret (v := .tuple #[.agg #[.bool s1, .int .i64 s2, .int .u64 s3], .bool true]) (results_cell_tmp Try.results52 _ _ (w.heap.size + 1) 74 _ (0, 0) _ rfl (setRow_heap _ _ _ _ 74 (0, 0) R1c.out) Try.underlying74 rfl (by kernel_rfl) _ rfl) rfl ?_
      unfold ChosQ
      exact ⟨⟨s1, s2, s3⟩, true, rfl, .inl ⟨rfl, rfl⟩, row_below HBX.out (by omega) _⟩
    · have hq : (rc != -1) = true := by simpa using hrc
      have hq2 : (rc == -1) = false := by simpa using hrc
      have hl : lc = none := by rw [HL.out]; simp [hrc]
      subst hl
      go_wp2_with (refine wpList_store_row rfl 74 _ _ rfl (w.heap.size + 1) _ rfl rfl 74 #[.bool false, .int .i64 0, .int .u64 0] R1c.out (by kernel_rfl) rfl (by simp [Value.oneCell']) ?_)
      refine bodyPost_ret (v := .tuple #[.agg #[.bool false, .int .i64 0, .int .u64 0], .bool false]) (results_cell_tmp Try.results52 _ _ (w.heap.size + 1) 74 _ (0, 0) _ rfl (setRow_heap _ _ _ _ 74 (0, 0) R1c.out) Try.underlying74 rfl (by kernel_rfl) _ rfl) rfl ?_
      unfold ChosQ
      exact ⟨noCase, false, rfl, .inr ⟨rfl, rfl⟩, row_below HBX.out (by omega) _⟩
set_option maxRecDepth 100000 in
set_option maxHeartbeats 16000000 in
theorem qalt_any (v : Value) (op : OpM) (w : World) (h : OpV w v op) (hok : op.chan = IntKind.i64.wrap op.chan ∧ op.val = IntKind.u64.wrap op.val) : Calls Try.prog 117 #[v] w fun e w' => ∃ u, e = .returned u ∧ SlC w' u (casesE op) ∧ Below w.heap.size w w' := by
  have TS := Lib.hid fun w' (hb : Below w.heap.size w w') => single_any v op w' (h.below hb)
  obtain ⟨vc, vd, rfl, hc, hd⟩ := h
  obtain ⟨lc, hlc⟩ : ∃ l, casesE op = l := ⟨_, rfl⟩
  rw [hlc]
  have HLC := Lib.hid hlc
  clear hlc
  obtain ⟨kd, md, ch, vl, dl, cs, ds⟩ := op
  dsimp only at *
  obtain ⟨a3, cap3, rfl⟩ := hc.len
  obtain ⟨a4, cap4, rfl, -⟩ := hd.len
  have HOK := Lib.hid hok
  have HSC := Lib.hid fun w' (hb : Below w.heap.size w w') => hc.below hb
  clear hc hd hok
  obtain ⟨W, hW, HB, R0, hz⟩ := one_new w (.cells #[.int .i64 kd, .int .i64 md, .int .i64 ch, .int .u64 vl, .int .i64 dl, .slice a3 cs.length cap3, .slice a4 ds.length cap4] 38)
  have HW := Lib.hid hW
  clear hW
  go_enter Try.func117, Try.ntmps117
  go_upto_region 1 with fail
  rw [HW.out]
  clear HW
  obtain ⟨x0_0, x0_1, x0_2, x0_3, x0_4, x0_5, x0_6⟩ := rowc7 R0.out
  by_cases h4 : kd = 4
  · have hl : lc = cs := by rw [← HLC.out]; unfold casesE; rw [if_pos h4]
    subst hl
    subst h4
    go_wp2
    go_ret
    exact ⟨_, rfl, HSC.out _ HB.out, HB.out⟩
  have hq4 : (kd == 4) = false := by simpa using h4
  obtain ⟨sb, hsb⟩ : ∃ b, sgB ⟨kd, md, ch, vl, dl, cs, ds⟩ = b := ⟨_, rfl⟩
  obtain ⟨⟨s1, s2, s3⟩, hsc⟩ : ∃ c, sgC ⟨kd, md, ch, vl, dl, cs, ds⟩ = c := ⟨_, rfl⟩
  rw [hsb, hsc] at TS
  have HL : Hid (lc = if sb = true then [⟨s1, s2, s3⟩] else []) := by
    show _ = _
    rw [← HLC.out]
    unfold casesE
    rw [if_neg h4]
    show (if oneB _ = true then [oneC _] else []) = _
    rw [← hsb, ← hsc]
    rfl
  have HS2 : Hid (s2 = IntKind.i64.wrap s2 ∧ s3 = IntKind.u64.wrap s3) := by
    have h1 := congrArg CaseM.chan hsc
    have h2 := congrArg CaseM.val hsc
    dsimp only at h1 h2
    show _ ∧ _
    rw [← h1, ← h2]
    unfold sgC
    split
    · exact HOK.out
    · split
      · exact HOK.out
      · exact ⟨by decide, by decide⟩
  unfold caseW at TS
  dsimp only at TS
  clear hsb hsc HLC h4 HSC
  go_wp2_with fail
  refine (TS.out _ HB.out).mono ?_; rintro e w1 ⟨rfl, hb1⟩
  have HB1 := Lib.hid (below_then HB.out hb1)
  clear x0_0 x0_1 x0_2 x0_3 x0_4 x0_5 x0_6 hb1 hq4
  obtain ⟨Wx, hWx⟩ : ∃ Wx, (w1.alloc (.cells #[.bool false, .int .i64 0, .int .u64 0] 74)).setRow w1.heap.size #[.bool s1, .int .i64 s2, .int .u64 s3] = Wx := ⟨_, rfl⟩
  have Nx : Hid ((w1.alloc (.cells #[.bool false, .int .i64 0, .int .u64 0] 74)).heap[w1.heap.size]? = some (.cells #[.bool false, .int .i64 0, .int .u64 0] 74 (0, 0))) := heap_alloc_new _ _
  have HBx : Hid (Below w1.heap.size w1 Wx) := hWx ▸ row_below (below_new (Below.refl _ _) _) (Nat.le_refl _) _
  have Rx : Hid (Wx.heap[w1.heap.size]? = some (.cells #[.bool s1, .int .i64 s2, .int .u64 s3] 74 (0, 0))) := hWx ▸ setRow_heap _ _ _ _ _ (0, 0) Nx.out
  have HWx := Lib.hid hWx
  clear hWx
  go_upto_region 4 with (refine wpList_store_row rfl 74 _ _ rfl (w1.heap.size) _ rfl rfl 74 #[.bool false, .int .i64 0, .int .u64 0] Nx.out (by kernel_rfl) rfl (by simp [Value.oneCell']) ?_)
  rw [HWx.out]
  try simp only [Act.put]
  clear HWx Nx
  have HBX := Lib.hid (below_then HB1.out HBx.out)
  cases sb with
  | true =>
    have hl : lc = [⟨s1, s2, s3⟩] := HL.out
    subst hl
    obtain ⟨y0, y1, y2⟩ := rowc3 Rx.out
    go_wp2
    go_ret
    refine ⟨_, rfl, ⟨by simp, fun x hx => by simp only [List.mem_singleton] at hx; subst hx; exact HS2.out, _, 1, rfl, Nat.le_refl _, fun t ht => ?_⟩, below_new HBX.out _⟩
    have ht0 : t = 0 := by simp at ht; exact ht
    subst ht0
    refine ⟨_, 0, rfl, by simp, ?_⟩
    exact ⟨World.cell?_alloc_at _ _ _ _ rfl, World.cell?_alloc_at _ _ _ _ rfl, World.cell?_alloc_at _ _ _ _ rfl⟩
  | false =>
    have hl : lc = [] := HL.out
    subst hl
    go_wp2
    go_ret
    exact ⟨_, rfl, SlC.nil _, HBX.out⟩
end Go.Proofs.Ytialclohhemkiaa
/- Rows are appended to an owned list of structs in a sequential region; lists of results. -/
namespace Go.Proofs.Ytialclohhemkiaa
open Go.ChangeShapes Go.WideShapes Go.ChangeAt Go.RowKit
set_option maxRecDepth 100000

section
variable {e : TypeId} {s base : Nat} {w : World} {v : Value} {rows : List (List Value)}
/-- rows of a literal are appended to an owned list of structs -/
theorem wp_append_ss (st : TypeId) {bytes : Nat} {z : Value} (hu : Try.prog.underlying st = some (.slice e)) (hinfo : (Try.prog.info? e).map (fun i => (i.zero, i.size, i.bytes)) = some (some z, s, bytes)) (hzs : z.cells.size = s) (hsz : 0 < s) (hby : bytes ≤ 200)
    {ops : Array Oper} {rest : List Oper} {o : Oper} {a : Act} {Q : Exit → Act → World → Prop}
    (hgd : o.guard = none) (sl x : Operand) (hop : o.op = Op.call { callee := Callee.builtin Builtin.append, args := #[sl, x], argTypes := #[st, st] })
    (hs : a.eval sl = v) (hown : OwnS w base e s v rows) (rs : List (List Value)) (hr : Rows' s rs) (g n : Nat) (hn : rs.length = n)
    (hx : a.eval x = .slice (some ⟨g, 0, none⟩) n n) (hcell : w.heap[g]? = some (.cells rs.flatten.toArray e (0, 0))) (hl : rows.length + rs.length ≤ 1000001) (hb : base ≤ w.heap.size)
    (hK : ∀ v' w', OwnS w' base e s v' (rows ++ rs) → w.grownBy w' v.ownBlock → wpList Try.prog ops Q rest (a.put o.dst v') w') :
    wpList Try.prog ops Q (o :: rest) a w := by
  subst hn
  obtain ⟨i0, hi, hz0, hz1, hz2⟩ := info_parts hinfo
  obtain ⟨v', w', hrun, h2, h3, -, h4⟩ := run_append_own_at (P := Try.prog) w base st o.type e i0 z s bytes hu hi hz0 hz1 hz2 hzs hsz v rows.length _ hown.2 ⟨g, 0, none⟩ rs.length rs.length rs.flatten (flatS_length rs hr) (fun j u hj => by
    have : w.cell? ⟨g, j, none⟩ = rs.flatten.toArray[j]? := cell_of_row _ _ j _ _ _ hcell
    have e2 : ((⟨g, 0, none⟩ : Addr).add j) = ⟨g, j, none⟩ := by rw [Addr.add_mid, Nat.zero_add]
    rw [e2, this]
    simpa using hj) (fun u hu => by
      obtain ⟨r, hr2, hur⟩ := List.mem_flatten.1 hu
      exact (hr r hr2).2 u hur) (by unfold maxLen; omega) (by have : (rows.length + rs.length) * bytes ≤ 1000001 * 200 := Nat.mul_le_mul (by omega) hby; omega) hb
  refine Lib.wpList_append_run w hgd sl x _ _ hop _ _ hs hx v' w' hrun (hK v' w' ⟨fun r hr2 => ?_, ?_⟩ h3)
  · rcases List.mem_append.1 hr2 with h | h
    · exact hown.1 r h
    · exact hr r h
  · rw [List.length_append, List.flatten_append]
    exact h2
/-- a list of one row -/
theorem SlS.lit1 (w : World) (e : TypeId) (row : List Value) (s : Nat) (hs : row.length = s) (h1 : ∀ u ∈ row, u.oneCell' = true) : SlS (w.alloc (.cells row.toArray e)) s (.slice (some ⟨w.heap.size, 0, none⟩) 1 1) [row] := by
  refine ⟨by simp, fun r hr => ?_, _, 1, rfl, Nat.le_refl _, fun i hi => ⟨w.heap.size, 0, rfl, by simp, ?_⟩⟩
  · rw [List.mem_singleton.1 hr]; exact ⟨hs, h1⟩
  · have hi0 : i = 0 := by simp at hi; exact hi
    subst hi0
    intro j u hj
    have h2 : (w.alloc (.cells row.toArray e)).cell? ⟨w.heap.size, j, none⟩ = row.toArray[j]? := cell_of_row _ _ j _ _ (0, 0) (heap_alloc_new w (.cells row.toArray e))
    simp only [Nat.zero_mul, Nat.zero_add]
    rw [h2]
    simpa using hj
end
/-- the five cells of a result -/
def resL (r : ResM) : List Value := [.int .i64 r.kind, .int .i64 r.case, .int .u64 r.val, .bool r.ok, .int .i64 r.num]
def resRows (l : List ResM) : List (List Value) := l.map resL
theorem resRows_length (l : List ResM) : (resRows l).length = l.length := List.length_map _
theorem resRows_append (a b : List ResM) : resRows (a ++ b) = resRows a ++ resRows b := List.map_append
theorem resRows_rows (l : List ResM) : Rows' 5 (resRows l) := fun r hr => by
  obtain ⟨x, -, rfl⟩ := List.mem_map.1 hr
  refine ⟨rfl, fun u hu => ?_⟩
  simp only [resL, List.mem_cons, List.not_mem_nil, or_false] at hu
  rcases hu with rfl | rfl | rfl | rfl | rfl <;> rfl
theorem resRows_get (l : List ResM) (i : Nat) (hi : i < l.length) : (resRows l).getD i [] = resL (l.getD i ⟨0, 0, 0, false, 0⟩) := by
  simp [resRows, List.getD_eq_getElem?_getD, hi]
/-- one result of a list -/
theorem SlS.res {w : World} {v : Value} {l : List ResM} (h : SlS w 5 v (resRows l)) (i : Nat) (hi : i < l.length) {r : ResM} (hr : l.getD i ⟨0, 0, 0, false, 0⟩ = r) : ∃ b off cap, v = .slice (some ⟨b, off, none⟩) l.length cap ∧ b < w.heap.size ∧ w.cell? ⟨b, off + i * 5, none⟩ = some (.int .i64 r.kind) ∧ w.cell? ⟨b, off + i * 5 + 1, none⟩ = some (.int .i64 r.case) ∧ w.cell? ⟨b, off + i * 5 + 2, none⟩ = some (.int .u64 r.val) ∧ w.cell? ⟨b, off + i * 5 + 3, none⟩ = some (.bool r.ok) ∧ w.cell? ⟨b, off + i * 5 + 4, none⟩ = some (.int .i64 r.num) := by
  have hl := resRows_length l
  obtain ⟨b, off, cap, rfl, hb, hc⟩ := h.open (by omega)
  have h5 := hc i (by omega)
  rw [resRows_get l i hi, hr] at h5
  exact ⟨b, off, cap, by rw [hl], hb, h5 0 _ rfl, h5 1 _ rfl, h5 2 _ rfl, h5 3 _ rfl, h5 4 _ rfl⟩
theorem SlS.lenR {w : World} {v : Value} {l : List ResM} (h : SlS w 5 v (resRows l)) : ∃ a cap, v = .slice a l.length cap ∧ l.length ≤ cap := by
  obtain ⟨a, cap, rfl, h2⟩ := h.len
  rw [resRows_length] at h2 ⊢
  exact ⟨a, cap, rfl, h2⟩
theorem OwnS.lenR {w : World} {base : Nat} {e : TypeId} {v : Value} {l : List ResM} (h : OwnS w base e 5 v (resRows l)) : ∃ a cap, v = .slice a l.length cap := by
  obtain ⟨a, cap, rfl⟩ := h.len
  rw [resRows_length]
  exact ⟨a, cap, rfl⟩
end Go.Proofs.Ytialclohhemkiaa
/- Layer 14: the program's Could. -/
namespace Go.Proofs.Ytialclohhemkiaa
open Go.ChangeShapes Go.WideShapes Go.ChangeAt Go.RowKit
set_option maxRecDepth 100000

/-- what case i of an operation may have by itself -/
def altR (l : List ChanM) (op : OpM) (i : Nat) : List ResM := match aloneE l ((casesE op).getD i noCase) with | some r => [⟨r.kind, numE op i, r.val, r.ok, r.num⟩] | none => []
def couldAt (l : List ChanM) (op : OpM) : Nat → List ResM
  | 0 => []
  | k + 1 => couldAt l op k ++ altR l op k
def couldP (l : List ChanM) (op : OpM) : List ResM := if op.kind = 3 then [closeR l op.chan] else couldAt l op (casesE op).length
theorem altR_le (l : List ChanM) (op : OpM) (i : Nat) : (altR l op i).length ≤ 1 := by
  unfold altR
  split <;> simp
theorem couldAt_le (l : List ChanM) (op : OpM) (k : Nat) : (couldAt l op k).length ≤ k := by
  induction k with
  | zero => exact Nat.le_refl _
  | succ k ih =>
    have := altR_le l op k
    unfold couldAt
    rw [List.length_append]
    omega
theorem aloneE_case {l : List ChanM} {x : CaseM} {r : ResM} (h : aloneE l x = some r) : r.case = -1 := by
  unfold aloneE aloneC at h
  split at h
  · cases h
  · split at h
    · split at h
      · simp only [Option.some.injEq] at h; rw [← h]
      · split at h
        · simp only [Option.some.injEq] at h; rw [← h]
        · cases h
    · split at h
      · simp only [Option.some.injEq] at h; rw [← h]
      · split at h
        · simp only [Option.some.injEq] at h; rw [← h]
        · cases h
theorem Try.info_res : (Try.prog.info? 25).map (fun i => (i.zero, i.size, i.bytes)) = some (some (.agg #[.int .i64 0, .int .i64 0, .int .u64 0, .bool false, .int .i64 0]), 5, 40) := by kernel_rfl
set_option maxRecDepth 100000 in
set_option maxHeartbeats 16000000 in
theorem qcould_any (v vo : Value) (l : List ChanM) (op : OpM) (w : World) (hv : SlH w v l) (h : OpV w vo op) (hok : op.chan = IntKind.i64.wrap op.chan ∧ op.val = IntKind.u64.wrap op.val) (hcl : (casesE op).length ≤ 100000) : Calls Try.prog 91 #[v, vo] w fun e w' => ∃ u, e = .returned u ∧ SlS w' 5 u (resRows (couldP l op)) ∧ Below w.heap.size w w' := by
  have TC := Lib.hid fun w' (hb : Below w.heap.size w w') => qalt_any vo op w' (h.below hb) hok
  have TA := Lib.hid fun x w' (hb : Below w.heap.size w w') => qalone_any v l x w' (hv.below hb)
  have TCL := Lib.hid fun w' (hb : Below w.heap.size w w') => qclosing_any v l op.chan w' (hv.below hb)
  obtain ⟨ro, hro⟩ : ∃ o, couldP l op = o := ⟨_, rfl⟩
  rw [hro]
  unfold couldP at hro
  obtain ⟨⟨g1, g2, g3, g4, g5⟩, hg⟩ : ∃ r, closeR l op.chan = r := ⟨_, rfl⟩
  rw [hg] at hro TCL
  obtain ⟨cl, hcl2⟩ : ∃ c, casesE op = c := ⟨_, rfl⟩
  rw [hcl2] at hro TC hcl
  have HST : Hid (∀ k x, cl.getD k noCase = x → couldAt l op (k + 1) = couldAt l op k ++ (match aloneE l x with | some r => [⟨r.kind, numE op k, r.val, r.ok, r.num⟩] | none => [])) := fun k x hx => by
    rw [← hx, ← hcl2]
    rfl
  have HLE : Hid (∀ k, (couldAt l op k).length ≤ k) := couldAt_le l op
  have HZ : Hid (couldAt l op 0 = []) := rfl
  obtain ⟨cf, hcf⟩ : ∃ c, couldAt l op = c := ⟨_, rfl⟩
  rw [hcf] at hro HST HLE HZ
  have HNU : Hid (∀ k, numE op k = if op.kind = 4 then (k : Int) else -1) := fun k => rfl
  obtain ⟨nu, hnu⟩ : ∃ c, numE op = c := ⟨_, rfl⟩
  rw [hnu] at HST HNU
  clear hnu hcf hg hcl2
  obtain ⟨vc, vd, rfl, hc, hd⟩ := h
  obtain ⟨kd, md, ch, vl, dl, cs, ds⟩ := op
  dsimp only at *
  obtain ⟨a3, cap3, rfl⟩ := hc.len
  obtain ⟨a4, cap4, rfl, -⟩ := hd.len
  have HRO := Lib.hid hro
  have HCL := Lib.hid hcl
  obtain ⟨a, cap, hve, -⟩ := hv.len
  subst hve
  clear hv hro hc hd hcl hok
  obtain ⟨W, hW, HB, R0, hz⟩ := one_new w (.cells #[.int .i64 kd, .int .i64 md, .int .i64 ch, .int .u64 vl, .int .i64 dl, .slice a3 cs.length cap3, .slice a4 ds.length cap4] 38)
  have HW := Lib.hid hW
  clear hW
  go_enter Try.func91, Try.ntmps91
  go_upto_region 1 with fail
  rw [HW.out]
  clear HW
  obtain ⟨x0_0, x0_1, x0_2, x0_3, x0_4, x0_5, x0_6⟩ := rowc7 R0.out
  unfold resW at TCL
  dsimp only at TCL
  by_cases h3 : kd = 3
  · subst h3
    have hr : ro = [⟨g1, g2, g3, g4, g5⟩] := by rw [← HRO.out]; rfl
    subst hr
    go_wp2_with fail
    refine (TCL.out _ HB.out).mono ?_; rintro e w1 ⟨rfl, hb1⟩
    have HB1 := Lib.hid (below_then HB.out hb1)
    clear x0_0 x0_1 x0_2 x0_3 x0_4 x0_5 x0_6 hb1
    go_wp2
    go_ret
    exact ⟨_, rfl, SlS.lit1 w1 25 (resL ⟨g1, g2, g3, g4, g5⟩) 5 rfl (resRows_rows [⟨g1, g2, g3, g4, g5⟩] _ (by simp [resRows])).2, below_new HB1.out _⟩
  have h3b : (kd == 3) = false := by simpa using h3
  have HRO2 : Hid (ro = cf cl.length) := by show _ = _; rw [← HRO.out, if_neg h3]
  clear HRO h3
  go_wp2_with fail
  refine (TC.out _ HB.out).mono ?_; rintro e w1 ⟨u, rfl, hu, hb1⟩
  have HB1 := Lib.hid (below_then HB.out hb1)
  have R0b := Lib.hid ((hb1.block w.heap.size (Array.getElem?_eq_some_iff.1 R0.out).1).trans R0.out)
  obtain ⟨ua, uc, rfl⟩ := hu.len
  have HU := Lib.hid hu
  have hlb := hu.1
  clear x0_0 x0_1 x0_2 x0_3 x0_4 x0_5 x0_6 hb1 hu h3b
  go_wp2_with fail
  go_loopw [5, 21] (fun u5 u21 wr => ∃ (i : Nat) (u : Value), u = u5 ∧ u21 = .int .i64 i ∧ i ≤ cl.length ∧ Hid (OwnS wr w1.heap.size 25 5 u (resRows (cf i))) ∧ Hid (Below w1.heap.size w1 wr)) (fun _ u21 _ => cl.length - (intOf u21).toNat)
  case atStart => exact ⟨0, _, rfl, rfl, by omega, by rw [HZ.out]; exact OwnS.nil _ _ _ _, Below.refl _ _⟩
  case round =>
    obtain ⟨i, u, rfl, rfl, hi, HO, HBi⟩ := hrel
    obtain ⟨wo, rfl⟩ : ∃ wo : World, wo = wr := ⟨_, rfl⟩
    by_cases hlt : i < cl.length
    · have hltI : (i : Int) < (cl.length : Int) := by omega
      obtain ⟨-, -, a', cap', hve, -, hcell⟩ := HU.out.below HBi.out
      simp only [Value.slice.injEq, true_and] at hve
      obtain ⟨rfl, rfl⟩ := hve
      obtain ⟨b, off, rfl, hbb, hca⟩ := hcell i hlt
      obtain ⟨⟨s1, s2, s3⟩, hx⟩ : ∃ x, cl.getD i noCase = x := ⟨_, rfl⟩
      rw [hx] at hca
      obtain ⟨c0, c1, c2⟩ := hca
      dsimp only at c0 c1 c2
      have HS1 := Lib.hid (HST.out i _ hx)
      have HIL : Hid ((cf i).length ≤ 100000) := by have := HLE.out i; have := HCL.out; show _ ≤ _; omega
      clear hcell hx
      obtain ⟨Wx, hWx⟩ : ∃ Wx, (wo.alloc (.cells #[.bool false, .int .i64 0, .int .u64 0] 74)).setRow wo.heap.size #[.bool s1, .int .i64 s2, .int .u64 s3] = Wx := ⟨_, rfl⟩
      have Nx : Hid ((wo.alloc (.cells #[.bool false, .int .i64 0, .int .u64 0] 74)).heap[wo.heap.size]? = some (.cells #[.bool false, .int .i64 0, .int .u64 0] 74 (0, 0))) := heap_alloc_new _ _
      have HBx : Hid (Below wo.heap.size wo Wx) := hWx ▸ row_below (below_new (Below.refl _ _) _) (Nat.le_refl _) _
      have Rx : Hid (Wx.heap[wo.heap.size]? = some (.cells #[.bool s1, .int .i64 s2, .int .u64 s3] 74 (0, 0))) := hWx ▸ setRow_heap _ _ _ _ _ (0, 0) Nx.out
      have HWx := Lib.hid hWx
      clear hWx
      go_upto_region 7 with (refine wpList_store_row rfl 74 _ _ rfl (wo.heap.size) _ rfl rfl 74 #[.bool false, .int .i64 0, .int .u64 0] Nx.out (by kernel_rfl) rfl (by simp [Value.oneCell']) ?_)
      rw [HWx.out]
      try simp only [Act.put]
      clear HWx Nx
      have HBa := Lib.hid (below_then HBi.out HBx.out)
      have T := Lib.hid (TA.out ⟨s1, s2, s3⟩ Wx (below_then HB1.out HBa.out))
      unfold caseW at T
      dsimp only at T
      have HOx := Lib.hid (HO.out.below HBx.out)
      have R0x := Lib.hid (((below_then HBi.out HBx.out).block w.heap.size (Array.getElem?_eq_some_iff.1 R0b.out).1).trans R0b.out)
      obtain ⟨y0, y1, y2⟩ := rowc3 Rx.out
      clear c0 c1 c2 HO hbb
      go_wp2_with fail
      refine T.out.mono ?_; rintro e w3 ⟨⟨q1, q2, q3, q4, q5⟩, b, rfl, hr, hb3⟩
      unfold resW
      dsimp only
      have HR := Lib.hid hr
      have HB3 := Lib.hid (below_then HBa.out hb3)
      have HO3 := Lib.hid (HOx.out.below hb3)
      have R03 := Lib.hid ((hb3.block w.heap.size (Array.getElem?_eq_some_iff.1 R0x.out).1).trans R0x.out)
      clear y0 y1 y2 hb3 hr T HOx R0x
      obtain ⟨Wy, hWy⟩ : ∃ Wy, (w3.alloc (.cells #[.int .i64 0, .int .i64 0, .int .u64 0, .bool false, .int .i64 0] 25)).setRow w3.heap.size #[.int .i64 q1, .int .i64 q2, .int .u64 q3, .bool q4, .int .i64 q5] = Wy := ⟨_, rfl⟩
      have Ny : Hid ((w3.alloc (.cells #[.int .i64 0, .int .i64 0, .int .u64 0, .bool false, .int .i64 0] 25)).heap[w3.heap.size]? = some (.cells #[.int .i64 0, .int .i64 0, .int .u64 0, .bool false, .int .i64 0] 25 (0, 0))) := heap_alloc_new _ _
      have HBy : Hid (Below w3.heap.size w3 Wy) := hWy ▸ row_below (below_new (Below.refl _ _) _) (Nat.le_refl _) _
      have Ry : Hid (Wy.heap[w3.heap.size]? = some (.cells #[.int .i64 q1, .int .i64 q2, .int .u64 q3, .bool q4, .int .i64 q5] 25 (0, 0))) := hWy ▸ setRow_heap _ _ _ _ _ (0, 0) Ny.out
      have HWy := Lib.hid hWy
      clear hWy
      go_upto_region 8 with (refine wpList_store_row rfl 25 _ _ rfl (w3.heap.size) _ rfl rfl 25 #[.int .i64 0, .int .i64 0, .int .u64 0, .bool false, .int .i64 0] Ny.out (by kernel_rfl) rfl (by simp [Value.oneCell']) ?_)
      rw [HWy.out]
      try simp only [Act.put]
      clear HWy Ny
      have HBb := Lib.hid (below_then HB3.out HBy.out)
      have HOy := Lib.hid (HO3.out.below HBy.out)
      have R0y := Lib.hid ((HBy.out.block w.heap.size (Array.getElem?_eq_some_iff.1 R03.out).1).trans R03.out)
      cases b with
      | false =>
        have HSa : Hid (cf (i + 1) = cf i) := by
          show _ = _
          rw [HS1.out]
          rcases HR.out with ⟨h, -⟩ | ⟨-, h⟩
          · cases h
          · rw [h]; simp
        go_wp2_with fail
        go_roundw
        case rel => exact ⟨i + 1, u, rfl, by go_num, by omega, by rw [HSa.out]; exact HOy, HBb⟩
        case measure => simp [intOf]; omega
      | true =>
        have HSa : Hid (cf (i + 1) = cf i ++ [⟨q1, nu i, q3, q4, q5⟩] ∧ q2 = -1) := by
          show _ ∧ _
          rw [HS1.out]
          rcases HR.out with ⟨-, h⟩ | ⟨h, -⟩
          · exact ⟨by rw [h], aloneE_case h⟩
          · cases h
        obtain ⟨z0, z1, z2, z3, z4, z5, z6⟩ := rowc7 R0y.out
        by_cases h4 : kd = 4
        · subst h4
          have hnu : nu i = i := by rw [HNU.out]; rfl
          rw [hnu] at HSa
          clear hnu
          have fz := frozen_of_row Wy w3.heap.size 1 _ _ Ry.out
          have r1 := heap_setCell_same Wy w3.heap.size 1 _ _ (.int .i64 i) Ry.out
          simp at r1
          obtain ⟨k0, k1, k2, k3, k4⟩ := rowc5 Ry.out
          obtain ⟨W4, hW4⟩ : ∃ W4, Wy.setCell ⟨w3.heap.size, 1, none⟩ (.int .i64 i) = W4 := ⟨_, rfl⟩
          rw [hW4] at r1
          have HB4 : Hid (Below w1.heap.size w1 W4) := by
            rw [← hW4]
            exact HBb.out.setCell (p := ⟨w3.heap.size, 1, none⟩) HB3.out.size _
          have HO4 : Hid (OwnS W4 w1.heap.size 25 5 u (resRows (cf i))) := by
            rw [← hW4]
            exact HOy.out.kept (grownBy_setCell _ _ _) (Classical.or_iff_not_imp_left.2 fun hne hq => by
              have := (HO3.out.lt w3.heap.size hq).2
              omega)
          have HW4 := Lib.hid hW4
          clear hW4 HOy
          go_upto_region 11 with fail
          rw [HW4.out]
          clear HW4 fz z0 z1 z2 z3 z4 z5 z6 k0 k1 k2 k3 k4
          obtain ⟨k0, k1, k2, k3, k4⟩ := rowc5 r1
          go_upto_region 12 with (at_builtin; refine wp_append_ss 122 (by kernel_rfl) Try.info_res rfl (by decide) (by decide) rfl _ _ rfl rfl (HO4.out.below (below_new (Below.refl _ _) _)) (resRows [⟨q1, i, q3, q4, q5⟩]) (resRows_rows _) _ 1 rfl rfl (by show (Array.push _ _)[_]? = _; exact Array.getElem?_push_size) (by have := HIL.out; rw [resRows_length]; show _ + 1 ≤ _; omega) (by have := HB4.out.size; simp; omega) ?_; intro v2 w2 h1 h2; have H1 := Lib.hid h1; have H2 := Lib.hid h2; clear h1 h2)
          have HB5 : Hid (Below w1.heap.size w1 w2) := (below_new HB4.out _).grown H2.out (by have := HB4.out.size; simp; omega) (fun j hj => (HO4.out.lt j hj).1)
          have HO5 : Hid (OwnS w2 w1.heap.size 25 5 v2 (resRows (cf (i + 1)))) := by rw [HSa.out.1, resRows_append]; exact H1
          clear H1 H2 k0 k1 k2 k3 k4
          go_wp2_with fail
          go_roundw
          case rel => exact ⟨i + 1, _, rfl, by go_num, by omega, HO5, HB5⟩
          case measure => simp [intOf]; omega
        · have h4b : (kd == 4) = false := by simpa using h4
          have hnu : nu i = -1 := by rw [HNU.out]; exact if_neg h4
          rw [hnu] at HSa
          clear hnu
          obtain ⟨k0, k1, k2, k3, k4⟩ := rowc5 Ry.out
          have HQ2 := HSa.out.2
          subst HQ2
          go_upto_region 11 with fail
          clear z0 z1 z2 z3 z4 z5 z6
          go_upto_region 12 with (at_builtin; refine wp_append_ss 122 (by kernel_rfl) Try.info_res rfl (by decide) (by decide) rfl _ _ rfl rfl (HOy.out.below (below_new (Below.refl _ _) _)) (resRows [⟨q1, -1, q3, q4, q5⟩]) (resRows_rows _) _ 1 rfl rfl (by show (Array.push _ _)[_]? = _; exact Array.getElem?_push_size) (by have := HIL.out; rw [resRows_length]; show _ + 1 ≤ _; omega) (by have := HBb.out.size; simp; omega) ?_; intro v2 w2 h1 h2; have H1 := Lib.hid h1; have H2 := Lib.hid h2; clear h1 h2)
          have HB5 : Hid (Below w1.heap.size w1 w2) := (below_new HBb.out _).grown H2.out (by have := HBb.out.size; simp; omega) (fun j hj => (HOy.out.lt j hj).1)
          have HO5 : Hid (OwnS w2 w1.heap.size 25 5 v2 (resRows (cf (i + 1)))) := by rw [HSa.out.1, resRows_append]; exact H1
          clear H1 H2 k0 k1 k2 k3 k4
          go_wp2_with fail
          go_roundw
          case rel => exact ⟨i + 1, _, rfl, by go_num, by omega, HO5, HB5⟩
          case measure => simp [intOf]; omega
    · have hge : ¬ (i : Int) < (cl.length : Int) := by omega
      have hil : i = cl.length := by omega
      have HF : Hid (ro = cf i) := by show _ = _; rw [HRO2.out, hil]
      have HLR := HLE.out i
      have hcl2 := HCL.out
      clear hil HRO2
      go_wp2
      go_ret
      refine ⟨u, rfl, ?_, below_then HB1.out HBi.out⟩
      rw [HF.out]
      exact HO.out.sls (by rw [resRows_length]; omega)
end Go.Proofs.Ytialclohhemkiaa
