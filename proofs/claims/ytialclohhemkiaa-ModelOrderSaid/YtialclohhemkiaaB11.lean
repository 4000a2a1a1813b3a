import Derived.Deep.DeepCutAuto
import Derived.Deep.CutBlock
import Derived.Test.YtialclohhemkiaaB07
import Derived.Test.YtialclohhemkiaaB10
import Derived.Test.YtialclohhemkiaaB09
set_option linter.unusedVariables false
set_option linter.unusedSimpArgs false
/- Layer 14: the program's find, and plain words. -/
namespace Go.Proofs.Ytialclohhemkiaa
open Go.ChangeShapes Go.WideShapes Go.ChangeAt Go.RowKit
set_option maxRecDepth 100000

/-- the channel with a number, or the zero channel -/
def fndE (l : List ChanM) (n : Int) : ChanM := if exB l n = true then chE l n else noChan
def FindQ (l : List ChanM) (n : Int) (w : World) (e : Ending) (w' : World) : Prop := ∃ u, e = .returned (.tuple #[.agg #[.int .i64 (fndE l n).cap, u, .bool (fndE l n).closed], .bool (exB l n)]) ∧ SlI w' .u64 u (fndE l n).buf ∧ Below w.heap.size w w'
/-- what a case may have by itself, on the channel c -/
def aloneC (ex : Bool) (c : ChanM) (sd : Bool) : Option ResM :=
  if ex = false then none
  else if sd = true then (if c.closed = true then some ⟨5, -1, 0, false, 0⟩ else if (c.buf.length : Int) < c.cap then some ⟨1, -1, 0, false, 0⟩ else none)
  else if 0 < c.buf.length then some ⟨2, -1, c.buf.getD 0 0, true, 0⟩ else if c.closed = true then some ⟨2, -1, 0, false, 0⟩ else none
def aloneE (l : List ChanM) (x : CaseM) : Option ResM := aloneC (exB l x.chan) (fndE l x.chan) x.send
/-- a result that may be -/
def ResQ (o : Option ResM) (w : World) (e : Ending) (w' : World) : Prop := ∃ r b, e = .returned (.tuple #[resW r, .bool b]) ∧ ((b = true ∧ o = some r) ∨ (b = false ∧ o = none)) ∧ Below w.heap.size w w'
theorem aloneE_ready (l : List ChanM) (x : CaseM) : (aloneE l x).isSome = readyB l x := by
  unfold aloneE aloneC readyB fndE
  obtain ⟨sd, ch, vl⟩ := x
  dsimp only
  cases exB l ch with
  | false => simp
  | true =>
    simp only [Bool.true_eq_false, if_false, if_true, Bool.true_and]
    obtain ⟨⟨cc, bf, cl⟩, hc⟩ : ∃ c, chE l ch = c := ⟨_, rfl⟩
    rw [hc]
    dsimp only
    cases sd <;> cases cl <;> simp
    all_goals (split <;> simp_all)
def closeR (l : List ChanM) (n : Int) : ResM := if exB l n = true ∧ (fndE l n).closed = false then ⟨6, -1, 0, false, 0⟩ else ⟨5, -1, 0, false, 0⟩
def cntE (l : List ChanM) (op : OpM) : Option ResM := if op.kind = 5 then some ⟨7, -1, 0, false, ((fndE l op.chan).buf.length : Int)⟩ else if op.kind = 6 then some ⟨7, -1, 0, false, (fndE l op.chan).cap⟩ else none
def rdvB (l : List ChanM) (x y : CaseM) : Bool := exB l x.chan && (x.chan == y.chan && (x.send != y.send && (decide ((fndE l x.chan).cap ≤ 0) && !(fndE l x.chan).closed)))
set_option maxRecDepth 100000 in
set_option maxHeartbeats 16000000 in
theorem qfind_any (v : Value) (l : List ChanM) (n : Int) (w : World) (hv : SlH w v l) : Calls Try.prog 84 #[v, .int .i64 n] w (FindQ l n w) := by
  have hbd := hv.bound
  have HV := Lib.hid hv
  obtain ⟨a, cap, hve, -⟩ := hv.len
  subst hve
  clear hv
  obtain ⟨c, hc⟩ : ∃ c, fndE l n = c := ⟨_, rfl⟩
  obtain ⟨ex, hex⟩ : ∃ b, exB l n = b := ⟨_, rfl⟩
  unfold FindQ
  rw [hc, hex]
  obtain ⟨cc, bf, cl⟩ := c
  dsimp only
  have HC := Lib.hid hc
  have HEX := Lib.hid hex
  clear hc hex
  obtain ⟨W, hW, HB, R0, hz⟩ := one_new w (.cells #[.int .i64 0, .slice none 0 0, .bool false] 79)
  have HW := Lib.hid hW
  clear hW
  go_enter Try.func84, Try.ntmps84
  go_upto_region 1 with fail
  rw [HW.out]
  clear HW
  cases ex with
  | false =>
    have hn : (⟨cc, bf, cl⟩ : ChanM) = noChan := by rw [← HC.out]; unfold fndE; rw [HEX.out]; rfl
    simp only [noChan, ChanM.mk.injEq] at hn
    obtain ⟨rfl, rfl, rfl⟩ := hn
    have hx := HEX.out
    unfold exB at hx
    clear HC HEX
    have HF : ∀ w', Below w.heap.size w w' → ∃ u, Ending.returned (.tuple #[.agg #[.int .i64 0, .slice none 0 0, .bool false], .bool false]) = .returned (.tuple #[.agg #[.int .i64 0, u, .bool false], .bool false]) ∧ SlI w' .u64 u [] ∧ Below w.heap.size w w' := fun w' hb => ⟨_, rfl, SlI.nil _ _, hb⟩
    have HF := Lib.hid HF
    by_cases h0 : n < 0
    · clear hx
      go_wp2_with (refine wpList_store_row rfl 79 _ _ rfl (w.heap.size) _ rfl rfl 79 #[.int .i64 0, .slice none 0 0, .bool false] R0.out (by kernel_rfl) rfl (by simp [Value.oneCell']) ?_)
      refine bodyPost_ret (v := .tuple #[.agg #[.int .i64 0, .slice none 0 0, .bool false], .bool false]) (results_cell_tmp Try.results84 _ _ (w.heap.size) 79 _ (0, 0) _ rfl (setRow_heap _ _ _ _ 79 (0, 0) R0.out) Try.underlying79 rfl (by kernel_rfl) _ rfl) rfl ?_
      exact HF.out _ (row_below HB.out (by omega) _)
    · have h1 : (l.length : Int) ≤ n := by
        simp only [Bool.and_eq_false_iff, decide_eq_false_iff_not] at hx
        omega
      clear hx
      go_wp2_with (refine wpList_store_row rfl 79 _ _ rfl (w.heap.size) _ rfl rfl 79 #[.int .i64 0, .slice none 0 0, .bool false] R0.out (by kernel_rfl) rfl (by simp [Value.oneCell']) ?_)
      refine bodyPost_ret (v := .tuple #[.agg #[.int .i64 0, .slice none 0 0, .bool false], .bool false]) (results_cell_tmp Try.results84 _ _ (w.heap.size) 79 _ (0, 0) _ rfl (setRow_heap _ _ _ _ 79 (0, 0) R0.out) Try.underlying79 rfl (by kernel_rfl) _ rfl) rfl ?_
      exact HF.out _ (row_below HB.out (by omega) _)
  | true =>
    have hx := HEX.out
    unfold exB at hx
    simp only [Bool.and_eq_true, decide_eq_true_eq] at hx
    obtain ⟨i, hi⟩ : ∃ i : Nat, n = (i : Int) := ⟨n.toNat, by omega⟩
    subst hi
    have hil : i < l.length := by omega
    have hiI : (i : Int) < (l.length : Int) := by omega
    have hcc : l.getD i noChan = ⟨cc, bf, cl⟩ := by
      rw [← HC.out]
      unfold fndE
      rw [HEX.out, if_pos rfl]
      rfl
    obtain ⟨b, off, cap', u, hve, hb, c0, c1, c2, hu⟩ := HV.out.at i hil
    simp only [Value.slice.injEq] at hve
    obtain ⟨rfl, -, rfl⟩ := hve
    rw [hcc] at c0 c2 hu
    dsimp only at c0 c2 hu
    obtain ⟨ua, uc, rfl, -⟩ := hu.len
    have HU := Lib.hid hu
    have c0 := (HB.out.cell (p := ⟨b, off + i * 3, none⟩) hb).trans c0
    have c1 := (HB.out.cell (p := ⟨b, off + i * 3 + 1, none⟩) hb).trans c1
    have c2 := (HB.out.cell (p := ⟨b, off + i * 3 + 2, none⟩) hb).trans c2
    have hb := Nat.lt_of_lt_of_le hb HB.out.size
    clear hx hcc HEX HC HV hu
    go_wp2_with (refine wpList_store_row rfl 79 _ _ rfl (w.heap.size) _ rfl rfl 79 #[.int .i64 0, .slice none 0 0, .bool false] R0.out (by kernel_rfl) rfl (by simp [Value.oneCell']) ?_)
    refine bodyPost_ret (v := .tuple #[.agg #[.int .i64 cc, .slice ua bf.length uc, .bool cl], .bool true]) (results_cell_tmp Try.results84 _ _ (w.heap.size) 79 _ (0, 0) _ rfl (setRow_heap _ _ _ _ 79 (0, 0) R0.out) Try.underlying79 rfl (by kernel_rfl) _ rfl) rfl ?_
    exact ⟨_, rfl, (HU.out.below HB.out).grown (row_grown _ _ _) (HU.out.offOf (Nat.le_refl _)), row_below HB.out (by omega) _⟩
end Go.Proofs.Ytialclohhemkiaa
/- Layer 14: the program's alone, Ready, closing, counted, rendezvous. -/
namespace Go.Proofs.Ytialclohhemkiaa
open Go.ChangeShapes Go.WideShapes Go.ChangeAt Go.RowKit
set_option maxRecDepth 100000

set_option maxRecDepth 100000 in
set_option maxHeartbeats 16000000 in
theorem qalone_any (v : Value) (l : List ChanM) (x : CaseM) (w : World) (hv : SlH w v l) : Calls Try.prog 111 #[v, caseW x] w (ResQ (aloneE l x) w) := by
  have TF := Lib.hid fun w' (hb : Below w.heap.size w w') => qfind_any v l x.chan w' (hv.below hb)
  obtain ⟨ro, hro⟩ : ∃ o, aloneE l x = o := ⟨_, rfl⟩
  rw [hro]
  unfold aloneE at hro
  obtain ⟨sd, ch, vl⟩ := x
  dsimp only at hro TF
  unfold caseW
  try dsimp only
  obtain ⟨ex, hex⟩ : ∃ b, exB l ch = b := ⟨_, rfl⟩
  obtain ⟨⟨cc, bf, cl⟩, hc⟩ : ∃ c, fndE l ch = c := ⟨_, rfl⟩
  unfold FindQ at TF
  rw [hex, hc] at TF
  dsimp only at TF
  rw [hex, hc] at hro
  have HRO := Lib.hid hro
  obtain ⟨a, cap, hve, -⟩ := hv.len
  subst hve
  clear hv hro hex hc
  obtain ⟨W, hW, HB, R0, R1, hz⟩ := two_new w (.cells #[.bool sd, .int .i64 ch, .int .u64 vl] 74) (.cells #[.int .i64 0, .int .i64 0, .int .u64 0, .bool false, .int .i64 0] 25)
  have HW := Lib.hid hW
  clear hW
  go_enter Try.func111, Try.ntmps111
  go_upto_region 1 with fail
  rw [HW.out]
  clear HW
  obtain ⟨x0_0, x0_1, x0_2⟩ := rowc3 R0.out
  go_wp2_with fail
  refine (TF.out _ HB.out).mono ?_; rintro e w1 ⟨u, rfl, hu, hb1⟩
  have hbl := hu.1
  obtain ⟨ua, uc, rfl, -⟩ := hu.len
  have HU1 := Lib.hid hu
  have HB1 := Lib.hid (below_then HB.out hb1)
  have R0b := Lib.hid ((hb1.block w.heap.size (Array.getElem?_eq_some_iff.1 R0.out).1).trans R0.out)
  have R1b := Lib.hid ((hb1.block (w.heap.size + 1) (Array.getElem?_eq_some_iff.1 R1.out).1).trans R1.out)
  clear x0_0 x0_1 x0_2
  clear hu hb1
  obtain ⟨Wx, hWx⟩ : ∃ Wx, (w1.alloc (.cells #[.int .i64 0, .slice none 0 0, .bool false] 79)).setRow w1.heap.size #[.int .i64 cc, .slice ua bf.length uc, .bool cl] = Wx := ⟨_, rfl⟩
  have Nx : Hid ((w1.alloc (.cells #[.int .i64 0, .slice none 0 0, .bool false] 79)).heap[w1.heap.size]? = some (.cells #[.int .i64 0, .slice none 0 0, .bool false] 79 (0, 0))) := heap_alloc_new _ _
  have HBx : Hid (Below w1.heap.size w1 Wx) := hWx ▸ row_below (below_new (Below.refl _ _) _) (Nat.le_refl _) _
  have Rx : Hid (Wx.heap[w1.heap.size]? = some (.cells #[.int .i64 cc, .slice ua bf.length uc, .bool cl] 79 (0, 0))) := hWx ▸ setRow_heap _ _ _ _ _ (0, 0) Nx.out
  have HWx := Lib.hid hWx
  clear hWx
  go_upto_region 2 with (refine wpList_store_row rfl 79 _ _ rfl (w1.heap.size) _ rfl rfl 79 #[.int .i64 0, .slice none 0 0, .bool false] Nx.out (by kernel_rfl) rfl (by simp [Value.oneCell']) ?_)
  rw [HWx.out]
  try simp only [Act.put]
  clear HWx Nx
  have HBX := Lib.hid (below_then HB1.out HBx.out)
  have R0c := Lib.hid ((HBx.out.block w.heap.size (Array.getElem?_eq_some_iff.1 R0b.out).1).trans R0b.out)
  have R1c := Lib.hid ((HBx.out.block (w.heap.size + 1) (Array.getElem?_eq_some_iff.1 R1b.out).1).trans R1b.out)
  have HUx := Lib.hid (HU1.out.below HBx.out)
  obtain ⟨y0, y1, y2⟩ := rowc3 Rx.out
  obtain ⟨x0_0, x0_1, x0_2⟩ := rowc3 R0c.out
  cases ex with
  | false =>
    go_wp2_with (refine wpList_store_row rfl 25 _ _ rfl (w.heap.size + 1) _ rfl rfl 25 #[.int .i64 0, .int .i64 0, .int .u64 0, .bool false, .int .i64 0] R1c.out (by kernel_rfl) rfl (by simp [Value.oneCell']) ?_)
    refine bodyPost_ret (v := .tuple #[.agg #[.int .i64 0, .int .i64 0, .int .u64 0, .bool false, .int .i64 0], .bool false]) (results_cell_tmp Try.results111 _ _ (w.heap.size + 1) 25 _ (0, 0) _ rfl (setRow_heap _ _ _ _ 25 (0, 0) R1c.out) Try.underlying25 rfl (by kernel_rfl) _ rfl) rfl ?_
    unfold ResQ
    exact ⟨⟨0, 0, 0, false, 0⟩, false, rfl, .inr ⟨rfl, by rw [← HRO.out]; simp [aloneC]⟩, row_below HBX.out (by omega) _⟩
  | true =>
    cases sd with
    | true =>
      cases cl with
      | true =>
        go_wp2_with (refine wpList_store_row rfl 25 _ _ rfl (w.heap.size + 1) _ rfl rfl 25 #[.int .i64 0, .int .i64 0, .int .u64 0, .bool false, .int .i64 0] R1c.out (by kernel_rfl) rfl (by simp [Value.oneCell']) ?_)
        refine bodyPost_ret (v := .tuple #[.agg #[.int .i64 5, .int .i64 (-1), .int .u64 0, .bool false, .int .i64 0], .bool true]) (results_cell_tmp Try.results111 _ _ (w.heap.size + 1) 25 _ (0, 0) _ rfl (setRow_heap _ _ _ _ 25 (0, 0) R1c.out) Try.underlying25 rfl (by kernel_rfl) _ rfl) rfl ?_
        unfold ResQ
        exact ⟨⟨5, (-1), 0, false, 0⟩, true, rfl, .inl ⟨rfl, by rw [← HRO.out]; simp [aloneC]⟩, row_below HBX.out (by omega) _⟩
      | false =>
        by_cases hlt : (bf.length : Int) < cc
        · skip
          go_wp2_with (refine wpList_store_row rfl 25 _ _ rfl (w.heap.size + 1) _ rfl rfl 25 #[.int .i64 0, .int .i64 0, .int .u64 0, .bool false, .int .i64 0] R1c.out (by kernel_rfl) rfl (by simp [Value.oneCell']) ?_)
          refine bodyPost_ret (v := .tuple #[.agg #[.int .i64 1, .int .i64 (-1), .int .u64 0, .bool false, .int .i64 0], .bool true]) (results_cell_tmp Try.results111 _ _ (w.heap.size + 1) 25 _ (0, 0) _ rfl (setRow_heap _ _ _ _ 25 (0, 0) R1c.out) Try.underlying25 rfl (by kernel_rfl) _ rfl) rfl ?_
          unfold ResQ
          exact ⟨⟨1, (-1), 0, false, 0⟩, true, rfl, .inl ⟨rfl, by rw [← HRO.out]; simp [aloneC, hlt]⟩, row_below HBX.out (by omega) _⟩
        · skip
          go_wp2_with (refine wpList_store_row rfl 25 _ _ rfl (w.heap.size + 1) _ rfl rfl 25 #[.int .i64 0, .int .i64 0, .int .u64 0, .bool false, .int .i64 0] R1c.out (by kernel_rfl) rfl (by simp [Value.oneCell']) ?_)
          refine bodyPost_ret (v := .tuple #[.agg #[.int .i64 0, .int .i64 0, .int .u64 0, .bool false, .int .i64 0], .bool false]) (results_cell_tmp Try.results111 _ _ (w.heap.size + 1) 25 _ (0, 0) _ rfl (setRow_heap _ _ _ _ 25 (0, 0) R1c.out) Try.underlying25 rfl (by kernel_rfl) _ rfl) rfl ?_
          unfold ResQ
          exact ⟨⟨0, 0, 0, false, 0⟩, false, rfl, .inr ⟨rfl, by rw [← HRO.out]; simp [aloneC, hlt]⟩, row_below HBX.out (by omega) _⟩
    | false =>
      cases bf with
      | nil =>
        simp only [List.length_nil] at y1
        cases cl with
        | true =>
          go_wp2_with (refine wpList_store_row rfl 25 _ _ rfl (w.heap.size + 1) _ rfl rfl 25 #[.int .i64 0, .int .i64 0, .int .u64 0, .bool false, .int .i64 0] R1c.out (by kernel_rfl) rfl (by simp [Value.oneCell']) ?_)
          refine bodyPost_ret (v := .tuple #[.agg #[.int .i64 2, .int .i64 (-1), .int .u64 0, .bool false, .int .i64 0], .bool true]) (results_cell_tmp Try.results111 _ _ (w.heap.size + 1) 25 _ (0, 0) _ rfl (setRow_heap _ _ _ _ 25 (0, 0) R1c.out) Try.underlying25 rfl (by kernel_rfl) _ rfl) rfl ?_
          unfold ResQ
          exact ⟨⟨2, (-1), 0, false, 0⟩, true, rfl, .inl ⟨rfl, by rw [← HRO.out]; simp [aloneC]⟩, row_below HBX.out (by omega) _⟩
        | false =>
          go_wp2_with (refine wpList_store_row rfl 25 _ _ rfl (w.heap.size + 1) _ rfl rfl 25 #[.int .i64 0, .int .i64 0, .int .u64 0, .bool false, .int .i64 0] R1c.out (by kernel_rfl) rfl (by simp [Value.oneCell']) ?_)
          refine bodyPost_ret (v := .tuple #[.agg #[.int .i64 0, .int .i64 0, .int .u64 0, .bool false, .int .i64 0], .bool false]) (results_cell_tmp Try.results111 _ _ (w.heap.size + 1) 25 _ (0, 0) _ rfl (setRow_heap _ _ _ _ 25 (0, 0) R1c.out) Try.underlying25 rfl (by kernel_rfl) _ rfl) rfl ?_
          unfold ResQ
          exact ⟨⟨0, 0, 0, false, 0⟩, false, rfl, .inr ⟨rfl, by rw [← HRO.out]; simp [aloneC]⟩, row_below HBX.out (by omega) _⟩
      | cons yb bt =>
        obtain ⟨b2, off2, cap2, e2, hcp, hb2, hcc2⟩ := HUx.out.open (by simp)
        simp only [Value.slice.injEq] at e2
        obtain ⟨rfl, -, rfl⟩ := e2
        have q0 := hcc2 0 (by simp)
        simp only [Nat.add_zero, List.getD_cons_zero] at q0
        simp only [List.length_cons] at y1
        simp only [List.length_cons] at hbl
        have h03 : (0 : Int) < (bt.length : Int) + 1 := by omega
        have h04 : (0 : Int) < ((bt.length + 1 : Nat) : Int) := by omega
        clear hcc2
        go_wp2_with (refine wpList_store_row rfl 25 _ _ rfl (w.heap.size + 1) _ rfl rfl 25 #[.int .i64 0, .int .i64 0, .int .u64 0, .bool false, .int .i64 0] R1c.out (by kernel_rfl) rfl (by simp [Value.oneCell']) ?_)
        refine bodyPost_ret (v := .tuple #[.agg #[.int .i64 2, .int .i64 (-1), .int .u64 yb, .bool true, .int .i64 0], .bool true]) (results_cell_tmp Try.results111 _ _ (w.heap.size + 1) 25 _ (0, 0) _ rfl (setRow_heap _ _ _ _ 25 (0, 0) R1c.out) Try.underlying25 rfl (by kernel_rfl) _ rfl) rfl ?_
        unfold ResQ
        exact ⟨⟨2, (-1), yb, true, 0⟩, true, rfl, .inl ⟨rfl, by rw [← HRO.out]; simp [aloneC]⟩, row_below HBX.out (by omega) _⟩
set_option maxRecDepth 100000 in
set_option maxHeartbeats 16000000 in
theorem qready_any (v : Value) (l : List ChanM) (x : CaseM) (w : World) (hv : SlH w v l) : Calls Try.prog 73 #[v, caseW x] w fun e w' => e = .returned (.bool (readyB l x)) ∧ Below w.heap.size w w' := by
  have TF := Lib.hid fun w' (hb : Below w.heap.size w w') => qalone_any v l x w' (hv.below hb)
  rw [← aloneE_ready]
  obtain ⟨ro, hro⟩ : ∃ o, aloneE l x = o := ⟨_, rfl⟩
  rw [hro] at TF
  rw [hro]
  obtain ⟨sd, ch, vl⟩ := x
  unfold caseW at TF ⊢
  try dsimp only at TF ⊢
  obtain ⟨a, cap, hve, -⟩ := hv.len
  subst hve
  clear hv hro
  obtain ⟨W, hW, HB, R0, hz⟩ := one_new w (.cells #[.bool sd, .int .i64 ch, .int .u64 vl] 74)
  have HW := Lib.hid hW
  clear hW
  go_enter Try.func73, Try.ntmps73
  go_upto_region 1 with fail
  rw [HW.out]
  clear HW
  obtain ⟨x0_0, x0_1, x0_2⟩ := rowc3 R0.out
  go_wp2_with fail
  refine (TF.out _ HB.out).mono ?_; rintro e w1 ⟨⟨q1, q2, q3, q4, q5⟩, b, rfl, hr, hb1⟩
  unfold resW
  dsimp only
  have HB1 := Lib.hid (below_then HB.out hb1)
  have HR : Hid (ro.isSome = b) := by
    rcases hr with ⟨rfl, rfl⟩ | ⟨rfl, rfl⟩ <;> rfl
  clear hr hb1 x0_0 x0_1 x0_2
  obtain ⟨Wx, hWx⟩ : ∃ Wx, (w1.alloc (.cells #[.int .i64 0, .int .i64 0, .int .u64 0, .bool false, .int .i64 0] 25)).setRow w1.heap.size #[.int .i64 q1, .int .i64 q2, .int .u64 q3, .bool q4, .int .i64 q5] = Wx := ⟨_, rfl⟩
  have Nx : Hid ((w1.alloc (.cells #[.int .i64 0, .int .i64 0, .int .u64 0, .bool false, .int .i64 0] 25)).heap[w1.heap.size]? = some (.cells #[.int .i64 0, .int .i64 0, .int .u64 0, .bool false, .int .i64 0] 25 (0, 0))) := heap_alloc_new _ _
  have HBx : Hid (Below w1.heap.size w1 Wx) := hWx ▸ row_below (below_new (Below.refl _ _) _) (Nat.le_refl _) _
  have Rx : Hid (Wx.heap[w1.heap.size]? = some (.cells #[.int .i64 q1, .int .i64 q2, .int .u64 q3, .bool q4, .int .i64 q5] 25 (0, 0))) := hWx ▸ setRow_heap _ _ _ _ _ (0, 0) Nx.out
  have HWx := Lib.hid hWx
  clear hWx
  go_upto_region 2 with (refine wpList_store_row rfl 25 _ _ rfl (w1.heap.size) _ rfl rfl 25 #[.int .i64 0, .int .i64 0, .int .u64 0, .bool false, .int .i64 0] Nx.out (by kernel_rfl) rfl (by simp [Value.oneCell']) ?_)
  rw [HWx.out]
  try simp only [Act.put]
  clear HWx Nx
  go_wp2
  go_ret
  exact ⟨by rw [HR.out]; rfl, below_then HB1.out HBx.out⟩
set_option maxRecDepth 100000 in
set_option maxHeartbeats 16000000 in
theorem qclosing_any (v : Value) (l : List ChanM) (n : Int) (w : World) (hv : SlH w v l) : Calls Try.prog 116 #[v, .int .i64 n] w fun e w' => e = .returned (resW (closeR l n)) ∧ Below w.heap.size w w' := by
  have TF := Lib.hid fun w' (hb : Below w.heap.size w w') => qfind_any v l n w' (hv.below hb)
  obtain ⟨ro, hro⟩ : ∃ o, closeR l n = o := ⟨_, rfl⟩
  rw [hro]
  unfold closeR at hro
  unfold resW
  obtain ⟨ex, hex⟩ : ∃ b, exB l n = b := ⟨_, rfl⟩
  obtain ⟨⟨cc, bf, cl⟩, hc⟩ : ∃ c, fndE l n = c := ⟨_, rfl⟩
  unfold FindQ at TF
  rw [hex, hc] at TF
  dsimp only at TF
  rw [hex, hc] at hro
  dsimp only at hro
  have HRO := Lib.hid hro
  obtain ⟨a, cap, hve, -⟩ := hv.len
  subst hve
  clear hv hro hex hc
  obtain ⟨W, hW, HB, R0, hz⟩ := one_new w (.cells #[.int .i64 0, .int .i64 0, .int .u64 0, .bool false, .int .i64 0] 25)
  have HW := Lib.hid hW
  clear hW
  go_enter Try.func116, Try.ntmps116
  go_upto_region 1 with fail
  rw [HW.out]
  clear HW
  go_wp2_with fail
  refine (TF.out _ HB.out).mono ?_; rintro e w1 ⟨u, rfl, hu, hb1⟩
  have hbl := hu.1
  obtain ⟨ua, uc, rfl, -⟩ := hu.len
  have HU1 := Lib.hid hu
  have HB1 := Lib.hid (below_then HB.out hb1)
  have R0b := Lib.hid ((hb1.block w.heap.size (Array.getElem?_eq_some_iff.1 R0.out).1).trans R0.out)
  clear hu hb1
  obtain ⟨Wx, hWx⟩ : ∃ Wx, (w1.alloc (.cells #[.int .i64 0, .slice none 0 0, .bool false] 79)).setRow w1.heap.size #[.int .i64 cc, .slice ua bf.length uc, .bool cl] = Wx := ⟨_, rfl⟩
  have Nx : Hid ((w1.alloc (.cells #[.int .i64 0, .slice none 0 0, .bool false] 79)).heap[w1.heap.size]? = some (.cells #[.int .i64 0, .slice none 0 0, .bool false] 79 (0, 0))) := heap_alloc_new _ _
  have HBx : Hid (Below w1.heap.size w1 Wx) := hWx ▸ row_below (below_new (Below.refl _ _) _) (Nat.le_refl _) _
  have Rx : Hid (Wx.heap[w1.heap.size]? = some (.cells #[.int .i64 cc, .slice ua bf.length uc, .bool cl] 79 (0, 0))) := hWx ▸ setRow_heap _ _ _ _ _ (0, 0) Nx.out
  have HWx := Lib.hid hWx
  clear hWx
  go_upto_region 2 with (refine wpList_store_row rfl 79 _ _ rfl (w1.heap.size) _ rfl rfl 79 #[.int .i64 0, .slice none 0 0, .bool false] Nx.out (by kernel_rfl) rfl (by simp [Value.oneCell']) ?_)
  rw [HWx.out]
  try simp only [Act.put]
  clear HWx Nx
  have HBX := Lib.hid (below_then HB1.out HBx.out)
  have R0c := Lib.hid ((HBx.out.block w.heap.size (Array.getElem?_eq_some_iff.1 R0b.out).1).trans R0b.out)
  have HUx := Lib.hid (HU1.out.below HBx.out)
  obtain ⟨y0, y1, y2⟩ := rowc3 Rx.out
  cases ex with
  | false =>
    have hr : ro = ⟨5, -1, 0, false, 0⟩ := by rw [← HRO.out]; rfl
    subst hr
    clear HRO
    go_wp2_with (refine wpList_store_row rfl 25 _ _ rfl (w.heap.size) _ rfl rfl 25 #[.int .i64 0, .int .i64 0, .int .u64 0, .bool false, .int .i64 0] R0c.out (by kernel_rfl) rfl (by simp [Value.oneCell']) ?_)
    refine bodyPost_ret (v := .agg #[.int .i64 5, .int .i64 (-1), .int .u64 0, .bool false, .int .i64 0]) (results_cell_row Try.results116 _ _ (w.heap.size) 25 _ (0, 0) _ rfl (setRow_heap _ _ _ _ 25 (0, 0) R0c.out) Try.underlying25 rfl (by kernel_rfl)) rfl ?_
    exact ⟨rfl, row_below HBX.out (by omega) _⟩
  | true =>
    cases cl with
    | true =>
      have hr : ro = ⟨5, -1, 0, false, 0⟩ := by rw [← HRO.out]; rfl
      subst hr
      clear HRO
      go_wp2_with (refine wpList_store_row rfl 25 _ _ rfl (w.heap.size) _ rfl rfl 25 #[.int .i64 0, .int .i64 0, .int .u64 0, .bool false, .int .i64 0] R0c.out (by kernel_rfl) rfl (by simp [Value.oneCell']) ?_)
      refine bodyPost_ret (v := .agg #[.int .i64 5, .int .i64 (-1), .int .u64 0, .bool false, .int .i64 0]) (results_cell_row Try.results116 _ _ (w.heap.size) 25 _ (0, 0) _ rfl (setRow_heap _ _ _ _ 25 (0, 0) R0c.out) Try.underlying25 rfl (by kernel_rfl)) rfl ?_
      exact ⟨rfl, row_below HBX.out (by omega) _⟩
    | false =>
      have hr : ro = ⟨6, -1, 0, false, 0⟩ := by rw [← HRO.out]; rfl
      subst hr
      clear HRO
      go_wp2_with (refine wpList_store_row rfl 25 _ _ rfl (w.heap.size) _ rfl rfl 25 #[.int .i64 0, .int .i64 0, .int .u64 0, .bool false, .int .i64 0] R0c.out (by kernel_rfl) rfl (by simp [Value.oneCell']) ?_)
      refine bodyPost_ret (v := .agg #[.int .i64 6, .int .i64 (-1), .int .u64 0, .bool false, .int .i64 0]) (results_cell_row Try.results116 _ _ (w.heap.size) 25 _ (0, 0) _ rfl (setRow_heap _ _ _ _ 25 (0, 0) R0c.out) Try.underlying25 rfl (by kernel_rfl)) rfl ?_
      exact ⟨rfl, row_below HBX.out (by omega) _⟩
set_option maxRecDepth 100000 in
set_option maxHeartbeats 16000000 in
theorem qcounted_any (v vo : Value) (l : List ChanM) (op : OpM) (w : World) (hv : SlH w v l) (h : OpV w vo op) : Calls Try.prog 89 #[v, vo] w (ResQ (cntE l op) w) := by
  have TF := Lib.hid fun w' (hb : Below w.heap.size w w') => qfind_any v l op.chan w' (hv.below hb)
  obtain ⟨ro, hro⟩ : ∃ o, cntE l op = o := ⟨_, rfl⟩
  rw [hro]
  unfold cntE at hro
  obtain ⟨vc, vd, rfl, hc, hd⟩ := h
  obtain ⟨kd, md, ch, vl, dl, cs, ds⟩ := op
  dsimp only at *
  obtain ⟨a3, cap3, rfl⟩ := hc.len
  obtain ⟨a4, cap4, rfl, -⟩ := hd.len
  clear hc hd
  obtain ⟨ex, hex⟩ : ∃ b, exB l ch = b := ⟨_, rfl⟩
  obtain ⟨⟨cc, bf, cl⟩, hc⟩ : ∃ c, fndE l ch = c := ⟨_, rfl⟩
  unfold FindQ at TF
  rw [hex, hc] at TF
  dsimp only at TF
  rw [hc] at hro
  dsimp only at hro
  have HRO := Lib.hid hro
  obtain ⟨a, cap, hve, -⟩ := hv.len
  subst hve
  clear hv hro hex hc
  obtain ⟨W, hW, HB, R0, R1, hz⟩ := two_new w (.cells #[.int .i64 kd, .int .i64 md, .int .i64 ch, .int .u64 vl, .int .i64 dl, .slice a3 cs.length cap3, .slice a4 ds.length cap4] 38) (.cells #[.int .i64 0, .int .i64 0, .int .u64 0, .bool false, .int .i64 0] 25)
  have HW := Lib.hid hW
  clear hW
  go_enter Try.func89, Try.ntmps89
  go_upto_region 1 with fail
  rw [HW.out]
  clear HW
  obtain ⟨x0_0, x0_1, x0_2, x0_3, x0_4, x0_5, x0_6⟩ := rowc7 R0.out
  go_wp2_with fail
  refine (TF.out _ HB.out).mono ?_; rintro e w1 ⟨u, rfl, hu, hb1⟩
  have hbl := hu.1
  obtain ⟨ua, uc, rfl, -⟩ := hu.len
  have HU1 := Lib.hid hu
  have HB1 := Lib.hid (below_then HB.out hb1)
  have R0b := Lib.hid ((hb1.block w.heap.size (Array.getElem?_eq_some_iff.1 R0.out).1).trans R0.out)
  have R1b := Lib.hid ((hb1.block (w.heap.size + 1) (Array.getElem?_eq_some_iff.1 R1.out).1).trans R1.out)
  clear x0_0 x0_1 x0_2 x0_3 x0_4 x0_5 x0_6
  clear hu hb1
  obtain ⟨Wx, hWx⟩ : ∃ Wx, (w1.alloc (.cells #[.int .i64 0, .slice none 0 0, .bool false] 79)).setRow w1.heap.size #[.int .i64 cc, .slice ua bf.length uc, .bool cl] = Wx := ⟨_, rfl⟩
  have Nx : Hid ((w1.alloc (.cells #[.int .i64 0, .slice none 0 0, .bool false] 79)).heap[w1.heap.size]? = some (.cells #[.int .i64 0, .slice none 0 0, .bool false] 79 (0, 0))) := heap_alloc_new _ _
  have HBx : Hid (Below w1.heap.size w1 Wx) := hWx ▸ row_below (below_new (Below.refl _ _) _) (Nat.le_refl _) _
  have Rx : Hid (Wx.heap[w1.heap.size]? = some (.cells #[.int .i64 cc, .slice ua bf.length uc, .bool cl] 79 (0, 0))) := hWx ▸ setRow_heap _ _ _ _ _ (0, 0) Nx.out
  have HWx := Lib.hid hWx
  clear hWx
  go_upto_region 2 with (refine wpList_store_row rfl 79 _ _ rfl (w1.heap.size) _ rfl rfl 79 #[.int .i64 0, .slice none 0 0, .bool false] Nx.out (by kernel_rfl) rfl (by simp [Value.oneCell']) ?_)
  rw [HWx.out]
  try simp only [Act.put]
  clear HWx Nx
  have HBX := Lib.hid (below_then HB1.out HBx.out)
  have R0c := Lib.hid ((HBx.out.block w.heap.size (Array.getElem?_eq_some_iff.1 R0b.out).1).trans R0b.out)
  have R1c := Lib.hid ((HBx.out.block (w.heap.size + 1) (Array.getElem?_eq_some_iff.1 R1b.out).1).trans R1b.out)
  have HUx := Lib.hid (HU1.out.below HBx.out)
  obtain ⟨y0, y1, y2⟩ := rowc3 Rx.out
  obtain ⟨x0_0, x0_1, x0_2, x0_3, x0_4, x0_5, x0_6⟩ := rowc7 R0c.out
  by_cases h5 : kd = 5
  · subst h5
    go_wp2_with (refine wpList_store_row rfl 25 _ _ rfl (w.heap.size + 1) _ rfl rfl 25 #[.int .i64 0, .int .i64 0, .int .u64 0, .bool false, .int .i64 0] R1c.out (by kernel_rfl) rfl (by simp [Value.oneCell']) ?_)
    refine bodyPost_ret (v := .tuple #[.agg #[.int .i64 7, .int .i64 (-1), .int .u64 0, .bool false, .int .i64 bf.length], .bool true]) (results_cell_tmp Try.results89 _ _ (w.heap.size + 1) 25 _ (0, 0) _ rfl (setRow_heap _ _ _ _ 25 (0, 0) R1c.out) Try.underlying25 rfl (by kernel_rfl) _ rfl) rfl ?_
    unfold ResQ
    exact ⟨⟨7, (-1), 0, false, bf.length⟩, true, rfl, .inl ⟨rfl, by rw [← HRO.out]; simp⟩, row_below HBX.out (by omega) _⟩
  have h5b : (kd == 5) = false := by simpa using h5
  by_cases h6 : kd = 6
  · subst h6
    go_wp2_with (refine wpList_store_row rfl 25 _ _ rfl (w.heap.size + 1) _ rfl rfl 25 #[.int .i64 0, .int .i64 0, .int .u64 0, .bool false, .int .i64 0] R1c.out (by kernel_rfl) rfl (by simp [Value.oneCell']) ?_)
    refine bodyPost_ret (v := .tuple #[.agg #[.int .i64 7, .int .i64 (-1), .int .u64 0, .bool false, .int .i64 cc], .bool true]) (results_cell_tmp Try.results89 _ _ (w.heap.size + 1) 25 _ (0, 0) _ rfl (setRow_heap _ _ _ _ 25 (0, 0) R1c.out) Try.underlying25 rfl (by kernel_rfl) _ rfl) rfl ?_
    unfold ResQ
    exact ⟨⟨7, (-1), 0, false, cc⟩, true, rfl, .inl ⟨rfl, by rw [← HRO.out]; simp⟩, row_below HBX.out (by omega) _⟩
  have h6b : (kd == 6) = false := by simpa using h6
  go_wp2_with (refine wpList_store_row rfl 25 _ _ rfl (w.heap.size + 1) _ rfl rfl 25 #[.int .i64 0, .int .i64 0, .int .u64 0, .bool false, .int .i64 0] R1c.out (by kernel_rfl) rfl (by simp [Value.oneCell']) ?_)
  refine bodyPost_ret (v := .tuple #[.agg #[.int .i64 0, .int .i64 0, .int .u64 0, .bool false, .int .i64 0], .bool false]) (results_cell_tmp Try.results89 _ _ (w.heap.size + 1) 25 _ (0, 0) _ rfl (setRow_heap _ _ _ _ 25 (0, 0) R1c.out) Try.underlying25 rfl (by kernel_rfl) _ rfl) rfl ?_
  unfold ResQ
  exact ⟨⟨0, 0, 0, false, 0⟩, false, rfl, .inr ⟨rfl, by rw [← HRO.out]; simp [h5, h6]⟩, row_below HBX.out (by omega) _⟩
end Go.Proofs.Ytialclohhemkiaa
