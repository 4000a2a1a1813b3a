/- The reader of choices: numbers at limits, operations. -/
import Derived.Test.YtkciejealeinoaaCodes4
namespace Go.Proofs.Ytkciejealeinoaa
open Go.ChangeShapes Go.WideShapes Go.ChangeAt Go.RowKit
set_option maxRecDepth 100000

def numList : List Int := [0, 1, -1, 2, 5, 6, 7, 8, 9, 16, 17, 1099511627776, 1099511627777, -1099511627777, 100, 3]
theorem num_all : ∀ p, p < 16 → -1099511627777 ≤ numList.getD p 0 ∧ numList.getD p 0 ≤ 1099511627777 := by decide
theorem num_at (p : Nat) (hp : p < 16) : ∃ q : Int, numList.getD p 0 = q ∧ Hid (-1099511627777 ≤ q ∧ q ≤ 1099511627777) := ⟨_, rfl, num_all p hp⟩
theorem numberE (g : Nat) (w : World) (h : CodesE w g) :
    Calls Try.prog 46 #[.pointer (some ⟨g, 0, none⟩)] w fun e w' => ∃ x : Int, e = .returned (.int .i64 x) ∧ -1099511627777 ≤ x ∧ x ≤ 1099511627777 ∧ CodesE w' g ∧ w.grownBy w' (some g) := by
  have hlt := h.lt
  obtain ⟨W, hW⟩ : ∃ W, w.alloc (.cells (numList.map (Value.int .i64)).toArray 3) = W := ⟨_, rfl⟩
  have HB : Hid (Below w.heap.size w W) := hW ▸ below_new (Below.refl w.heap.size w) _
  have R0 : Hid (W.heap[w.heap.size]? = some (.cells (numList.map (Value.int .i64)).toArray 3 (0, 0))) := by
    show _ = _
    rw [← hW]; exact heap_alloc_new _ _
  have hz : w.heap.size < W.heap.size := by rw [← hW]; simp
  have HC := Lib.hid (h.kept hlt HB.out)
  have HGW : Hid (w.grownBy W (some g)) := grown_of_below HB.out
  have HW := Lib.hid hW
  clear hW h
  go_enter Try.func46, Try.ntmps46
  go_wp2_with fail
  rw [show (#[.int .i64 0, .int .i64 1, .int .i64 (-1), .int .i64 2, .int .i64 5, .int .i64 6, .int .i64 7, .int .i64 8, .int .i64 9, .int .i64 16, .int .i64 17, .int .i64 1099511627776, .int .i64 1099511627777, .int .i64 (-1099511627777), .int .i64 100, .int .i64 3] : Array Value) = (numList.map (Value.int .i64)).toArray from rfl, HW.out]
  refine (nextE g 16 _ HC.out (by omega) (by omega)).mono ?_; rintro e w1 ⟨x, rfl, hx0, hx1, hc1, hg1⟩
  obtain ⟨p, rfl⟩ : ∃ p : Nat, x = p := ⟨x.toNat, by omega⟩
  have hp : p < 16 := by omega
  obtain ⟨q, hq, hqb⟩ := num_at p hp
  have row := (hg1.block w.heap.size (by omega) (by simp; omega)).trans R0.out
  have c0 : w1.cell? ⟨w.heap.size, p, none⟩ = some (.int .i64 q) := by
    rw [cell_of_row _ _ p _ _ _ row, ← hq]
    simp [List.getD_eq_getElem?_getD, show p < numList.length from hp]
  have HC1 := Lib.hid hc1
  have HG1 := Lib.hid (grownBy_trans HGW.out hg1)
  clear hc1 hg1 row hq
  go_wp2
  go_ret
  exact ⟨q, rfl, hqb.out.1, hqb.out.2, HC1.out, HG1.out⟩
/-- while an operation is made: the reader, the configuration's box, the result's block -/
structure OpInv (w0 w : World) (g : Nat) (cc : Array Value) : Prop where
  lt : g < w0.heap.size
  size : w0.heap.size + 2 ≤ w.heap.size
  codes : CodesE w g
  grown : w0.grownBy w (some g)
  box : w.heap[w0.heap.size]? = some (.cells cc 34 (0, 0))
  res : w.heap[w0.heap.size + 1]? = some (.cells zeroOp 26 (0, 0))
theorem OpInv.next {w0 w w' : World} {g : Nat} {cc : Array Value} (h : OpInv w0 w g cc) (hc : CodesE w' g) (hg : w.grownBy w' (some g)) : OpInv w0 w' g cc := by
  have hs := h.size
  have hl := h.lt
  exact ⟨hl, Nat.le_trans hs hg.size, hc, grownBy_trans h.grown hg, (hg.block _ (by omega) (by simp; omega)).trans h.box, (hg.block _ (by omega) (by simp; omega)).trans h.res⟩
theorem OpInv.start {w : World} {g : Nat} (cc : Array Value) (h : CodesE w g) : OpInv w ((w.alloc (.cells cc 34)).alloc (.cells zeroOp 26)) g cc := by
  have hb := below_new (below_new (Below.refl w.heap.size w) (.cells cc 34)) (.cells zeroOp 26)
  exact ⟨h.lt, by simp, h.kept h.lt hb, grown_of_below hb, heap_alloc2_old _ _ _, heap_alloc2_new _ _ _⟩
theorem OpInv.fin {w0 w : World} {g : Nat} {cc : Array Value} (h : OpInv w0 w g cc) (cells : Array Value) : CodesE (w.setRow (w0.heap.size + 1) cells) g ∧ w0.grownBy (w.setRow (w0.heap.size + 1) cells) (some g) :=
  ⟨h.codes.kept (B := w0.heap.size) h.lt (below_setRow (Below.refl _ w) (by omega) cells), grownBy_of_new h.grown (grownBy_setRow w _ cells) (fun k hk => by cases hk; omega)⟩
theorem OpN.bare (w : World) (B : Nat) (kd m ch vl d : Int) : OpN w B (.agg #[.int .i64 kd, .int .i64 m, .int .i64 ch, .int .u64 vl, .int .i64 d, .slice none 0 0, .slice none 0 0]) ⟨kd, m, ch, vl, d, [], []⟩ :=
  ⟨_, _, rfl, SlC.nil _, SlI.nil _ _, newB.nil _, newB.nil _⟩
set_option maxRecDepth 100000 in
set_option maxHeartbeats 4000000 in
theorem opE (g : Nat) (v : Value) (c : ConfM) (w : World) (h : CodesE w g) (hv : ConfX w g v c) (hc : c.caps.length ≤ 8) :
    Calls Try.prog 15 #[.pointer (some ⟨g, 0, none⟩), v] w fun e w' => ∃ u op, e = .returned u ∧ OpN w' w.heap.size u op ∧ op.good ∧ CodesE w' g ∧ w.grownBy w' (some g) := by
  have HX := Lib.hid hv
  obtain ⟨vc, vs, rfl, h1, h2, -⟩ := hv
  have ST := Lib.hid (OpInv.start #[vc, vs, .int .i64 c.threads] h)
  obtain ⟨a, cap, rfl, -⟩ := h1.len
  obtain ⟨a2, cap2, rfl, -⟩ := h2.len
  have hlt := h.lt
  clear h1 h2 h
  obtain ⟨W, hW⟩ : ∃ W, ((w.alloc (.cells #[.slice a c.caps.length cap, .slice a2 c.starts.length cap2, .int .i64 c.threads] 34)).alloc (.cells zeroOp 26)) = W := ⟨_, rfl⟩
  rw [hW] at ST
  have HW := Lib.hid hW
  clear hW
  go_enter Try.func15, Try.ntmps15
  go_wp2_with fail
  rw [show (#[.int .i64 0, .int .i64 0, .int .i64 0, .int .u64 0, .int .i64 0, .slice none 0 0, .slice none 0 0] : Array Value) = zeroOp from rfl, HW.out]
  clear HW
  refine (nextE g 20 _ ST.out.codes (by omega) (by omega)).mono ?_; rintro e w1 ⟨k, rfl, hk0, hk1, hc1, hg1⟩
  have hI1 := Lib.hid (ST.out.next hc1 hg1)
  clear hc1 hg1 ST
  obtain ⟨b0, b1, b2⟩ := row3 hI1.out.box
  have CHA := Lib.hid fun w' h h2 => channelE g (.agg #[.slice a c.caps.length cap, .slice a2 c.starts.length cap2, .int .i64 c.threads]) c w' h h2 hc
  rcases (show k < 7 ∨ (¬ k < 7 ∧ k < 14) ∨ (¬ k < 7 ∧ ¬ k < 14 ∧ k < 17) ∨ k = 17 ∨ k = 18 ∨ k = 19 by omega) with h | ⟨h, h'⟩ | ⟨h, h', h''⟩ | rfl | rfl | rfl
  · skip
    go_wp2_with fail
    refine (CHA.out _ hI1.out.codes (HX.out.grown hI1.out.grown)).mono ?_; rintro e w2 ⟨z, rfl, hz0, hz1, hc2, hg2⟩
    have hI2 := Lib.hid (hI1.out.next hc2 hg2)
    clear hc2 hg2
    obtain ⟨b0, b1, b2⟩ := row3 hI2.out.box
    go_wp2_with fail
    refine (valueE g _ hI2.out.codes).mono ?_; rintro e w3 ⟨val, rfl, hval, hc3, hg3⟩
    have hI3 := Lib.hid (hI2.out.next hc3 hg3)
    have HVL := Lib.hid hval
    clear hval hc3 hg3
    go_wp2_with fail
    refine (modeE g 1 0 z val 0 (.slice none 0 0) (.slice none 0 0) [] [] _ hI3.out.codes (SlC.nil _) (SlI.nil _ _)).mono ?_; rintro e w4 ⟨m, d, rfl, hmd, hc4, hg4⟩
    have hI4 := Lib.hid (hI3.out.next hc4 hg4)
    have HMD := Lib.hid hmd
    clear hmd hc4 hg4
    go_wp2_with (refine wpList_store_row rfl 26 _ _ rfl (w.heap.size + 1) _ rfl rfl 26 zeroOp hI4.out.res (by kernel_rfl) rfl (all7 rfl rfl) ?_)
    refine bodyPost_ret (v := .agg #[.int .i64 1, .int .i64 m, .int .i64 z, .int .u64 val, .int .i64 d, .slice none 0 0, .slice none 0 0]) (results_cell_row Try.results15 _ _ (w.heap.size + 1) 26 _ (0, 0) _ rfl (setRow_heap _ _ _ _ 26 (0, 0) hI4.out.res) Try.underlying26 rfl (by kernel_rfl)) rfl ?_
    obtain ⟨f2, f3⟩ := hI4.out.fin #[.int .i64 1, .int .i64 m, .int .i64 z, .int .u64 val, .int .i64 d, .slice none 0 0, .slice none 0 0]
    exact ⟨_, _, rfl, OpN.bare _ _ 1 m z val d, good_one 1 m z val d (by omega) (by omega) (HMD.out.imp id fun h => ⟨by omega, h⟩) ⟨hz0, hz1⟩ (HVL.out) (.inl rfl), f2, f3⟩
  · skip
    go_wp2_with fail
    refine (CHA.out _ hI1.out.codes (HX.out.grown hI1.out.grown)).mono ?_; rintro e w2 ⟨z, rfl, hz0, hz1, hc2, hg2⟩
    have hI2 := Lib.hid (hI1.out.next hc2 hg2)
    clear hc2 hg2
    obtain ⟨b0, b1, b2⟩ := row3 hI2.out.box
    go_wp2_with fail
    refine (modeE g 2 0 z 0 0 (.slice none 0 0) (.slice none 0 0) [] [] _ hI2.out.codes (SlC.nil _) (SlI.nil _ _)).mono ?_; rintro e w4 ⟨m, d, rfl, hmd, hc4, hg4⟩
    have hI4 := Lib.hid (hI2.out.next hc4 hg4)
    have HMD := Lib.hid hmd
    clear hmd hc4 hg4
    go_wp2_with (refine wpList_store_row rfl 26 _ _ rfl (w.heap.size + 1) _ rfl rfl 26 zeroOp hI4.out.res (by kernel_rfl) rfl (all7 rfl rfl) ?_)
    refine bodyPost_ret (v := .agg #[.int .i64 2, .int .i64 m, .int .i64 z, .int .u64 0, .int .i64 d, .slice none 0 0, .slice none 0 0]) (results_cell_row Try.results15 _ _ (w.heap.size + 1) 26 _ (0, 0) _ rfl (setRow_heap _ _ _ _ 26 (0, 0) hI4.out.res) Try.underlying26 rfl (by kernel_rfl)) rfl ?_
    obtain ⟨f2, f3⟩ := hI4.out.fin #[.int .i64 2, .int .i64 m, .int .i64 z, .int .u64 0, .int .i64 d, .slice none 0 0, .slice none 0 0]
    exact ⟨_, _, rfl, OpN.bare _ _ 2 m z 0 d, good_one 2 m z 0 d (by omega) (by omega) (HMD.out.imp id fun h => ⟨by omega, h⟩) ⟨hz0, hz1⟩ (u64_ok 0 (by omega) (by omega)) (.inr rfl), f2, f3⟩
  · go_wp2_with fail
    refine (selectE g 4 _ c _ hI1.out.codes (HX.out.grown hI1.out.grown) hc (by omega)).mono ?_; rintro e w2 ⟨u, op, rfl, ho, hgood, hc2, hg2⟩
    have hI2 := Lib.hid (hI1.out.next hc2 hg2)
    have HO := Lib.hid ho
    have HGD := Lib.hid hgood
    obtain ⟨vc2, vd2, rfl, hsc, hsd, -⟩ := ho
    obtain ⟨a7, c7, rfl⟩ := hsc.len
    obtain ⟨a8, c8, rfl, -⟩ := hsd.len
    have hz1 := hI1.out.size
    clear hsc hsd hgood hc2 hg2
    go_wp2_with (refine wpList_store_row rfl 26 _ _ rfl (w.heap.size + 1) _ rfl rfl 26 zeroOp hI2.out.res (by kernel_rfl) rfl (all7 rfl rfl) ?_)
    refine bodyPost_ret (v := .agg #[.int .i64 op.kind, .int .i64 op.mode, .int .i64 op.chan, .int .u64 op.val, .int .i64 op.dl, .slice a7 op.cases.length c7, .slice a8 op.draws.length c8]) (results_cell_row Try.results15 _ _ (w.heap.size + 1) 26 _ (0, 0) _ rfl (setRow_heap _ _ _ _ 26 (0, 0) hI2.out.res) Try.underlying26 rfl (by kernel_rfl)) rfl ?_
    obtain ⟨f2, f3⟩ := hI2.out.fin #[.int .i64 op.kind, .int .i64 op.mode, .int .i64 op.chan, .int .u64 op.val, .int .i64 op.dl, .slice a7 op.cases.length c7, .slice a8 op.draws.length c8]
    exact ⟨_, op, rfl, (HO.out.grown (grownBy_setRow w2 (w.heap.size + 1) _) (by omega)).mono (by omega), HGD.out, f2, f3⟩
  · skip
    go_wp2_with fail
    refine (CHA.out _ hI1.out.codes (HX.out.grown hI1.out.grown)).mono ?_; rintro e w2 ⟨z, rfl, hz0, hz1, hc2, hg2⟩
    have hI2 := Lib.hid (hI1.out.next hc2 hg2)
    clear hc2 hg2
    obtain ⟨b0, b1, b2⟩ := row3 hI2.out.box
    go_wp2_with (refine wpList_store_row rfl 26 _ _ rfl (w.heap.size + 1) _ rfl rfl 26 zeroOp hI2.out.res (by kernel_rfl) rfl (all7 rfl rfl) ?_)
    refine bodyPost_ret (v := .agg #[.int .i64 3, .int .i64 0, .int .i64 z, .int .u64 0, .int .i64 0, .slice none 0 0, .slice none 0 0]) (results_cell_row Try.results15 _ _ (w.heap.size + 1) 26 _ (0, 0) _ rfl (setRow_heap _ _ _ _ 26 (0, 0) hI2.out.res) Try.underlying26 rfl (by kernel_rfl)) rfl ?_
    obtain ⟨f2, f3⟩ := hI2.out.fin #[.int .i64 3, .int .i64 0, .int .i64 z, .int .u64 0, .int .i64 0, .slice none 0 0, .slice none 0 0]
    exact ⟨_, _, rfl, OpN.bare _ _ 3 0 z 0 0, good_one 3 0 z 0 0 (by omega) (by omega) (.inl ⟨rfl, rfl⟩) ⟨hz0, hz1⟩ (u64_ok 0 (by omega) (by omega)) (.inr rfl), f2, f3⟩
  · skip
    go_wp2_with fail
    refine (CHA.out _ hI1.out.codes (HX.out.grown hI1.out.grown)).mono ?_; rintro e w2 ⟨z, rfl, hz0, hz1, hc2, hg2⟩
    have hI2 := Lib.hid (hI1.out.next hc2 hg2)
    clear hc2 hg2
    obtain ⟨b0, b1, b2⟩ := row3 hI2.out.box
    go_wp2_with (refine wpList_store_row rfl 26 _ _ rfl (w.heap.size + 1) _ rfl rfl 26 zeroOp hI2.out.res (by kernel_rfl) rfl (all7 rfl rfl) ?_)
    refine bodyPost_ret (v := .agg #[.int .i64 5, .int .i64 0, .int .i64 z, .int .u64 0, .int .i64 0, .slice none 0 0, .slice none 0 0]) (results_cell_row Try.results15 _ _ (w.heap.size + 1) 26 _ (0, 0) _ rfl (setRow_heap _ _ _ _ 26 (0, 0) hI2.out.res) Try.underlying26 rfl (by kernel_rfl)) rfl ?_
    obtain ⟨f2, f3⟩ := hI2.out.fin #[.int .i64 5, .int .i64 0, .int .i64 z, .int .u64 0, .int .i64 0, .slice none 0 0, .slice none 0 0]
    exact ⟨_, _, rfl, OpN.bare _ _ 5 0 z 0 0, good_one 5 0 z 0 0 (by omega) (by omega) (.inl ⟨rfl, rfl⟩) ⟨hz0, hz1⟩ (u64_ok 0 (by omega) (by omega)) (.inr rfl), f2, f3⟩
  · skip
    go_wp2_with fail
    refine (CHA.out _ hI1.out.codes (HX.out.grown hI1.out.grown)).mono ?_; rintro e w2 ⟨z, rfl, hz0, hz1, hc2, hg2⟩
    have hI2 := Lib.hid (hI1.out.next hc2 hg2)
    clear hc2 hg2
    obtain ⟨b0, b1, b2⟩ := row3 hI2.out.box
    go_wp2_with (refine wpList_store_row rfl 26 _ _ rfl (w.heap.size + 1) _ rfl rfl 26 zeroOp hI2.out.res (by kernel_rfl) rfl (all7 rfl rfl) ?_)
    refine bodyPost_ret (v := .agg #[.int .i64 6, .int .i64 0, .int .i64 z, .int .u64 0, .int .i64 0, .slice none 0 0, .slice none 0 0]) (results_cell_row Try.results15 _ _ (w.heap.size + 1) 26 _ (0, 0) _ rfl (setRow_heap _ _ _ _ 26 (0, 0) hI2.out.res) Try.underlying26 rfl (by kernel_rfl)) rfl ?_
    obtain ⟨f2, f3⟩ := hI2.out.fin #[.int .i64 6, .int .i64 0, .int .i64 z, .int .u64 0, .int .i64 0, .slice none 0 0, .slice none 0 0]
    exact ⟨_, _, rfl, OpN.bare _ _ 6 0 z 0 0, good_one 6 0 z 0 0 (by omega) (by omega) (.inl ⟨rfl, rfl⟩) ⟨hz0, hz1⟩ (u64_ok 0 (by omega) (by omega)) (.inr rfl), f2, f3⟩
end Go.Proofs.Ytkciejealeinoaa
