import Derived.Shelf.RegionOpenPlain
import Derived.Lib.SliceRun
import Derived.Deep.LoopGhost
import Derived.Deep.QuietTactic
import Derived.BigQuiet
import Derived.RegionTactic
import Derived.Deep.DeepCutAuto
import Derived.BigRegion
import Derived.Test.YtnbehigjeopniaaB11
import Derived.Test.YtnbehigjeopniaaB05
import Derived.Test.YtnbehigjeopniaaB03
set_option linter.unusedVariables false
set_option linter.unusedSimpArgs false
/- The reader of choices: numbers at limits, operations. -/
namespace Go.Proofs.Ytnbehigjeopniaa
open Go.ChangeShapes Go.WideShapes Go.ChangeAt Go.RowKit
set_option maxRecDepth 100000

/-- while an operation is made: the reader, the configuration's box, the result's block -/
structure OpInv (w0 w : World) (g : Nat) (cc : Array Value) : Prop where
  lt : g < w0.heap.size
  size : w0.heap.size + 2 ≤ w.heap.size
  codes : CodesE w g
  grown : w0.grownBy w (some g)
  box : w.heap[w0.heap.size]? = some (.cells cc 60 (0, 0))
  res : w.heap[w0.heap.size + 1]? = some (.cells zeroOp 54 (0, 0))
theorem OpInv.next {w0 w w' : World} {g : Nat} {cc : Array Value} (h : OpInv w0 w g cc) (hc : CodesE w' g) (hg : w.grownBy w' (some g)) : OpInv w0 w' g cc := by
  have hs := h.size
  have hl := h.lt
  exact ⟨hl, Nat.le_trans hs hg.size, hc, grownBy_trans h.grown hg, (hg.block _ (by omega) (by simp; omega)).trans h.box, (hg.block _ (by omega) (by simp; omega)).trans h.res⟩
theorem OpInv.start {w : World} {g : Nat} (cc : Array Value) (h : CodesE w g) : OpInv w ((w.alloc (.cells cc 60)).alloc (.cells zeroOp 54)) g cc := by
  have hb := below_new (below_new (Below.refl w.heap.size w) (.cells cc 60)) (.cells zeroOp 54)
  exact ⟨h.lt, by simp, h.kept h.lt hb, grown_of_below hb, heap_alloc2_old _ _ _, heap_alloc2_new _ _ _⟩
theorem OpInv.fin {w0 w : World} {g : Nat} {cc : Array Value} (h : OpInv w0 w g cc) (cells : Array Value) : CodesE (w.setRow (w0.heap.size + 1) cells) g ∧ w0.grownBy (w.setRow (w0.heap.size + 1) cells) (some g) :=
  ⟨h.codes.kept (B := w0.heap.size) h.lt (below_setRow (Below.refl _ w) (by omega) cells), grownBy_of_new h.grown (grownBy_setRow w _ cells) (fun k hk => by cases hk; omega)⟩
theorem OpN.bare (w : World) (B : Nat) (kd m ch vl d : Int) : OpN w B (.agg #[.int .i64 kd, .int .i64 m, .int .i64 ch, .int .u64 vl, .int .i64 d, .slice none 0 0, .slice none 0 0]) ⟨kd, m, ch, vl, d, [], []⟩ :=
  ⟨_, _, rfl, SlC.nil _, SlI.nil _ _, newB.nil _, newB.nil _⟩
set_option maxRecDepth 100000 in
set_option maxHeartbeats 4000000 in
theorem opE (g : Nat) (v : Value) (c : ConfM) (w : World) (h : CodesE w g) (hv : ConfX w g v c) (hc : c.caps.length ≤ 8) :
    Calls Try.prog 36 #[.pointer (some ⟨g, 0, none⟩), v] w fun e w' => ∃ u op, e = .returned u ∧ OpN w' w.heap.size u op ∧ op.good ∧ CodesE w' g ∧ w.grownBy w' (some g) := by
  have HX := Lib.hid hv
  obtain ⟨vc, vs, rfl, h1, h2, -⟩ := hv
  have ST := Lib.hid (OpInv.start #[vc, vs, .int .i64 c.threads] h)
  obtain ⟨a, cap, rfl, -⟩ := h1.len
  obtain ⟨a2, cap2, rfl, -⟩ := h2.len
  have hlt := h.lt
  clear h1 h2 h
  obtain ⟨W, hW⟩ : ∃ W, ((w.alloc (.cells #[.slice a c.caps.length cap, .slice a2 c.starts.length cap2, .int .i64 c.threads] 60)).alloc (.cells zeroOp 54)) = W := ⟨_, rfl⟩
  rw [hW] at ST
  have HW := Lib.hid hW
  clear hW
  go_enter Try.func36, Try.ntmps36
  go_wp2_with fail
  rw [show (#[.int .i64 0, .int .i64 0, .int .i64 0, .int .u64 0, .int .i64 0, .slice none 0 0, .slice none 0 0] : Array Value) = zeroOp from rfl, HW.out]
  clear HW
  refine (nextE g 20 _ ST.out.codes (by omega) (by omega)).mono ?_; rintro e w1 ⟨k, rfl, hk0, hk1, hc1, hg1⟩
  have hI1 := Lib.hid (ST.out.next hc1 hg1)
  clear hc1 hg1 ST
  obtain ⟨b0, b1, b2⟩ := row3 hI1.out.box
  have CHA := Lib.hid fun w' h h2 => channelE g (.agg #[.slice a c.caps.length cap, .slice a2 c.starts.length cap2, .int .i64 c.threads]) c w' h h2 hc
  rcases (show k < 7 ∨ (¬ k < 7 ∧ k < 14) ∨ (¬ k < 7 ∧ ¬ k < 14 ∧ k < 17) ∨ k = 17 ∨ k = 18 ∨ k = 19 by omega) with h | ⟨h, h'⟩ | ⟨h, h', h''⟩ | rfl | rfl | rfl
  · skip
    go_wp2_with fail
    refine (CHA.out _ hI1.out.codes (HX.out.grown hI1.out.grown)).mono ?_; rintro e w2 ⟨z, rfl, hz0, hz1, hc2, hg2⟩
    have hI2 := Lib.hid (hI1.out.next hc2 hg2)
    clear hc2 hg2
    obtain ⟨b0, b1, b2⟩ := row3 hI2.out.box
    go_wp2_with fail
    refine (valueE g _ hI2.out.codes).mono ?_; rintro e w3 ⟨val, rfl, hval, hc3, hg3⟩
    have hI3 := Lib.hid (hI2.out.next hc3 hg3)
    have HVL := Lib.hid hval
    clear hval hc3 hg3
    go_wp2_with fail
    refine (modeE g 1 0 z val 0 (.slice none 0 0) (.slice none 0 0) [] [] _ hI3.out.codes (SlC.nil _) (SlI.nil _ _)).mono ?_; rintro e w4 ⟨m, d, rfl, hmd, hc4, hg4⟩
    have hI4 := Lib.hid (hI3.out.next hc4 hg4)
    have HMD := Lib.hid hmd
    clear hmd hc4 hg4
    go_wp2_with (refine wpList_store_row rfl 54 _ _ rfl (w.heap.size + 1) _ rfl rfl 54 zeroOp hI4.out.res (by kernel_rfl) rfl (all7 rfl rfl) ?_)
    refine bodyPost_ret (v := .agg #[.int .i64 1, .int .i64 m, .int .i64 z, .int .u64 val, .int .i64 d, .slice none 0 0, .slice none 0 0]) (results_cell_row Try.results36 _ _ (w.heap.size + 1) 54 _ (0, 0) _ rfl (setRow_heap _ _ _ _ 54 (0, 0) hI4.out.res) Try.underlying54 rfl (by kernel_rfl)) rfl ?_
    obtain ⟨f2, f3⟩ := hI4.out.fin #[.int .i64 1, .int .i64 m, .int .i64 z, .int .u64 val, .int .i64 d, .slice none 0 0, .slice none 0 0]
    exact ⟨_, _, rfl, OpN.bare _ _ 1 m z val d, good_one 1 m z val d (by omega) (by omega) (HMD.out.imp id fun h => ⟨by omega, h⟩) ⟨hz0, hz1⟩ (HVL.out) (.inl rfl), f2, f3⟩
  · skip
    go_wp2_with fail
    refine (CHA.out _ hI1.out.codes (HX.out.grown hI1.out.grown)).mono ?_; rintro e w2 ⟨z, rfl, hz0, hz1, hc2, hg2⟩
    have hI2 := Lib.hid (hI1.out.next hc2 hg2)
    clear hc2 hg2
    obtain ⟨b0, b1, b2⟩ := row3 hI2.out.box
    go_wp2_with fail
    refine (modeE g 2 0 z 0 0 (.slice none 0 0) (.slice none 0 0) [] [] _ hI2.out.codes (SlC.nil _) (SlI.nil _ _)).mono ?_; rintro e w4 ⟨m, d, rfl, hmd, hc4, hg4⟩
    have hI4 := Lib.hid (hI2.out.next hc4 hg4)
    have HMD := Lib.hid hmd
    clear hmd hc4 hg4
    go_wp2_with (refine wpList_store_row rfl 54 _ _ rfl (w.heap.size + 1) _ rfl rfl 54 zeroOp hI4.out.res (by kernel_rfl) rfl (all7 rfl rfl) ?_)
    refine bodyPost_ret (v := .agg #[.int .i64 2, .int .i64 m, .int .i64 z, .int .u64 0, .int .i64 d, .slice none 0 0, .slice none 0 0]) (results_cell_row Try.results36 _ _ (w.heap.size + 1) 54 _ (0, 0) _ rfl (setRow_heap _ _ _ _ 54 (0, 0) hI4.out.res) Try.underlying54 rfl (by kernel_rfl)) rfl ?_
    obtain ⟨f2, f3⟩ := hI4.out.fin #[.int .i64 2, .int .i64 m, .int .i64 z, .int .u64 0, .int .i64 d, .slice none 0 0, .slice none 0 0]
    exact ⟨_, _, rfl, OpN.bare _ _ 2 m z 0 d, good_one 2 m z 0 d (by omega) (by omega) (HMD.out.imp id fun h => ⟨by omega, h⟩) ⟨hz0, hz1⟩ (u64_ok 0 (by omega) (by omega)) (.inr rfl), f2, f3⟩
  · go_wp2_with fail
    refine (selectE g 4 _ c _ hI1.out.codes (HX.out.grown hI1.out.grown) hc (by omega)).mono ?_; rintro e w2 ⟨u, op, rfl, ho, hgood, hc2, hg2⟩
    have hI2 := Lib.hid (hI1.out.next hc2 hg2)
    have HO := Lib.hid ho
    have HGD := Lib.hid hgood
    obtain ⟨vc2, vd2, rfl, hsc, hsd, -⟩ := ho
    obtain ⟨a7, c7, rfl⟩ := hsc.len
    obtain ⟨a8, c8, rfl, -⟩ := hsd.len
    have hz1 := hI1.out.size
    clear hsc hsd hgood hc2 hg2
    go_wp2_with (refine wpList_store_row rfl 54 _ _ rfl (w.heap.size + 1) _ rfl rfl 54 zeroOp hI2.out.res (by kernel_rfl) rfl (all7 rfl rfl) ?_)
    refine bodyPost_ret (v := .agg #[.int .i64 op.kind, .int .i64 op.mode, .int .i64 op.chan, .int .u64 op.val, .int .i64 op.dl, .slice a7 op.cases.length c7, .slice a8 op.draws.length c8]) (results_cell_row Try.results36 _ _ (w.heap.size + 1) 54 _ (0, 0) _ rfl (setRow_heap _ _ _ _ 54 (0, 0) hI2.out.res) Try.underlying54 rfl (by kernel_rfl)) rfl ?_
    obtain ⟨f2, f3⟩ := hI2.out.fin #[.int .i64 op.kind, .int .i64 op.mode, .int .i64 op.chan, .int .u64 op.val, .int .i64 op.dl, .slice a7 op.cases.length c7, .slice a8 op.draws.length c8]
    exact ⟨_, op, rfl, (HO.out.grown (grownBy_setRow w2 (w.heap.size + 1) _) (by omega)).mono (by omega), HGD.out, f2, f3⟩
  · skip
    go_wp2_with fail
    refine (CHA.out _ hI1.out.codes (HX.out.grown hI1.out.grown)).mono ?_; rintro e w2 ⟨z, rfl, hz0, hz1, hc2, hg2⟩
    have hI2 := Lib.hid (hI1.out.next hc2 hg2)
    clear hc2 hg2
    obtain ⟨b0, b1, b2⟩ := row3 hI2.out.box
    go_wp2_with (refine wpList_store_row rfl 54 _ _ rfl (w.heap.size + 1) _ rfl rfl 54 zeroOp hI2.out.res (by kernel_rfl) rfl (all7 rfl rfl) ?_)
    refine bodyPost_ret (v := .agg #[.int .i64 3, .int .i64 0, .int .i64 z, .int .u64 0, .int .i64 0, .slice none 0 0, .slice none 0 0]) (results_cell_row Try.results36 _ _ (w.heap.size + 1) 54 _ (0, 0) _ rfl (setRow_heap _ _ _ _ 54 (0, 0) hI2.out.res) Try.underlying54 rfl (by kernel_rfl)) rfl ?_
    obtain ⟨f2, f3⟩ := hI2.out.fin #[.int .i64 3, .int .i64 0, .int .i64 z, .int .u64 0, .int .i64 0, .slice none 0 0, .slice none 0 0]
    exact ⟨_, _, rfl, OpN.bare _ _ 3 0 z 0 0, good_one 3 0 z 0 0 (by omega) (by omega) (.inl ⟨rfl, rfl⟩) ⟨hz0, hz1⟩ (u64_ok 0 (by omega) (by omega)) (.inr rfl), f2, f3⟩
  · skip
    go_wp2_with fail
    refine (CHA.out _ hI1.out.codes (HX.out.grown hI1.out.grown)).mono ?_; rintro e w2 ⟨z, rfl, hz0, hz1, hc2, hg2⟩
    have hI2 := Lib.hid (hI1.out.next hc2 hg2)
    clear hc2 hg2
    obtain ⟨b0, b1, b2⟩ := row3 hI2.out.box
    go_wp2_with (refine wpList_store_row rfl 54 _ _ rfl (w.heap.size + 1) _ rfl rfl 54 zeroOp hI2.out.res (by kernel_rfl) rfl (all7 rfl rfl) ?_)
    refine bodyPost_ret (v := .agg #[.int .i64 5, .int .i64 0, .int .i64 z, .int .u64 0, .int .i64 0, .slice none 0 0, .slice none 0 0]) (results_cell_row Try.results36 _ _ (w.heap.size + 1) 54 _ (0, 0) _ rfl (setRow_heap _ _ _ _ 54 (0, 0) hI2.out.res) Try.underlying54 rfl (by kernel_rfl)) rfl ?_
    obtain ⟨f2, f3⟩ := hI2.out.fin #[.int .i64 5, .int .i64 0, .int .i64 z, .int .u64 0, .int .i64 0, .slice none 0 0, .slice none 0 0]
    exact ⟨_, _, rfl, OpN.bare _ _ 5 0 z 0 0, good_one 5 0 z 0 0 (by omega) (by omega) (.inl ⟨rfl, rfl⟩) ⟨hz0, hz1⟩ (u64_ok 0 (by omega) (by omega)) (.inr rfl), f2, f3⟩
  · skip
    go_wp2_with fail
    refine (CHA.out _ hI1.out.codes (HX.out.grown hI1.out.grown)).mono ?_; rintro e w2 ⟨z, rfl, hz0, hz1, hc2, hg2⟩
    have hI2 := Lib.hid (hI1.out.next hc2 hg2)
    clear hc2 hg2
    obtain ⟨b0, b1, b2⟩ := row3 hI2.out.box
    go_wp2_with (refine wpList_store_row rfl 54 _ _ rfl (w.heap.size + 1) _ rfl rfl 54 zeroOp hI2.out.res (by kernel_rfl) rfl (all7 rfl rfl) ?_)
    refine bodyPost_ret (v := .agg #[.int .i64 6, .int .i64 0, .int .i64 z, .int .u64 0, .int .i64 0, .slice none 0 0, .slice none 0 0]) (results_cell_row Try.results36 _ _ (w.heap.size + 1) 54 _ (0, 0) _ rfl (setRow_heap _ _ _ _ 54 (0, 0) hI2.out.res) Try.underlying54 rfl (by kernel_rfl)) rfl ?_
    obtain ⟨f2, f3⟩ := hI2.out.fin #[.int .i64 6, .int .i64 0, .int .i64 z, .int .u64 0, .int .i64 0, .slice none 0 0, .slice none 0 0]
    exact ⟨_, _, rfl, OpN.bare _ _ 6 0 z 0 0, good_one 6 0 z 0 0 (by omega) (by omega) (.inl ⟨rfl, rfl⟩) ⟨hz0, hz1⟩ (u64_ok 0 (by omega) (by omega)) (.inr rfl), f2, f3⟩
end Go.Proofs.Ytnbehigjeopniaa
/- The library's small functions on slices: Clone, Grow of nil, Concat, Index. -/
namespace Go.Proofs.Ytnbehigjeopniaa
open Go.ChangeShapes Go.WideShapes Go.ChangeAt Go.RowKit
set_option maxRecDepth 100000

theorem SlI.nil_of {w : World} {k : IntKind} {n c : Nat} {l : List Int} (h : SlI w k (.slice none n c) l) : l = [] := by
  obtain ⟨_, _, a', cap', e, _, h5⟩ := h
  simp only [Value.slice.injEq] at e
  rcases Nat.eq_zero_or_pos l.length with h0 | h0
  · exact List.length_eq_zero_iff.1 h0
  · obtain ⟨b, off, e2, _⟩ := h5 0 h0
    rw [← e.1] at e2; cases e2
theorem SlL.nil_of {w : World} {n c : Nat} {us : List Value} {l : List (List Int)} (h : SlL w (.slice none n c) us l) : l = [] := by
  obtain ⟨_, _, a', cap', e, _, h5⟩ := h
  simp only [Value.slice.injEq] at e
  rcases Nat.eq_zero_or_pos l.length with h0 | h0
  · exact List.length_eq_zero_iff.1 h0
  · obtain ⟨b, off, e2, _⟩ := h5 0 h0
    rw [← e.1] at e2; cases e2
/-- x first lies at i -/
structure FstL (l : List Int) (x : Int) (i : Nat) : Prop where
  lt : i < l.length
  hit : l.getD i 0 = x
  miss : ∀ j, j < i → l.getD j 0 ≠ x
theorem erase_none (l : List Int) (x : Int) (h : ∀ j, j < l.length → l.getD j 0 ≠ x) : l.erase x = l := by
  refine List.erase_of_not_mem fun hm => ?_
  obtain ⟨j, hj, e⟩ := List.mem_iff_getElem.1 hm
  exact h j hj (by simpa [List.getD_eq_getElem?_getD, hj] using e)
theorem FstL.erase {l : List Int} {x : Int} {i : Nat} (h : FstL l x i) : l.erase x = l.take i ++ l.drop (i + 1) := by
  induction l generalizing i with
  | nil => exact absurd h.lt (by simp)
  | cons y l ih =>
    cases i with
    | zero =>
      have e : y = x := by simpa using h.hit
      subst e
      simp
    | succ i =>
      have e : y ≠ x := by simpa using h.miss 0 (Nat.succ_pos _)
      have hi : FstL l x i := ⟨by simpa using h.lt, by simpa using h.hit, fun j hj => by simpa using h.miss (j + 1) (by omega)⟩
      rw [List.erase_cons_tail (by simpa using e), ih hi]
      simp
end Go.Proofs.Ytnbehigjeopniaa
/- What the program makes of a memory: words, lists, time. -/
namespace Go.Proofs.Ytnbehigjeopniaa
open Go.ChangeShapes Go.WideShapes Go.ChangeAt Go.RowKit
set_option maxRecDepth 100000

def zeroMem : Array Value := #[.slice none 0 0, .slice none 0 0, .int .i64 0]
end Go.Proofs.Ytnbehigjeopniaa
/- What the program makes of a memory by an access to a word or to a list. -/
namespace Go.Proofs.Ytnbehigjeopniaa
open Go.ChangeShapes Go.WideShapes Go.ChangeAt Go.RowKit
set_option maxRecDepth 100000

theorem ne_beq {x c : Int} (h : x ≠ c) : (x == c) = false := by simpa using h
theorem hasB_true {n : Nat} {x : Int} (h : hasB n x = true) : ∃ i : Nat, x = i ∧ i < n := by
  simp only [hasB, Bool.and_eq_true, decide_eq_true_eq] at h
  exact ⟨x.toNat, by omega, by omega⟩
theorem results_cells2 {fn : Func} {P : Program} {p q : Tmp} {t1 t2 : TypeId} (h : fn.results = #[.cell p t1, .cell q t2]) (tmps : Array Value) (w : World) (g1 g2 : Nat) (u1 u2 : TypeId) (c1 c2 : Array Value) (f1 f2 : Nat × Nat) (d1 d2 : TypeDesc)
    (hp : tmps.getD p undef = .pointer (some ⟨g1, 0, none⟩)) (hq : tmps.getD q undef = .pointer (some ⟨g2, 0, none⟩)) (hg1 : w.heap[g1]? = some (.cells c1 u1 f1)) (hg2 : w.heap[g2]? = some (.cells c2 u2 f2))
    (hu1 : P.underlying t1 = some d1) (hd1 : (match d1 with | .struct _ | .array _ _ => true | _ => false) = true) (hi1 : (P.info? t1).map (·.size) = some c1.size)
    (hu2 : P.underlying t2 = some d2) (hd2 : (match d2 with | .struct _ | .array _ _ => true | _ => false) = true) (hi2 : (P.info? t2).map (·.size) = some c2.size) :
    (results fn tmps).run P w = .ok (.tuple #[.agg c1, .agg c2]) w := by
  have hp' : tmps[p]?.getD undef = .pointer (some ⟨g1, 0, none⟩) := by simpa using hp
  have hq' : tmps[q]?.getD undef = .pointer (some ⟨g2, 0, none⟩) := by simpa using hq
  simp [results, h, hp', hq', asAddr, run_loadVar_row w g1 u1 t1 c1 f1 d1 hg1 hu1 hd1 hi1, run_loadVar_row w g2 u2 t2 c2 f2 d2 hg2 hu2 hd2 hi2]
theorem results_cells3 {fn : Func} {P : Program} {p q u : Tmp} {t1 t2 : TypeId} (h : fn.results = #[.cell p t1, .cell q t2, .tmp u]) (tmps : Array Value) (w : World) (g1 g2 : Nat) (u1 u2 : TypeId) (c1 c2 : Array Value) (f1 f2 : Nat × Nat) (d1 d2 : TypeDesc)
    (hp : tmps.getD p undef = .pointer (some ⟨g1, 0, none⟩)) (hq : tmps.getD q undef = .pointer (some ⟨g2, 0, none⟩)) (hg1 : w.heap[g1]? = some (.cells c1 u1 f1)) (hg2 : w.heap[g2]? = some (.cells c2 u2 f2))
    (hu1 : P.underlying t1 = some d1) (hd1 : (match d1 with | .struct _ | .array _ _ => true | _ => false) = true) (hi1 : (P.info? t1).map (·.size) = some c1.size)
    (hu2 : P.underlying t2 = some d2) (hd2 : (match d2 with | .struct _ | .array _ _ => true | _ => false) = true) (hi2 : (P.info? t2).map (·.size) = some c2.size) (x : Value) (hx : tmps.getD u undef = x) :
    (results fn tmps).run P w = .ok (.tuple #[.agg c1, .agg c2, x]) w := by
  have hp' : tmps[p]?.getD undef = .pointer (some ⟨g1, 0, none⟩) := by simpa using hp
  have hq' : tmps[q]?.getD undef = .pointer (some ⟨g2, 0, none⟩) := by simpa using hq
  have hx' : tmps[u]?.getD undef = x := by simpa using hx
  simp [results, h, hp', hq', hx', asAddr, run_loadVar_row w g1 u1 t1 c1 f1 d1 hg1 hu1 hd1 hi1, run_loadVar_row w g2 u2 t2 c2 f2 d2 hg2 hu2 hd2 hi2]
theorem heap_alloc4 (w : World) (A B C D : Obj) : let W := (((w.alloc A).alloc B).alloc C).alloc D
    W.heap[w.heap.size]? = some A ∧ W.heap[w.heap.size + 1]? = some B ∧ W.heap[w.heap.size + 2]? = some C ∧ W.heap[w.heap.size + 3]? = some D ∧ W.heap.size = w.heap.size + 4 ∧ Below w.heap.size w W := by
  intro W
  have hs : ((w.alloc A).alloc B).heap.size = w.heap.size + 2 := by simp
  have hb := below_new (below_new (Below.refl ((w.alloc A).alloc B).heap.size ((w.alloc A).alloc B)) C) D
  have e2 := heap_alloc2_old ((w.alloc A).alloc B) C D
  have e3 := heap_alloc2_new ((w.alloc A).alloc B) C D
  rw [hs] at e2 e3 hb
  exact ⟨(hb.block _ (by omega)).trans (heap_alloc2_old w A B), (hb.block _ (by omega)).trans (heap_alloc2_new w A B), e2, e3, by simp [W], below_new (below_new (below_new (below_new (Below.refl _ _) _) _) _) _⟩
theorem store3 {w : World} {g : Nat} {T : TypeId} {v0 v1 v2 : Value} (h : w.heap[g]? = some (.cells #[v0, v1, v2] T (0, 0))) (u0 u1 u2 : Value) :
    (((w.setCell ⟨g, 0, none⟩ u0).setCell ⟨g, 1, none⟩ u1).setCell ⟨g, 2, none⟩ u2).heap[g]? = some (.cells #[u0, u1, u2] T (0, 0)) := by
  have h1 := heap_setCell_same w g 0 _ _ u0 h
  have h2 := heap_setCell_same _ g 1 _ _ u1 h1
  have h3 := heap_setCell_same _ g 2 _ _ u2 h2
  simpa using h3
theorem store4 {w : World} {g : Nat} {T : TypeId} {v0 v1 v2 v3 : Value} (h : w.heap[g]? = some (.cells #[v0, v1, v2, v3] T (0, 0))) (u0 u1 u2 u3 : Value) :
    ((((w.setCell ⟨g, 0, none⟩ u0).setCell ⟨g, 1, none⟩ u1).setCell ⟨g, 2, none⟩ u2).setCell ⟨g, 3, none⟩ u3).heap[g]? = some (.cells #[u0, u1, u2, u3] T (0, 0)) := by
  have h1 := heap_setCell_same w g 0 _ _ u0 h
  have h2 := heap_setCell_same _ g 1 _ _ u1 h1
  have h3 := heap_setCell_same _ g 2 _ _ u2 h2
  have h4 := heap_setCell_same _ g 3 _ _ u3 h3
  simpa using h4
/-- seven stores into two rows -/
def put34 (w : World) (g : Nat) (u0 u1 u2 r0 r1 r2 r3 : Value) : World :=
  (((((((w.setCell ⟨g, 0, none⟩ u0).setCell ⟨g, 1, none⟩ u1).setCell ⟨g, 2, none⟩ u2).setCell ⟨g + 1, 0, none⟩ r0).setCell ⟨g + 1, 1, none⟩ r1).setCell ⟨g + 1, 2, none⟩ r2).setCell ⟨g + 1, 3, none⟩ r3).drew
theorem put34_rows {w : World} {g : Nat} {T T' : TypeId} {v0 v1 v2 q0 q1 q2 q3 : Value} (h : w.heap[g]? = some (.cells #[v0, v1, v2] T (0, 0))) (h' : w.heap[g + 1]? = some (.cells #[q0, q1, q2, q3] T' (0, 0))) (u0 u1 u2 r0 r1 r2 r3 : Value) :
    (put34 w g u0 u1 u2 r0 r1 r2 r3).heap[g]? = some (.cells #[u0, u1, u2] T (0, 0)) ∧ (put34 w g u0 u1 u2 r0 r1 r2 r3).heap[g + 1]? = some (.cells #[r0, r1, r2, r3] T' (0, 0)) := by
  have o : ∀ (x : World) (j : Nat) (u : Value), (x.setCell ⟨g, j, none⟩ u).heap[g + 1]? = x.heap[g + 1]? := fun x j u => heap_setCell_other x ⟨g, j, none⟩ (g + 1) u (by simp)
  have o' : ∀ (x : World) (j : Nat) (u : Value), (x.setCell ⟨g + 1, j, none⟩ u).heap[g]? = x.heap[g]? := fun x j u => heap_setCell_other x ⟨g + 1, j, none⟩ g u (by simp)
  unfold put34
  rw [heap_drew]
  refine ⟨?_, store4 (v0 := q0) (v1 := q1) (v2 := q2) (v3 := q3) ?_ r0 r1 r2 r3⟩
  · rw [o', o', o', o']; exact store3 h u0 u1 u2
  · rw [o, o, o]; exact h'
theorem put34_below {B : Nat} {a w : World} {g : Nat} (h : Below B a w) (hg : B ≤ g) (u0 u1 u2 r0 r1 r2 r3 : Value) : Below B a (put34 w g u0 u1 u2 r0 r1 r2 r3) := by
  unfold put34
  exact below_drewN ((((((((h.setCell (p := ⟨g, 0, none⟩) hg u0).setCell (p := ⟨g, 1, none⟩) hg u1).setCell (p := ⟨g, 2, none⟩) hg u2).setCell (p := ⟨g + 1, 0, none⟩) (Nat.le_succ_of_le hg) r0).setCell (p := ⟨g + 1, 1, none⟩) (Nat.le_succ_of_le hg) r1).setCell (p := ⟨g + 1, 2, none⟩) (Nat.le_succ_of_le hg) r2).setCell (p := ⟨g + 1, 3, none⟩) (Nat.le_succ_of_le hg) r3)) 1
def zeroAns : Array Value := #[.int .u64 0, .bool false, .bool false, .slice none 0 0]
/-- a memory and an answer are handed back -/
def PairR (G : World → Prop) (w : World) (r : MemM × AnsM) (e : Ending) (w' : World) : Prop :=
  ∃ v' b', e = .returned (.tuple #[v', b']) ∧ StM (Nx G w w') v' r.1 ∧ StA (Nx G w w') b' r.2 ∧ Below w.heap.size w w'
theorem word_none {m : MemM} {a : AccM} (h : hasB m.words.length a.addr = false) : wordE m a = (m, ansZ) := by simp [wordE, h]
theorem word_put {m : MemM} {k ad old nw til : Int} (h : hasB m.words.length ad = true) (hk : k = 2 ∨ k = 6) : wordE m ⟨k, ad, old, nw, til⟩ = (⟨m.words.set ad.toNat nw, m.lists, m.tick⟩, ansZ) := by simp [wordE, h, hk]
theorem word_cas {m : MemM} {ad old nw til : Int} (h : hasB m.words.length ad = true) (hk : m.words.getD ad.toNat 0 = old) : wordE m ⟨3, ad, old, nw, til⟩ = (⟨m.words.set ad.toNat nw, m.lists, m.tick⟩, ⟨m.words.getD ad.toNat 0, true, false, []⟩) := by unfold wordE; simp only [h]; simp only [List.getD_eq_getElem?_getD] at *; simp [hk]
theorem word_miss {m : MemM} {ad old nw til : Int} (h : hasB m.words.length ad = true) (hk : m.words.getD ad.toNat 0 ≠ old) : wordE m ⟨3, ad, old, nw, til⟩ = (m, ⟨m.words.getD ad.toNat 0, false, false, []⟩) := by unfold wordE; simp only [h]; simp only [List.getD_eq_getElem?_getD] at *; simp [hk]
theorem word_wait {m : MemM} {ad old nw til : Int} (h : hasB m.words.length ad = true) : wordE m ⟨4, ad, old, nw, til⟩ = (m, ⟨m.words.getD ad.toNat 0, false, m.words.getD ad.toNat 0 == old, []⟩) := by unfold wordE; simp [h]
theorem word_load {m : MemM} {k ad old nw til : Int} (h : hasB m.words.length ad = true) (h2 : k ≠ 2) (h3 : k ≠ 3) (h4 : k ≠ 4) (h6 : k ≠ 6) : wordE m ⟨k, ad, old, nw, til⟩ = (m, ⟨m.words.getD ad.toNat 0, false, false, []⟩) := by unfold wordE; simp [h, h2, h3, h4, h6]
/-- the memory's parts in a world -/
theorem StM.open {G : World → Prop} {v : Value} {m : MemM} (h : StM G v m) (w : World) (hG : G w) : ∃ a cap a2 cap2, v = .agg #[.slice a m.words.length cap, .slice a2 m.lists.length cap2, .int .i64 m.tick] := by
  obtain ⟨vw, vl, us, rfl, hall⟩ := h
  obtain ⟨h1, h2⟩ := hall w hG
  obtain ⟨a, cap, rfl, -⟩ := h1.len
  obtain ⟨a2, cap2, rfl, -⟩ := h2.len
  exact ⟨_, _, _, _, rfl⟩
theorem StM.words {G : World → Prop} {a a2 : Option Addr} {n cap n2 cap2 : Nat} {t : Int} {m : MemM} (h : StM G (.agg #[.slice a n cap, .slice a2 n2 cap2, .int .i64 t]) m) (w : World) (hG : G w) : SlI w .u64 (.slice a n cap) m.words := by
  obtain ⟨vw, vl, us, e, hall⟩ := h
  obtain ⟨h1, h2⟩ := hall w hG
  simp only [Value.agg.injEq, Array.mk.injEq, List.cons.injEq, and_true] at e
  rw [e.1]; exact h1
theorem StM.listsOf {G : World → Prop} {a a2 : Option Addr} {n cap n2 cap2 : Nat} {t : Int} {m : MemM} (h : StM G (.agg #[.slice a n cap, .slice a2 n2 cap2, .int .i64 t]) m) : ∃ us, ∀ w, G w → SlL w (.slice a2 n2 cap2) us m.lists := by
  obtain ⟨vw, vl, us, e, hall⟩ := h
  simp only [Value.agg.injEq, Array.mk.injEq, List.cons.injEq, and_true] at e
  exact ⟨us, fun w hG => by rw [e.2.1]; exact (hall w hG).2⟩
end Go.Proofs.Ytnbehigjeopniaa
/- Layer 4: which kinds are atomic, which write. -/
namespace Go.Proofs.Ytnbehigjeopniaa
open Go.ChangeShapes Go.WideShapes Go.ChangeAt Go.RowKit
set_option maxRecDepth 100000

def atomicB (k : Int) : Bool := decide (1 ≤ k) && decide (k ≤ 4)
def writesB (k : Int) : Bool := k == 2 || k == 3 || k == 6 || k == 8 || k == 9
end Go.Proofs.Ytnbehigjeopniaa
/- Records of accesses, plainly; the functions of one and of two records. -/
namespace Go.Proofs.Ytnbehigjeopniaa
open Go.ChangeShapes Go.WideShapes Go.ChangeAt Go.RowKit
set_option maxRecDepth 100000

structure ItemM where
  thr : Int
  acc : AccM
  val : Int
  ok : Bool
def noItem : ItemM := ⟨0, ⟨0, 0, 0, 0, 0⟩, 0, false⟩
structure ItemM.good (x : ItemM) : Prop where
  thr : x.thr = IntKind.i64.wrap x.thr
  acc : x.acc.ok
  val : x.val = IntKind.u64.wrap x.val
def itemCells (x : ItemM) : List Value := [.int .i64 x.thr, .int .i64 x.acc.kind, .int .i64 x.acc.addr, .int .u64 x.acc.old, .int .u64 x.acc.new, .int .i64 x.acc.til, .int .u64 x.val, .bool x.ok]
def itemV (x : ItemM) : Value := .agg #[.int .i64 x.thr, .int .i64 x.acc.kind, .int .i64 x.acc.addr, .int .u64 x.acc.old, .int .u64 x.acc.new, .int .i64 x.acc.til, .int .u64 x.val, .bool x.ok]
theorem rowc8 {w : World} {g : Nat} {T : TypeId} {v0 v1 v2 v3 v4 v5 v6 v7 : Value} (h : w.heap[g]? = some (.cells #[v0, v1, v2, v3, v4, v5, v6, v7] T (0, 0))) :
    w.cell? ⟨g, 0, none⟩ = some v0 ∧ w.cell? ⟨g, 1, none⟩ = some v1 ∧ w.cell? ⟨g, 2, none⟩ = some v2 ∧ w.cell? ⟨g, 3, none⟩ = some v3 ∧ w.cell? ⟨g, 4, none⟩ = some v4 ∧ w.cell? ⟨g, 5, none⟩ = some v5 ∧ w.cell? ⟨g, 6, none⟩ = some v6 ∧ w.cell? ⟨g, 7, none⟩ = some v7 :=
  ⟨cell_of_row _ _ 0 _ _ _ h, cell_of_row _ _ 1 _ _ _ h, cell_of_row _ _ 2 _ _ _ h, cell_of_row _ _ 3 _ _ _ h, cell_of_row _ _ 4 _ _ _ h, cell_of_row _ _ 5 _ _ _ h, cell_of_row _ _ 6 _ _ _ h, cell_of_row _ _ 7 _ _ _ h⟩
def zeroAccI : Array Value := #[.int .i64 0, .int .i64 0, .int .u64 0, .int .u64 0, .int .i64 0]
def placeE (x : ItemM) : Int :=
  if x.acc.addr < 0 then 1099511627776 else if 1 ≤ x.acc.kind ∧ x.acc.kind ≤ 6 then x.acc.addr else if 7 ≤ x.acc.kind ∧ x.acc.kind ≤ 9 then -1 - x.acc.addr else 1099511627776
def readsE (x : ItemM) : Bool := x.acc.kind == 1 || x.acc.kind == 3 || x.acc.kind == 4 || x.acc.kind == 5 || x.acc.kind == 7 || x.acc.kind == 8 || x.acc.kind == 9
def changesE (x : ItemM) : Bool := writesB x.acc.kind && (!(x.acc.kind == 3) || x.ok)
def plainB (k : Int) : Bool := decide (5 ≤ k) && decide (k ≤ 9)
def conflictE (x y : ItemM) : Bool := plainB x.acc.kind && plainB y.acc.kind && !(x.thr == y.thr) && (placeE x == placeE y) && (changesE x || changesE y)
theorem neg_wrap {x : Int} (h0 : ¬ x < 0) (h1 : x = IntKind.i64.wrap x) : IntKind.i64.wrap (-1 - x) = -1 - x := by rw [IntKind.wrap_i64] at *; omega
end Go.Proofs.Ytnbehigjeopniaa
