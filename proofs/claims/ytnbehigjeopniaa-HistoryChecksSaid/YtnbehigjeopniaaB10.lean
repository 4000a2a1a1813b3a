import Derived.Deep.RegionLaw
import Derived.Test.YtnbehigjeopniaaB09
import Derived.Test.YtnbehigjeopniaaB01
set_option linter.unusedVariables false
set_option linter.unusedSimpArgs false
/- The reader of choices: values, modes, numbers at limits. -/
namespace Go.Proofs.Ytnbehigjeopniaa
open Go.ChangeShapes Go.WideShapes Go.ChangeAt Go.RowKit
set_option maxRecDepth 100000

theorem grown_of_below {a b : World} {row : Option Nat} (h : Below a.heap.size a b) : a.grownBy b row := ⟨h.os, h.tape, h.output, h.size, fun j hj _ => h.block j hj⟩
theorem u64_ok (x : Int) (h0 : 0 ≤ x) (h1 : x ≤ 18446744073709551615) : x = IntKind.u64.wrap x := by
  rw [IntKind.wrap_u64]; omega
theorem value_step {w : World} {g k : Nat} {v : Value} {val x : Int} {l r : List Int} (hg : w.heap[g]? = some (.cells #[v, .int .i64 k, .int .u64 val] 70 (0, 0))) (h : CodesAt w g r val) :
    CodesAt (w.setCell ⟨g, 2, none⟩ (.int .u64 x)) g r x ∧ w.grownBy (w.setCell ⟨g, 2, none⟩ (.int .u64 x)) (some g) ∧ (w.setCell ⟨g, 2, none⟩ (.int .u64 x)).cell? ⟨g, 2, none⟩ = some (.int .u64 x) := by
  have hs := heap_setCell_same w g 2 _ _ (.int .u64 x) hg
  have hgr := grownBy_setCell w ⟨g, 2, none⟩ (.int .u64 x)
  refine ⟨?_, hgr, by simpa using cell_of_row _ g 2 _ _ _ hs⟩
  obtain ⟨v', l', k', hg', hl, hk, hr, ho⟩ := h
  rw [hg] at hg'
  simp only [Option.some.injEq, Obj.cells.injEq, Array.mk.injEq, List.cons.injEq, and_true] at hg'
  obtain ⟨rfl, hkk⟩ := hg'
  simp only [Value.int.injEq, true_and, and_true] at hkk
  obtain rfl : k = k' := by omega
  refine ⟨v, l', k, by simpa using hs, ?_, hk, hr, ho⟩
  refine hl.grown hgr fun a n c e => ?_
  subst e
  by_cases hne : l' = []
  · obtain ⟨a', cap', e, -⟩ := hl.len
    rw [hne] at e
    simp only [Value.slice.injEq] at e
    exact .inl e.2.1
  · exact .inr (by have := ho hne (some a) n c rfl a rfl; simp; omega)
theorem valueE (g : Nat) (w : World) (h : CodesE w g) :
    Calls Try.prog 41 #[.pointer (some ⟨g, 0, none⟩)] w fun e w' => ∃ x : Int, e = .returned (.int .u64 x) ∧ x = IntKind.u64.wrap x ∧ CodesE w' g ∧ w.grownBy w' (some g) := by
  obtain ⟨r, val, h⟩ := h
  obtain ⟨v, l, k, hg, -⟩ := id h
  have c2 := cell_of_row w g 2 _ _ _ hg
  have f2 := frozen_of_row w g 2 _ _ hg
  simp at c2
  have ST := Lib.hid fun x => value_step (x := x) (l := l) hg h
  obtain ⟨x, hx⟩ : ∃ x, IntKind.u64.wrap (val + 1) = x := ⟨_, rfl⟩
  obtain ⟨s1, s2, s3⟩ := ST.out x
  have HS := Lib.hid (And.intro s1 s2)
  have HX : Hid (x = IntKind.u64.wrap x) := by
    show _ = _
    rw [← hx, IntKind.wrap_u64, IntKind.wrap_u64]; omega
  clear hg h ST s1 s2
  go_enter Try.func41, Try.ntmps41
  go_wp2
  go_ret
  exact ⟨x, rfl, HX.out, ⟨r, x, HS.out.1⟩, HS.out.2⟩
theorem row7 {w : World} {g : Nat} {T : TypeId} {v0 v1 v2 v3 v4 v5 v6 : Value} (h : w.heap[g]? = some (.cells #[v0, v1, v2, v3, v4, v5, v6] T (0, 0))) :
    w.cell? ⟨g, 0, none⟩ = some v0 ∧ w.cell? ⟨g, 1, none⟩ = some v1 ∧ w.cell? ⟨g, 2, none⟩ = some v2 ∧ w.cell? ⟨g, 3, none⟩ = some v3 ∧ w.cell? ⟨g, 4, none⟩ = some v4 ∧ w.cell? ⟨g, 5, none⟩ = some v5 ∧ w.cell? ⟨g, 6, none⟩ = some v6 :=
  ⟨cell_of_row _ _ 0 _ _ _ h, cell_of_row _ _ 1 _ _ _ h, cell_of_row _ _ 2 _ _ _ h, cell_of_row _ _ 3 _ _ _ h, cell_of_row _ _ 4 _ _ _ h, cell_of_row _ _ 5 _ _ _ h, cell_of_row _ _ 6 _ _ _ h⟩
theorem row3 {w : World} {g : Nat} {T : TypeId} {v0 v1 v2 : Value} (h : w.heap[g]? = some (.cells #[v0, v1, v2] T (0, 0))) :
    w.cell? ⟨g, 0, none⟩ = some v0 ∧ w.cell? ⟨g, 1, none⟩ = some v1 ∧ w.cell? ⟨g, 2, none⟩ = some v2 :=
  ⟨cell_of_row _ _ 0 _ _ _ h, cell_of_row _ _ 1 _ _ _ h, cell_of_row _ _ 2 _ _ _ h⟩
theorem grownBy_setRow (w : World) (g : Nat) (cs : Array Value) : w.grownBy (w.setRow g cs) (some g) :=
  ⟨rfl, rfl, rfl, by simp [World.setRow], fun k _ hk => setRow_other w g k cs (fun e => hk (by rw [e]))⟩
/-- what a call leaves that has written the reader's block, and new blocks of its own -/
theorem grownBy_own {a b c : World} {g : Nat} {row : Option Nat} (h : a.grownBy b (some g)) (h2 : b.grownBy c row) (hr : ∀ k, row = some k → a.heap.size ≤ k) : a.grownBy c (some g) := grownBy_of_new h h2 hr
/-- the words of an operation as cells -/
def opCells (op : OpM) (vc vd : Value) : Array Value := #[.int .i64 op.kind, .int .i64 op.mode, .int .i64 op.chan, .int .u64 op.val, .int .i64 op.dl, vc, vd]
def zeroOp : Array Value := #[.int .i64 0, .int .i64 0, .int .i64 0, .int .u64 0, .int .i64 0, .slice none 0 0, .slice none 0 0]
/-- behind a call that wrote the reader's block, blocks of the call's own are written -/
theorem mode_end {w w1 W : World} {g : Nat} (hlt : g < w.heap.size) (hg : w.grownBy w1 (some g)) (hc : CodesE w1 g) (hb : Below w.heap.size w1 W) : CodesE W g ∧ w.grownBy W (some g) :=
  ⟨hc.kept hlt hb, ⟨hb.os.trans hg.os, hb.tape.trans hg.tape, hb.output.trans hg.output, Nat.le_trans hg.size hb.size, fun k hk hr => (hb.block k hk).trans (hg.block k hk hr)⟩⟩
set_option maxRecDepth 100000 in
set_option maxHeartbeats 1000000 in
theorem modeE (g : Nat) (kd md ch vl dl : Int) (vc vd : Value) (cs : List CaseM) (ds : List Int) (w : World) (h : CodesE w g) (hc : SlC w vc cs) (hd : SlI w .i64 vd ds) :
    Calls Try.prog 39 #[.pointer (some ⟨g, 0, none⟩), .agg #[.int .i64 kd, .int .i64 md, .int .i64 ch, .int .u64 vl, .int .i64 dl, vc, vd]] w fun e w' =>
      ∃ m d, e = .returned (.agg #[.int .i64 kd, .int .i64 m, .int .i64 ch, .int .u64 vl, .int .i64 d, vc, vd]) ∧ ((m = md ∧ d = dl) ∨ (m = 1 ∧ d = dl) ∨ (m = 2 ∧ 0 ≤ d ∧ d < 5)) ∧ CodesE w' g ∧ w.grownBy w' (some g) := by
  have hlt := h.lt
  have HC := Lib.hid h
  obtain ⟨a3, cap3, rfl⟩ := hc.len
  obtain ⟨a4, cap4, rfl, -⟩ := hd.len
  clear h hc hd
  generalize cs.length = nc at *
  generalize ds.length = nd at *
  obtain ⟨W, hW⟩ : ∃ W, (w.alloc (.cells #[.int .i64 kd, .int .i64 md, .int .i64 ch, .int .u64 vl, .int .i64 dl, .slice a3 nc cap3, .slice a4 nd cap4] 54)).alloc (.cells zeroOp 54) = W := ⟨_, rfl⟩
  have HB : Hid (Below w.heap.size w W) := hW ▸ below_new (below_new (Below.refl w.heap.size w) _) _
  have hz : w.heap.size + 2 ≤ W.heap.size := by rw [← hW]; simp
  have R0 : Hid (W.heap[w.heap.size]? = some (.cells #[.int .i64 kd, .int .i64 md, .int .i64 ch, .int .u64 vl, .int .i64 dl, .slice a3 nc cap3, .slice a4 nd cap4] 54 (0, 0))) := by
    show _ = _
    rw [← hW]; exact heap_alloc2_old _ _ _
  have R1 : Hid (W.heap[w.heap.size + 1]? = some (.cells zeroOp 54 (0, 0))) := by
    show _ = _
    rw [← hW]; exact heap_alloc2_new _ _ _
  have HCW := Lib.hid (HC.out.kept hlt HB.out)
  have HGW : Hid (w.grownBy W (some g)) := grown_of_below HB.out
  have HW := Lib.hid hW
  clear hW
  go_enter Try.func39, Try.ntmps39
  go_wp2_with fail
  rw [show (#[.int .i64 0, .int .i64 0, .int .i64 0, .int .u64 0, .int .i64 0, .slice none 0 0, .slice none 0 0] : Array Value) = zeroOp from rfl, HW.out]
  refine (nextE g 8 _ HCW.out (by omega) (by omega)).mono ?_; rintro e w1 ⟨x, rfl, hx0, hx1, hc1, hg1⟩
  have HC1 := Lib.hid hc1
  have HG1 := Lib.hid (grownBy_trans HGW.out hg1)
  have S0 := Lib.hid ((hg1.block w.heap.size (by omega) (by simp; omega)).trans R0.out)
  have S1 := Lib.hid ((hg1.block (w.heap.size + 1) (by omega) (by simp; omega)).trans R1.out)
  have hg1s : w.heap.size + 2 ≤ w1.heap.size := Nat.le_trans hz hg1.size
  clear hc1 hg1
  obtain ⟨c0, c1, c2, c3, c4, c5, c6⟩ := row7 S0.out
  have f1 := frozen_of_row _ _ 1 _ _ S0.out
  have f4 := frozen_of_row _ _ 4 _ _ S0.out
  rcases (show (x = 5 ∨ x = 6) ∨ x = 7 ∨ ((x == 5) = false ∧ (x == 6) = false ∧ (x == 7) = false) by simp; omega) with hx | rfl | ⟨x5, x6, x7⟩
  · have T0 := Lib.hid (heap_setCell_same w1 w.heap.size 1 _ _ (.int .i64 1) S0.out)
    have TROW := Lib.hid ((heap_setCell_other w1 ⟨w.heap.size, 1, none⟩ (w.heap.size + 1) (.int .i64 1) (by simp)).trans S1.out)
    have HG := HG1
    have HCC := HC1
    simp at T0
    obtain ⟨d0, d1, d2, d3, d4, d5, d6⟩ := row7 T0.out
    rcases hx with rfl | rfl
    all_goals
      go_wp2_with (refine wpList_store_row rfl 54 _ _ rfl (w.heap.size + 1) _ rfl rfl 54 zeroOp TROW.out (by kernel_rfl) rfl (by simp [Value.oneCell']) ?_)
      refine bodyPost_ret (v := .agg #[.int .i64 kd, .int .i64 1, .int .i64 ch, .int .u64 vl, .int .i64 dl, .slice a3 nc cap3, .slice a4 nd cap4]) (results_cell_row Try.results39 _ _ (w.heap.size + 1) 54 _ (0, 0) _ rfl (setRow_heap _ _ _ _ 54 (0, 0) TROW.out) Try.underlying54 rfl (by kernel_rfl)) rfl ?_
      obtain ⟨f2, f3⟩ := mode_end hlt HG.out HCC.out (W := _) (below_setRow ((Below.refl _ _).setCell (p := ⟨w.heap.size, 1, none⟩) (Nat.le_refl _) _) (Nat.le_succ _) _)
      exact ⟨1, dl, rfl, .inr (.inl ⟨rfl, rfl⟩), f2, f3⟩

  · go_wp2_with fail
    refine (nextE g 5 _ HC1.out (by omega) (by omega)).mono ?_; rintro e w2 ⟨y, rfl, hy0, hy1, hc2, hg2⟩
    have HCC := Lib.hid hc2
    have HG := Lib.hid (grownBy_trans HG1.out hg2)
    have S20 := Lib.hid ((hg2.block w.heap.size (by omega) (by simp; omega)).trans S0.out)
    have S21 := Lib.hid ((hg2.block (w.heap.size + 1) (by omega) (by simp; omega)).trans S1.out)
    clear hc2 hg2 c0 c1 c2 c3 c4 c5 c6 f1 f4
    obtain ⟨c0, c1, c2, c3, c4, c5, c6⟩ := row7 S20.out
    have f1 := frozen_of_row _ _ 1 _ _ S20.out
    have f4 := frozen_of_row _ _ 4 _ _ S20.out
    have T0 := Lib.hid (heap_setCell_same w2 w.heap.size 1 _ _ (.int .i64 2) S20.out)
    simp at T0
    have g4 := frozen_of_row _ _ 4 _ _ T0.out
    have U0 := Lib.hid (heap_setCell_same _ w.heap.size 4 _ _ (.int .i64 y) T0.out)
    simp at U0
    obtain ⟨e0, e1, e2, e3, e4, e5, e6⟩ := row7 T0.out
    obtain ⟨d0, d1, d2, d3, d4, d5, d6⟩ := row7 U0.out
    have TROW := Lib.hid ((heap_setCell_other _ ⟨w.heap.size, 4, none⟩ (w.heap.size + 1) (.int .i64 y) (by simp)).trans ((heap_setCell_other w2 ⟨w.heap.size, 1, none⟩ (w.heap.size + 1) (.int .i64 2) (by simp)).trans S21.out))
    go_wp2_with (refine wpList_store_row rfl 54 _ _ rfl (w.heap.size + 1) _ rfl rfl 54 zeroOp TROW.out (by kernel_rfl) rfl (by simp [Value.oneCell']) ?_)
    refine bodyPost_ret (v := .agg #[.int .i64 kd, .int .i64 2, .int .i64 ch, .int .u64 vl, .int .i64 y, .slice a3 nc cap3, .slice a4 nd cap4]) (results_cell_row Try.results39 _ _ (w.heap.size + 1) 54 _ (0, 0) _ rfl (setRow_heap _ _ _ _ 54 (0, 0) TROW.out) Try.underlying54 rfl (by kernel_rfl)) rfl ?_
    obtain ⟨f2, f3⟩ := mode_end hlt HG.out HCC.out (W := _) (below_setRow (((Below.refl _ _).setCell (p := ⟨w.heap.size, 1, none⟩) (Nat.le_refl _) _).setCell (p := ⟨w.heap.size, 4, none⟩) (Nat.le_refl _) _) (Nat.le_succ _) _)
    exact ⟨2, y, rfl, .inr (.inr ⟨rfl, hy0, hy1⟩), f2, f3⟩

  · have TROW := S1
    have HG := HG1
    have HCC := HC1
    go_wp2_with (refine wpList_store_row rfl 54 _ _ rfl (w.heap.size + 1) _ rfl rfl 54 zeroOp TROW.out (by kernel_rfl) rfl (by simp [Value.oneCell']) ?_)
    refine bodyPost_ret (v := .agg #[.int .i64 kd, .int .i64 md, .int .i64 ch, .int .u64 vl, .int .i64 dl, .slice a3 nc cap3, .slice a4 nd cap4]) (results_cell_row Try.results39 _ _ (w.heap.size + 1) 54 _ (0, 0) _ rfl (setRow_heap _ _ _ _ 54 (0, 0) TROW.out) Try.underlying54 rfl (by kernel_rfl)) rfl ?_
    obtain ⟨f2, f3⟩ := mode_end hlt HG.out HCC.out (W := _) (below_setRow (Below.refl _ _) (Nat.le_succ _) _)
    exact ⟨md, dl, rfl, .inl ⟨rfl, rfl⟩, f2, f3⟩

end Go.Proofs.Ytnbehigjeopniaa
/- The reader of choices: valid selects. -/
namespace Go.Proofs.Ytnbehigjeopniaa
open Go.ChangeShapes Go.WideShapes Go.ChangeAt Go.RowKit
set_option maxRecDepth 100000

/-- while a select is made: the reader, the configuration's box in R, the result in R + 1, the variable in R + 2 with its two lists -/
structure SelInv (w0 w : World) (g : Nat) (cc : Array Value) (vc vd : Value) (cs : List CaseM) (ds : List Int) : Prop where
  lt : g < w0.heap.size
  size : w0.heap.size + 3 ≤ w.heap.size
  codes : CodesE w g
  grown : w0.grownBy w (some g)
  box : w.heap[w0.heap.size]? = some (.cells cc 60 (0, 0))
  res : w.heap[w0.heap.size + 1]? = some (.cells zeroOp 54 (0, 0))
  var : w.heap[w0.heap.size + 2]? = some (.cells #[.int .i64 4, .int .i64 0, .int .i64 0, .int .u64 0, .int .i64 0, vc, vd] 54 (0, 0))
  oc : OwnC w (w0.heap.size + 3) vc cs
  od : OwnI w (w0.heap.size + 3) 3 .i64 vd ds
theorem SelInv.next {w0 w w' : World} {g : Nat} {cc : Array Value} {vc vd : Value} {cs : List CaseM} {ds : List Int} (h : SelInv w0 w g cc vc vd cs ds) (hc : CodesE w' g) (hg : w.grownBy w' (some g)) : SelInv w0 w' g cc vc vd cs ds := by
  have hs := h.size
  have hl := h.lt
  have b : ∀ j, w0.heap.size ≤ j → j < w0.heap.size + 3 → w'.heap[j]? = w.heap[j]? := fun j h1 h2 => hg.block j (by omega) (by simp; omega)
  exact ⟨hl, Nat.le_trans hs hg.size, hc, grownBy_trans h.grown hg, (b _ (by omega) (by omega)).trans h.box, (b _ (by omega) (by omega)).trans h.res, (b _ (by omega) (by omega)).trans h.var, h.oc.kept hg (h.oc.ne (by omega)), h.od.kept hg (h.od.ne (by omega))⟩
theorem SelInv.below {w0 w w' : World} {g : Nat} {cc : Array Value} {vc vd : Value} {cs : List CaseM} {ds : List Int} (h : SelInv w0 w g cc vc vd cs ds) (hb : Below w.heap.size w w') : SelInv w0 w' g cc vc vd cs ds :=
  h.next (h.codes.kept h.codes.lt hb) (grown_of_below hb)
/-- a block of the call's own, behind the others, is written -/
theorem SelInv.mine {w0 w : World} {g b o : Nat} {u : Value} {cc : Array Value} {vc vd : Value} {cs : List CaseM} {ds : List Int} {T : TypeId} {cells : Array Value} (h : SelInv w0 w g cc vc vd cs ds)
    (hb : w.heap[b]? = some (.cells cells T (0, 0))) (hT : T ≠ 3) (hb3 : w0.heap.size + 3 ≤ b) (hC : T ≠ 79 ∨ vc.ownBlock ≠ some b) : SelInv w0 (w.setCell ⟨b, o, none⟩ u) g cc vc vd cs ds := by
  have hs := h.size
  have hl := h.lt
  have hgr := grownBy_setCell w ⟨b, o, none⟩ u
  have e : ∀ j, j ≠ b → (w.setCell ⟨b, o, none⟩ u).heap[j]? = w.heap[j]? := fun j hj => heap_setCell_other w ⟨b, o, none⟩ j u hj
  have hbl : Below (w0.heap.size + 3) w (w.setCell ⟨b, o, none⟩ u) := (Below.refl _ w).setCell (p := ⟨b, o, none⟩) hb3 u
  refine ⟨hl, by simpa using hs, h.codes.kept (B := w0.heap.size + 3) (by omega) hbl, ?_, (e _ (by omega)).trans h.box, (e _ (by omega)).trans h.res, (e _ (by omega)).trans h.var, h.oc.kept hgr ?_, h.od.kept hgr ?_⟩
  · exact grownBy_of_new h.grown hgr (fun k hk => by cases hk; simp; omega)
  · cases hv : vc.ownBlock with
    | none => exact .inl rfl
    | some q =>
      refine .inr fun eq => ?_
      simp only [Option.some.injEq] at eq
      subst eq
      rcases hC with hC | hC
      · rcases h.oc.2 with ⟨rfl, _⟩ | ⟨g', cap, cur, rfl, _, hg', _⟩
        · simp [Value.ownBlock] at hv
        · simp only [Value.ownBlock, Option.some.injEq] at hv
          subst hv
          rw [hb] at hg'
          simp only [Option.some.injEq, Obj.cells.injEq] at hg'
          exact hC hg'.2.1
      · exact hC hv
  · cases hv : vd.ownBlock with
    | none => exact .inl rfl
    | some q =>
      refine .inr fun eq => ?_
      simp only [Option.some.injEq] at eq
      subst eq
      rcases h.od.2 with ⟨rfl, _⟩ | ⟨g', cap, cur, rfl, _, hg', _⟩
      · simp [Value.ownBlock] at hv
      · simp only [Value.ownBlock, Option.some.injEq] at hv
        subst hv
        rw [hb] at hg'
        simp only [Option.some.injEq, Obj.cells.injEq] at hg'
        exact hT hg'.2.1
/-- what was appended is stored in the variable -/
theorem SelInv.addCase {w0 w w1 : World} {g : Nat} {cc : Array Value} {vc vd vc' : Value} {cs cs' : List CaseM} {ds : List Int} (h : SelInv w0 w g cc vc vd cs ds) (ho : OwnC w1 (w0.heap.size + 3) vc' cs') (hg : w.grownBy w1 vc.ownBlock) :
    SelInv w0 (w1.setCell ⟨w0.heap.size + 2, 5, none⟩ vc') g cc vc' vd cs' ds := by
  have hs := h.size
  have hl := h.lt
  have hge := h.oc.own_ge
  have b : ∀ j, j < w0.heap.size + 3 → w1.heap[j]? = w.heap[j]? := fun j hj => hg.block j (by omega) (fun e => by have := hge j e.symm; omega)
  have b2 : ∀ j, j ≠ w0.heap.size + 2 → (w1.setCell ⟨w0.heap.size + 2, 5, none⟩ vc').heap[j]? = w1.heap[j]? := fun j hj => heap_setCell_other w1 ⟨w0.heap.size + 2, 5, none⟩ j _ hj
  have hb : Below (w0.heap.size + 2) w (w1.setCell ⟨w0.heap.size + 2, 5, none⟩ vc') := by
    refine ⟨hg.os, hg.tape, hg.output, by simpa using hg.size, fun k hk => (b2 k (by omega)).trans (b k (by omega))⟩
  have hv := heap_setCell_same w1 (w0.heap.size + 2) 5 _ _ vc' ((b _ (by omega)).trans h.var)
  refine ⟨hl, ?_, h.codes.kept (by omega) hb, ?_, (b2 _ (by omega)).trans ((b _ (by omega)).trans h.box), (b2 _ (by omega)).trans ((b _ (by omega)).trans h.res), by simpa using hv, ?_, ?_⟩
  · simpa using Nat.le_trans hs hg.size
  · exact grownBy_of_new (grownBy_of_new h.grown hg (fun k hk => by have := hge k hk; omega)) (grownBy_setCell w1 ⟨w0.heap.size + 2, 5, none⟩ vc') (fun k hk => by cases hk; simp)
  · exact ho.kept (grownBy_setCell w1 ⟨w0.heap.size + 2, 5, none⟩ vc') (ho.ne (Nat.lt_succ_self _))
  · have h1 := h.od.kept hg (rows_apart h.od h.oc (by decide))
    exact h1.kept (grownBy_setCell w1 ⟨w0.heap.size + 2, 5, none⟩ vc') (h1.ne (Nat.lt_succ_self _))
theorem SelInv.addDraw {w0 w w1 : World} {g : Nat} {cc : Array Value} {vc vd vd' : Value} {cs : List CaseM} {ds ds' : List Int} (h : SelInv w0 w g cc vc vd cs ds) (ho : OwnI w1 (w0.heap.size + 3) 3 .i64 vd' ds') (hg : w.grownBy w1 vd.ownBlock) :
    SelInv w0 (w1.setCell ⟨w0.heap.size + 2, 6, none⟩ vd') g cc vc vd' cs ds' := by
  have hs := h.size
  have hl := h.lt
  have hge := h.od.own_ge
  have b : ∀ j, j < w0.heap.size + 3 → w1.heap[j]? = w.heap[j]? := fun j hj => hg.block j (by omega) (fun e => by have := hge j e.symm; omega)
  have b2 : ∀ j, j ≠ w0.heap.size + 2 → (w1.setCell ⟨w0.heap.size + 2, 6, none⟩ vd').heap[j]? = w1.heap[j]? := fun j hj => heap_setCell_other w1 ⟨w0.heap.size + 2, 6, none⟩ j _ hj
  have hb : Below (w0.heap.size + 2) w (w1.setCell ⟨w0.heap.size + 2, 6, none⟩ vd') := by
    refine ⟨hg.os, hg.tape, hg.output, by simpa using hg.size, fun k hk => (b2 k (by omega)).trans (b k (by omega))⟩
  have hv := heap_setCell_same w1 (w0.heap.size + 2) 6 _ _ vd' ((b _ (by omega)).trans h.var)
  refine ⟨hl, ?_, h.codes.kept (by omega) hb, ?_, (b2 _ (by omega)).trans ((b _ (by omega)).trans h.box), (b2 _ (by omega)).trans ((b _ (by omega)).trans h.res), by simpa using hv, ?_, ?_⟩
  · simpa using Nat.le_trans hs hg.size
  · exact grownBy_of_new (grownBy_of_new h.grown hg (fun k hk => by have := hge k hk; omega)) (grownBy_setCell w1 ⟨w0.heap.size + 2, 6, none⟩ vd') (fun k hk => by cases hk; simp)
  · have h1 := h.oc.kept hg (rows_apart h.oc h.od (by decide))
    exact h1.kept (grownBy_setCell w1 ⟨w0.heap.size + 2, 6, none⟩ vd') (h1.ne (Nat.lt_succ_self _))
  · exact ho.kept (grownBy_setCell w1 ⟨w0.heap.size + 2, 6, none⟩ vd') (ho.ne (Nat.lt_succ_self _))
theorem SelInv.own_lt {w0 w : World} {g : Nat} {cc : Array Value} {vc vd : Value} {cs : List CaseM} {ds : List Int} (h : SelInv w0 w g cc vc vd cs ds) (b : Nat) (hb : w.heap.size ≤ b) : vc.ownBlock ≠ some b := by
  intro e
  have := (World.ownsRow.lt h.oc b e).2
  omega
/-- beside it a case of the round's own lies in block Y -/
structure YInv (w0 w : World) (g : Nat) (cc : Array Value) (vc vd : Value) (cs : List CaseM) (ds : List Int) (Y : Nat) (cells : Array Value) : Prop where
  inv : SelInv w0 w g cc vc vd cs ds
  row : w.heap[Y]? = some (.cells cells 79 (0, 0))
  ge : w0.heap.size + 3 ≤ Y
  ne : vc.ownBlock ≠ some Y
def zeroCase : Array Value := #[.bool false, .int .i64 0, .int .u64 0]
theorem YInv.new {w0 w : World} {g : Nat} {cc : Array Value} {vc vd : Value} {cs : List CaseM} {ds : List Int} (h : SelInv w0 w g cc vc vd cs ds) : YInv w0 (w.alloc (.cells zeroCase 79)) g cc vc vd cs ds w.heap.size zeroCase :=
  ⟨h.below (below_new (Below.refl _ _) _), heap_alloc_new _ _, h.size, h.own_lt _ (Nat.le_refl _)⟩
theorem YInv.lit {w0 w : World} {g : Nat} {cc : Array Value} {vc vd : Value} {cs : List CaseM} {ds : List Int} (h : SelInv w0 w g cc vc vd cs ds) (cells : Array Value) : YInv w0 (w.alloc (.cells cells 79)) g cc vc vd cs ds w.heap.size cells :=
  ⟨h.below (below_new (Below.refl _ _) _), heap_alloc_new _ _, h.size, h.own_lt _ (Nat.le_refl _)⟩
theorem YInv.frozen {w0 w : World} {g : Nat} {cc : Array Value} {vc vd : Value} {cs : List CaseM} {ds : List Int} {Y : Nat} {cells : Array Value} (h : YInv w0 w g cc vc vd cs ds Y cells) : w.frozen? ⟨Y, 0, none⟩ = false ∧ w.frozen? ⟨Y, 1, none⟩ = false ∧ w.frozen? ⟨Y, 2, none⟩ = false :=
  ⟨frozen_of_row _ _ 0 _ _ h.row, frozen_of_row _ _ 1 _ _ h.row, frozen_of_row _ _ 2 _ _ h.row⟩
theorem YInv.next {w0 w w' : World} {g : Nat} {cc : Array Value} {vc vd : Value} {cs : List CaseM} {ds : List Int} {Y : Nat} {cells : Array Value} (h : YInv w0 w g cc vc vd cs ds Y cells) (hc : CodesE w' g) (hg : w.grownBy w' (some g)) : YInv w0 w' g cc vc vd cs ds Y cells := by
  have hl := h.inv.lt
  have hge := h.ge
  exact ⟨h.inv.next hc hg, (hg.block Y (Array.getElem?_eq_some_iff.1 h.row).1 (by simp; omega)).trans h.row, h.ge, h.ne⟩
theorem YInv.set {w0 w : World} {g : Nat} {cc : Array Value} {vc vd : Value} {cs : List CaseM} {ds : List Int} {Y : Nat} {cells : Array Value} (h : YInv w0 w g cc vc vd cs ds Y cells) (o : Nat) (u : Value) : YInv w0 (w.setCell ⟨Y, o, none⟩ u) g cc vc vd cs ds Y (cells.setIfInBounds o u) :=
  ⟨h.inv.mine h.row (by decide) h.ge (.inr h.ne), heap_setCell_same w Y o _ _ u h.row, h.ge, h.ne⟩
theorem YInv.set3 {w0 w : World} {g : Nat} {cc : Array Value} {vc vd : Value} {cs : List CaseM} {ds : List Int} {Y : Nat} (h : YInv w0 w g cc vc vd cs ds Y zeroCase) (a b c : Value) : YInv w0 (((w.setCell ⟨Y, 0, none⟩ a).setCell ⟨Y, 1, none⟩ b).setCell ⟨Y, 2, none⟩ c) g cc vc vd cs ds Y #[a, b, c] := by
  have := ((h.set 0 a).set 1 b).set 2 c
  simpa [zeroCase] using this
theorem YInv.row_ {w0 w : World} {g : Nat} {cc : Array Value} {vc vd : Value} {cs : List CaseM} {ds : List Int} {Y : Nat} {cells cells' : Array Value} (h : YInv w0 w g cc vc vd cs ds Y cells) : YInv w0 (w.setRow Y cells') g cc vc vd cs ds Y cells' := by
  have hi := h.inv
  have hs := hi.size
  have hl := hi.lt
  have hge := h.ge
  have hgr := grownBy_setRow w Y cells'
  have e : ∀ j, j ≠ Y → (w.setRow Y cells').heap[j]? = w.heap[j]? := fun j hj => setRow_other w Y j cells' hj
  have hbl : Below (w0.heap.size + 3) w (w.setRow Y cells') := below_setRow (Below.refl _ w) h.ge cells'
  refine ⟨⟨hl, Nat.le_trans hs hgr.size, hi.codes.kept (B := w0.heap.size + 3) (by omega) hbl, grownBy_of_new hi.grown hgr (fun k hk => by cases hk; omega), (e _ (by omega)).trans hi.box, (e _ (by omega)).trans hi.res, (e _ (by omega)).trans hi.var, hi.oc.kept hgr (.inr h.ne), hi.od.kept hgr ?_⟩, setRow_heap w Y _ _ _ (0, 0) h.row, h.ge, h.ne⟩
  cases hv : vd.ownBlock with
  | none => exact .inl rfl
  | some q =>
    refine .inr fun eq => ?_
    simp only [Option.some.injEq] at eq
    subst eq
    rcases hi.od.2 with ⟨rfl, _⟩ | ⟨g', cap, cur, rfl, _, hg', _⟩
    · simp [Value.ownBlock] at hv
    · simp only [Value.ownBlock, Option.some.injEq] at hv
      subst hv
      rw [h.row] at hg'
      simp only [Option.some.injEq, Obj.cells.injEq] at hg'
      exact absurd hg'.2.1 (by decide)
/-- the variable, behind an append to one of its lists -/
theorem SelInv.varAt {w0 w w1 : World} {g : Nat} {cc : Array Value} {vc vd : Value} {cs : List CaseM} {ds : List Int} {row : Option Nat} (h : SelInv w0 w g cc vc vd cs ds) (hg : w.grownBy w1 row) (hr : ∀ j, row = some j → w0.heap.size + 3 ≤ j) :
    w1.heap[w0.heap.size + 2]? = some (.cells #[.int .i64 4, .int .i64 0, .int .i64 0, .int .u64 0, .int .i64 0, vc, vd] 54 (0, 0)) :=
  (hg.block _ (by have := h.size; omega) (fun e => by have := hr _ e.symm; omega)).trans h.var
theorem OwnC.shape_ne {w : World} {base : Nat} {v : Value} {l : List CaseM} {y : CaseM} (h : OwnC w base v (l ++ [y])) : ∃ g cap, v = .slice (some ⟨g, 0, none⟩) (l.length + 1) cap := by
  rcases h.shape with ⟨_, h1⟩ | ⟨g, cap, h1, _⟩
  · exact absurd h1 (by simp)
  · exact ⟨g, cap, by simpa using h1⟩
theorem OwnC.one {w : World} {base : Nat} {v : Value} {l : List CaseM} (h : OwnC w base v l) : v.oneCell' = true := by
  rcases h.shape with ⟨rfl, _⟩ | ⟨g, cap, rfl, _⟩ <;> rfl
theorem OwnI.one {w : World} {base : Nat} {e : TypeId} {k : IntKind} {v : Value} {l : List Int} (h : OwnI w base e k v l) : v.oneCell' = true := by
  rcases h.shape with ⟨rfl, _⟩ | ⟨g, cap, rfl, _⟩ <;> rfl
/-- the slice lies in a block from B on -/
def newB (B : Nat) (v : Value) : Prop := ∀ a n c, v = .slice (some a) n c → n = 0 ∨ B ≤ a.block
theorem newB.off {B g : Nat} {v : Value} (h : newB B v) (hg : g < B) : offB g v := fun a n c e => (h a n c e).imp id fun h => by omega
theorem newB.mono {B C : Nat} {v : Value} (h : newB B v) (hc : C ≤ B) : newB C v := fun a n c e => (h a n c e).imp id fun h => by omega
theorem newB.nil (B : Nat) : newB B (.slice none 0 0) := fun a n c e => by simp at e
theorem OwnI.newB {w : World} {base : Nat} {e : TypeId} {k : IntKind} {v : Value} {l : List Int} (h : OwnI w base e k v l) : newB base v := by
  intro a n c e
  subst e
  exact .inr (h.own_ge a.block rfl)
theorem OwnC.newB {w : World} {base : Nat} {v : Value} {l : List CaseM} (h : OwnC w base v l) : newB base v := by
  intro a n c e
  subst e
  exact .inr (h.own_ge a.block rfl)
/-- an operation whose lists lie in blocks from B on -/
def OpN (w : World) (B : Nat) (v : Value) (op : OpM) : Prop :=
  ∃ vc vd, v = .agg #[.int .i64 op.kind, .int .i64 op.mode, .int .i64 op.chan, .int .u64 op.val, .int .i64 op.dl, vc, vd] ∧ SlC w vc op.cases ∧ SlI w .i64 vd op.draws ∧ newB B vc ∧ newB B vd
theorem OpN.opx {w : World} {B g : Nat} {v : Value} {op : OpM} (h : OpN w B v op) (hg : g < B) : OpX w g v op := by
  obtain ⟨vc, vd, e, h1, h2, h3, h4⟩ := h; exact ⟨vc, vd, e, h1, h2, h3.off hg, h4.off hg⟩
theorem OpN.grown {w w' : World} {B b : Nat} {v : Value} {op : OpM} (h : OpN w B v op) (hg : w.grownBy w' (some b)) (hb : b < B) : OpN w' B v op := by
  obtain ⟨vc, vd, e, h1, h2, h3, h4⟩ := h; exact ⟨vc, vd, e, h1.grown hg (h3.off hb), h2.grown hg (h4.off hb), h3, h4⟩
theorem OpN.mono {w : World} {B C : Nat} {v : Value} {op : OpM} (h : OpN w B v op) (hc : C ≤ B) : OpN w C v op := by
  obtain ⟨vc, vd, e, h1, h2, h3, h4⟩ := h; exact ⟨vc, vd, e, h1, h2, h3.mono hc, h4.mono hc⟩
/-- the end: the words are laid in the result's block -/
theorem SelInv.fin {w0 w : World} {g : Nat} {cc : Array Value} {vc vd : Value} {cs : List CaseM} {ds : List Int} (h : SelInv w0 w g cc vc vd cs ds) (h1 : cs.length ≤ 140737488351232) (h2 : ∀ x ∈ cs, x.ok) (h3 : ds.length ≤ 140737488351232) (h4 : ∀ x ∈ ds, x = IntKind.i64.wrap x) (cells : Array Value) (kd m ch vl d : Int) :
    OpN (w.setRow (w0.heap.size + 1) cells) w0.heap.size (.agg #[.int .i64 kd, .int .i64 m, .int .i64 ch, .int .u64 vl, .int .i64 d, vc, vd]) ⟨kd, m, ch, vl, d, cs, ds⟩ ∧ CodesE (w.setRow (w0.heap.size + 1) cells) g ∧ w0.grownBy (w.setRow (w0.heap.size + 1) cells) (some g) := by
  have hl := h.lt
  have hgr := grownBy_setRow w (w0.heap.size + 1) cells
  refine ⟨⟨vc, vd, rfl, (h.oc.kept hgr (h.oc.ne (by omega))).read h1 h2, (h.od.kept hgr (h.od.ne (by omega))).read h3 h4, h.oc.newB.mono (by omega), h.od.newB.mono (by omega)⟩, ?_, grownBy_of_new h.grown hgr (fun k hk => by cases hk; omega)⟩
  exact h.codes.kept (B := w0.heap.size) hl (below_setRow (Below.refl _ w) (by omega) cells)
theorem all7 {k0 k1 k2 k3 k4 : IntKind} {n0 n1 n2 n3 n4 : Int} {u v : Value} (hu : u.oneCell' = true) (hv : v.oneCell' = true) : (#[.int k0 n0, .int k1 n1, .int k2 n2, .int k3 n3, .int k4 n4, u, v] : Array Value).all (·.oneCell') = true := by
  have hi : ∀ k n, (Value.int k n).oneCell' = true := fun _ _ => rfl
  simp [hi, hu, hv]
end Go.Proofs.Ytnbehigjeopniaa
