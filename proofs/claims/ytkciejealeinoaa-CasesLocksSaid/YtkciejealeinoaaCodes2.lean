/- The reader of choices: values, modes, numbers at limits. -/
import Derived.Test.YtkciejealeinoaaCodes
import Derived.Deep.RegionLaw
namespace Go.Proofs.Ytkciejealeinoaa
open Go.ChangeShapes Go.WideShapes Go.ChangeAt Go.RowKit
set_option maxRecDepth 100000

theorem grown_of_below {a b : World} {row : Option Nat} (h : Below a.heap.size a b) : a.grownBy b row := ⟨h.os, h.tape, h.output, h.size, fun j hj _ => h.block j hj⟩
theorem u64_ok (x : Int) (h0 : 0 ≤ x) (h1 : x ≤ 18446744073709551615) : x = IntKind.u64.wrap x := by
  rw [IntKind.wrap_u64]; omega
theorem value_step {w : World} {g k : Nat} {v : Value} {val x : Int} {l r : List Int} (hg : w.heap[g]? = some (.cells #[v, .int .i64 k, .int .u64 val] 74 (0, 0))) (h : CodesAt w g r val) :
    CodesAt (w.setCell ⟨g, 2, none⟩ (.int .u64 x)) g r x ∧ w.grownBy (w.setCell ⟨g, 2, none⟩ (.int .u64 x)) (some g) ∧ (w.setCell ⟨g, 2, none⟩ (.int .u64 x)).cell? ⟨g, 2, none⟩ = some (.int .u64 x) := by
  have hs := heap_setCell_same w g 2 _ _ (.int .u64 x) hg
  have hgr := grownBy_setCell w ⟨g, 2, none⟩ (.int .u64 x)
  refine ⟨?_, hgr, by simpa using cell_of_row _ g 2 _ _ _ hs⟩
  obtain ⟨v', l', k', hg', hl, hk, hr, ho⟩ := h
  rw [hg] at hg'
  simp only [Option.some.injEq, Obj.cells.injEq, Array.mk.injEq, List.cons.injEq, and_true] at hg'
  obtain ⟨rfl, hkk⟩ := hg'
  simp only [Value.int.injEq, true_and, and_true] at hkk
  obtain rfl : k = k' := by omega
  refine ⟨v, l', k, by simpa using hs, ?_, hk, hr, ho⟩
  refine hl.grown hgr fun a n c e => ?_
  subst e
  by_cases hne : l' = []
  · obtain ⟨a', cap', e, -⟩ := hl.len
    rw [hne] at e
    simp only [Value.slice.injEq] at e
    exact .inl e.2.1
  · exact .inr (by have := ho hne (some a) n c rfl a rfl; simp; omega)
theorem valueE (g : Nat) (w : World) (h : CodesE w g) :
    Calls Try.prog 44 #[.pointer (some ⟨g, 0, none⟩)] w fun e w' => ∃ x : Int, e = .returned (.int .u64 x) ∧ x = IntKind.u64.wrap x ∧ CodesE w' g ∧ w.grownBy w' (some g) := by
  obtain ⟨r, val, h⟩ := h
  obtain ⟨v, l, k, hg, -⟩ := id h
  have c2 := cell_of_row w g 2 _ _ _ hg
  have f2 := frozen_of_row w g 2 _ _ hg
  simp at c2
  have ST := Lib.hid fun x => value_step (x := x) (l := l) hg h
  obtain ⟨x, hx⟩ : ∃ x, IntKind.u64.wrap (val + 1) = x := ⟨_, rfl⟩
  obtain ⟨s1, s2, s3⟩ := ST.out x
  have HS := Lib.hid (And.intro s1 s2)
  have HX : Hid (x = IntKind.u64.wrap x) := by
    show _ = _
    rw [← hx, IntKind.wrap_u64, IntKind.wrap_u64]; omega
  clear hg h ST s1 s2
  go_enter Try.func44, Try.ntmps44
  go_wp2
  go_ret
  exact ⟨x, rfl, HX.out, ⟨r, x, HS.out.1⟩, HS.out.2⟩
theorem row7 {w : World} {g : Nat} {T : TypeId} {v0 v1 v2 v3 v4 v5 v6 : Value} (h : w.heap[g]? = some (.cells #[v0, v1, v2, v3, v4, v5, v6] T (0, 0))) :
    w.cell? ⟨g, 0, none⟩ = some v0 ∧ w.cell? ⟨g, 1, none⟩ = some v1 ∧ w.cell? ⟨g, 2, none⟩ = some v2 ∧ w.cell? ⟨g, 3, none⟩ = some v3 ∧ w.cell? ⟨g, 4, none⟩ = some v4 ∧ w.cell? ⟨g, 5, none⟩ = some v5 ∧ w.cell? ⟨g, 6, none⟩ = some v6 :=
  ⟨cell_of_row _ _ 0 _ _ _ h, cell_of_row _ _ 1 _ _ _ h, cell_of_row _ _ 2 _ _ _ h, cell_of_row _ _ 3 _ _ _ h, cell_of_row _ _ 4 _ _ _ h, cell_of_row _ _ 5 _ _ _ h, cell_of_row _ _ 6 _ _ _ h⟩
theorem row3 {w : World} {g : Nat} {T : TypeId} {v0 v1 v2 : Value} (h : w.heap[g]? = some (.cells #[v0, v1, v2] T (0, 0))) :
    w.cell? ⟨g, 0, none⟩ = some v0 ∧ w.cell? ⟨g, 1, none⟩ = some v1 ∧ w.cell? ⟨g, 2, none⟩ = some v2 :=
  ⟨cell_of_row _ _ 0 _ _ _ h, cell_of_row _ _ 1 _ _ _ h, cell_of_row _ _ 2 _ _ _ h⟩
theorem grownBy_setRow (w : World) (g : Nat) (cs : Array Value) : w.grownBy (w.setRow g cs) (some g) :=
  ⟨rfl, rfl, rfl, by simp [World.setRow], fun k _ hk => setRow_other w g k cs (fun e => hk (by rw [e]))⟩
/-- what a call leaves that has written the reader's block, and new blocks of its own -/
theorem grownBy_own {a b c : World} {g : Nat} {row : Option Nat} (h : a.grownBy b (some g)) (h2 : b.grownBy c row) (hr : ∀ k, row = some k → a.heap.size ≤ k) : a.grownBy c (some g) := grownBy_of_new h h2 hr
/-- the words of an operation as cells -/
def opCells (op : OpM) (vc vd : Value) : Array Value := #[.int .i64 op.kind, .int .i64 op.mode, .int .i64 op.chan, .int .u64 op.val, .int .i64 op.dl, vc, vd]
def zeroOp : Array Value := #[.int .i64 0, .int .i64 0, .int .i64 0, .int .u64 0, .int .i64 0, .slice none 0 0, .slice none 0 0]
theorem below_setRow {B g : Nat} {a w : World} (h : Below B a w) (hB : B ≤ g) (cs : Array Value) : Below B a (w.setRow g cs) :=
  ⟨h.os, h.tape, h.output, by simpa [World.setRow] using h.size, fun k hk => (setRow_other w g k cs (by omega)).trans (h.block k hk)⟩
/-- behind a call that wrote the reader's block, blocks of the call's own are written -/
theorem mode_end {w w1 W : World} {g : Nat} (hlt : g < w.heap.size) (hg : w.grownBy w1 (some g)) (hc : CodesE w1 g) (hb : Below w.heap.size w1 W) : CodesE W g ∧ w.grownBy W (some g) :=
  ⟨hc.kept hlt hb, ⟨hb.os.trans hg.os, hb.tape.trans hg.tape, hb.output.trans hg.output, Nat.le_trans hg.size hb.size, fun k hk hr => (hb.block k hk).trans (hg.block k hk hr)⟩⟩
set_option maxRecDepth 100000 in
set_option maxHeartbeats 1000000 in
theorem modeE (g : Nat) (kd md ch vl dl : Int) (vc vd : Value) (cs : List CaseM) (ds : List Int) (w : World) (h : CodesE w g) (hc : SlC w vc cs) (hd : SlI w .i64 vd ds) :
    Calls Try.prog 42 #[.pointer (some ⟨g, 0, none⟩), .agg #[.int .i64 kd, .int .i64 md, .int .i64 ch, .int .u64 vl, .int .i64 dl, vc, vd]] w fun e w' =>
      ∃ m d, e = .returned (.agg #[.int .i64 kd, .int .i64 m, .int .i64 ch, .int .u64 vl, .int .i64 d, vc, vd]) ∧ ((m = md ∧ d = dl) ∨ (m = 1 ∧ d = dl) ∨ (m = 2 ∧ 0 ≤ d ∧ d < 5)) ∧ CodesE w' g ∧ w.grownBy w' (some g) := by
  have hlt := h.lt
  have HC := Lib.hid h
  obtain ⟨a3, cap3, rfl⟩ := hc.len
  obtain ⟨a4, cap4, rfl, -⟩ := hd.len
  clear h hc hd
  generalize cs.length = nc at *
  generalize ds.length = nd at *
  obtain ⟨W, hW⟩ : ∃ W, (w.alloc (.cells #[.int .i64 kd, .int .i64 md, .int .i64 ch, .int .u64 vl, .int .i64 dl, .slice a3 nc cap3, .slice a4 nd cap4] 26)).alloc (.cells zeroOp 26) = W := ⟨_, rfl⟩
  have HB : Hid (Below w.heap.size w W) := hW ▸ below_new (below_new (Below.refl w.heap.size w) _) _
  have hz : w.heap.size + 2 ≤ W.heap.size := by rw [← hW]; simp
  have R0 : Hid (W.heap[w.heap.size]? = some (.cells #[.int .i64 kd, .int .i64 md, .int .i64 ch, .int .u64 vl, .int .i64 dl, .slice a3 nc cap3, .slice a4 nd cap4] 26 (0, 0))) := by
    show _ = _
    rw [← hW]; exact heap_alloc2_old _ _ _
  have R1 : Hid (W.heap[w.heap.size + 1]? = some (.cells zeroOp 26 (0, 0))) := by
    show _ = _
    rw [← hW]; exact heap_alloc2_new _ _ _
  have HCW := Lib.hid (HC.out.kept hlt HB.out)
  have HGW : Hid (w.grownBy W (some g)) := grown_of_below HB.out
  have HW := Lib.hid hW
  clear hW
  go_enter Try.func42, Try.ntmps42
  go_wp2_with fail
  rw [show (#[.int .i64 0, .int .i64 0, .int .i64 0, .int .u64 0, .int .i64 0, .slice none 0 0, .slice none 0 0] : Array Value) = zeroOp from rfl, HW.out]
  refine (nextE g 8 _ HCW.out (by omega) (by omega)).mono ?_; rintro e w1 ⟨x, rfl, hx0, hx1, hc1, hg1⟩
  have HC1 := Lib.hid hc1
  have HG1 := Lib.hid (grownBy_trans HGW.out hg1)
  have S0 := Lib.hid ((hg1.block w.heap.size (by omega) (by simp; omega)).trans R0.out)
  have S1 := Lib.hid ((hg1.block (w.heap.size + 1) (by omega) (by simp; omega)).trans R1.out)
  have hg1s : w.heap.size + 2 ≤ w1.heap.size := Nat.le_trans hz hg1.size
  clear hc1 hg1
  obtain ⟨c0, c1, c2, c3, c4, c5, c6⟩ := row7 S0.out
  have f1 := frozen_of_row _ _ 1 _ _ S0.out
  have f4 := frozen_of_row _ _ 4 _ _ S0.out
  rcases (show (x = 5 ∨ x = 6) ∨ x = 7 ∨ ((x == 5) = false ∧ (x == 6) = false ∧ (x == 7) = false) by simp; omega) with hx | rfl | ⟨x5, x6, x7⟩
  · have T0 := Lib.hid (heap_setCell_same w1 w.heap.size 1 _ _ (.int .i64 1) S0.out)
    have TROW := Lib.hid ((heap_setCell_other w1 ⟨w.heap.size, 1, none⟩ (w.heap.size + 1) (.int .i64 1) (by simp)).trans S1.out)
    have HG := HG1
    have HCC := HC1
    simp at T0
    obtain ⟨d0, d1, d2, d3, d4, d5, d6⟩ := row7 T0.out
    rcases hx with rfl | rfl
    all_goals
      go_wp2_with (refine wpList_store_row rfl 26 _ _ rfl (w.heap.size + 1) _ rfl rfl 26 zeroOp TROW.out (by kernel_rfl) rfl (by simp [Value.oneCell']) ?_)
      refine bodyPost_ret (v := .agg #[.int .i64 kd, .int .i64 1, .int .i64 ch, .int .u64 vl, .int .i64 dl, .slice a3 nc cap3, .slice a4 nd cap4]) (results_cell_row Try.results42 _ _ (w.heap.size + 1) 26 _ (0, 0) _ rfl (setRow_heap _ _ _ _ 26 (0, 0) TROW.out) Try.underlying26 rfl (by kernel_rfl)) rfl ?_
      obtain ⟨f2, f3⟩ := mode_end hlt HG.out HCC.out (W := _) (below_setRow ((Below.refl _ _).setCell (p := ⟨w.heap.size, 1, none⟩) (Nat.le_refl _) _) (Nat.le_succ _) _)
      exact ⟨1, dl, rfl, .inr (.inl ⟨rfl, rfl⟩), f2, f3⟩

  · go_wp2_with fail
    refine (nextE g 5 _ HC1.out (by omega) (by omega)).mono ?_; rintro e w2 ⟨y, rfl, hy0, hy1, hc2, hg2⟩
    have HCC := Lib.hid hc2
    have HG := Lib.hid (grownBy_trans HG1.out hg2)
    have S20 := Lib.hid ((hg2.block w.heap.size (by omega) (by simp; omega)).trans S0.out)
    have S21 := Lib.hid ((hg2.block (w.heap.size + 1) (by omega) (by simp; omega)).trans S1.out)
    clear hc2 hg2 c0 c1 c2 c3 c4 c5 c6 f1 f4
    obtain ⟨c0, c1, c2, c3, c4, c5, c6⟩ := row7 S20.out
    have f1 := frozen_of_row _ _ 1 _ _ S20.out
    have f4 := frozen_of_row _ _ 4 _ _ S20.out
    have T0 := Lib.hid (heap_setCell_same w2 w.heap.size 1 _ _ (.int .i64 2) S20.out)
    simp at T0
    have g4 := frozen_of_row _ _ 4 _ _ T0.out
    have U0 := Lib.hid (heap_setCell_same _ w.heap.size 4 _ _ (.int .i64 y) T0.out)
    simp at U0
    obtain ⟨e0, e1, e2, e3, e4, e5, e6⟩ := row7 T0.out
    obtain ⟨d0, d1, d2, d3, d4, d5, d6⟩ := row7 U0.out
    have TROW := Lib.hid ((heap_setCell_other _ ⟨w.heap.size, 4, none⟩ (w.heap.size + 1) (.int .i64 y) (by simp)).trans ((heap_setCell_other w2 ⟨w.heap.size, 1, none⟩ (w.heap.size + 1) (.int .i64 2) (by simp)).trans S21.out))
    go_wp2_with (refine wpList_store_row rfl 26 _ _ rfl (w.heap.size + 1) _ rfl rfl 26 zeroOp TROW.out (by kernel_rfl) rfl (by simp [Value.oneCell']) ?_)
    refine bodyPost_ret (v := .agg #[.int .i64 kd, .int .i64 2, .int .i64 ch, .int .u64 vl, .int .i64 y, .slice a3 nc cap3, .slice a4 nd cap4]) (results_cell_row Try.results42 _ _ (w.heap.size + 1) 26 _ (0, 0) _ rfl (setRow_heap _ _ _ _ 26 (0, 0) TROW.out) Try.underlying26 rfl (by kernel_rfl)) rfl ?_
    obtain ⟨f2, f3⟩ := mode_end hlt HG.out HCC.out (W := _) (below_setRow (((Below.refl _ _).setCell (p := ⟨w.heap.size, 1, none⟩) (Nat.le_refl _) _).setCell (p := ⟨w.heap.size, 4, none⟩) (Nat.le_refl _) _) (Nat.le_succ _) _)
    exact ⟨2, y, rfl, .inr (.inr ⟨rfl, hy0, hy1⟩), f2, f3⟩

  · have TROW := S1
    have HG := HG1
    have HCC := HC1
    go_wp2_with (refine wpList_store_row rfl 26 _ _ rfl (w.heap.size + 1) _ rfl rfl 26 zeroOp TROW.out (by kernel_rfl) rfl (by simp [Value.oneCell']) ?_)
    refine bodyPost_ret (v := .agg #[.int .i64 kd, .int .i64 md, .int .i64 ch, .int .u64 vl, .int .i64 dl, .slice a3 nc cap3, .slice a4 nd cap4]) (results_cell_row Try.results42 _ _ (w.heap.size + 1) 26 _ (0, 0) _ rfl (setRow_heap _ _ _ _ 26 (0, 0) TROW.out) Try.underlying26 rfl (by kernel_rfl)) rfl ?_
    obtain ⟨f2, f3⟩ := mode_end hlt HG.out HCC.out (W := _) (below_setRow (Below.refl _ _) (Nat.le_succ _) _)
    exact ⟨md, dl, rfl, .inl ⟨rfl, rfl⟩, f2, f3⟩

end Go.Proofs.Ytkciejealeinoaa
