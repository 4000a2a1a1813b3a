import Derived.Deep.RegionLaw
import Derived.Deep.DeepCutAuto
import Derived.Deep.CutBlock
import Derived.Test.YtckjdlphilpgfaaB19
import Derived.Test.YtckjdlphilpgfaaB18
import Derived.Test.YtckjdlphilpgfaaB08
set_option linter.unusedVariables false
set_option linter.unusedSimpArgs false
/- The reader of choices: what its methods return, whatever the choices are. -/
namespace Go.Proofs.Ytckjdlphilpgfaa
open Go.ChangeShapes Go.WideShapes Go.ChangeAt Go.RowKit
set_option maxRecDepth 100000

theorem SlC.offOf {w : World} {v : Value} {l : List CaseM} (h : SlC w v l) {g : Nat} (hg : w.heap.size ≤ g) : offB g v := by
  intro a n c e
  obtain ⟨_, _, a', cap, rfl, _, h5⟩ := h
  rcases Nat.eq_zero_or_pos l.length with h0 | h0
  · simp only [Value.slice.injEq] at e; exact .inl (by omega)
  · obtain ⟨b, off, rfl, hlt, _⟩ := h5 0 h0
    simp only [Value.slice.injEq, Option.some.injEq] at e
    obtain ⟨rfl, _⟩ := e
    exact .inr (by simp; omega)
theorem SlC.grown {w w' : World} {v : Value} {l : List CaseM} {g : Nat} (h : SlC w v l) (hg : w.grownBy w' (some g)) (ho : offB g v) : SlC w' v l := by
  obtain ⟨h1, h2, a, cap, rfl, h4, h5⟩ := h
  refine ⟨h1, h2, a, cap, rfl, h4, fun t ht => ?_⟩
  obtain ⟨b, off, rfl, hlt, c0, c1, c2⟩ := h5 t ht
  have hb : b ≠ g := (ho _ _ _ rfl).resolve_left (by omega)
  have k : ∀ j, w'.cell? ⟨b, j, none⟩ = w.cell? ⟨b, j, none⟩ := fun j => World.cell?_of_block (a := ⟨b, j, none⟩) (hg.block b hlt (by simpa using hb))
  exact ⟨b, off, rfl, Nat.lt_of_lt_of_le hlt hg.size, (k _).trans c0, (k _).trans c1, (k _).trans c2⟩
theorem OwnC.off {w : World} {base : Nat} {v : Value} {l : List CaseM} (h : OwnC w base v l) {g : Nat} (hg : g < base) : offB g v := by
  intro a n c e
  subst e
  have := h.own_ge a.block rfl
  exact .inr (by omega)
/-- a configuration, an operation, that lie beside the reader's block -/
def ConfX (w : World) (g : Nat) (v : Value) (c : ConfM) : Prop :=
  ∃ vc vs, v = .agg #[vc, vs, .int .i64 c.threads] ∧ SlI w .i64 vc c.caps ∧ SlI w .u64 vs c.starts ∧ offB g vc ∧ offB g vs
theorem ConfX.conf {w : World} {g : Nat} {v : Value} {c : ConfM} (h : ConfX w g v c) : ConfV w v c := by
  obtain ⟨vc, vs, e, h1, h2, _⟩ := h; exact ⟨vc, vs, e, h1, h2⟩
theorem ConfX.below {w w' : World} {g : Nat} {v : Value} {c : ConfM} (h : ConfX w g v c) (hb : Below w.heap.size w w') : ConfX w' g v c := by
  obtain ⟨vc, vs, e, h1, h2, h3⟩ := h; exact ⟨vc, vs, e, h1.below hb, h2.below hb, h3⟩
theorem ConfX.grown {w w' : World} {g : Nat} {v : Value} {c : ConfM} (h : ConfX w g v c) (hg : w.grownBy w' (some g)) : ConfX w' g v c := by
  obtain ⟨vc, vs, e, h1, h2, h3, h4⟩ := h; exact ⟨vc, vs, e, h1.grown hg h3, h2.grown hg h4, h3, h4⟩
def OpX (w : World) (g : Nat) (v : Value) (op : OpM) : Prop :=
  ∃ vc vd, v = .agg #[.int .i64 op.kind, .int .i64 op.mode, .int .i64 op.chan, .int .u64 op.val, .int .i64 op.dl, vc, vd] ∧ SlC w vc op.cases ∧ SlI w .i64 vd op.draws ∧ offB g vc ∧ offB g vd
theorem OpX.opv {w : World} {g : Nat} {v : Value} {op : OpM} (h : OpX w g v op) : OpV w v op := by
  obtain ⟨vc, vs, e, h1, h2, _⟩ := h; exact ⟨vc, vs, e, h1, h2⟩
theorem OpX.below {w w' : World} {g : Nat} {v : Value} {op : OpM} (h : OpX w g v op) (hb : Below w.heap.size w w') : OpX w' g v op := by
  obtain ⟨vc, vs, e, h1, h2, h3⟩ := h; exact ⟨vc, vs, e, h1.below hb, h2.below hb, h3⟩
theorem OpX.grown {w w' : World} {g : Nat} {v : Value} {op : OpM} (h : OpX w g v op) (hg : w.grownBy w' (some g)) : OpX w' g v op := by
  obtain ⟨vc, vs, e, h1, h2, h3, h4⟩ := h; exact ⟨vc, vs, e, h1.grown hg h3, h2.grown hg h4, h3, h4⟩
theorem OpV.opx {w : World} {g : Nat} {v : Value} {op : OpM} (h : OpV w v op) (hg : w.heap.size ≤ g) : OpX w g v op := by
  obtain ⟨vc, vs, e, h1, h2⟩ := h; exact ⟨vc, vs, e, h1, h2, h1.offOf hg, h2.offOf hg⟩
theorem configE (g : Nat) (w : World) (h : CodesE w g) :
    Calls Try.prog 34 #[.pointer (some ⟨g, 0, none⟩)] w fun e w' => ∃ v c, e = .returned v ∧ ConfX w' g v c ∧ c.caps.length = c.starts.length ∧ 1 ≤ c.caps.length ∧ c.caps.length ≤ 3 ∧ 2 ≤ c.threads ∧ c.threads ≤ 4 ∧ CodesE w' g ∧ w.grownBy w' (some g) := by
  obtain ⟨r, val, h⟩ := h
  refine (config_any g r val w h).mono ?_
  rintro e w' ⟨vc, vs, t, caps, starts, r', rfl, h1, h2, h3, h4, h5, h6, h7, h8, h9, h10, h11, -⟩
  exact ⟨_, ⟨caps, starts, t⟩, rfl, ⟨vc, vs, rfl, h1, h2, h10, h11⟩, h3, h4, h5, h6, h7, ⟨_, _, h8⟩, h9⟩
set_option maxRecDepth 100000 in
theorem channelE (g : Nat) (v : Value) (c : ConfM) (w : World) (h : CodesE w g) (hv : ConfX w g v c) (hc : c.caps.length ≤ 8) :
    Calls Try.prog 37 #[.pointer (some ⟨g, 0, none⟩), v] w fun e w' => ∃ x : Int, e = .returned (.int .i64 x) ∧ -1 ≤ x ∧ x < 8 ∧ CodesE w' g ∧ w.grownBy w' (some g) := by
  have hlt := h.lt
  have HC := Lib.hid h
  obtain ⟨vc, vs, rfl, h1, h2, _⟩ := hv
  obtain ⟨a, cap, rfl, -⟩ := h1.len
  obtain ⟨a2, cap2, rfl, -⟩ := h2.len
  clear h h1 h2
  obtain ⟨W, hW⟩ : ∃ W, w.alloc (.cells #[.slice a c.caps.length cap, .slice a2 c.starts.length cap2, .int .i64 c.threads] 34) = W := ⟨_, rfl⟩
  have HB : Hid (Below w.heap.size w W) := hW ▸ below_new (Below.refl w.heap.size w) _
  have hz : w.heap.size + 1 ≤ W.heap.size := by rw [← hW]; simp
  have R0 : Hid (W.heap[w.heap.size]? = some (.cells #[.slice a c.caps.length cap, .slice a2 c.starts.length cap2, .int .i64 c.threads] 34 (0, 0))) := by
    show _ = _
    rw [← hW]; exact heap_alloc_new _ _
  have HCW := Lib.hid (HC.out.kept hlt HB.out)
  have HW := Lib.hid hW
  clear hW
  generalize c.caps.length = n at *
  go_enter Try.func37, Try.ntmps37
  go_wp2_with fail
  rw [HW.out]
  refine (nextE g 16 _ HCW.out (by omega) (by omega)).mono ?_; rintro e w1 ⟨x, rfl, hx0, hx1, hc1, hg1⟩
  have HC1 := Lib.hid hc1
  have HG1 := Lib.hid (grownBy_trans (⟨HB.out.os, HB.out.tape, HB.out.output, HB.out.size, fun j hj _ => HB.out.block j hj⟩ : w.grownBy W (some g)) hg1)
  have bx := (hg1.block w.heap.size (by omega) (by simp; omega)).trans R0.out
  have c0 := cell_of_row _ _ 0 _ _ _ bx
  simp at c0
  clear hc1 hg1 bx
  by_cases h9 : x = 9
  · subst h9
    go_wp2_with fail
    refine (nextE g 9 _ HC1.out (by omega) (by omega)).mono ?_; rintro e w2 ⟨y, rfl, hy0, hy1, hc2, hg2⟩
    have HC2 := Lib.hid hc2
    have HG2 := Lib.hid (grownBy_trans HG1.out hg2)
    clear hc2 hg2
    go_wp2
    go_ret
    exact ⟨y - 1, rfl, by omega, by omega, HC2.out, HG2.out⟩
  · have h9b : (x == 9) = false := by simpa using h9
    clear h9
    by_cases h0 : n = 0
    · subst h0
      go_wp2
      go_ret
      exact ⟨-1, rfl, by omega, by omega, HC1.out, HG1.out⟩
    · have h0b : ((n : Int) == 0) = false := by simpa using h0
      go_wp2_with fail
      refine (nextE g n _ HC1.out (by omega) (by omega)).mono ?_; rintro e w2 ⟨y, rfl, hy0, hy1, hc2, hg2⟩
      have HC2 := Lib.hid hc2
      have HG2 := Lib.hid (grownBy_trans HG1.out hg2)
      clear hc2 hg2
      go_wp2
      go_ret
      exact ⟨y, rfl, by omega, by omega, HC2.out, HG2.out⟩
end Go.Proofs.Ytckjdlphilpgfaa
/- The reader of choices: values, modes, numbers at limits. -/
namespace Go.Proofs.Ytckjdlphilpgfaa
open Go.ChangeShapes Go.WideShapes Go.ChangeAt Go.RowKit
set_option maxRecDepth 100000

theorem grown_of_below {a b : World} {row : Option Nat} (h : Below a.heap.size a b) : a.grownBy b row := ⟨h.os, h.tape, h.output, h.size, fun j hj _ => h.block j hj⟩
theorem u64_ok (x : Int) (h0 : 0 ≤ x) (h1 : x ≤ 18446744073709551615) : x = IntKind.u64.wrap x := by
  rw [IntKind.wrap_u64]; omega
theorem value_step {w : World} {g k : Nat} {v : Value} {val x : Int} {l r : List Int} (hg : w.heap[g]? = some (.cells #[v, .int .i64 k, .int .u64 val] 71 (0, 0))) (h : CodesAt w g r val) :
    CodesAt (w.setCell ⟨g, 2, none⟩ (.int .u64 x)) g r x ∧ w.grownBy (w.setCell ⟨g, 2, none⟩ (.int .u64 x)) (some g) ∧ (w.setCell ⟨g, 2, none⟩ (.int .u64 x)).cell? ⟨g, 2, none⟩ = some (.int .u64 x) := by
  have hs := heap_setCell_same w g 2 _ _ (.int .u64 x) hg
  have hgr := grownBy_setCell w ⟨g, 2, none⟩ (.int .u64 x)
  refine ⟨?_, hgr, by simpa using cell_of_row _ g 2 _ _ _ hs⟩
  obtain ⟨v', l', k', hg', hl, hk, hr, ho⟩ := h
  rw [hg] at hg'
  simp only [Option.some.injEq, Obj.cells.injEq, Array.mk.injEq, List.cons.injEq, and_true] at hg'
  obtain ⟨rfl, hkk⟩ := hg'
  simp only [Value.int.injEq, true_and, and_true] at hkk
  obtain rfl : k = k' := by omega
  refine ⟨v, l', k, by simpa using hs, ?_, hk, hr, ho⟩
  refine hl.grown hgr fun a n c e => ?_
  subst e
  by_cases hne : l' = []
  · obtain ⟨a', cap', e, -⟩ := hl.len
    rw [hne] at e
    simp only [Value.slice.injEq] at e
    exact .inl e.2.1
  · exact .inr (by have := ho hne (some a) n c rfl a rfl; simp; omega)
theorem valueE (g : Nat) (w : World) (h : CodesE w g) :
    Calls Try.prog 35 #[.pointer (some ⟨g, 0, none⟩)] w fun e w' => ∃ x : Int, e = .returned (.int .u64 x) ∧ x = IntKind.u64.wrap x ∧ CodesE w' g ∧ w.grownBy w' (some g) := by
  obtain ⟨r, val, h⟩ := h
  obtain ⟨v, l, k, hg, -⟩ := id h
  have c2 := cell_of_row w g 2 _ _ _ hg
  have f2 := frozen_of_row w g 2 _ _ hg
  simp at c2
  have ST := Lib.hid fun x => value_step (x := x) (l := l) hg h
  obtain ⟨x, hx⟩ : ∃ x, IntKind.u64.wrap (val + 1) = x := ⟨_, rfl⟩
  obtain ⟨s1, s2, s3⟩ := ST.out x
  have HS := Lib.hid (And.intro s1 s2)
  have HX : Hid (x = IntKind.u64.wrap x) := by
    show _ = _
    rw [← hx, IntKind.wrap_u64, IntKind.wrap_u64]; omega
  clear hg h ST s1 s2
  go_enter Try.func35, Try.ntmps35
  go_wp2
  go_ret
  exact ⟨x, rfl, HX.out, ⟨r, x, HS.out.1⟩, HS.out.2⟩
theorem row7 {w : World} {g : Nat} {T : TypeId} {v0 v1 v2 v3 v4 v5 v6 : Value} (h : w.heap[g]? = some (.cells #[v0, v1, v2, v3, v4, v5, v6] T (0, 0))) :
    w.cell? ⟨g, 0, none⟩ = some v0 ∧ w.cell? ⟨g, 1, none⟩ = some v1 ∧ w.cell? ⟨g, 2, none⟩ = some v2 ∧ w.cell? ⟨g, 3, none⟩ = some v3 ∧ w.cell? ⟨g, 4, none⟩ = some v4 ∧ w.cell? ⟨g, 5, none⟩ = some v5 ∧ w.cell? ⟨g, 6, none⟩ = some v6 :=
  ⟨cell_of_row _ _ 0 _ _ _ h, cell_of_row _ _ 1 _ _ _ h, cell_of_row _ _ 2 _ _ _ h, cell_of_row _ _ 3 _ _ _ h, cell_of_row _ _ 4 _ _ _ h, cell_of_row _ _ 5 _ _ _ h, cell_of_row _ _ 6 _ _ _ h⟩
theorem row3 {w : World} {g : Nat} {T : TypeId} {v0 v1 v2 : Value} (h : w.heap[g]? = some (.cells #[v0, v1, v2] T (0, 0))) :
    w.cell? ⟨g, 0, none⟩ = some v0 ∧ w.cell? ⟨g, 1, none⟩ = some v1 ∧ w.cell? ⟨g, 2, none⟩ = some v2 :=
  ⟨cell_of_row _ _ 0 _ _ _ h, cell_of_row _ _ 1 _ _ _ h, cell_of_row _ _ 2 _ _ _ h⟩
theorem grownBy_setRow (w : World) (g : Nat) (cs : Array Value) : w.grownBy (w.setRow g cs) (some g) :=
  ⟨rfl, rfl, rfl, by simp [World.setRow], fun k _ hk => setRow_other w g k cs (fun e => hk (by rw [e]))⟩
/-- what a call leaves that has written the reader's block, and new blocks of its own -/
theorem grownBy_own {a b c : World} {g : Nat} {row : Option Nat} (h : a.grownBy b (some g)) (h2 : b.grownBy c row) (hr : ∀ k, row = some k → a.heap.size ≤ k) : a.grownBy c (some g) := grownBy_of_new h h2 hr
/-- the words of an operation as cells -/
def opCells (op : OpM) (vc vd : Value) : Array Value := #[.int .i64 op.kind, .int .i64 op.mode, .int .i64 op.chan, .int .u64 op.val, .int .i64 op.dl, vc, vd]
def zeroOp : Array Value := #[.int .i64 0, .int .i64 0, .int .i64 0, .int .u64 0, .int .i64 0, .slice none 0 0, .slice none 0 0]
/-- behind a call that wrote the reader's block, blocks of the call's own are written -/
theorem mode_end {w w1 W : World} {g : Nat} (hlt : g < w.heap.size) (hg : w.grownBy w1 (some g)) (hc : CodesE w1 g) (hb : Below w.heap.size w1 W) : CodesE W g ∧ w.grownBy W (some g) :=
  ⟨hc.kept hlt hb, ⟨hb.os.trans hg.os, hb.tape.trans hg.tape, hb.output.trans hg.output, Nat.le_trans hg.size hb.size, fun k hk hr => (hb.block k hk).trans (hg.block k hk hr)⟩⟩
set_option maxRecDepth 100000 in
set_option maxHeartbeats 1000000 in
theorem modeE (g : Nat) (kd md ch vl dl : Int) (vc vd : Value) (cs : List CaseM) (ds : List Int) (w : World) (h : CodesE w g) (hc : SlC w vc cs) (hd : SlI w .i64 vd ds) :
    Calls Try.prog 36 #[.pointer (some ⟨g, 0, none⟩), .agg #[.int .i64 kd, .int .i64 md, .int .i64 ch, .int .u64 vl, .int .i64 dl, vc, vd]] w fun e w' =>
      ∃ m d, e = .returned (.agg #[.int .i64 kd, .int .i64 m, .int .i64 ch, .int .u64 vl, .int .i64 d, vc, vd]) ∧ ((m = md ∧ d = dl) ∨ (m = 1 ∧ d = dl) ∨ (m = 2 ∧ 0 ≤ d ∧ d < 5)) ∧ CodesE w' g ∧ w.grownBy w' (some g) := by
  have hlt := h.lt
  have HC := Lib.hid h
  obtain ⟨a3, cap3, rfl⟩ := hc.len
  obtain ⟨a4, cap4, rfl, -⟩ := hd.len
  clear h hc hd
  generalize cs.length = nc at *
  generalize ds.length = nd at *
  obtain ⟨W, hW⟩ : ∃ W, (w.alloc (.cells #[.int .i64 kd, .int .i64 md, .int .i64 ch, .int .u64 vl, .int .i64 dl, .slice a3 nc cap3, .slice a4 nd cap4] 38)).alloc (.cells zeroOp 38) = W := ⟨_, rfl⟩
  have HB : Hid (Below w.heap.size w W) := hW ▸ below_new (below_new (Below.refl w.heap.size w) _) _
  have hz : w.heap.size + 2 ≤ W.heap.size := by rw [← hW]; simp
  have R0 : Hid (W.heap[w.heap.size]? = some (.cells #[.int .i64 kd, .int .i64 md, .int .i64 ch, .int .u64 vl, .int .i64 dl, .slice a3 nc cap3, .slice a4 nd cap4] 38 (0, 0))) := by
    show _ = _
    rw [← hW]; exact heap_alloc2_old _ _ _
  have R1 : Hid (W.heap[w.heap.size + 1]? = some (.cells zeroOp 38 (0, 0))) := by
    show _ = _
    rw [← hW]; exact heap_alloc2_new _ _ _
  have HCW := Lib.hid (HC.out.kept hlt HB.out)
  have HGW : Hid (w.grownBy W (some g)) := grown_of_below HB.out
  have HW := Lib.hid hW
  clear hW
  go_enter Try.func36, Try.ntmps36
  go_wp2_with fail
  rw [show (#[.int .i64 0, .int .i64 0, .int .i64 0, .int .u64 0, .int .i64 0, .slice none 0 0, .slice none 0 0] : Array Value) = zeroOp from rfl, HW.out]
  refine (nextE g 8 _ HCW.out (by omega) (by omega)).mono ?_; rintro e w1 ⟨x, rfl, hx0, hx1, hc1, hg1⟩
  have HC1 := Lib.hid hc1
  have HG1 := Lib.hid (grownBy_trans HGW.out hg1)
  have S0 := Lib.hid ((hg1.block w.heap.size (by omega) (by simp; omega)).trans R0.out)
  have S1 := Lib.hid ((hg1.block (w.heap.size + 1) (by omega) (by simp; omega)).trans R1.out)
  have hg1s : w.heap.size + 2 ≤ w1.heap.size := Nat.le_trans hz hg1.size
  clear hc1 hg1
  obtain ⟨c0, c1, c2, c3, c4, c5, c6⟩ := row7 S0.out
  have f1 := frozen_of_row _ _ 1 _ _ S0.out
  have f4 := frozen_of_row _ _ 4 _ _ S0.out
  rcases (show (x = 5 ∨ x = 6) ∨ x = 7 ∨ ((x == 5) = false ∧ (x == 6) = false ∧ (x == 7) = false) by simp; omega) with hx | rfl | ⟨x5, x6, x7⟩
  · have T0 := Lib.hid (heap_setCell_same w1 w.heap.size 1 _ _ (.int .i64 1) S0.out)
    have TROW := Lib.hid ((heap_setCell_other w1 ⟨w.heap.size, 1, none⟩ (w.heap.size + 1) (.int .i64 1) (by simp)).trans S1.out)
    have HG := HG1
    have HCC := HC1
    simp at T0
    obtain ⟨d0, d1, d2, d3, d4, d5, d6⟩ := row7 T0.out
    rcases hx with rfl | rfl
    all_goals
      go_wp2_with (refine wpList_store_row rfl 38 _ _ rfl (w.heap.size + 1) _ rfl rfl 38 zeroOp TROW.out (by kernel_rfl) rfl (by simp [Value.oneCell']) ?_)
      refine bodyPost_ret (v := .agg #[.int .i64 kd, .int .i64 1, .int .i64 ch, .int .u64 vl, .int .i64 dl, .slice a3 nc cap3, .slice a4 nd cap4]) (results_cell_row Try.results36 _ _ (w.heap.size + 1) 38 _ (0, 0) _ rfl (setRow_heap _ _ _ _ 38 (0, 0) TROW.out) Try.underlying38 rfl (by kernel_rfl)) rfl ?_
      obtain ⟨f2, f3⟩ := mode_end hlt HG.out HCC.out (W := _) (below_setRow ((Below.refl _ _).setCell (p := ⟨w.heap.size, 1, none⟩) (Nat.le_refl _) _) (Nat.le_succ _) _)
      exact ⟨1, dl, rfl, .inr (.inl ⟨rfl, rfl⟩), f2, f3⟩

  · go_wp2_with fail
    refine (nextE g 5 _ HC1.out (by omega) (by omega)).mono ?_; rintro e w2 ⟨y, rfl, hy0, hy1, hc2, hg2⟩
    have HCC := Lib.hid hc2
    have HG := Lib.hid (grownBy_trans HG1.out hg2)
    have S20 := Lib.hid ((hg2.block w.heap.size (by omega) (by simp; omega)).trans S0.out)
    have S21 := Lib.hid ((hg2.block (w.heap.size + 1) (by omega) (by simp; omega)).trans S1.out)
    clear hc2 hg2 c0 c1 c2 c3 c4 c5 c6 f1 f4
    obtain ⟨c0, c1, c2, c3, c4, c5, c6⟩ := row7 S20.out
    have f1 := frozen_of_row _ _ 1 _ _ S20.out
    have f4 := frozen_of_row _ _ 4 _ _ S20.out
    have T0 := Lib.hid (heap_setCell_same w2 w.heap.size 1 _ _ (.int .i64 2) S20.out)
    simp at T0
    have g4 := frozen_of_row _ _ 4 _ _ T0.out
    have U0 := Lib.hid (heap_setCell_same _ w.heap.size 4 _ _ (.int .i64 y) T0.out)
    simp at U0
    obtain ⟨e0, e1, e2, e3, e4, e5, e6⟩ := row7 T0.out
    obtain ⟨d0, d1, d2, d3, d4, d5, d6⟩ := row7 U0.out
    have TROW := Lib.hid ((heap_setCell_other _ ⟨w.heap.size, 4, none⟩ (w.heap.size + 1) (.int .i64 y) (by simp)).trans ((heap_setCell_other w2 ⟨w.heap.size, 1, none⟩ (w.heap.size + 1) (.int .i64 2) (by simp)).trans S21.out))
    go_wp2_with (refine wpList_store_row rfl 38 _ _ rfl (w.heap.size + 1) _ rfl rfl 38 zeroOp TROW.out (by kernel_rfl) rfl (by simp [Value.oneCell']) ?_)
    refine bodyPost_ret (v := .agg #[.int .i64 kd, .int .i64 2, .int .i64 ch, .int .u64 vl, .int .i64 y, .slice a3 nc cap3, .slice a4 nd cap4]) (results_cell_row Try.results36 _ _ (w.heap.size + 1) 38 _ (0, 0) _ rfl (setRow_heap _ _ _ _ 38 (0, 0) TROW.out) Try.underlying38 rfl (by kernel_rfl)) rfl ?_
    obtain ⟨f2, f3⟩ := mode_end hlt HG.out HCC.out (W := _) (below_setRow (((Below.refl _ _).setCell (p := ⟨w.heap.size, 1, none⟩) (Nat.le_refl _) _).setCell (p := ⟨w.heap.size, 4, none⟩) (Nat.le_refl _) _) (Nat.le_succ _) _)
    exact ⟨2, y, rfl, .inr (.inr ⟨rfl, hy0, hy1⟩), f2, f3⟩

  · have TROW := S1
    have HG := HG1
    have HCC := HC1
    go_wp2_with (refine wpList_store_row rfl 38 _ _ rfl (w.heap.size + 1) _ rfl rfl 38 zeroOp TROW.out (by kernel_rfl) rfl (by simp [Value.oneCell']) ?_)
    refine bodyPost_ret (v := .agg #[.int .i64 kd, .int .i64 md, .int .i64 ch, .int .u64 vl, .int .i64 dl, .slice a3 nc cap3, .slice a4 nd cap4]) (results_cell_row Try.results36 _ _ (w.heap.size + 1) 38 _ (0, 0) _ rfl (setRow_heap _ _ _ _ 38 (0, 0) TROW.out) Try.underlying38 rfl (by kernel_rfl)) rfl ?_
    obtain ⟨f2, f3⟩ := mode_end hlt HG.out HCC.out (W := _) (below_setRow (Below.refl _ _) (Nat.le_succ _) _)
    exact ⟨md, dl, rfl, .inl ⟨rfl, rfl⟩, f2, f3⟩

end Go.Proofs.Ytckjdlphilpgfaa
/- Layer 14: the law's channels. -/
namespace Go.Proofs.Ytckjdlphilpgfaa
open Go.ChangeShapes Go.WideShapes Go.ChangeAt Go.RowKit
set_option maxRecDepth 100000

set_option maxRecDepth 100000 in
set_option maxHeartbeats 16000000 in
theorem chans_any (g : Nat) (w : World) (hC : CodesE w g) : Calls Try.prog 11 #[.pointer (some ⟨g, 0, none⟩)] w fun e w' => ∃ v, e = .returned v ∧ ∃ l, SlH w' v l ∧ ChR l ∧ CodesE w' g ∧ w.grownBy w' (some g) := by
  have HC := Lib.hid (configG g w hC)
  clear hC
  go_enter Try.func11, Try.ntmps11
  go_wp2_with fail
  refine HC.out.mono ?_; rintro e w1 ⟨vc, vs, c, rfl, hsc, hss, hoc, hos, hgd, hl1, hl3, hC1, hg1⟩
  have T := Lib.hid (rNew_any (.agg #[vc, vs, .int .i64 c.threads]) c w1 ⟨vc, vs, rfl, hsc, hss⟩ hgd.len)
  have HG1 := Lib.hid hg1
  have HC1 := Lib.hid hC1
  obtain ⟨caps, starts, thr⟩ := c
  dsimp only at hl1 hl3 T ⊢
  have HCP : Hid (∀ x ∈ caps, 0 ≤ x ∧ x ≤ 16) := hgd.caps
  obtain ⟨ac, cc, rfl, -⟩ := hsc.len
  obtain ⟨ast, cst, rfl, -⟩ := hss.len
  clear hsc hss hoc hos hgd hC1 hg1 HC
  go_wp2_with fail
  refine T.out.mono ?_; rintro e w2 ⟨u, rfl, ho, hb2⟩
  have hrl : (chRows (nchE caps) (nils caps.length)).length = caps.length := by rw [chRows_length _ _ (by rw [nchE_length]; simp [nils]), nchE_length]
  obtain ⟨gv, cv, hve, -⟩ := ho.open (by omega)
  rw [hrl] at hve
  subst hve
  have HI0 := Lib.hid (ChI.start HG1.out hb2 HC1.out ho HCP.out)
  have HN0 : Hid ((nchE caps).length = caps.length) := nchE_length caps
  obtain ⟨n, hn⟩ : ∃ n, caps.length = n := ⟨_, rfl⟩
  rw [hn] at HI0 HN0 hl1 hl3 ⊢
  obtain ⟨B, hB⟩ : ∃ B, w1.heap.size = B := ⟨_, rfl⟩
  rw [hB] at HI0
  obtain ⟨us0, hus⟩ : ∃ u, nils n = u := ⟨_, rfl⟩
  rw [hus] at HI0
  obtain ⟨l0, hl0⟩ : ∃ u, nchE caps = u := ⟨_, rfl⟩
  rw [hl0] at HI0 HN0
  have HE0 : Hid (∀ j, 0 ≤ j → j < n → (l0.getD j noChan).buf = []) := fun j _ hj => by rw [← hl0, nchE_get caps j (by omega)]
  clear ho hb2 hrl T HG1 HC1 HCP hn hB hus hl0
  go_wp2_with fail
  go_loopw [11] (fun u11 wr => ∃ (i : Nat) (l : List ChanM) (us : List Value), u11 = .int .i64 i ∧ i ≤ n ∧ Hid (l.length = n) ∧ Hid (ChI w wr g B gv cv l us) ∧ Hid (∀ j, i ≤ j → j < n → (l.getD j noChan).buf = [])) (fun u11 _ => n - (intOf u11).toNat)
  case atStart => exact ⟨0, l0, us0, rfl, by omega, HN0, HI0, HE0⟩
  case round =>
    clear HI0 HN0 HE0
    obtain ⟨i, l, us, rfl, hi, HN, HI, HE⟩ := hrel
    obtain ⟨wo, rfl⟩ : ∃ wo : World, wo = wr := ⟨_, rfl⟩
    by_cases hlt : i < n
    · have hltI : (i : Int) < (n : Int) := by omega
      go_wp2_with fail
      go_loopw [5] (fun u5 wr => ∃ (k : Nat) (l : List ChanM) (us : List Value), u5 = .int .i64 k ∧ Hid (l.length = n) ∧ Hid (ChI w wr g B gv cv l us) ∧ k ≤ 16 ∧ Hid ((l.getD i noChan).buf.length = k) ∧ Hid (∀ j, i + 1 ≤ j → j < n → (l.getD j noChan).buf = [])) (fun u5 _ => 16 - (intOf u5).toNat)
      case atStart => exact ⟨0, l, us, rfl, HN, HI, by omega, by show _ = 0; rw [HE.out i (Nat.le_refl _) hlt]; rfl, fun j h1 h2 => HE.out j (by omega) h2⟩
      case round =>
        clear HI HN HE
        obtain ⟨k, l, us, rfl, HN, HI, hk, HK, HE⟩ := hrel
        obtain ⟨wp, rfl⟩ : ∃ wp : World, wp = wr := ⟨_, rfl⟩
        have hil : i < l.length := by rw [HN.out]; exact hlt
        have hrow := (HI.out.rows.row i (by rw [chRows_length l us HI.out.len]; exact hil)).1
        rw [chRows_row l us i HI.out.len hil (by rw [chRows_length l us HI.out.len]; exact hil)] at hrow
        have d0 := hrow 0 _ rfl
        simp only [Nat.add_zero] at d0
        obtain ⟨cc, hcc⟩ : ∃ x, (l.getD i noChan).cap = x := ⟨_, rfl⟩
        have hcap := HI.out.cap i hil
        rw [hcc] at d0 hcap
        have HCC := Lib.hid hcc
        have T := Lib.hid (nextE g (cc + 1) wp HI.out.code (by omega) (by omega))
        have hcw : IntKind.i64.wrap (cc + 1) = cc + 1 := (i64_small _ (by omega) (by omega)).symm
        clear hrow hcc hil
        go_wp2_with fail
        try rw [hcw]
        refine T.out.mono ?_; rintro e w3 ⟨x, rfl, hx0, hx1, hC3, hg3⟩
        have HI3 := Lib.hid (HI.out.draw hg3 hC3)
        clear hC3 hg3 T d0 hcw
        by_cases hkx : (k : Int) < x
        · have hil : i < l.length := by rw [HN.out]; exact hlt
          have hk15 : k ≤ 15 := by omega
          have hrl := chRows_length l us HI3.out.len
          have hrow := (HI3.out.rows.row i (by rw [hrl]; exact hil)).1
          rw [chRows_row l us i HI3.out.len hil (by rw [hrl]; exact hil)] at hrow
          have d1 := hrow 1 _ rfl
          obtain ⟨ui, hui⟩ : ∃ u, us.getD i nilV = u := ⟨_, rfl⟩
          obtain ⟨bf, hbf⟩ : ∃ b, (l.getD i noChan).buf = b := ⟨_, rfl⟩
          have hub := HI3.out.own i hil
          rw [hui, hbf] at hub
          have hui2 : us.getD i (.slice none 0 0) = ui := hui
          rw [hui2] at d1
          have hbl : bf.length ≤ 15 := by have := HK.out; rw [hbf] at this; omega
          obtain ⟨ua, un, uc, rfl⟩ : ∃ p n q, ui = .slice p n q := by
            rcases hub.shape with ⟨rfl, -⟩ | ⟨g, c, rfl, -⟩
            · exact ⟨_, _, _, rfl⟩
            · exact ⟨_, _, _, rfl⟩
          have HUI := Lib.hid (And.intro hui hbf)
          have hvg := HI3.out.vg
          have hgB := HI3.out.gB
          have KS8 : Hid (∀ w', Below w3.heap.size w3 w' → (fun w' : World => w'.cell? ⟨gv, i * 3 + 1, none⟩ = some (.slice ua un uc)) w') := fun w' hb => (hb.cell (p := ⟨gv, i * 3 + 1, none⟩) hvg.2).trans d1
          clear hrl hrow hui hui2 hbf hub
          go_upto_region 8 with fail
          clear d1
          refine untilK KS8 13 14 (by kernel_rfl) rfl ?_
          obtain ⟨u0, hu0, HU0⟩ := drew_pack w3
          rw [hu0]
          clear hu0
          have hSU0 := KS8.out _ HU0.out
          refine tkU (v := ?_) 0 la0 hSU0 (by kernel_rfl) (fun _ _ _ h => h) rfl ?_ ?_
          rotate_left
          · (intro w hSw; (try dsimp only at hSw); go_simp <;> with_reducible rfl)
          simp only [Act.put, List.setIfInBounds_toArray, List.set_cons_zero, List.set_cons_succ]
          refine tkU (v := ?_) 1 la1 hSU0 (by kernel_rfl) (fun _ _ _ h => h) rfl ?_ ?_
          rotate_left
          · (intro w hSw; (try dsimp only at hSw); go_simp <;> with_reducible rfl)
          simp only [Act.put, List.setIfInBounds_toArray, List.set_cons_zero, List.set_cons_succ]
          refine tkU (v := ?_) 2 la2 hSU0 (by kernel_rfl) (fun _ _ _ h => h) rfl ?_ ?_
          rotate_left
          · (intro w hSw; (try dsimp only at hSw); go_simp <;> with_reducible rfl)
          simp only [Act.put, List.setIfInBounds_toArray, List.set_cons_zero, List.set_cons_succ]
          refine tkU (v := ?_) 3 la3 hSU0 (by kernel_rfl) (fun _ _ _ h => h) rfl ?_ ?_
          rotate_left
          · (intro w hSw; (try dsimp only at hSw); go_simp <;> with_reducible rfl)
          simp only [Act.put, List.setIfInBounds_toArray, List.set_cons_zero, List.set_cons_succ]
          refine tkU (v := ?_) 4 la4 hSU0 (by kernel_rfl) (fun _ _ _ h => h) rfl ?_ ?_
          rotate_left
          · (intro w hSw; (try dsimp only at hSw); go_simp <;> with_reducible rfl)
          simp only [Act.put, List.setIfInBounds_toArray, List.set_cons_zero, List.set_cons_succ]
          refine tkU (v := ?_) 5 la5 hSU0 (by kernel_rfl) (fun _ _ _ h => h) rfl ?_ ?_
          rotate_left
          · (intro w hSw; (try dsimp only at hSw); go_simp <;> with_reducible rfl)
          simp only [Act.put, List.setIfInBounds_toArray, List.set_cons_zero, List.set_cons_succ]
          refine tkU (v := ?_) 6 la6 hSU0 (by kernel_rfl) (fun _ _ _ h => h) rfl ?_ ?_
          rotate_left
          · (intro w hSw; (try dsimp only at hSw); go_simp <;> with_reducible rfl)
          simp only [Act.put, List.setIfInBounds_toArray, List.set_cons_zero, List.set_cons_succ]
          refine tkU (v := ?_) 7 la7 hSU0 (by kernel_rfl) (fun _ _ _ h => h) rfl ?_ ?_
          rotate_left
          · (intro w hSw; (try dsimp only at hSw); go_simp <;> with_reducible rfl)
          simp only [Act.put, List.setIfInBounds_toArray, List.set_cons_zero, List.set_cons_succ]
          refine wpAnyU_ready (rs := [8]) (by kernel_rfl) rfl ?_
          refine AllReadyU.cons la8 rfl (fun K hK => ?_) ?_
          · go_simp
            go_at_call 35
            refine (valueE g u0 (HI3.out.below HU0.out).code).mono ?_
            rintro e u1 ⟨z, rfl, hz, hC, hgg⟩
            have HZ := Lib.hid hz
            have HI5 := Lib.hid ((HI3.out.below HU0.out).draw hgg hC)
            have HD : Hid ((fun w' : World => w'.cell? ⟨gv, i * 3 + 1, none⟩ = some (.slice ua un uc)) u1) := by
              have hrl := chRows_length l us HI5.out.len
              have hrow := (HI5.out.rows.row i (by rw [hrl]; exact hil)).1
              rw [chRows_row l us i HI5.out.len hil (by rw [hrl]; exact hil)] at hrow
              have d1 := hrow 1 _ rfl
              rw [show us.getD i (.slice none 0 0) = _ from HUI.out.1] at d1
              exact d1
            clear hz hC hgg
            refine hK.out _ _ ?_ (fun hSU1 => ?_)
            · exact HD.out
            clear hK K hSU0
            try simp only [Act.put, List.setIfInBounds_toArray, List.set_cons_zero, List.set_cons_succ]
            refine wpAnyU_ready (rs := [9]) (by kernel_rfl) rfl ?_
            refine AllReadyU.cons la9 rfl (fun K hK => ?_) ?_
            · go_simp
              obtain ⟨u2, nb, hv1, hX1, RN, hbn, ltn⟩ := alloc_pack u1 (.cells #[.int .u64 z] 23)
              rw [hv1, hX1]
              have HI6 := Lib.hid (HI5.out.below hbn.out)
              clear HD
              have HD : Hid ((fun w' : World => w'.cell? ⟨gv, i * 3 + 1, none⟩ = some (.slice ua un uc)) u2) := by
                have hrl := chRows_length l us HI6.out.len
                have hrow := (HI6.out.rows.row i (by rw [hrl]; exact hil)).1
                rw [chRows_row l us i HI6.out.len hil (by rw [hrl]; exact hil)] at hrow
                have d1 := hrow 1 _ rfl
                rw [show us.getD i (.slice none 0 0) = _ from HUI.out.1] at d1
                exact d1
              clear hv1 hX1 hbn ltn
              refine hK.out _ _ ?_ (fun hSU2 => ?_)
              · exact HD.out
              clear hK K hSU1
              try simp only [Act.put, List.setIfInBounds_toArray, List.set_cons_zero, List.set_cons_succ]
              refine wpAnyU_ready (rs := [10]) (by kernel_rfl) rfl ?_
              refine AllReadyU.cons la10 rfl (fun K hK => ?_) ?_
              · refine step_append_u64n (w := u2) (by rfl) _ _ (by rfl) B (.slice ua un uc) bf (by rfl) (by have h := HI6.out.own i hil; rw [HUI.out.1, HUI.out.2] at h; exact h) z nb (by rfl) (by exact cell_of_row _ _ 0 _ _ _ RN.out) (by omega) HI6.out.Bw ?_
                intro v6 u3 ho6 hg6 hn6
                obtain ⟨p6, n6, q6, rfl⟩ : ∃ p n q, v6 = .slice p n q := by
                  rcases ho6.shape with ⟨rfl, -⟩ | ⟨g, c, rfl, -⟩
                  · exact ⟨_, _, _, rfl⟩
                  · exact ⟨_, _, _, rfl⟩
                have HI7 := Lib.hid (HI6.out.push (v6 := .slice p6 n6 q6) (x := z) hil HZ.out (by rw [HUI.out.2]; exact hbl) (by rw [HUI.out.1]; exact hg6) (by rw [HUI.out.2]; exact ho6) (by rw [HUI.out.1]; exact hn6))
                have hne6 : (Value.slice ua un uc).ownBlock ≠ some gv := by have h := HI6.out.off hil; rw [HUI.out.1] at h; exact h
                have HSB := Lib.hid (hg6.block gv HI6.out.vg.2 (fun e => hne6 e.symm))
                have HFZ : Hid (u3.frozen? ⟨gv, i * 3 + 1, none⟩ = false) := by
                  have hrl := chRows_length l us HI6.out.len
                  have hown := HI6.out.rows.2
                  rw [hrl] at hown
                  exact (frozen_of_block HSB.out).trans (World.ownsRow.frozenAt hown (i * 3 + 1))
                clear ho6 hg6 hn6 hne6
                refine hK.out _ _ ?_ (fun hSU3 => ?_)
                · exact (cell_of_block HSB.out).trans HD.out
                clear hK K hSU2
                try simp only [Act.put, List.setIfInBounds_toArray, List.set_cons_zero, List.set_cons_succ]
                refine wpAnyU_takeW (v := ?_) 11 la11 (by kernel_rfl) (by kernel_rfl) (by kernel_rfl) (by kernel_rfl) (fun _ _ _ h => h) (fun _ => hSU3) rfl ?_ ?_
                rotate_left
                · (intro w; go_simp <;> with_reducible rfl)
                simp only [Act.put, List.setIfInBounds_toArray, List.set_cons_zero, List.set_cons_succ]
                refine tkU (v := ?_) 12 la12 hSU3 (by kernel_rfl) (fun _ _ _ h => h) rfl ?_ ?_
                rotate_left
                · (intro w hSw; (try dsimp only at hSw); go_simp <;> with_reducible rfl)
                simp only [Act.put, List.setIfInBounds_toArray, List.set_cons_zero, List.set_cons_succ]
                refine wpAnyU_ready (rs := [13]) (by kernel_rfl) rfl ?_
                refine AllReadyU.free la13 rfl (by kernel_rfl) (fun K hK => ?_) ?_
                · have fz := HFZ.out
                  have z1 := (cell_of_block (o := i * 3 + 1) HSB.out).trans HD.out
                  go_simp
                  clear z1 fz
                  refine hK.out _ _ ?_
                  clear hK K hSU3
                  try simp only [Act.put, List.setIfInBounds_toArray, List.set_cons_zero, List.set_cons_succ]
                  refine wpAnyU_done (by kernel_rfl) ?_ _
                  obtain ⟨W7, hW7⟩ : ∃ W7, u3.setCell ⟨gv, i * 3 + 1, none⟩ (.slice p6 n6 q6) = W7 := ⟨_, rfl⟩
                  rw [hW7] at HI7
                  rw [hW7]
                  have HN7 : Hid ((l.set i { l.getD i noChan with buf := (l.getD i noChan).buf ++ [z] }).length = n) := by show _ = _; rw [List.length_set]; exact HN.out
                  have HK7 : Hid (((l.set i { l.getD i noChan with buf := (l.getD i noChan).buf ++ [z] }).getD i noChan).buf.length = k + 1) := by
                    show _ = _
                    rw [getD_setL, if_pos ⟨rfl, hil⟩]
                    show ((l.getD i noChan).buf ++ [z]).length = _
                    rw [List.length_append, HK.out]
                    rfl
                  have HE7 : Hid (∀ j, i + 1 ≤ j → j < n → ((l.set i { l.getD i noChan with buf := (l.getD i noChan).buf ++ [z] }).getD j noChan).buf = []) := fun j h1 h2 => by
                    rw [getD_setL, if_neg (fun e => by omega)]
                    exact HE.out j h1 h2
                  clear hW7
                  go_wp2_with fail
                  go_roundw
                  case rel => exact ⟨k + 1, _, _, by go_num, HN7, HI7, by omega, HK7, HE7⟩
                  case measure => simp [intOf]; omega
                exact AllReadyU.nil
              exact AllReadyU.nil
            exact AllReadyU.nil
          exact AllReadyU.nil
        · have T4 := Lib.hid (nextE g 4 w3 HI3.out.code (by omega) (by omega))
          go_wp2_with fail
          refine T4.out.mono ?_; rintro e w4 ⟨y, rfl, hy0, hy1, hC4, hg4⟩
          have HI4 := Lib.hid (HI3.out.draw hg4 hC4)
          obtain ⟨yb, hyb⟩ : ∃ q, (y == 1) = q := ⟨_, rfl⟩
          clear hC4 hg4 T4 hkx
          have hil : i < l.length := by rw [HN.out]; exact hlt
          have hrl := chRows_length l us HI4.out.len
          have hown := HI4.out.rows.2
          rw [hrl] at hown
          have fz := World.ownsRow.frozenAt hown (i * 3 + 2)
          have hrow := (HI4.out.rows.row i (by rw [hrl]; exact hil)).1
          rw [chRows_row l us i HI4.out.len hil (by rw [hrl]; exact hil)] at hrow
          have d2 := hrow 2 _ rfl
          have HI5 := Lib.hid (HI4.out.shut (b := yb) hil)
          obtain ⟨W5, hW5⟩ : ∃ W5, w4.setCell ⟨gv, i * 3 + 2, none⟩ (.bool yb) = W5 := ⟨_, rfl⟩
          rw [hW5] at HI5
          have HW5 := Lib.hid hW5
          have HN5 : Hid ((l.set i { l.getD i noChan with closed := yb }).length = n) := by show _ = _; rw [List.length_set]; exact HN.out
          have HE5 : Hid (∀ j, i + 1 ≤ j → j < n → ((l.set i { l.getD i noChan with closed := yb }).getD j noChan).buf = []) := fun j h1 h2 => by
            rw [getD_setL, if_neg (fun e => by omega)]
            exact HE.out j h1 h2
          clear hW5 hrow hown hrl hil
          go_upto_region 10 with fail
          rw [HW5.out]
          clear fz d2 HW5
          go_wp2_with fail
          go_roundw
          case rel => exact ⟨i + 1, _, us, by go_num, by omega, HN5, HI5, HE5⟩
          case measure => simp [intOf]; omega
    · have hge : ¬ (i : Int) < (n : Int) := by omega
      have HS := Lib.hid (HI.out.slH (by rw [HN.out]; omega))
      have HR := Lib.hid (HI.out.chR (by rw [HN.out]; omega) (by rw [HN.out]; omega))
      rw [HN.out] at HS
      go_wp2
      go_ret
      exact ⟨_, rfl, l, HS.out, HR.out, HI.out.code, HI.out.grown⟩
end Go.Proofs.Ytckjdlphilpgfaa
