/- The reader of choices: an operation in which one thing was changed. -/
import Derived.Test.YtkciejealeinoaaCodes5
namespace Go.Proofs.Ytkciejealeinoaa
open Go.ChangeShapes Go.WideShapes Go.ChangeAt Go.RowKit
set_option maxRecDepth 100000

/-- an operation of at most n cases and draws -/
structure OpM.mild (op : OpM) (n : Nat) : Prop where
  ok : op.ok
  cases : op.cases.length ≤ n
  draws : op.draws.length ≤ n
  cok : ∀ c ∈ op.cases, c.ok
  dok : ∀ x ∈ op.draws, x = IntKind.i64.wrap x
/-- while an operation is changed: the reader, the variable in block R, the result's block R + 1 -/
structure SpInv (w0 w : World) (g : Nat) (op : OpM) (vc vd : Value) : Prop where
  lt : g < w0.heap.size
  size : w0.heap.size + 2 ≤ w.heap.size
  codes : CodesE w g
  grown : w0.grownBy w (some g)
  var : w.heap[w0.heap.size]? = some (.cells #[.int .i64 op.kind, .int .i64 op.mode, .int .i64 op.chan, .int .u64 op.val, .int .i64 op.dl, vc, vd] 26 (0, 0))
  res : w.heap[w0.heap.size + 1]? = some (.cells zeroOp 26 (0, 0))
  oc : OwnC w (w0.heap.size + 2) vc op.cases
  od : OwnI w (w0.heap.size + 2) 3 .i64 vd op.draws
theorem SpInv.next {w0 w w' : World} {g : Nat} {op : OpM} {vc vd : Value} (h : SpInv w0 w g op vc vd) (hc : CodesE w' g) (hg : w.grownBy w' (some g)) : SpInv w0 w' g op vc vd := by
  have hs := h.size
  have hl := h.lt
  exact ⟨hl, Nat.le_trans hs hg.size, hc, grownBy_trans h.grown hg, (hg.block _ (by omega) (by simp <;> omega)).trans h.var, (hg.block _ (by omega) (by simp <;> omega)).trans h.res, h.oc.kept hg (h.oc.ne (by omega)), h.od.kept hg (h.od.ne (by omega))⟩
theorem SpInv.below {w0 w w' : World} {g : Nat} {op : OpM} {vc vd : Value} (h : SpInv w0 w g op vc vd) (hb : Below w.heap.size w w') : SpInv w0 w' g op vc vd :=
  h.next (h.codes.kept h.codes.lt hb) (grown_of_below hb)
theorem SpInv.varAt {w0 w w1 : World} {g : Nat} {op : OpM} {vc vd : Value} {row : Option Nat} (h : SpInv w0 w g op vc vd) (hg : w.grownBy w1 row) (hr : ∀ j, row = some j → w0.heap.size + 2 ≤ j) :
    w1.heap[w0.heap.size]? = some (.cells #[.int .i64 op.kind, .int .i64 op.mode, .int .i64 op.chan, .int .u64 op.val, .int .i64 op.dl, vc, vd] 26 (0, 0)) :=
  (hg.block _ (by have := h.size; omega) (fun e => by have := hr _ e.symm; omega)).trans h.var
/-- a word of the variable is changed -/
theorem SpInv.word {w0 w : World} {g : Nat} {op op' : OpM} {vc vd : Value} (h : SpInv w0 w g op vc vd) (o : Nat) (u : Value) (h1 : op'.cases = op.cases) (h2 : op'.draws = op.draws)
    (hc : (#[.int .i64 op.kind, .int .i64 op.mode, .int .i64 op.chan, .int .u64 op.val, .int .i64 op.dl, vc, vd] : Array Value).setIfInBounds o u = #[.int .i64 op'.kind, .int .i64 op'.mode, .int .i64 op'.chan, .int .u64 op'.val, .int .i64 op'.dl, vc, vd]) :
    SpInv w0 (w.setCell ⟨w0.heap.size, o, none⟩ u) g op' vc vd := by
  have hs := h.size
  have hl := h.lt
  have hg := grownBy_setCell w ⟨w0.heap.size, o, none⟩ u
  have e : ∀ j, j ≠ w0.heap.size → (w.setCell ⟨w0.heap.size, o, none⟩ u).heap[j]? = w.heap[j]? := fun j hj => heap_setCell_other w ⟨w0.heap.size, o, none⟩ j u hj
  have hv := heap_setCell_same w w0.heap.size o _ _ u h.var
  rw [hc] at hv
  refine ⟨hl, by simpa using hs, h.codes.kept (B := w0.heap.size) hl ((Below.refl _ w).setCell (p := ⟨w0.heap.size, o, none⟩) (Nat.le_refl _) u), grownBy_of_new h.grown hg (fun k hk => by cases hk; simp), hv, (e _ (by omega)).trans h.res, ?_, ?_⟩
  · rw [h1]; exact h.oc.kept hg (h.oc.ne (by simp <;> omega))
  · rw [h2]; exact h.od.kept hg (h.od.ne (by simp <;> omega))
theorem SpInv.setCases {w0 w w1 : World} {g : Nat} {op : OpM} {vc vd vc' : Value} {cs : List CaseM} (h : SpInv w0 w g op vc vd) (ho : OwnC w1 (w0.heap.size + 2) vc' cs) (hg : w.grownBy w1 vc.ownBlock) :
    SpInv w0 (w1.setCell ⟨w0.heap.size, 5, none⟩ vc') g { op with cases := cs } vc' vd := by
  have hs := h.size
  have hl := h.lt
  have hge := h.oc.own_ge
  have b : ∀ j, j < w0.heap.size + 2 → w1.heap[j]? = w.heap[j]? := fun j hj => hg.block j (by omega) (fun e => by have := hge j e.symm; omega)
  have g2 := grownBy_setCell w1 ⟨w0.heap.size, 5, none⟩ vc'
  have e : ∀ j, j ≠ w0.heap.size → (w1.setCell ⟨w0.heap.size, 5, none⟩ vc').heap[j]? = w1.heap[j]? := fun j hj => heap_setCell_other w1 ⟨w0.heap.size, 5, none⟩ j vc' hj
  have hb : Below w0.heap.size w (w1.setCell ⟨w0.heap.size, 5, none⟩ vc') := ⟨hg.os, hg.tape, hg.output, by simpa using hg.size, fun k hk => (e k (by omega)).trans (b k (by omega))⟩
  have hv := heap_setCell_same w1 w0.heap.size 5 _ _ vc' ((b _ (by omega)).trans h.var)
  have h1 := h.od.kept hg (rows_apart h.od h.oc (by decide))
  exact ⟨hl, by simpa using Nat.le_trans hs hg.size, h.codes.kept hl hb, grownBy_of_new (grownBy_of_new h.grown hg (fun k hk => by have := hge k hk; omega)) g2 (fun k hk => by cases hk; simp), by simpa using hv, (e _ (by omega)).trans ((b _ (by omega)).trans h.res),
    ho.kept g2 (ho.ne (by simp <;> omega)), h1.kept g2 (h1.ne (by simp <;> omega))⟩
theorem SpInv.setDraws {w0 w w1 : World} {g : Nat} {op : OpM} {vc vd vd' : Value} {ds : List Int} (h : SpInv w0 w g op vc vd) (ho : OwnI w1 (w0.heap.size + 2) 3 .i64 vd' ds) (hg : w.grownBy w1 vd.ownBlock) :
    SpInv w0 (w1.setCell ⟨w0.heap.size, 6, none⟩ vd') g { op with draws := ds } vc vd' := by
  have hs := h.size
  have hl := h.lt
  have hge := h.od.own_ge
  have b : ∀ j, j < w0.heap.size + 2 → w1.heap[j]? = w.heap[j]? := fun j hj => hg.block j (by omega) (fun e => by have := hge j e.symm; omega)
  have g2 := grownBy_setCell w1 ⟨w0.heap.size, 6, none⟩ vd'
  have e : ∀ j, j ≠ w0.heap.size → (w1.setCell ⟨w0.heap.size, 6, none⟩ vd').heap[j]? = w1.heap[j]? := fun j hj => heap_setCell_other w1 ⟨w0.heap.size, 6, none⟩ j vd' hj
  have hb : Below w0.heap.size w (w1.setCell ⟨w0.heap.size, 6, none⟩ vd') := ⟨hg.os, hg.tape, hg.output, by simpa using hg.size, fun k hk => (e k (by omega)).trans (b k (by omega))⟩
  have hv := heap_setCell_same w1 w0.heap.size 6 _ _ vd' ((b _ (by omega)).trans h.var)
  have h1 := h.oc.kept hg (rows_apart h.oc h.od (by decide))
  exact ⟨hl, by simpa using Nat.le_trans hs hg.size, h.codes.kept hl hb, grownBy_of_new (grownBy_of_new h.grown hg (fun k hk => by have := hge k hk; omega)) g2 (fun k hk => by cases hk; simp), by simpa using hv, (e _ (by omega)).trans ((b _ (by omega)).trans h.res),
    h1.kept g2 (h1.ne (by simp <;> omega)), ho.kept g2 (ho.ne (by simp <;> omega))⟩
/-- a draw is changed -/
theorem SpInv.oneDraw {w0 w : World} {g gd n cap : Nat} {op : OpM} {vc : Value} (h : SpInv w0 w g op vc (.slice (some ⟨gd, 0, none⟩) n cap)) (i : Nat) (x : Int) (hn : n = op.draws.length) :
    SpInv w0 (w.setCell ⟨gd, i, none⟩ (.int .i64 x)) g { op with draws := op.draws.set i x } vc (.slice (some ⟨gd, 0, none⟩) n cap) := by
  have hs := h.size
  have hl := h.lt
  have hge := h.od.own_ge gd rfl
  have g2 := grownBy_setCell w ⟨gd, i, none⟩ (.int .i64 x)
  have e : ∀ j, j ≠ gd → (w.setCell ⟨gd, i, none⟩ (.int .i64 x)).heap[j]? = w.heap[j]? := fun j hj => heap_setCell_other w ⟨gd, i, none⟩ j _ hj
  have hb : Below (w0.heap.size + 2) w (w.setCell ⟨gd, i, none⟩ (.int .i64 x)) := (Below.refl _ w).setCell (p := ⟨gd, i, none⟩) hge _
  have ha := rows_apart h.oc h.od (by decide)
  exact ⟨hl, by simpa using hs, h.codes.kept (by omega) hb, grownBy_of_new h.grown g2 (fun k hk => by cases hk; simp <;> omega), (e _ (by omega)).trans h.var, (e _ (by omega)).trans h.res, h.oc.kept g2 ha, h.od.store i x hn⟩
theorem SpInv.fin {w0 w : World} {g n : Nat} {op : OpM} {vc vd : Value} (h : SpInv w0 w g op vc vd) (hm : op.mild n) (hn : n ≤ 1000) (cells : Array Value) :
    OpN (w.setRow (w0.heap.size + 1) cells) w0.heap.size (.agg #[.int .i64 op.kind, .int .i64 op.mode, .int .i64 op.chan, .int .u64 op.val, .int .i64 op.dl, vc, vd]) op ∧ CodesE (w.setRow (w0.heap.size + 1) cells) g ∧ w0.grownBy (w.setRow (w0.heap.size + 1) cells) (some g) := by
  have hl := h.lt
  have h1 := hm.cases
  have h2 := hm.draws
  have hgr := grownBy_setRow w (w0.heap.size + 1) cells
  refine ⟨⟨vc, vd, rfl, (h.oc.kept hgr (h.oc.ne (by omega))).read (by omega) hm.cok, (h.od.kept hgr (h.od.ne (by omega))).read (by omega) hm.dok, h.oc.newB.mono (by omega), h.od.newB.mono (by omega)⟩, ?_, grownBy_of_new h.grown hgr (fun k hk => by cases hk; omega)⟩
  exact h.codes.kept (B := w0.heap.size) hl (below_setRow (Below.refl _ w) (by omega) cells)
theorem SpInv.start {w w1 w3 : World} {g : Nat} {kd md ch vl dl : Int} {cs : List CaseM} {ds : List Int} {vc vd vc' vd' : Value} (h : CodesE w g) (o1 : OwnC w1 (w.heap.size + 2) vc' cs)
    (b1 : Below (w.heap.size + 2) ((w.alloc (.cells #[.int .i64 kd, .int .i64 md, .int .i64 ch, .int .u64 vl, .int .i64 dl, vc, vd] 26)).alloc (.cells zeroOp 26)) w1) (o3 : OwnI w3 (w.heap.size + 2) 3 .i64 vd' ds)
    (b3 : Below (w1.setCell ⟨w.heap.size, 5, none⟩ vc').heap.size (w1.setCell ⟨w.heap.size, 5, none⟩ vc') w3) : SpInv w (w3.setCell ⟨w.heap.size, 6, none⟩ vd') g ⟨kd, md, ch, vl, dl, cs, ds⟩ vc' vd' := by
  have z1 : w.heap.size + 2 ≤ w1.heap.size := by have := b1.size; simp at this; exact this
  have z3 : w.heap.size + 2 ≤ w3.heap.size := by have := b3.size; simp at this; omega
  have r1 := (b1.block w.heap.size (by omega)).trans (heap_alloc2_old w (.cells #[.int .i64 kd, .int .i64 md, .int .i64 ch, .int .u64 vl, .int .i64 dl, vc, vd] 26) (.cells zeroOp 26))
  have s1 := (b1.block (w.heap.size + 1) (by omega)).trans (heap_alloc2_new w (.cells #[.int .i64 kd, .int .i64 md, .int .i64 ch, .int .u64 vl, .int .i64 dl, vc, vd] 26) (.cells zeroOp 26))
  have r2 := heap_setCell_same w1 w.heap.size 5 _ _ vc' r1
  have s2 := (heap_setCell_other w1 ⟨w.heap.size, 5, none⟩ (w.heap.size + 1) vc' (by simp)).trans s1
  have r3 := (b3.block w.heap.size (by simp <;> omega)).trans r2
  have s3 := (b3.block (w.heap.size + 1) (by simp <;> omega)).trans s2
  have r4 := heap_setCell_same w3 w.heap.size 6 _ _ vd' r3
  have s4 := (heap_setCell_other w3 ⟨w.heap.size, 6, none⟩ (w.heap.size + 1) vd' (by simp)).trans s3
  have g2 := grownBy_setCell w1 ⟨w.heap.size, 5, none⟩ vc'
  have g4 := grownBy_setCell w3 ⟨w.heap.size, 6, none⟩ vd'
  have c2 := o1.kept g2 (o1.ne (by simp <;> omega))
  have c3 := c2.below b3
  have hB : Below w.heap.size w (w3.setCell ⟨w.heap.size, 6, none⟩ vd') :=
    ((((below_new (below_new (Below.refl w.heap.size w) _) _).trans (b1.mono (by omega))).setCell (p := ⟨w.heap.size, 5, none⟩) (Nat.le_refl _) vc').trans (b3.mono (by simp <;> omega))).setCell (p := ⟨w.heap.size, 6, none⟩) (Nat.le_refl _) vd'
  exact ⟨h.lt, by simpa using z3, h.kept h.lt hB, grown_of_below hB, by simpa using r4, s4, c3.kept g4 (c3.ne (by simp <;> omega)), o3.kept g4 (o3.ne (by simp <;> omega))⟩
theorem OwnI.len {w : World} {base : Nat} {e : TypeId} {k : IntKind} {v : Value} {l : List Int} (h : OwnI w base e k v l) : ∃ a cap, v = .slice a l.length cap := by
  rcases h.shape with ⟨rfl, rfl⟩ | ⟨g, cap, rfl, _⟩
  · exact ⟨_, _, rfl⟩
  · exact ⟨_, _, rfl⟩
theorem OpM.mild.upd {op op' : OpM} {n : Nat} (h : op.mild n) (hk : op'.ok) (hc : op'.cases = op.cases) (hd : op'.draws = op.draws) : op'.mild (n + 8) := by
  refine ⟨hk, ?_, ?_, ?_, ?_⟩
  · rw [hc]; have := h.cases; omega
  · rw [hd]; have := h.draws; omega
  · rw [hc]; exact h.cok
  · rw [hd]; exact h.dok
theorem OpM.mild.mono {op : OpM} {n m : Nat} (h : op.mild n) (hm : n ≤ m) : op.mild m := ⟨h.ok, Nat.le_trans h.cases hm, Nat.le_trans h.draws hm, h.cok, h.dok⟩
theorem OpM.mild.addC {op : OpM} {n : Nat} (h : op.mild n) (c : CaseM) (hc : c.ok) : OpM.mild { op with cases := op.cases ++ [c] } (n + 1) := by
  refine ⟨⟨h.ok.kind, h.ok.mode, h.ok.chan, h.ok.val, h.ok.dl⟩, by simpa using h.cases, Nat.le_succ_of_le h.draws, fun x hx => ?_, h.dok⟩
  rw [List.mem_append, List.mem_singleton] at hx
  rcases hx with hx | rfl
  · exact h.cok x hx
  · exact hc
theorem OpM.mild.addD {op : OpM} {n : Nat} (h : op.mild n) (d : Int) (hd : d = IntKind.i64.wrap d) : OpM.mild { op with draws := op.draws ++ [d] } (n + 1) := by
  refine ⟨⟨h.ok.kind, h.ok.mode, h.ok.chan, h.ok.val, h.ok.dl⟩, Nat.le_succ_of_le h.cases, by simpa using h.draws, h.cok, fun x hx => ?_⟩
  rw [List.mem_append, List.mem_singleton] at hx
  rcases hx with hx | rfl
  · exact h.dok x hx
  · exact hd
theorem OpM.mild.addD1 {op : OpM} {n : Nat} (h : op.mild (n + 1)) (d : Int) (hd : d = IntKind.i64.wrap d) (hl : op.draws.length ≤ n := by omega) : OpM.mild { op with draws := op.draws ++ [d] } (n + 1) := by
  refine ⟨⟨h.ok.kind, h.ok.mode, h.ok.chan, h.ok.val, h.ok.dl⟩, h.cases, by simpa using hl, h.cok, (h.addD d hd).dok⟩
theorem OpM.mild.oneD {op : OpM} {n : Nat} (h : op.mild n) (i : Nat) (d : Int) (hd : d = IntKind.i64.wrap d) : OpM.mild { op with draws := op.draws.set i d } n := by
  refine ⟨⟨h.ok.kind, h.ok.mode, h.ok.chan, h.ok.val, h.ok.dl⟩, h.cases, by simpa using h.draws, h.cok, fun x hx => ?_⟩
  rcases List.mem_or_eq_of_mem_set hx with hx | rfl
  · exact h.dok x hx
  · exact hd
set_option maxRecDepth 100000 in
set_option maxHeartbeats 20000000 in
theorem spoilE (g n : Nat) (v : Value) (op : OpM) (w : World) (h : CodesE w g) (hv : OpX w g v op) (hm : op.mild n) (hn : n ≤ 100) :
    Calls Try.prog 16 #[.pointer (some ⟨g, 0, none⟩), v] w fun e w' => ∃ u op', e = .returned u ∧ OpN w' w.heap.size u op' ∧ op'.mild (n + 8) ∧ CodesE w' g ∧ w.grownBy w' (some g) := by
  have HC := Lib.hid h
  have HM := Lib.hid hm
  have hlt := h.lt
  obtain ⟨kd, md, ch, vl, dl, cs, ds⟩ := op
  obtain ⟨vc, vd, rfl, hc, hd, -⟩ := hv
  dsimp only at *
  have hlc : cs.length ≤ 100 := Nat.le_trans hm.cases hn
  have hld : ds.length ≤ 100 := Nat.le_trans hm.draws hn
  have HSC := Lib.hid hc
  have HSD := Lib.hid hd
  obtain ⟨a3, cap3, rfl⟩ := hc.len
  obtain ⟨a4, cap4, rfl, -⟩ := hd.len
  have hB0 := below_new (below_new (Below.refl w.heap.size w) (.cells #[.int .i64 kd, .int .i64 md, .int .i64 ch, .int .u64 vl, .int .i64 dl, .slice a3 cs.length cap3, .slice a4 ds.length cap4] 26)) (.cells zeroOp 26)
  have HB0 := Lib.hid hB0
  have HS1 := Lib.hid (hc.below hB0)
  clear h hc hd hm hB0
  go_enter Try.func16, Try.ntmps16
  go_wp2_with (first
    | (at_builtin; refine wp_copy_case_any _ rfl _ _ rfl (.slice a3 cs.length cap3) cs rfl rfl HS1.out (by omega) (w.heap.size + 2) (by simp) ?_; intro vc' w1 o1 b1; obtain ⟨a5, cap5, e5⟩ := o1.len; subst e5; have HO1 := Lib.hid (And.intro o1 b1); have R1 := (b1.block w.heap.size (by simp <;> omega)).trans (heap_alloc2_old w _ _); have hz1 : w.heap.size + 2 ≤ w1.heap.size := (by have := b1.size; simp at this; exact this); obtain ⟨x0, x1, x2, x3, x4, x5, x6⟩ := row7 R1; have f5 := frozen_of_row _ _ 5 _ _ R1; have T1 := heap_setCell_same w1 w.heap.size 5 _ _ (.slice a5 cs.length cap5) R1; simp at T1; have HT1 := Lib.hid T1; obtain ⟨y0, y1, y2, y3, y4, y5, y6⟩ := row7 T1; have HS2 := Lib.hid (HSD.out.below ((HB0.out.trans (b1.mono (by simp <;> omega))).setCell (p := ⟨w.heap.size, 5, none⟩) (Nat.le_refl _) (.slice a5 cs.length cap5))); clear o1 b1 R1 T1)
    | (at_builtin; refine wp_copy_i64_any _ rfl _ _ rfl (.slice a4 ds.length cap4) ds rfl rfl HS2.out (by omega) (w.heap.size + 2) (by simp <;> omega) ?_; intro vd' w3 o3 b3; obtain ⟨a6, cap6, e6⟩ := o3.len; subst e6; have HI := Lib.hid (SpInv.start HC.out HO1.out.1 (HO1.out.2.mono (by simp <;> omega)) o3 b3); have R3 := (b3.block w.heap.size (by simp <;> omega)).trans HT1.out; clear y0 y1 y2 y3 y4 y5 y6 o3 b3; obtain ⟨z0, z1, z2, z3, z4, z5, z6⟩ := row7 R3; have f6 := frozen_of_row _ _ 6 _ _ R3; clear R3))
  clear x0 x1 x2 x3 x4 x5 x6 f5 z0 z1 z2 z3 z4 z5 z6 f6 HS1 HS2 HSC HSD hz1 HT1 HO1 HB0
  generalize w3.setCell ⟨w.heap.size, 6, none⟩ (.slice a6 ds.length cap6) = W at *
  refine (nextE g 9 _ HI.out.codes (by omega) (by omega)).mono ?_; rintro e w4 ⟨x, rfl, hx0, hx1, hc4, hg4⟩
  have hI4 := Lib.hid (HI.out.next hc4 hg4)
  clear HI hc4 hg4
  rcases (show x = 0 ∨ x = 1 ∨ x = 2 ∨ x = 3 ∨ x = 4 ∨ x = 5 ∨ x = 6 ∨ x = 7 ∨ x = 8 by omega) with rfl | rfl | rfl | rfl | rfl | rfl | rfl | rfl | rfl
  · skip
    go_wp2_with fail
    refine (nextE g 9 _ hI4.out.codes (by omega) (by omega)).mono ?_; rintro e w5 ⟨y, rfl, hy0, hy1, hc5, hg5⟩
    have hI5 := Lib.hid (hI4.out.next hc5 hg5)
    clear hI4 hc5 hg5
    have HM6 := Lib.hid (HM.out.upd (op' := ⟨y - 1, md, ch, vl, dl, cs, ds⟩) ⟨i64_small _ (by simp only; omega) (by simp only; omega), HM.out.ok.mode, HM.out.ok.chan, HM.out.ok.val, HM.out.ok.dl⟩ rfl rfl)
    have hI6 := Lib.hid (hI5.out.word (op' := ⟨y - 1, md, ch, vl, dl, cs, ds⟩) 0 (.int .i64 (y - 1)) rfl rfl rfl)
    obtain ⟨x0, x1, x2, x3, x4, x5, x6⟩ := row7 hI5.out.var
    have ff := frozen_of_row _ _ 0 _ _ hI5.out.var
    obtain ⟨y0, y1, y2, y3, y4, y5, y6⟩ := row7 hI6.out.var
    go_wp2_with (refine wpList_store_row rfl 26 _ _ rfl (w.heap.size + 1) _ rfl rfl 26 zeroOp hI6.out.res (by kernel_rfl) rfl (all7 rfl rfl) ?_)
    refine bodyPost_ret (v := .agg #[.int .i64 (y - 1), .int .i64 (md), .int .i64 (ch), .int .u64 (vl), .int .i64 (dl), .slice a5 cs.length cap5, .slice a6 ds.length cap6]) (results_cell_row Try.results16 _ _ (w.heap.size + 1) 26 _ (0, 0) _ rfl (setRow_heap _ _ _ _ 26 (0, 0) hI6.out.res) Try.underlying26 rfl (by kernel_rfl)) rfl ?_
    obtain ⟨f1, f2, f3⟩ := hI6.out.fin HM6.out (by omega) #[.int .i64 (y - 1), .int .i64 (md), .int .i64 (ch), .int .u64 (vl), .int .i64 (dl), .slice a5 cs.length cap5, .slice a6 ds.length cap6]
    exact ⟨_, _, rfl, f1, HM6.out, f2, f3⟩
  · skip
    go_wp2_with fail
    refine (nextE g 5 _ hI4.out.codes (by omega) (by omega)).mono ?_; rintro e w5 ⟨y, rfl, hy0, hy1, hc5, hg5⟩
    have hI5 := Lib.hid (hI4.out.next hc5 hg5)
    clear hI4 hc5 hg5
    have HM6 := Lib.hid (HM.out.upd (op' := ⟨kd, y - 1, ch, vl, dl, cs, ds⟩) ⟨HM.out.ok.kind, i64_small _ (by simp only; omega) (by simp only; omega), HM.out.ok.chan, HM.out.ok.val, HM.out.ok.dl⟩ rfl rfl)
    have hI6 := Lib.hid (hI5.out.word (op' := ⟨kd, y - 1, ch, vl, dl, cs, ds⟩) 1 (.int .i64 (y - 1)) rfl rfl rfl)
    obtain ⟨x0, x1, x2, x3, x4, x5, x6⟩ := row7 hI5.out.var
    have ff := frozen_of_row _ _ 1 _ _ hI5.out.var
    obtain ⟨y0, y1, y2, y3, y4, y5, y6⟩ := row7 hI6.out.var
    go_wp2_with (refine wpList_store_row rfl 26 _ _ rfl (w.heap.size + 1) _ rfl rfl 26 zeroOp hI6.out.res (by kernel_rfl) rfl (all7 rfl rfl) ?_)
    refine bodyPost_ret (v := .agg #[.int .i64 (kd), .int .i64 (y - 1), .int .i64 (ch), .int .u64 (vl), .int .i64 (dl), .slice a5 cs.length cap5, .slice a6 ds.length cap6]) (results_cell_row Try.results16 _ _ (w.heap.size + 1) 26 _ (0, 0) _ rfl (setRow_heap _ _ _ _ 26 (0, 0) hI6.out.res) Try.underlying26 rfl (by kernel_rfl)) rfl ?_
    obtain ⟨f1, f2, f3⟩ := hI6.out.fin HM6.out (by omega) #[.int .i64 (kd), .int .i64 (y - 1), .int .i64 (ch), .int .u64 (vl), .int .i64 (dl), .slice a5 cs.length cap5, .slice a6 ds.length cap6]
    exact ⟨_, _, rfl, f1, HM6.out, f2, f3⟩
  · skip
    go_wp2_with fail
    refine (numberE g _ hI4.out.codes).mono ?_; rintro e w5 ⟨y, rfl, hy0, hy1, hc5, hg5⟩
    have hI5 := Lib.hid (hI4.out.next hc5 hg5)
    clear hI4 hc5 hg5
    have HM6 := Lib.hid (HM.out.upd (op' := ⟨kd, md, y, vl, dl, cs, ds⟩) ⟨HM.out.ok.kind, HM.out.ok.mode, i64_small _ (by simp only; omega) (by simp only; omega), HM.out.ok.val, HM.out.ok.dl⟩ rfl rfl)
    have hI6 := Lib.hid (hI5.out.word (op' := ⟨kd, md, y, vl, dl, cs, ds⟩) 2 (.int .i64 (y)) rfl rfl rfl)
    obtain ⟨x0, x1, x2, x3, x4, x5, x6⟩ := row7 hI5.out.var
    have ff := frozen_of_row _ _ 2 _ _ hI5.out.var
    obtain ⟨y0, y1, y2, y3, y4, y5, y6⟩ := row7 hI6.out.var
    go_wp2_with (refine wpList_store_row rfl 26 _ _ rfl (w.heap.size + 1) _ rfl rfl 26 zeroOp hI6.out.res (by kernel_rfl) rfl (all7 rfl rfl) ?_)
    refine bodyPost_ret (v := .agg #[.int .i64 (kd), .int .i64 (md), .int .i64 (y), .int .u64 (vl), .int .i64 (dl), .slice a5 cs.length cap5, .slice a6 ds.length cap6]) (results_cell_row Try.results16 _ _ (w.heap.size + 1) 26 _ (0, 0) _ rfl (setRow_heap _ _ _ _ 26 (0, 0) hI6.out.res) Try.underlying26 rfl (by kernel_rfl)) rfl ?_
    obtain ⟨f1, f2, f3⟩ := hI6.out.fin HM6.out (by omega) #[.int .i64 (kd), .int .i64 (md), .int .i64 (y), .int .u64 (vl), .int .i64 (dl), .slice a5 cs.length cap5, .slice a6 ds.length cap6]
    exact ⟨_, _, rfl, f1, HM6.out, f2, f3⟩
  · skip
    go_wp2_with fail
    refine (numberE g _ hI4.out.codes).mono ?_; rintro e w5 ⟨y, rfl, hy0, hy1, hc5, hg5⟩
    have hI5 := Lib.hid (hI4.out.next hc5 hg5)
    clear hI4 hc5 hg5
    have HM6 := Lib.hid (HM.out.upd (op' := ⟨kd, md, ch, vl, y, cs, ds⟩) ⟨HM.out.ok.kind, HM.out.ok.mode, HM.out.ok.chan, HM.out.ok.val, i64_small _ (by simp only; omega) (by simp only; omega)⟩ rfl rfl)
    have hI6 := Lib.hid (hI5.out.word (op' := ⟨kd, md, ch, vl, y, cs, ds⟩) 4 (.int .i64 (y)) rfl rfl rfl)
    obtain ⟨x0, x1, x2, x3, x4, x5, x6⟩ := row7 hI5.out.var
    have ff := frozen_of_row _ _ 4 _ _ hI5.out.var
    obtain ⟨y0, y1, y2, y3, y4, y5, y6⟩ := row7 hI6.out.var
    go_wp2_with (refine wpList_store_row rfl 26 _ _ rfl (w.heap.size + 1) _ rfl rfl 26 zeroOp hI6.out.res (by kernel_rfl) rfl (all7 rfl rfl) ?_)
    refine bodyPost_ret (v := .agg #[.int .i64 (kd), .int .i64 (md), .int .i64 (ch), .int .u64 (vl), .int .i64 (y), .slice a5 cs.length cap5, .slice a6 ds.length cap6]) (results_cell_row Try.results16 _ _ (w.heap.size + 1) 26 _ (0, 0) _ rfl (setRow_heap _ _ _ _ 26 (0, 0) hI6.out.res) Try.underlying26 rfl (by kernel_rfl)) rfl ?_
    obtain ⟨f1, f2, f3⟩ := hI6.out.fin HM6.out (by omega) #[.int .i64 (kd), .int .i64 (md), .int .i64 (ch), .int .u64 (vl), .int .i64 (y), .slice a5 cs.length cap5, .slice a6 ds.length cap6]
    exact ⟨_, _, rfl, f1, HM6.out, f2, f3⟩
  · skip
    go_wp2_with fail
    refine (nextE g 3 _ hI4.out.codes (by omega) (by omega)).mono ?_; rintro e w5 ⟨y, rfl, hy0, hy1, hc5, hg5⟩
    have hI5 := Lib.hid (hI4.out.next hc5 hg5)
    clear hI4 hc5 hg5
    have HM6 := Lib.hid (HM.out.upd (op' := ⟨kd, md, ch, y, dl, cs, ds⟩) ⟨HM.out.ok.kind, HM.out.ok.mode, HM.out.ok.chan, u64_ok _ (by simp only; omega) (by simp only; omega), HM.out.ok.dl⟩ rfl rfl)
    have hI6 := Lib.hid (hI5.out.word (op' := ⟨kd, md, ch, y, dl, cs, ds⟩) 3 (.int .u64 (y)) rfl rfl rfl)
    obtain ⟨x0, x1, x2, x3, x4, x5, x6⟩ := row7 hI5.out.var
    have ff := frozen_of_row _ _ 3 _ _ hI5.out.var
    obtain ⟨y0, y1, y2, y3, y4, y5, y6⟩ := row7 hI6.out.var
    go_wp2_with (refine wpList_store_row rfl 26 _ _ rfl (w.heap.size + 1) _ rfl rfl 26 zeroOp hI6.out.res (by kernel_rfl) rfl (all7 rfl rfl) ?_)
    refine bodyPost_ret (v := .agg #[.int .i64 (kd), .int .i64 (md), .int .i64 (ch), .int .u64 (y), .int .i64 (dl), .slice a5 cs.length cap5, .slice a6 ds.length cap6]) (results_cell_row Try.results16 _ _ (w.heap.size + 1) 26 _ (0, 0) _ rfl (setRow_heap _ _ _ _ 26 (0, 0) hI6.out.res) Try.underlying26 rfl (by kernel_rfl)) rfl ?_
    obtain ⟨f1, f2, f3⟩ := hI6.out.fin HM6.out (by omega) #[.int .i64 (kd), .int .i64 (md), .int .i64 (ch), .int .u64 (y), .int .i64 (dl), .slice a5 cs.length cap5, .slice a6 ds.length cap6]
    exact ⟨_, _, rfl, f1, HM6.out, f2, f3⟩
  · skip
    obtain ⟨x0, x1, x2, x3, x4, x5, x6⟩ := row7 hI4.out.var
    have ff5 := frozen_of_row _ _ 5 _ _ hI4.out.var
    have ff6 := frozen_of_row _ _ 6 _ _ hI4.out.var
    have q4 : w.heap.size < w4.heap.size := (by have := hI4.out.size; omega)
    go_upto_region 15 with fail
    go_region_law (first
      | (refine step_append_case (by rfl) _ _ (by rfl) (w.heap.size + 2) (.slice a5 cs.length cap5) cs (by rfl) (hI7.out.oc.alloc _) ⟨y == 1, z, IntKind.u64.wrap d⟩ _ (by rfl) (by exact ⟨World.cell?_alloc_at _ _ _ _ rfl, World.cell?_alloc_at _ _ _ _ rfl, World.cell?_alloc_at _ _ _ _ rfl⟩) (by omega) (by have := hI7.out.size; simp; omega) ?_; intro vc8 w8 ho8 hg8; obtain ⟨g8, cap8, e8⟩ := OwnC.shape_ne ho8; subst e8; have hr8 := SpInv.varAt (hI7.out.below (below_new (Below.refl _ _) _)) hg8 hI7.out.oc.own_ge; have hF8 := frozen_of_row _ _ 5 _ _ hr8; obtain ⟨x0, x1, x2, x3, x4, x5, x6⟩ := row7 hr8; clear hr8)
      | (go_simp; go_at_call 39; refine (nextE g 2 _ (by exact hI6.out.codes) (by omega) (by omega)).mono ?_; rintro e w7 ⟨d, rfl, hd0, hd1, hc7, hg7⟩; have hI7 := Lib.hid (hI6.out.next hc7 hg7); obtain ⟨x0, x1, x2, x3, x4, x5, x6⟩ := row7 hI7.out.var; have q7 : w.heap.size < w7.heap.size := (by have := hI7.out.size; omega); clear hc7 hg7)
      | (go_simp; go_at_call 46; refine (numberE g _ (by exact hI5.out.codes)).mono ?_; rintro e w6 ⟨z, rfl, hz0, hz1, hc6, hg6⟩; have hI6 := Lib.hid (hI5.out.next hc6 hg6); obtain ⟨x0, x1, x2, x3, x4, x5, x6⟩ := row7 hI6.out.var; have q6 : w.heap.size < w6.heap.size := (by have := hI6.out.size; omega); clear hc6 hg6)
      | (go_simp; go_at_call 39; refine (nextE g 2 _ (by exact hI4.out.codes) (by omega) (by omega)).mono ?_; rintro e w5 ⟨y, rfl, hy0, hy1, hc5, hg5⟩; have hI5 := Lib.hid (hI4.out.next hc5 (undrewG hg5)); obtain ⟨x0, x1, x2, x3, x4, x5, x6⟩ := row7 hI5.out.var; have q5 : w.heap.size < w5.heap.size := (by have := hI5.out.size; omega); clear hc5 hg5))
    all_goals
      have hI9 : Hid (SpInv w (w8.setCell ⟨w.heap.size, 5, none⟩ (.slice (some ⟨g8, 0, none⟩) (cs.length + 1) cap8)) g ⟨kd, md, ch, vl, dl, cs ++ [⟨y == 1, z, IntKind.u64.wrap d⟩], ds⟩ (.slice (some ⟨g8, 0, none⟩) (cs.length + 1) cap8) (.slice a6 ds.length cap6)) := Lib.hid (SpInv.setCases (hI7.out.below (below_new (Below.refl _ _) _)) ho8 hg8)
      have HM9 : Hid (OpM.mild ⟨kd, md, ch, vl, dl, cs ++ [⟨y == 1, z, IntKind.u64.wrap d⟩], ds⟩ (n + 8)) := Lib.hid ((HM.out.addC ⟨y == 1, z, IntKind.u64.wrap d⟩ ⟨i64_small _ (by simp only; omega) (by simp only; omega), by simp only; rw [← u64_ok d (by omega) (by omega)]; exact u64_ok d (by omega) (by omega)⟩).mono (by omega))
      clear x0 x1 x2 x3 x4 x5 x6 ho8 hg8
      obtain ⟨x0, x1, x2, x3, x4, x5, x6⟩ := row7 hI9.out.var
      go_wp2_with (refine wpList_store_row rfl 26 _ _ rfl (w.heap.size + 1) _ rfl rfl 26 zeroOp hI9.out.res (by kernel_rfl) rfl (all7 rfl rfl) ?_)
      refine bodyPost_ret (v := .agg #[.int .i64 kd, .int .i64 md, .int .i64 ch, .int .u64 vl, .int .i64 dl, .slice (some ⟨g8, 0, none⟩) (cs.length + 1) cap8, .slice a6 ds.length cap6]) (results_cell_row Try.results16 _ _ (w.heap.size + 1) 26 _ (0, 0) _ rfl (setRow_heap _ _ _ _ 26 (0, 0) hI9.out.res) Try.underlying26 rfl (by kernel_rfl)) rfl ?_
      obtain ⟨f1, f2, f3⟩ := hI9.out.fin HM9.out (by omega) #[.int .i64 kd, .int .i64 md, .int .i64 ch, .int .u64 vl, .int .i64 dl, .slice (some ⟨g8, 0, none⟩) (cs.length + 1) cap8, .slice a6 ds.length cap6]
      first | exact ⟨_, _, rfl, f1, HM9.out, f2, f3⟩ | exact ⟨_, rfl, _, f1, HM9.out, f2, f3⟩
  · skip
    obtain ⟨x0, x1, x2, x3, x4, x5, x6⟩ := row7 hI4.out.var
    have ff5 := frozen_of_row _ _ 5 _ _ hI4.out.var
    have ff6 := frozen_of_row _ _ 6 _ _ hI4.out.var
    have q4 : w.heap.size < w4.heap.size := (by have := hI4.out.size; omega)
    go_upto_region 17 with fail
    go_region_law (first
      | (refine step_append_i64 (by rfl) _ _ (by rfl) (w.heap.size + 2) (.slice a6 ds.length cap6) ds (by rfl) (hI7.out.od.alloc _) (IntKind.i64.wrap (d - 1)) _ (by rfl) (by exact World.cell?_alloc_at _ _ _ _ rfl) (by omega) (by have := hI7.out.size; simp; omega) ?_; intro vd8 w8 ho8 hg8; obtain ⟨g8, cap8, e8⟩ := OwnI.shape_ne ho8; subst e8; have hr8 := SpInv.varAt (hI7.out.below (below_new (Below.refl _ _) _)) hg8 hI7.out.od.own_ge; have hF8 := frozen_of_row _ _ 6 _ _ hr8; obtain ⟨x0, x1, x2, x3, x4, x5, x6⟩ := row7 hr8; clear hr8)
      | (go_simp; go_at_call 39; refine (nextE g 9 _ (by exact hI4.out.codes) (by omega) (by omega)).mono ?_; rintro e w7 ⟨d, rfl, hd0, hd1, hc7, hg7⟩; have hI7 := Lib.hid (hI4.out.next hc7 (undrewG hg7)); obtain ⟨x0, x1, x2, x3, x4, x5, x6⟩ := row7 hI7.out.var; have q7 : w.heap.size < w7.heap.size := (by have := hI7.out.size; omega); clear hc7 hg7))
    all_goals
      have hI9 : Hid (SpInv w (w8.setCell ⟨w.heap.size, 6, none⟩ (.slice (some ⟨g8, 0, none⟩) (ds.length + 1) cap8)) g ⟨kd, md, ch, vl, dl, cs, ds ++ [IntKind.i64.wrap (d - 1)]⟩ (.slice a5 cs.length cap5) (.slice (some ⟨g8, 0, none⟩) (ds.length + 1) cap8)) := Lib.hid (SpInv.setDraws (hI7.out.below (below_new (Below.refl _ _) _)) ho8 hg8)
      have HM9 : Hid (OpM.mild ⟨kd, md, ch, vl, dl, cs, ds ++ [IntKind.i64.wrap (d - 1)]⟩ (n + 8)) := Lib.hid ((HM.out.addD (IntKind.i64.wrap (d - 1)) (by rw [← i64_small (d - 1) (by omega) (by omega)]; exact i64_small (d - 1) (by omega) (by omega))).mono (by omega))
      clear x0 x1 x2 x3 x4 x5 x6 ho8 hg8
      obtain ⟨x0, x1, x2, x3, x4, x5, x6⟩ := row7 hI9.out.var
      go_wp2_with (refine wpList_store_row rfl 26 _ _ rfl (w.heap.size + 1) _ rfl rfl 26 zeroOp hI9.out.res (by kernel_rfl) rfl (all7 rfl rfl) ?_)
      refine bodyPost_ret (v := .agg #[.int .i64 kd, .int .i64 md, .int .i64 ch, .int .u64 vl, .int .i64 dl, .slice a5 cs.length cap5, .slice (some ⟨g8, 0, none⟩) (ds.length + 1) cap8]) (results_cell_row Try.results16 _ _ (w.heap.size + 1) 26 _ (0, 0) _ rfl (setRow_heap _ _ _ _ 26 (0, 0) hI9.out.res) Try.underlying26 rfl (by kernel_rfl)) rfl ?_
      obtain ⟨f1, f2, f3⟩ := hI9.out.fin HM9.out (by omega) #[.int .i64 kd, .int .i64 md, .int .i64 ch, .int .u64 vl, .int .i64 dl, .slice a5 cs.length cap5, .slice (some ⟨g8, 0, none⟩) (ds.length + 1) cap8]
      first | exact ⟨_, _, rfl, f1, HM9.out, f2, f3⟩ | exact ⟨_, rfl, _, f1, HM9.out, f2, f3⟩
  · skip
    obtain ⟨x0, x1, x2, x3, x4, x5, x6⟩ := row7 hI4.out.var
    have ff5 := frozen_of_row _ _ 5 _ _ hI4.out.var
    have ff6 := frozen_of_row _ _ 6 _ _ hI4.out.var
    have q4 : w.heap.size < w4.heap.size := (by have := hI4.out.size; omega)
    by_cases hds : 0 < ds.length
    · go_upto_region 20 with fail
      obtain ⟨-, e0⟩ | ⟨gd, cd, e0, -⟩ := hI4.out.od.shape
      · exact absurd (show ds = [] from e0) (by rintro rfl; simp at hds)
      · simp only [Value.slice.injEq, true_and] at e0
        obtain ⟨rfl, rfl⟩ := e0
        go_region_law (first
          | (go_simp; go_at_call 46; refine (numberE g _ (by exact hI5.out.codes)).mono ?_; rintro e w6 ⟨z, rfl, hz0, hz1, hc6, hg6⟩; have hI6 := Lib.hid (hI5.out.next hc6 hg6); obtain ⟨x0, x1, x2, x3, x4, x5, x6⟩ := row7 hI6.out.var; obtain ⟨k0, k1⟩ := hI6.out.od.cell p hp; clear hc6 hg6)
          | (go_simp; go_at_call 39; refine (nextE g (ds.length : Int) _ (by exact hI4.out.codes) (by omega) (by omega)).mono ?_; rintro e w5 ⟨y, rfl, hy0, hy1, hc5, hg5⟩; obtain ⟨p, rfl⟩ : ∃ p : Nat, y = p := ⟨y.toNat, by omega⟩; have hp : p < ds.length := (by omega); have hI5 := Lib.hid (hI4.out.next hc5 (undrewG hg5)); obtain ⟨x0, x1, x2, x3, x4, x5, x6⟩ := row7 hI5.out.var; clear hc5 hg5))
        all_goals
          have hI9 : Hid (SpInv w (w6.setCell ⟨gd, p, none⟩ (.int .i64 z)) g ⟨kd, md, ch, vl, dl, cs, ds.set p z⟩ (.slice a5 cs.length cap5) (.slice (some ⟨gd, 0, none⟩) ds.length cap6)) := Lib.hid (hI6.out.oneDraw p z rfl)
          have HM9 : Hid (OpM.mild ⟨kd, md, ch, vl, dl, cs, ds.set p z⟩ (n + 8)) := Lib.hid ((HM.out.oneD p z (i64_small z (by omega) (by omega))).mono (by omega))
          clear x0 x1 x2 x3 x4 x5 x6 k0 k1
          obtain ⟨x0, x1, x2, x3, x4, x5, x6⟩ := row7 hI9.out.var
          go_wp2_with (refine wpList_store_row rfl 26 _ _ rfl (w.heap.size + 1) _ rfl rfl 26 zeroOp hI9.out.res (by kernel_rfl) rfl (all7 rfl rfl) ?_)
          refine bodyPost_ret (v := .agg #[.int .i64 kd, .int .i64 md, .int .i64 ch, .int .u64 vl, .int .i64 dl, .slice a5 cs.length cap5, .slice (some ⟨gd, 0, none⟩) ds.length cap6]) (results_cell_row Try.results16 _ _ (w.heap.size + 1) 26 _ (0, 0) _ rfl (setRow_heap _ _ _ _ 26 (0, 0) hI9.out.res) Try.underlying26 rfl (by kernel_rfl)) rfl ?_
          obtain ⟨f1, f2, f3⟩ := hI9.out.fin HM9.out (by omega) #[.int .i64 kd, .int .i64 md, .int .i64 ch, .int .u64 vl, .int .i64 dl, .slice a5 cs.length cap5, .slice (some ⟨gd, 0, none⟩) ds.length cap6]
          first | exact ⟨_, _, rfl, f1, HM9.out, f2, f3⟩ | exact ⟨_, rfl, _, f1, HM9.out, f2, f3⟩
    · have hI9 := hI4
      have HM9 := Lib.hid (HM.out.upd (op' := ⟨kd, md, ch, vl, dl, cs, ds⟩) HM.out.ok rfl rfl)
      go_wp2_with (refine wpList_store_row rfl 26 _ _ rfl (w.heap.size + 1) _ rfl rfl 26 zeroOp hI9.out.res (by kernel_rfl) rfl (all7 rfl rfl) ?_)
      refine bodyPost_ret (v := .agg #[.int .i64 kd, .int .i64 md, .int .i64 ch, .int .u64 vl, .int .i64 dl, .slice a5 cs.length cap5, .slice a6 ds.length cap6]) (results_cell_row Try.results16 _ _ (w.heap.size + 1) 26 _ (0, 0) _ rfl (setRow_heap _ _ _ _ 26 (0, 0) hI9.out.res) Try.underlying26 rfl (by kernel_rfl)) rfl ?_
      obtain ⟨f1, f2, f3⟩ := hI9.out.fin HM9.out (by omega) #[.int .i64 kd, .int .i64 md, .int .i64 ch, .int .u64 vl, .int .i64 dl, .slice a5 cs.length cap5, .slice a6 ds.length cap6]
      first | exact ⟨_, _, rfl, f1, HM9.out, f2, f3⟩ | exact ⟨_, rfl, _, f1, HM9.out, f2, f3⟩
  · obtain ⟨x0, x1, x2, x3, x4, x5, x6⟩ := row7 hI4.out.var
    have ff5 := frozen_of_row _ _ 5 _ _ hI4.out.var
    have ff6 := frozen_of_row _ _ 6 _ _ hI4.out.var
    have q4 : w.heap.size < w4.heap.size := (by have := hI4.out.size; omega)
    clear x0 x1 x2 x3 x4 x5 x6 ff5 ff6 q4
    go_wp2_with fail
    go_loopg [] (8 - cs.length) (fun gg wr => ∃ (j : Nat) (b5 b6 : Option Addr) (d5 d6 : Nat) (cs' : List CaseM) (ds' : List Int), j + gg ≤ 8 ∧ (gg = 0 → 7 < cs'.length) ∧ (0 < gg → cs'.length + gg = 8) ∧ cs'.length ≤ 100 + j ∧ ds'.length ≤ 100 + j ∧ Hid (SpInv w wr g ⟨kd, md, ch, vl, dl, cs', ds'⟩ (.slice b5 cs'.length d5) (.slice b6 ds'.length d6)) ∧ Hid (OpM.mild ⟨kd, md, ch, vl, dl, cs', ds'⟩ (n + j)))
    case atStart => exact ⟨0, a5, a6, cap5, cap6, cs, ds, by omega, by omega, by omega, by omega, by omega, hI4, HM⟩
    case round =>
      obtain ⟨j, b5, b6, d5, d6, cs', ds', hj, hj0, hj1, hc1, hd1, hI, hM⟩ := hrel
      clear hI4
      obtain ⟨wo, rfl⟩ : ∃ wo : World, wo = wr := ⟨_, rfl⟩
      obtain ⟨x0, x1, x2, x3, x4, x5, x6⟩ := row7 hI.out.var
      go_upto_region 22 with fail
      go_cut [93] (fun s93 wx => ∃ bb : Bool, s93 = .bool bb ∧ (bb = true → cs'.length < 7) ∧ (bb = false → 6 ≤ cs'.length) ∧ Hid (SpInv w wx g ⟨kd, md, ch, vl, dl, cs', ds'⟩ (.slice b5 cs'.length d5) (.slice b6 ds'.length d6)))
      case first =>
        have q4 : w.heap.size < wo.heap.size := (by have := hI.out.size; omega)
        go_region_law (first
          | (go_simp; go_at_call 39; refine (nextE g 2 _ (by exact hI.out.codes) (by omega) (by omega)).mono ?_; rintro e w5 ⟨y, rfl, hy0, hy1, hc5, hg5⟩; have hI5 := Lib.hid (hI.out.next hc5 (undrewG hg5)); have e6 : IntKind.i64.wrap (6 + y) = 6 + y := (i64_small _ (by omega) (by omega)).symm; obtain ⟨x0, x1, x2, x3, x4, x5, x6⟩ := row7 hI5.out.var; have q5 : w.heap.size < w5.heap.size := (by have := hI5.out.size; omega); clear hc5 hg5))
        all_goals
          go_wp2_with fail
          go_meet
          refine ⟨_, rfl, fun h => ?_, fun h => ?_, hI5⟩
          · simp at h; omega
          · simp at h; omega
      case rest =>
        obtain ⟨bb, rfl, hb1, hb0, hI5⟩ := hcut
        clear hI x0 x1 x2 x3 x4 x5 x6
        obtain ⟨x0, x1, x2, x3, x4, x5, x6⟩ := row7 hI5.out.var
        have ff5 := frozen_of_row _ _ 5 _ _ hI5.out.var
        cases bb with
        | false =>
          have hI9 := hI5
          have HM9 := Lib.hid (hM.out.mono (show n + j ≤ n + 8 by omega))
          go_wp2_with (refine wpList_store_row rfl 26 _ _ rfl (w.heap.size + 1) _ rfl rfl 26 zeroOp hI9.out.res (by kernel_rfl) rfl (all7 rfl rfl) ?_)
          refine bodyPost_ret (v := .agg #[.int .i64 kd, .int .i64 md, .int .i64 ch, .int .u64 vl, .int .i64 dl, .slice b5 cs'.length d5, .slice b6 ds'.length d6]) (results_cell_row Try.results16 _ _ (w.heap.size + 1) 26 _ (0, 0) _ rfl (setRow_heap _ _ _ _ 26 (0, 0) hI9.out.res) Try.underlying26 rfl (by kernel_rfl)) rfl ?_
          obtain ⟨f1, f2, f3⟩ := hI9.out.fin HM9.out (by omega) #[.int .i64 kd, .int .i64 md, .int .i64 ch, .int .u64 vl, .int .i64 dl, .slice b5 cs'.length d5, .slice b6 ds'.length d6]
          first | exact ⟨_, _, rfl, f1, HM9.out, f2, f3⟩ | exact ⟨_, rfl, _, f1, HM9.out, f2, f3⟩
        | true =>
          have hlt7 : cs'.length < 7 := hb1 rfl
          cases gk with
          | zero => exact absurd (hj0 rfl) (by omega)
          | succ gk =>
            have q5 : w.heap.size < wc.heap.size := (by have := hI5.out.size; omega)
            go_upto_region 24 with (at_builtin; refine wp_append_case _ rfl _ _ rfl (w.heap.size + 2) (.slice b5 cs'.length d5) cs' rfl (hI5.out.oc.alloc _) ⟨false, 0, 0⟩ _ rfl ?_ ?_ ?_ ?_; exact ⟨World.cell?_alloc_at _ _ _ _ rfl, World.cell?_alloc_at _ _ _ _ rfl, World.cell?_alloc_at _ _ _ _ rfl⟩; omega; (have := hI5.out.size; simp at this ⊢; omega); (intro vcs2 w6 ho6 hg6; obtain ⟨g6, cap6b, e6⟩ := OwnC.shape_ne ho6; subst e6; have hV6 := (SpInv.varAt (hI5.out.below (below_new (Below.refl _ _) _)) hg6 hI5.out.oc.own_ge); have hF6 := frozen_of_row _ _ 5 _ _ (SpInv.varAt (hI5.out.below (below_new (Below.refl _ _) _)) hg6 hI5.out.oc.own_ge); obtain ⟨x0, x1, x2, x3, x4, x5, x6⟩ := row7 hV6))
            have hI6 : Hid (SpInv w (w6.setCell ⟨w.heap.size, 5, none⟩ (.slice (some ⟨g6, 0, none⟩) (cs'.length + 1) cap6b)) g ⟨kd, md, ch, vl, dl, cs' ++ [⟨false, 0, 0⟩], ds'⟩ (.slice (some ⟨g6, 0, none⟩) (cs'.length + 1) cap6b) (.slice b6 ds'.length d6)) := Lib.hid (SpInv.setCases (hI5.out.below (below_new (Below.refl _ _) _)) ho6 hg6)
            have hM6 : Hid (OpM.mild ⟨kd, md, ch, vl, dl, cs' ++ [⟨false, 0, 0⟩], ds'⟩ (n + j + 1)) := Lib.hid (hM.out.addC ⟨false, 0, 0⟩ ⟨i64_small _ (by simp only; omega) (by simp only; omega), u64_ok _ (by simp only; omega) (by simp only; omega)⟩)
            have hdj : ds'.length ≤ n + j := hM.out.draws
            clear x0 x1 x2 x3 x4 x5 x6 hF6 ho6 hg6 ff5 q5 hI5 hM
            generalize w6.setCell ⟨w.heap.size, 5, none⟩ (.slice (some ⟨g6, 0, none⟩) (cs'.length + 1) cap6b) = W6 at *
            obtain ⟨x0, x1, x2, x3, x4, x5, x6⟩ := row7 hI6.out.var
            have q6 : w.heap.size < W6.heap.size := (by have := hI6.out.size; omega)
            have q9a : (0 : Int) ≤ (cs'.length : Int) + 1 := by omega
            have q9b : (1 : Int) ≤ (cs'.length : Int) + 1 := by omega
            have q9c : (cs'.length : Int) + 1 ≤ 256 := by omega
            go_region_law (first
              | (refine step_append_i64 (by rfl) _ _ (by rfl) (w.heap.size + 2) (.slice b6 ds'.length d6) ds' (by rfl) (hI7.out.od.alloc _) d _ (by rfl) (by exact World.cell?_alloc_at _ _ _ _ rfl) (by omega) (by have := hI7.out.size; simp; omega) ?_; intro vd8 w8 ho8 hg8; obtain ⟨g8, cap8, e8⟩ := OwnI.shape_ne ho8; subst e8; have hr8 := SpInv.varAt (hI7.out.below (below_new (Below.refl _ _) _)) hg8 hI7.out.od.own_ge; have hF8 := frozen_of_row _ _ 6 _ _ hr8; obtain ⟨x0, x1, x2, x3, x4, x5, x6⟩ := row7 hr8; clear hr8)
              | (go_simp; go_at_call 39; refine (nextE g ((cs'.length : Int) + 1) _ (by exact hI6.out.codes) q9b q9c).mono ?_; rintro e w7 ⟨d, rfl, hd0, hd1, hc7, hg7⟩; have hI7 := Lib.hid (hI6.out.next hc7 (undrewG hg7)); obtain ⟨x0, x1, x2, x3, x4, x5, x6⟩ := row7 hI7.out.var; have q7 : w.heap.size < w7.heap.size := (by have := hI7.out.size; omega); clear hc7 hg7))
            all_goals
              have hI8 : Hid (SpInv w (w8.setCell ⟨w.heap.size, 6, none⟩ (.slice (some ⟨g8, 0, none⟩) (ds'.length + 1) cap8)) g ⟨kd, md, ch, vl, dl, cs' ++ [⟨false, 0, 0⟩], ds' ++ [d]⟩ (.slice (some ⟨g6, 0, none⟩) (cs'.length + 1) cap6b) (.slice (some ⟨g8, 0, none⟩) (ds'.length + 1) cap8)) := Lib.hid (SpInv.setDraws (hI7.out.below (below_new (Below.refl _ _) _)) ho8 hg8)
              have hI9 : Hid (SpInv w (w8.setCell ⟨w.heap.size, 6, none⟩ (.slice (some ⟨g8, 0, none⟩) (ds'.length + 1) cap8)) g ⟨kd, md, ch, vl, dl, cs' ++ [⟨false, 0, 0⟩], ds' ++ [d]⟩ (.slice (some ⟨g6, 0, none⟩) (cs' ++ [(⟨false, 0, 0⟩ : CaseM)]).length cap6b) (.slice (some ⟨g8, 0, none⟩) (ds' ++ [d]).length cap8)) := by
                rw [List.length_append, List.length_append]; exact hI8
              have hM9 : Hid (OpM.mild ⟨kd, md, ch, vl, dl, cs' ++ [⟨false, 0, 0⟩], ds' ++ [d]⟩ (n + (j + 1))) := Lib.hid (OpM.mild.mono (hM6.out.addD1 d (i64_small d (by omega) (by omega)) hdj) (by omega))
              clear x0 x1 x2 x3 x4 x5 x6 ho8 hg8
              go_wp2
              go_roundg gk
              case rel => exact ⟨j + 1, _, _, _, _, cs' ++ [⟨false, 0, 0⟩], ds' ++ [d], by omega, by simp; omega, by simp; omega, by simp; omega, by simp; omega, hI9, hM9⟩
              case measure => omega
end Go.Proofs.Ytkciejealeinoaa
