import Derived.Test.YtjnlkemdaffgbaaRows
import Derived.Laws.BitsAllLaws
import Derived.LoopTactic
import Derived.Test.YtjnlkemdaffgbaaB01
import Derived.Test.YtjnlkemdaffgbaaB03
import Derived.Test.YtjnlkemdaffgbaaB04
import Derived.Test.YtjnlkemdaffgbaaB02
set_option linter.unusedVariables false
set_option linter.unusedSimpArgs false
/- Operations and the cases of a select: how a struct value and a list of structs read in memory. -/
namespace Go.Proofs.Ytjnlkemdaffgbaa
open Go.ChangeShapes Go.WideShapes Go.ChangeAt Go.RowKit
set_option maxRecDepth 100000

structure CaseM where
  send : Bool
  chan : Int
  val : Int
structure OpM where
  kind : Int
  mode : Int
  chan : Int
  val : Int
  dl : Int
  cases : List CaseM
  draws : List Int
def CaseM.ok (c : CaseM) : Prop := c.chan = IntKind.i64.wrap c.chan ∧ c.val = IntKind.u64.wrap c.val
def noCase : CaseM := ⟨false, 0, 0⟩
/-- the case c lies at offset o of block b -/
def CaseAt (w : World) (b o : Nat) (c : CaseM) : Prop :=
  w.cell? ⟨b, o, none⟩ = some (.bool c.send) ∧ w.cell? ⟨b, o + 1, none⟩ = some (.int .i64 c.chan) ∧ w.cell? ⟨b, o + 2, none⟩ = some (.int .u64 c.val)
/-- The slice value v reads in w as the cases l. -/
def SlC (w : World) (v : Value) (l : List CaseM) : Prop :=
  l.length ≤ 140737488351232 ∧ (∀ x ∈ l, x.ok) ∧ ∃ a cap, v = .slice a l.length cap ∧ l.length ≤ cap ∧
    ∀ t, t < l.length → ∃ b off, a = some ⟨b, off, none⟩ ∧ b < w.heap.size ∧ CaseAt w b (off + t * 3) (l.getD t noCase)
theorem CaseAt.below {w w' : World} {b o B : Nat} {c : CaseM} (h : CaseAt w b o c) (hb : b < B) (hw : Below B w w') : CaseAt w' b o c :=
  ⟨(hw.cell (p := ⟨b, o, none⟩) hb).trans h.1, (hw.cell (p := ⟨b, o + 1, none⟩) hb).trans h.2.1, (hw.cell (p := ⟨b, o + 2, none⟩) hb).trans h.2.2⟩
theorem SlC.below {w w' : World} {v : Value} {l : List CaseM} (h : SlC w v l) (hb : Below w.heap.size w w') : SlC w' v l := by
  obtain ⟨h1, h2, a, cap, h3, h4, h5⟩ := h
  refine ⟨h1, h2, a, cap, h3, h4, fun t ht => ?_⟩
  obtain ⟨b, off, e, hlt, hc⟩ := h5 t ht
  exact ⟨b, off, e, Nat.lt_of_lt_of_le hlt hb.size, hc.below hlt hb⟩
theorem SlC.drew {w : World} {v : Value} {l : List CaseM} (h : SlC w v l) (n : Nat) : SlC (w.drewN n) v l := h
theorem SlC.drew1 {w : World} {v : Value} {l : List CaseM} (h : SlC w v l) : SlC w.drew v l := h
theorem SlC.len {w : World} {v : Value} {l : List CaseM} (h : SlC w v l) : ∃ a cap, v = .slice a l.length cap := by
  obtain ⟨_, _, a, cap, rfl, _⟩ := h
  exact ⟨a, cap, rfl⟩
theorem SlC.nil (w : World) : SlC w (.slice none 0 0) [] :=
  ⟨by simp, by simp, none, 0, rfl, Nat.le_refl _, fun t ht => by simp at ht⟩
/-- The struct value v reads in w as the operation op. -/
def OpV (w : World) (v : Value) (op : OpM) : Prop :=
  ∃ vc vd, v = .agg #[.int .i64 op.kind, .int .i64 op.mode, .int .i64 op.chan, .int .u64 op.val, .int .i64 op.dl, vc, vd] ∧ SlC w vc op.cases ∧ SlI w .i64 vd op.draws
theorem OpV.below {w w' : World} {v : Value} {op : OpM} (h : OpV w v op) (hb : Below w.heap.size w w') : OpV w' v op := by
  obtain ⟨vc, vd, e, h1, h2⟩ := h
  exact ⟨vc, vd, e, h1.below hb, h2.below hb⟩
theorem OpV.drew {w : World} {v : Value} {op : OpM} (h : OpV w v op) (n : Nat) : OpV (w.drewN n) v op := h
/-- a box of seven cells, read in a later world -/
theorem box7 {w w1 : World} {T : TypeId} {v0 v1 v2 v3 v4 v5 v6 : Value} (hb : Below (w.alloc (.cells #[v0, v1, v2, v3, v4, v5, v6] T)).heap.size (w.alloc (.cells #[v0, v1, v2, v3, v4, v5, v6] T)) w1) :
    w1.cell? ⟨w.heap.size, 0, none⟩ = some v0 ∧ w1.cell? ⟨w.heap.size, 1, none⟩ = some v1 ∧ w1.cell? ⟨w.heap.size, 2, none⟩ = some v2 ∧ w1.cell? ⟨w.heap.size, 3, none⟩ = some v3 ∧
    w1.cell? ⟨w.heap.size, 4, none⟩ = some v4 ∧ w1.cell? ⟨w.heap.size, 5, none⟩ = some v5 ∧ w1.cell? ⟨w.heap.size, 6, none⟩ = some v6 := by
  have h : ∀ j, w1.cell? ⟨w.heap.size, j, none⟩ = (#[v0, v1, v2, v3, v4, v5, v6] : Array Value)[j]? := fun j =>
    (hb.cell (p := ⟨w.heap.size, j, none⟩) (by simp)).trans (World.cell?_alloc_at _ _ _ _ rfl)
  exact ⟨h 0, h 1, h 2, h 3, h 4, h 5, h 6⟩
structure ConfM where
  caps : List Int
  starts : List Int
  threads : Int
/-- The struct value v reads in w as the configuration c. -/
def ConfV (w : World) (v : Value) (c : ConfM) : Prop :=
  ∃ vc vs, v = .agg #[vc, vs, .int .i64 c.threads] ∧ SlI w .i64 vc c.caps ∧ SlI w .u64 vs c.starts
theorem ConfV.below {w w' : World} {v : Value} {c : ConfM} (h : ConfV w v c) (hb : Below w.heap.size w w') : ConfV w' v c := by
  obtain ⟨vc, vd, e, h1, h2⟩ := h
  exact ⟨vc, vd, e, h1.below hb, h2.below hb⟩
theorem ConfV.drew {w : World} {v : Value} {c : ConfM} (h : ConfV w v c) (n : Nat) : ConfV (w.drewN n) v c := h
theorem box3 {w w1 : World} {T : TypeId} {v0 v1 v2 : Value} (hb : Below (w.alloc (.cells #[v0, v1, v2] T)).heap.size (w.alloc (.cells #[v0, v1, v2] T)) w1) :
    w1.cell? ⟨w.heap.size, 0, none⟩ = some v0 ∧ w1.cell? ⟨w.heap.size, 1, none⟩ = some v1 ∧ w1.cell? ⟨w.heap.size, 2, none⟩ = some v2 := by
  have h : ∀ j, w1.cell? ⟨w.heap.size, j, none⟩ = (#[v0, v1, v2] : Array Value)[j]? := fun j =>
    (hb.cell (p := ⟨w.heap.size, j, none⟩) (by simp)).trans (World.cell?_alloc_at _ _ _ _ rfl)
  exact ⟨h 0, h 1, h 2⟩
end Go.Proofs.Ytjnlkemdaffgbaa
/- A valid configuration, plainly. -/
namespace Go.Proofs.Ytjnlkemdaffgbaa
open Go.ChangeShapes Go.WideShapes Go.ChangeAt Go.RowKit
set_option maxRecDepth 100000

/-- a valid configuration -/
structure ConfM.good (c : ConfM) : Prop where
  len : c.caps.length ≤ 8
  same : c.starts.length = c.caps.length
  caps : ∀ x ∈ c.caps, 0 ≤ x ∧ x ≤ 16
  starts : ∀ x ∈ c.starts, 0 ≤ x ∧ x < 9223372036854775808
  thr : 1 ≤ c.threads ∧ c.threads ≤ 8
theorem below_setRow {B g : Nat} {a w : World} (h : Below B a w) (hB : B ≤ g) (cs : Array Value) : Below B a (w.setRow g cs) :=
  ⟨h.os, h.tape, h.output, by simpa [World.setRow] using h.size, fun k hk => (setRow_other w g k cs (by omega)).trans (h.block k hk)⟩
end Go.Proofs.Ytjnlkemdaffgbaa
/- Worlds of the document's small machines: what the memory of a run holds of them. -/
namespace Go.Proofs.Ytjnlkemdaffgbaa
open Go.ChangeShapes Go.WideShapes Go.ChangeAt Go.RowKit
set_option maxRecDepth 100000

/-- a small machine of the document, but for its configuration; pl: its place -/
structure MachM where
  what : Int
  pl : Int
  chan : Int
  thr : Int
  idx : Int
  kind : Int
  val : Int
  t : Int
  h : Int
  ok : Int
  ov : Int
def machL (vc vs : Value) (th : Int) (m : MachM) : List Value := [.int .i64 m.what, .int .i64 m.pl, vc, vs, .int .i64 th, .int .i64 m.chan, .int .i64 m.thr, .int .i64 m.idx, .int .i64 m.kind, .int .u64 m.val, .int .u64 m.t, .int .u64 m.h, .int .i64 m.ok, .int .u64 m.ov]
/-- the values of a world of machines: the slices of its lists -/
structure WV where
  cA : Option Addr
  cc : Nat
  sA : Option Addr
  sc : Nat
  mA : Option Addr
  mc : Nat
  nA : Option Addr
  nc : Nat
  lA : Option Addr
  lc : Nat
  tA : Option Addr
  tc : Nat
  pA : Option Addr
  pc : Nat
  fA : Option Addr
  fc : Nat
/-- a world of machines: the configuration, the memory, the machines, the trace, the past, the program's frames -/
structure WM where
  c : ConfM
  m : MemM
  l : List MachM
  t : List ItemM
  p : List (List Value × MemM)
  f : List (List Value)
def WV.vc (x : WV) (c : ConfM) : Value := .slice x.cA c.caps.length x.cc
def WV.vs (x : WV) (c : ConfM) : Value := .slice x.sA c.starts.length x.sc
def WV.vl (x : WV) (y : WM) : Value := .slice x.lA y.l.length x.lc
def WV.vt (x : WV) (y : WM) : Value := .slice x.tA y.t.length x.tc
def WV.vp (x : WV) (y : WM) : Value := .slice x.pA y.p.length x.pc
def WV.vf (x : WV) (y : WM) : Value := .slice x.fA y.f.length x.fc
def WV.mem (x : WV) (y : WM) : Array Value := #[.slice x.mA y.m.words.length x.mc, .slice x.nA y.m.lists.length x.nc, .int .i64 y.m.tick]
def WV.row (x : WV) (y : WM) : Array Value := #[.slice x.cA y.c.caps.length x.cc, .slice x.sA y.c.starts.length x.sc, .int .i64 y.c.threads, .slice x.mA y.m.words.length x.mc, .slice x.nA y.m.lists.length x.nc, .int .i64 y.m.tick, .slice x.lA y.l.length x.lc, .slice x.tA y.t.length x.tc, .slice x.pA y.p.length x.pc, .slice x.fA y.f.length x.fc]
def addrB (a : Option Addr) : Option Nat := a.map (·.block)
/-- the blocks that may change: those of E (the reader's), the world's own, those of its lists -/
def WV.S (x : WV) (E : List (Option Nat)) (B : Nat) : List (Option Nat) := E ++ [some B, addrB x.lA, addrB x.tA, addrB x.pA, addrB x.fA]
theorem own_addr (a : Option Addr) (n c : Nat) : (Value.slice a n c).ownBlock = addrB a := by cases a <;> rfl
/-- what holds of a world of machines in block B; WT: the type of its struct; its lists lie from D on -/
structure WI (WT : TypeId) (w0 wr : World) (E : List (Option Nat)) (B D : Nat) (x : WV) (y : WM) : Prop where
  w0B : w0.heap.size ≤ B
  eW : ∀ j, some j ∈ E → w0.heap.size ≤ j ∧ j < wr.heap.size
  BD : B < D
  Dw : D ≤ wr.heap.size
  row : wr.heap[B]? = some (.cells (x.row y) WT (0, 0))
  conf : ∀ w2, OffS (x.S E B) wr w2 → SlI w2 .i64 (x.vc y.c) y.c.caps ∧ SlI w2 .u64 (x.vs y.c) y.c.starts
  good : y.c.good
  mem : StM (OffS (x.S E B) wr) (.agg (x.mem y)) y.m
  fits : y.m.fits
  ol : OwnS wr D 58 14 (x.vl y) (y.l.map (machL (x.vc y.c) (x.vs y.c) y.c.threads))
  ot : OwnS wr D 71 8 (x.vt y) (y.t.map itemCells)
  op : OwnS wr D 39 3 (x.vp y) (y.p.map Prod.fst)
  of : OwnS wr D 61 5 (x.vf y) y.f
  past : ∀ z ∈ y.p, StM (OffS (x.S E B) wr) (.agg z.1.toArray) z.2
  below : Below w0.heap.size w0 wr
section
variable {WT : TypeId} {w0 wr w2 : World} {E : List (Option Nat)} {B D : Nat} {x : WV} {y : WM}
theorem WI.lt (h : WI WT w0 wr E B D x y) : B < wr.heap.size := (Array.getElem?_eq_some_iff.1 h.row).1
/-- the blocks that may change lie below the heap's size -/
theorem WI.Slt (h : WI WT w0 wr E B D x y) : ∀ j, some j ∈ x.S E B → j < wr.heap.size := by
  intro j hj
  simp only [WV.S, List.mem_append, List.mem_cons, List.not_mem_nil, or_false, Option.some.injEq] at hj
  have k : ∀ {a : Option Addr} {n c : Nat} {e : TypeId} {s : Nat} {r : List (List Value)}, OwnS wr D e s (.slice a n c) r → some j = addrB a → j < wr.heap.size := fun ho e => (ho.lt j (by rw [own_addr]; exact e.symm)).2
  rcases hj with e | rfl | e | e | e | e
  · exact (h.eW j e).2
  · exact h.lt
  · exact k h.ol e
  · exact k h.ot e
  · exact k h.op e
  · exact k h.of e
theorem WI.Sge (h : WI WT w0 wr E B D x y) : ∀ j, some j ∈ x.S E B → w0.heap.size ≤ j := by
  intro j hj
  have h2 := h.w0B
  have h3 := h.BD
  simp only [WV.S, List.mem_append, List.mem_cons, List.not_mem_nil, or_false, Option.some.injEq] at hj
  have k : ∀ {a : Option Addr} {n c : Nat} {e : TypeId} {s : Nat} {r : List (List Value)}, OwnS wr D e s (.slice a n c) r → some j = addrB a → w0.heap.size ≤ j := fun ho e => by have := (ho.lt j (by rw [own_addr]; exact e.symm)).1; omega
  rcases hj with e | rfl | e | e | e | e
  · exact (h.eW j e).1
  · omega
  · exact k h.ol e
  · exact k h.ot e
  · exact k h.op e
  · exact k h.of e
theorem WI.next (h : WI WT w0 wr E B D x y) (hb : Below wr.heap.size wr w2) : WI WT w0 w2 E B D x y :=
  ⟨h.w0B, fun j hj => ⟨(h.eW j hj).1, Nat.lt_of_lt_of_le (h.eW j hj).2 hb.size⟩, h.BD, Nat.le_trans h.Dw hb.size, (hb.block B h.lt).trans h.row, fun w3 h3 => h.conf w3 ((OffS.below hb).trans1 h3), h.good, h.mem.sub fun w3 h3 => (OffS.below hb).trans1 h3, h.fits, h.ol.below hb, h.ot.below hb, h.op.below hb, h.of.below hb, fun z hz => (h.past z hz).sub fun w3 h3 => (OffS.below hb).trans1 h3, below_then h.below hb⟩
/-- the reader has gone on -/
theorem WI.drawn {g : Nat} (h : WI WT w0 wr E B D x y) (hgE : some g ∈ E) (hgB : g < B) (hg : wr.grownBy w2 (some g)) : WI WT w0 w2 E B D x y := by
  have h3 := h.BD
  have o : OffS (x.S E B) wr w2 := OffS.grown hg (.inr (by simp [WV.S, hgE]))
  exact ⟨h.w0B, fun j hj => ⟨(h.eW j hj).1, Nat.lt_of_lt_of_le (h.eW j hj).2 hg.size⟩, h.BD, Nat.le_trans h.Dw hg.size, (hg.block B h.lt (by simp; omega)).trans h.row, fun w3 h4 => h.conf w3 (o.trans1 h4), h.good, h.mem.sub fun w3 h4 => o.trans1 h4, h.fits, h.ol.kept hg (h.ol.ne (by omega)), h.ot.kept hg (h.ot.ne (by omega)), h.op.kept hg (h.op.ne (by omega)), h.of.kept hg (h.of.ne (by omega)), fun z hz => (h.past z hz).sub fun w3 h4 => o.trans1 h4, h.below.grown hg h.below.size (fun k hk => by cases hk; exact (h.eW g hgE).1)⟩
theorem WI.confV (h : WI WT w0 wr E B D x y) : ConfV wr (.agg #[x.vc y.c, x.vs y.c, .int .i64 y.c.threads]) y.c := ⟨_, _, rfl, h.conf wr (OffS.self _ _)⟩
end
theorem OffS.mono {S S2 : List (Option Nat)} {w w2 : World} (h : OffS S w w2) (hs : ∀ j, some j ∈ S → some j ∈ S2) : OffS S2 w w2 := ⟨h.1, fun j hj hn => h.2 j hj (fun e => hn (hs j e))⟩
/-- a new block may change from here on -/
theorem WI.exempt {WT : TypeId} {w0 wr w2 : World} {E : List (Option Nat)} {B D : Nat} {x : WV} {y : WM} (h : WI WT w0 wr E B D x y) (hb : Below wr.heap.size wr w2) (A : Nat) (hA : wr.heap.size ≤ A) (hA2 : A < w2.heap.size) : WI WT w0 w2 (some A :: E) B D x y := by
  have h1 := h.next hb
  have hin : ∀ w3, OffS (x.S (some A :: E) B) w2 w3 → OffS (x.S E B) wr w3 := fun w3 h3 => (OffS.below (S := x.S E B) hb).trans h3 fun j hj hm => by
    simp only [WV.S, List.cons_append, List.mem_cons, Option.some.injEq] at hm
    rcases hm with rfl | hm
    · omega
    · exact hm
  exact ⟨h1.w0B, fun j hj => by
    simp only [List.mem_cons, Option.some.injEq] at hj
    rcases hj with rfl | hj
    · exact ⟨by have := h.below.size; omega, hA2⟩
    · exact h1.eW j hj, h1.BD, h1.Dw, h1.row, fun w3 h3 => h.conf w3 (hin w3 h3), h1.good, h.mem.sub hin, h1.fits, h1.ol, h1.ot, h1.op, h1.of, fun z hz => (h.past z hz).sub hin, h1.below⟩
/-- that block was written: it may change no more -/
theorem WI.settle {WT AT : TypeId} {w0 wr w2 : World} {E : List (Option Nat)} {B D A : Nat} {x : WV} {y : WM} {cs : Array Value} (h : WI WT w0 wr (some A :: E) B D x y) (hA : wr.heap[A]? = some (.cells cs AT (0, 0))) (hAB : B < A) (hg : wr.grownBy w2 (some A)) (h1 : AT ≠ 58) (h2 : AT ≠ 71) (h3 : AT ≠ 39) (h4 : AT ≠ 61) :
    WI WT w0 w2 E B D x y ∧ ∀ w3, OffS (x.S E B) w2 w3 → OffS (x.S (some A :: E) B) wr w3 := by
  have hin : ∀ w3, OffS (x.S E B) w2 w3 → OffS (x.S (some A :: E) B) wr w3 := fun w3 h5 => by
    have o1 : OffS (x.S (some A :: E) B) wr w2 := OffS.grown hg (.inr (by simp [WV.S]))
    exact o1.trans1 (h5.mono fun j hj => by simp only [WV.S, List.cons_append, List.mem_cons] at hj ⊢; exact .inr hj)
  have k : ∀ {e : TypeId} {s : Nat} {v : Value} {r : List (List Value)}, OwnS wr D e s v r → AT ≠ e → OwnS w2 D e s v r := fun ho he => ho.kept hg (by
    rcases ho.2.2 with ⟨rfl, _⟩ | ⟨b, cap, cur, rfl, _, hb, _⟩
    · exact .inl rfl
    · refine .inr ?_
      simp only [Value.ownBlock, ne_eq, Option.some.injEq]
      rintro rfl
      rw [hA] at hb
      simp at hb
      exact he hb.2)
  exact ⟨⟨h.w0B, fun j hj => ⟨(h.eW j (List.mem_cons_of_mem _ hj)).1, Nat.lt_of_lt_of_le (h.eW j (List.mem_cons_of_mem _ hj)).2 hg.size⟩, h.BD, Nat.le_trans h.Dw hg.size, (hg.block B h.lt (by simp; omega)).trans h.row, fun w3 h5 => h.conf w3 (hin w3 h5), h.good, h.mem.sub hin, h.fits, k h.ol h1, k h.ot h2, k h.op h3, k h.of h4, fun z hz => (h.past z hz).sub hin, h.below.grown hg h.below.size (fun j hj => by cases hj; exact (h.eW A (List.mem_cons_self ..)).1)⟩, hin⟩
/-- the relation of frames to machines, in all worlds of G -/
def FrI (R : (World → Prop) → ConfM → List Value → MachM → Prop) (G : World → Prop) (y : WM) : Prop := y.f.length = y.l.length ∧ ∀ i (h1 : i < y.f.length) (h2 : i < y.l.length), R G y.c y.f[i] y.l[i]
end Go.Proofs.Ytjnlkemdaffgbaa
/- Sequence numbers, slots and sizes: plain arithmetic, and what package seqword and the document's answers for chapter 1 return. -/
namespace Go.Proofs.Ytjnlkemdaffgbaa
open Go.ChangeShapes Go.WideShapes Go.ChangeAt Go.RowKit
set_option maxRecDepth 100000

theorem and63 (x : Int) (h0 : 0 ≤ x) (h1 : x < 18446744073709551616) : bits BinOp.and IntKind.u64 x 9223372036854775807 = x % 9223372036854775808 := by
  rw [u64_and x 9223372036854775807 h0 h1 (by omega) (by omega)]
  have := Nat.and_two_pow_sub_one_eq_mod x.toNat 63
  rw [show (9223372036854775807 : Int).toNat = 2 ^ 63 - 1 from rfl, this]
  omega
theorem and1 (x : Int) (h0 : 0 ≤ x) (h1 : x < 18446744073709551616) : bits BinOp.and IntKind.u64 x 1 = x % 2 := by
  rw [u64_and x 1 h0 h1 (by omega) (by omega)]
  have := Nat.and_two_pow_sub_one_eq_mod x.toNat 1
  rw [show (1 : Int).toNat = 2 ^ 1 - 1 from rfl, this]
  omega
theorem or1 (x : Int) (h0 : 0 ≤ x) (h1 : x < 18446744073709551616) (h2 : x % 2 = 0) : bits BinOp.or IntKind.u64 x 1 = x + 1 := by
  rw [u64_or x 1 h0 h1 (by omega) (by omega)]
  have := nat_join 1 x.toNat 1 (by omega) (by omega)
  rw [show (1 : Int).toNat = 1 from rfl, this]
  omega

def nextI (a n : Int) : Int := (a + n) % 9223372036854775808
theorem nextI_eq (a n : Int) : bits BinOp.and IntKind.u64 (IntKind.u64.wrap (a + IntKind.u64.wrap n)) 9223372036854775807 = nextI a n := by
  unfold nextI
  rw [IntKind.wrap_u64, IntKind.wrap_u64, and63 _ (by omega) (by omega)]
  omega
def diffI (a b : Int) : Int := (a - b + 4611686018427387904) % 9223372036854775808 - 4611686018427387904
theorem diffI_eq (a b : Int) : wrap64 (IntKind.u64.wrap (IntKind.u64.wrap (a - b) * 2)) / 2 = diffI a b := by
  unfold diffI wrap64
  rw [IntKind.wrap_u64, IntKind.wrap_u64]
  omega
theorem diffI_hi (a b x : Int) (hx : bits BinOp.and IntKind.u64 (IntKind.u64.wrap (a - b)) 9223372036854775807 = x) (h : 4611686018427387904 ≤ x) :
    wrap64 (wrap64 (wrap64 x - 4611686018427387904) - 4611686018427387904) = diffI a b := by
  rw [IntKind.wrap_u64, and63 _ (by omega) (by omega)] at hx
  unfold diffI wrap64
  omega
theorem diffI_lo (a b x : Int) (hx : bits BinOp.and IntKind.u64 (IntKind.u64.wrap (a - b)) 9223372036854775807 = x) (h : ¬ 4611686018427387904 ≤ x) :
    wrap64 x = diffI a b := by
  rw [IntKind.wrap_u64, and63 _ (by omega) (by omega)] at hx
  unfold diffI wrap64
  omega
def packI (s : Int) (c : Bool) : Int := (s * 2) % 18446744073709551616 + if c then 1 else 0
theorem packI_true (s : Int) : bits BinOp.or IntKind.u64 (IntKind.u64.wrap (s * 2)) 1 = packI s true := by
  unfold packI
  rw [IntKind.wrap_u64, or1 _ (by omega) (by omega) (by omega)]
  simp
theorem packI_false (s : Int) : IntKind.u64.wrap (s * 2) = packI s false := by
  unfold packI
  rw [IntKind.wrap_u64]
  simp
def closedB (a : Int) : Bool := decide (a % 2 = 1)
theorem closedB_eq (a : Int) (h0 : 0 ≤ a) (h1 : a < 18446744073709551616) : (bits BinOp.and IntKind.u64 a 1 != 0) = closedB a := by
  unfold closedB
  rw [and1 a h0 h1]
  by_cases h : a % 2 = 1
  · simp [h]
  · have : a % 2 = 0 := by omega
    simp [this]
def slotI (a n : Int) : Int := if n < 1 then 0 else a % 9223372036854775808 % n
theorem slotI_small (a n : Int) (h : n < 1) : 0 = slotI a n := by unfold slotI; rw [if_pos h]
theorem slotI_eq (a n : Int) (h0 : 0 ≤ a) (h1 : a < 18446744073709551616) (h : 1 ≤ n) :
    wrap64 ((bits BinOp.and IntKind.u64 a 9223372036854775807).tmod n) = slotI a n := by
  unfold slotI
  rw [if_neg (by omega), and63 a h0 h1, Int.tmod_eq_emod_of_nonneg (by omega)]
  have h2 := Int.emod_nonneg (a % 9223372036854775808) (show n ≠ 0 by omega)
  have h3 : a % 9223372036854775808 % n ≤ a % 9223372036854775808 := by
    have := Int.emod_add_mul_ediv (a % 9223372036854775808) n
    have h4 : 0 ≤ n * (a % 9223372036854775808 / n) := Int.mul_nonneg (by omega) (Int.ediv_nonneg (by omega) (by omega))
    omega
  unfold wrap64
  omega
/-- the slots of a ring for a capacity -/
def sizeI (k : Int) : Int := if k < 1 then 1 else if k = 1 then 2 else if 1073741824 < k then 0 else 2 * 2 ^ Nat.log2 (k.toNat - 1)
theorem sizeI_low (k : Int) (h : k < 1) : sizeI k = 1 := by unfold sizeI; rw [if_pos h]
theorem sizeI_one : sizeI 1 = 2 := by unfold sizeI; rw [if_neg (by omega), if_pos rfl]
theorem sizeI_high (k : Int) (h : 1073741824 < k) : sizeI k = 0 := by
  unfold sizeI; rw [if_neg (by omega), if_neg (by omega), if_pos h]
theorem sizeI_of (k : Int) (j : Nat) (h2 : 2 ≤ k) (h3 : k ≤ 1073741824) (h4 : (2 : Int) ^ j < k) (h5 : k ≤ 2 * 2 ^ j) : sizeI k = 2 * 2 ^ j := by
  unfold sizeI
  rw [if_neg (by omega), if_neg (by omega), if_neg (by omega)]
  have e : ((2 ^ j : Nat) : Int) = (2 : Int) ^ j := by simp
  have e1 : (k.toNat - 1).log2 = j := by
    rw [Nat.log2_eq_iff (by omega), Nat.pow_succ]
    omega
  rw [e1]
theorem sizeI_mid (k : Int) (h2 : 2 ≤ k) (h3 : k ≤ 1073741824) : ∃ j : Nat, sizeI k = 2 * 2 ^ j ∧ (2 : Int) ^ j < k ∧ k ≤ 2 * 2 ^ j := by
  have h := (Nat.log2_eq_iff (n := k.toNat - 1) (k := (k.toNat - 1).log2) (by omega)).1 rfl
  refine ⟨(k.toNat - 1).log2, ?_⟩
  have e : ((2 ^ (k.toNat - 1).log2 : Nat) : Int) = (2 : Int) ^ (k.toNat - 1).log2 := by simp
  rw [Nat.pow_succ] at h
  have h4 : (2 : Int) ^ (k.toNat - 1).log2 < k := by omega
  have h5 : k ≤ 2 * 2 ^ (k.toNat - 1).log2 := by omega
  exact ⟨sizeI_of k _ h2 h3 h4 h5, h4, h5⟩

theorem rqnext_any (a n : Int) (w : World) :
    Calls Try.prog 52 #[.int .u64 a, .int .i64 n] w fun e w' => e = .returned (.int .u64 (nextI a n)) ∧ w = w' := by
  go_enter Try.func52, Try.ntmps52
  go_wp2
  go_ret
  exact ⟨ret_u64 (nextI_eq a n), rfl⟩
theorem rpack_any (a : Int) (c : Bool) (w : World) :
    Calls Try.prog 50 #[.int .u64 a, .bool c] w fun e w' => e = .returned (.int .u64 (packI a c)) ∧ w = w' := by
  cases c
  · go_enter Try.func50, Try.ntmps50
    go_wp2
    go_ret
    exact ⟨ret_u64 (packI_false a), rfl⟩
  · go_enter Try.func50, Try.ntmps50
    go_wp2
    go_ret
    exact ⟨ret_u64 (packI_true a), rfl⟩
theorem seq_any (a : Int) (w : World) :
    Calls Try.prog 64 #[.int .u64 a] w fun e w' => e = .returned (.int .u64 (a / 2)) ∧ w = w' := by
  go_enter Try.func64, Try.ntmps64
  go_wp2
  go_ret
  exact ⟨rfl, rfl⟩
theorem rslot_any (a n : Int) (w : World) (h0 : 0 ≤ a) (h1 : a < 18446744073709551616) (h2 : -9223372036854775808 ≤ n) (h3 : n ≤ 9223372036854775807) :
    Calls Try.prog 70 #[.int .u64 a, .int .i64 n] w fun e w' => e = .returned (.int .i64 (slotI a n)) ∧ w = w' := by
  by_cases h : n < 1
  · have E' := Lib.hid (slotI_small a n h)
    go_enter Try.func70, Try.ntmps70
    go_wp2
    go_ret
    exact ⟨ret_i64 E'.out, rfl⟩
  · have E' := Lib.hid (slotI_eq a n h0 h1 (by omega))
    go_enter Try.func70, Try.ntmps70
    go_wp2
    go_ret
    exact ⟨ret_i64 E'.out, rfl⟩

theorem size_any (k : Int) (w : World) (h2 : -9223372036854775808 ≤ k) (h3 : k ≤ 9223372036854775807) :
    Calls Try.prog 79 #[.int .i64 k] w fun e w' => e = .returned (.int .i64 (sizeI k)) ∧ w = w' := by
  by_cases h : k < 1
  · have E' := Lib.hid (sizeI_low k h)
    go_enter Try.func79, Try.ntmps79
    go_wp2
    go_ret
    exact ⟨ret_i64 E'.out.symm, rfl⟩
  · by_cases h1 : k = 1
    · subst h1
      go_enter Try.func79, Try.ntmps79
      go_wp2
      go_ret
      exact ⟨ret_i64 sizeI_one.symm, rfl⟩
    · by_cases h4 : 1073741824 < k
      · have E' := Lib.hid (sizeI_high k h4)
        go_enter Try.func79, Try.ntmps79
        go_wp2
        go_ret
        exact ⟨ret_i64 E'.out.symm, rfl⟩
      · have g1 : 2 ≤ k := by omega
        have g2 : k ≤ 1073741824 := by omega
        clear h h1 h4 h2 h3
        go_enter Try.func79, Try.ntmps79
        go_wp2
        go_loop [3] (fun t => ∃ p : Int, ∃ j : Nat, Hid (p = 2 ^ j) ∧ 1 ≤ p ∧ p < k ∧ t = .int .i64 (p * 2)) (fun t => (2147483648 - intOf t).toNat)
        case atStart => exact ⟨1, 0, Lib.hid (by simp), by omega, by omega, rfl⟩
        case round =>
          obtain ⟨p, j, hp, p1, p2, rfl⟩ := hrel
          by_cases hlt : p * 2 < k
          · go_wp2
            go_round
            case rel => exact ⟨p * 2, j + 1, Lib.hid (by rw [Int.pow_succ, hp.out]), by omega, by omega, rfl⟩
            case measure => simp [intOf]; omega
          · have E' := Lib.hid (sizeI_of k j g1 g2 (by rw [← hp.out]; exact p2) (by rw [← hp.out]; omega))
            go_wp2
            go_ret
            exact ⟨ret_i64 (by rw [E'.out, hp.out, Int.mul_comm]), rfl⟩
theorem rsize_any (k : Int) (w : World) (h2 : -9223372036854775808 ≤ k) (h3 : k ≤ 9223372036854775807) :
    Calls Try.prog 69 #[.int .i64 k] w fun e w' => e = .returned (.int .i64 (sizeI k)) ∧ w = w' := by
  by_cases h4 : 1073741824 < k
  · have E' := Lib.hid (sizeI_high k h4)
    go_enter Try.func69, Try.ntmps69
    go_wp2
    go_ret
    exact ⟨ret_i64 E'.out.symm, rfl⟩
  · by_cases h1 : k = 1
    · subst h1
      go_enter Try.func69, Try.ntmps69
      go_wp2
      go_ret
      exact ⟨ret_i64 sizeI_one.symm, rfl⟩
    · by_cases h : k < 1
      · have E' := Lib.hid (sizeI_low k h)
        go_enter Try.func69, Try.ntmps69
        go_wp2
        go_loop [3] (fun t => t = .int .i64 1) (fun _ => 0)
        case atStart => rfl
        case round =>
          subst hrel
          go_wp2
          go_ret
          exact ⟨ret_i64 E'.out.symm, rfl⟩
      · have g1 : 2 ≤ k := by omega
        have g2 : k ≤ 1073741824 := by omega
        have hn : (k == 1) = false := by simpa using h1
        clear h h1 h4 h2 h3
        go_enter Try.func69, Try.ntmps69
        go_wp2
        go_loop [3] (fun t => ∃ p : Int, ∃ j : Nat, Hid (p = 2 ^ j) ∧ 1 ≤ p ∧ p ≤ 2 * (k - 1) ∧ t = .int .i64 p) (fun t => (2147483648 - intOf t).toNat)
        case atStart => exact ⟨1, 0, Lib.hid (by simp), by omega, by omega, rfl⟩
        case round =>
          obtain ⟨p, j, hp, p1, p2, rfl⟩ := hrel
          by_cases hlt : p < k
          · go_wp2
            go_round
            case rel => exact ⟨p * 2, j + 1, Lib.hid (by rw [Int.pow_succ, hp.out]), by omega, by omega, rfl⟩
            case measure => simp [intOf]; omega
          · have E' : Hid (sizeI k = p) := Lib.hid (by
              cases j with
              | zero => have := hp.out; simp at this; omega
              | succ i =>
                have e := hp.out
                rw [Int.pow_succ] at e
                rw [sizeI_of k i g1 g2 (by omega) (by omega), e, Int.mul_comm])
            go_wp2
            go_ret
            exact ⟨ret_i64 E'.out.symm, rfl⟩

theorem sizeI_16 (x : Int) (h0 : 0 ≤ x) (h1 : x ≤ 16) : 1 ≤ sizeI x ∧ sizeI x ≤ 16 := by
  rcases (show x = 0 ∨ x = 1 ∨ x = 2 ∨ x = 3 ∨ x = 4 ∨ x = 5 ∨ x = 6 ∨ x = 7 ∨ x = 8 ∨ x = 9 ∨ x = 10 ∨ x = 11 ∨ x = 12 ∨ x = 13 ∨ x = 14 ∨ x = 15 ∨ x = 16 by omega) with rfl | rfl | rfl | rfl | rfl | rfl | rfl | rfl | rfl | rfl | rfl | rfl | rfl | rfl | rfl | rfl | rfl <;> decide +kernel
theorem slotI_lt (a n : Int) (h0 : 0 ≤ a) (hn : 1 ≤ n) : 0 ≤ slotI a n ∧ slotI a n < n := by
  unfold slotI
  rw [if_neg (by omega)]
  exact ⟨Int.emod_nonneg _ (by omega), Int.emod_lt_of_pos _ (by omega)⟩
end Go.Proofs.Ytjnlkemdaffgbaa
/- Where everything lies: plain arithmetic. -/
namespace Go.Proofs.Ytjnlkemdaffgbaa
open Go.ChangeShapes Go.WideShapes Go.ChangeAt Go.RowKit
set_option maxRecDepth 100000

theorem ConfM.good.cap {c : ConfM} (h : c.good) (k : Nat) (hk : k < c.caps.length) : 0 ≤ c.caps.getD k 0 ∧ c.caps.getD k 0 ≤ 16 := by
  rw [List.getD_eq_getElem?_getD, List.getElem?_eq_getElem hk]
  exact h.caps _ (List.getElem_mem hk)
/-- the slots of the channel k -/
def ConfM.size (c : ConfM) (k : Nat) : Int := sizeI (c.caps.getD k 0)
theorem ConfM.good.size {c : ConfM} (h : c.good) (k : Nat) (hk : k < c.caps.length) : 1 ≤ c.size k ∧ c.size k ≤ 16 := sizeI_16 _ (h.cap k hk).1 (h.cap k hk).2
/-- the first word of channel k -/
def ConfM.base (c : ConfM) : Nat → Int
  | 0 => 0
  | k + 1 => c.base k + (5 + c.size k * 2)
theorem ConfM.good.base {c : ConfM} (h : c.good) (k : Nat) (hk : k ≤ c.caps.length) : 0 ≤ c.base k ∧ c.base k ≤ 37 * k := by
  induction k with
  | zero => exact ⟨Int.le_refl _, Int.le_refl _⟩
  | succ k ih =>
    have h1 := ih (by omega)
    have h2 := h.size k (by omega)
    show 0 ≤ c.base k + (5 + c.size k * 2) ∧ c.base k + (5 + c.size k * 2) ≤ _
    omega
theorem ConfM.good.base8 {c : ConfM} (h : c.good) (k : Nat) (hk : k ≤ c.caps.length) : 0 ≤ c.base k ∧ c.base k ≤ 296 := by
  have h1 := h.base k hk
  have h2 := h.len
  omega
/-- the slot's first word -/
def ConfM.slotW (c : ConfM) (k : Nat) (s : Int) : Int := c.base k + 5 + slotI s (c.size k) * 2
/-- the thread's first word -/
def ConfM.thrW (c : ConfM) (t : Int) : Int := c.base c.caps.length + t * 11
end Go.Proofs.Ytjnlkemdaffgbaa
/- Where everything lies: what package layout and the document's answers for chapter 5 return. -/
namespace Go.Proofs.Ytjnlkemdaffgbaa
open Go.ChangeShapes Go.WideShapes Go.ChangeAt Go.RowKit
set_option maxRecDepth 100000

theorem SlI.cellAt {w : World} {k : IntKind} {a : Option Addr} {n cap : Nat} {l : List Int} (h : SlI w k (.slice a n cap) l) (t : Nat) (ht : t < l.length) :
    ∃ b off, a = some ⟨b, off, none⟩ ∧ b < w.heap.size ∧ w.cell? ⟨b, off + t, none⟩ = some (.int k (l.getD t 0)) := by
  obtain ⟨_, _, a', cap', e, _, h5⟩ := h
  simp only [Value.slice.injEq] at e
  obtain ⟨rfl, _, _⟩ := e
  exact h5 t ht
theorem slots_any (v : Value) (c : ConfM) (k : Nat) (w : World) (h : ConfV w v c) (hk : k < c.caps.length) (hg : c.good) :
    Calls Try.prog 78 #[v, .int .i64 k] w fun e w' => e = .returned (.int .i64 (c.size k)) ∧ Below w.heap.size w w' := by
  have HV := Lib.hid h
  obtain ⟨vc, vs, rfl, h1, h2⟩ := h
  obtain ⟨a, cap, rfl, -⟩ := h1.len
  obtain ⟨a2, cap2, rfl, -⟩ := h2.len
  have hl := hg.len
  have HB := Lib.hid (below_new (Below.refl w.heap.size w) (.cells #[.slice a c.caps.length cap, .slice a2 c.starts.length cap2, .int .i64 c.threads] 36))
  have T := Lib.hid fun w' => size_any (c.caps.getD k 0) w' (by have := hg.cap k hk; omega) (by have := hg.cap k hk; omega)
  obtain ⟨b, off, rfl, hb, hcell⟩ := h1.cellAt k hk
  have hcell : (w.alloc (.cells #[.slice (some ⟨b, off, none⟩) c.caps.length cap, .slice a2 c.starts.length cap2, .int .i64 c.threads] 36)).cell? ⟨b, off + k, none⟩ = some (.int .i64 (c.caps.getD k 0)) := (HB.out.cell (p := ⟨b, off + k, none⟩) hb).trans hcell
  have hsz : Hid (c.size k = sizeI (c.caps.getD k 0)) := rfl
  clear h1 h2
  generalize c.caps.length = n at *
  generalize c.caps.getD k 0 = x at *
  go_enter Try.func78, Try.ntmps78
  go_wp2_with fail
  refine (T.out _).mono ?_; rintro e w1 ⟨rfl, rfl⟩
  go_wp2
  go_ret
  exact ⟨ret_i64 hsz.out.symm, HB.out⟩
theorem rsize4_any (v : Value) (c : ConfM) (k : Nat) (w : World) (h : ConfV w v c) (hk : k < c.caps.length) (hg : c.good) :
    Calls Try.prog 51 #[v, .int .i64 k] w fun e w' => e = .returned (.int .i64 (c.size k)) ∧ Below w.heap.size w w' := by
  have HV := Lib.hid h
  obtain ⟨vc, vs, rfl, h1, h2⟩ := h
  obtain ⟨a, cap, rfl, -⟩ := h1.len
  obtain ⟨a2, cap2, rfl, -⟩ := h2.len
  have hl := hg.len
  have HB := Lib.hid (below_new (Below.refl w.heap.size w) (.cells #[.slice a c.caps.length cap, .slice a2 c.starts.length cap2, .int .i64 c.threads] 36))
  have T := Lib.hid fun w' => rsize_any (c.caps.getD k 0) w' (by have := hg.cap k hk; omega) (by have := hg.cap k hk; omega)
  obtain ⟨b, off, rfl, hb, hcell⟩ := h1.cellAt k hk
  have hcell : (w.alloc (.cells #[.slice (some ⟨b, off, none⟩) c.caps.length cap, .slice a2 c.starts.length cap2, .int .i64 c.threads] 36)).cell? ⟨b, off + k, none⟩ = some (.int .i64 (c.caps.getD k 0)) := (HB.out.cell (p := ⟨b, off + k, none⟩) hb).trans hcell
  have hsz : Hid (c.size k = sizeI (c.caps.getD k 0)) := rfl
  clear h1 h2
  generalize c.caps.length = n at *
  generalize c.caps.getD k 0 = x at *
  go_enter Try.func51, Try.ntmps51
  go_wp2_with fail
  refine (T.out _).mono ?_; rintro e w1 ⟨rfl, rfl⟩
  go_wp2
  go_ret
  exact ⟨ret_i64 hsz.out.symm, HB.out⟩
set_option maxHeartbeats 1000000 in
theorem base_any (v : Value) (c : ConfM) (k : Nat) (w : World) (h : ConfV w v c) (hk : k ≤ c.caps.length) (hg : c.good) :
    Calls Try.prog 77 #[v, .int .i64 k] w fun e w' => e = .returned (.int .i64 (c.base k)) ∧ Below w.heap.size w w' := by
  have HV := Lib.hid h
  obtain ⟨vc, vs, rfl, h1, h2⟩ := h
  obtain ⟨a, cap, rfl, -⟩ := h1.len
  obtain ⟨a2, cap2, rfl, -⟩ := h2.len
  have hl := hg.len
  have HB := Lib.hid (below_new (Below.refl w.heap.size w) (.cells #[.slice a c.caps.length cap, .slice a2 c.starts.length cap2, .int .i64 c.threads] 36))
  have T := Lib.hid fun j (w' : World) h hj => slots_any (.agg #[.slice a c.caps.length cap, .slice a2 c.starts.length cap2, .int .i64 c.threads]) c j w' h hj hg
  have HN := Lib.hid fun j hj => hg.base8 j hj
  have HZ := Lib.hid fun j hj => hg.size j hj
  have HK := Lib.hid hk
  have hk8 : k ≤ 8 := by omega
  obtain ⟨W, hW⟩ : ∃ W, w.alloc (.cells #[.slice a c.caps.length cap, .slice a2 c.starts.length cap2, .int .i64 c.threads] 36) = W := ⟨_, rfl⟩
  rw [hW] at HB
  have R0 : Hid (W.heap[w.heap.size]? = some (.cells #[.slice a c.caps.length cap, .slice a2 c.starts.length cap2, .int .i64 c.threads] 36 (0, 0))) := hW ▸ heap_alloc_new _ _
  have hzW : w.heap.size + 1 = W.heap.size := by rw [← hW]; simp
  have HW := Lib.hid hW
  have hcl : (c.caps.length : Int) ≤ 8 := by omega
  clear h1 h2 hg hW
  go_enter Try.func77, Try.ntmps77
  go_upto_region 1 with fail
  rw [HW.out]
  clear HW
  obtain ⟨x0, x1, x2⟩ := rowc3 R0.out
  go_wp2_with fail
  go_loopw [5, 12] (fun s i wr => ∃ j : Nat, j ≤ k ∧ s = .int .i64 (c.base j) ∧ i = .int .i64 j ∧ Hid (Below W.heap.size W wr)) (fun _ i _ => 9 - (intOf i).toNat)
  case atStart => exact ⟨0, by omega, rfl, rfl, Below.refl _ _⟩
  case round =>
    obtain ⟨j, hj, rfl, rfl, hb⟩ := hrel
    obtain ⟨wo, rfl⟩ : ∃ wo : World, wo = wr := ⟨_, rfl⟩
    have SB := Lib.hid ((hb.out.block w.heap.size (by omega)).trans R0.out)
    have hn := HN.out j (by have := HK.out; omega)
    clear x0 x1 x2
    obtain ⟨x0, x1, x2⟩ := rowc3 SB.out
    by_cases hlt : j < k
    · have hz := HZ.out j (by have := HK.out; omega)
      have hjn := Lib.hid (show j < c.caps.length by have := HK.out; omega)
      have HBS : Hid (c.base (j + 1) = c.base j + (5 + c.size j * 2)) := rfl
      go_wp2_with fail
      refine (T.out j _ ((HV.out.below HB.out).below hb.out) hjn.out).mono ?_; rintro e w1 ⟨rfl, hb1⟩
      have hb2 := Lib.hid (below_then hb.out hb1)
      clear hb1 hb
      go_wp2
      go_roundw
      case rel => exact ⟨j + 1, by omega, by (first | (rw [HBS.out]; done) | (rw [HBS.out]; exact congrArg (Value.int .i64) (by omega))), by go_num, hb2⟩
      case measure => simp [intOf]; omega
    · obtain rfl : j = k := by omega
      go_wp2
      go_ret
      exact ⟨rfl, below_then HB.out hb.out⟩
set_option maxHeartbeats 1000000 in
theorem rtail_any (v : Value) (c : ConfM) (k : Nat) (w : World) (h : ConfV w v c) (hk : k ≤ c.caps.length) (hg : c.good) :
    Calls Try.prog 41 #[v, .int .i64 k] w fun e w' => e = .returned (.int .i64 (c.base k)) ∧ Below w.heap.size w w' := by
  have HV := Lib.hid h
  obtain ⟨vc, vs, rfl, h1, h2⟩ := h
  obtain ⟨a, cap, rfl, -⟩ := h1.len
  obtain ⟨a2, cap2, rfl, -⟩ := h2.len
  have hl := hg.len
  have HB := Lib.hid (below_new (Below.refl w.heap.size w) (.cells #[.slice a c.caps.length cap, .slice a2 c.starts.length cap2, .int .i64 c.threads] 36))
  have T := Lib.hid fun j (w' : World) h hj => rsize4_any (.agg #[.slice a c.caps.length cap, .slice a2 c.starts.length cap2, .int .i64 c.threads]) c j w' h hj hg
  have HN := Lib.hid fun j hj => hg.base8 j hj
  have HZ := Lib.hid fun j hj => hg.size j hj
  have HK := Lib.hid hk
  have hk8 : k ≤ 8 := by omega
  obtain ⟨W, hW⟩ : ∃ W, w.alloc (.cells #[.slice a c.caps.length cap, .slice a2 c.starts.length cap2, .int .i64 c.threads] 36) = W := ⟨_, rfl⟩
  rw [hW] at HB
  have R0 : Hid (W.heap[w.heap.size]? = some (.cells #[.slice a c.caps.length cap, .slice a2 c.starts.length cap2, .int .i64 c.threads] 36 (0, 0))) := hW ▸ heap_alloc_new _ _
  have hzW : w.heap.size + 1 = W.heap.size := by rw [← hW]; simp
  have HW := Lib.hid hW
  have hcl : (c.caps.length : Int) ≤ 8 := by omega
  clear h1 h2 hg hW
  go_enter Try.func41, Try.ntmps41
  go_upto_region 1 with fail
  rw [HW.out]
  clear HW
  obtain ⟨x0, x1, x2⟩ := rowc3 R0.out
  go_wp2_with fail
  go_loopw [5, 6] (fun s i wr => ∃ j : Nat, j ≤ k ∧ s = .int .i64 (c.base j) ∧ i = .int .i64 j ∧ Hid (Below W.heap.size W wr)) (fun _ i _ => 9 - (intOf i).toNat)
  case atStart => exact ⟨0, by omega, rfl, rfl, Below.refl _ _⟩
  case round =>
    obtain ⟨j, hj, rfl, rfl, hb⟩ := hrel
    obtain ⟨wo, rfl⟩ : ∃ wo : World, wo = wr := ⟨_, rfl⟩
    have SB := Lib.hid ((hb.out.block w.heap.size (by omega)).trans R0.out)
    have hn := HN.out j (by have := HK.out; omega)
    clear x0 x1 x2
    obtain ⟨x0, x1, x2⟩ := rowc3 SB.out
    by_cases hlt : j < k
    · have hz := HZ.out j (by have := HK.out; omega)
      have hjn := Lib.hid (show j < c.caps.length by have := HK.out; omega)
      have HBS : Hid (c.base (j + 1) = c.base j + (5 + c.size j * 2)) := rfl
      go_wp2_with fail
      refine (T.out j _ ((HV.out.below HB.out).below hb.out) hjn.out).mono ?_; rintro e w1 ⟨rfl, hb1⟩
      have hb2 := Lib.hid (below_then hb.out hb1)
      clear hb1 hb
      go_wp2
      go_roundw
      case rel => exact ⟨j + 1, by omega, by (first | (rw [HBS.out]; done) | (rw [HBS.out]; exact congrArg (Value.int .i64) (by omega))), by go_num, hb2⟩
      case measure => simp [intOf]; omega
    · obtain rfl : j = k := by omega
      go_wp2
      go_ret
      exact ⟨rfl, below_then HB.out hb.out⟩
end Go.Proofs.Ytjnlkemdaffgbaa
