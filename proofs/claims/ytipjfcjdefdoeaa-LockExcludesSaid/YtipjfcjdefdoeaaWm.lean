/- Worlds of the document's small machines: what the memory of a run holds of them. -/
import Derived.Test.YtipjfcjdefdoeaaOwnS
import Derived.Test.YtipjfcjdefdoeaaItems
import Derived.Test.YtipjfcjdefdoeaaConf
namespace Go.Proofs.Ytipjfcjdefdoeaa
open Go.ChangeShapes Go.WideShapes Go.ChangeAt Go.RowKit
set_option maxRecDepth 100000

/-- a small machine of the document, but for its configuration; pl: its place -/
structure MachM where
  what : Int
  pl : Int
  chan : Int
  thr : Int
  idx : Int
  kind : Int
  val : Int
  t : Int
  h : Int
  ok : Int
  ov : Int
def machL (vc vs : Value) (th : Int) (m : MachM) : List Value := [.int .i64 m.what, .int .i64 m.pl, vc, vs, .int .i64 th, .int .i64 m.chan, .int .i64 m.thr, .int .i64 m.idx, .int .i64 m.kind, .int .u64 m.val, .int .u64 m.t, .int .u64 m.h, .int .i64 m.ok, .int .u64 m.ov]
/-- the values of a world of machines: the slices of its lists -/
structure WV where
  cA : Option Addr
  cc : Nat
  sA : Option Addr
  sc : Nat
  mA : Option Addr
  mc : Nat
  nA : Option Addr
  nc : Nat
  lA : Option Addr
  lc : Nat
  tA : Option Addr
  tc : Nat
  pA : Option Addr
  pc : Nat
  fA : Option Addr
  fc : Nat
/-- a world of machines: the configuration, the memory, the machines, the trace, the past, the program's frames -/
structure WM where
  c : ConfM
  m : MemM
  l : List MachM
  t : List ItemM
  p : List (List Value × MemM)
  f : List (List Value)
def WV.vc (x : WV) (c : ConfM) : Value := .slice x.cA c.caps.length x.cc
def WV.vs (x : WV) (c : ConfM) : Value := .slice x.sA c.starts.length x.sc
def WV.vl (x : WV) (y : WM) : Value := .slice x.lA y.l.length x.lc
def WV.vt (x : WV) (y : WM) : Value := .slice x.tA y.t.length x.tc
def WV.vp (x : WV) (y : WM) : Value := .slice x.pA y.p.length x.pc
def WV.vf (x : WV) (y : WM) : Value := .slice x.fA y.f.length x.fc
def WV.mem (x : WV) (y : WM) : Array Value := #[.slice x.mA y.m.words.length x.mc, .slice x.nA y.m.lists.length x.nc, .int .i64 y.m.tick]
def WV.row (x : WV) (y : WM) : Array Value := #[.slice x.cA y.c.caps.length x.cc, .slice x.sA y.c.starts.length x.sc, .int .i64 y.c.threads, .slice x.mA y.m.words.length x.mc, .slice x.nA y.m.lists.length x.nc, .int .i64 y.m.tick, .slice x.lA y.l.length x.lc, .slice x.tA y.t.length x.tc, .slice x.pA y.p.length x.pc, .slice x.fA y.f.length x.fc]
def addrB (a : Option Addr) : Option Nat := a.map (·.block)
/-- the blocks that may change: those of E (the reader's), the world's own, those of its lists -/
def WV.S (x : WV) (E : List (Option Nat)) (B : Nat) : List (Option Nat) := E ++ [some B, addrB x.lA, addrB x.tA, addrB x.pA, addrB x.fA]
theorem own_addr (a : Option Addr) (n c : Nat) : (Value.slice a n c).ownBlock = addrB a := by cases a <;> rfl
/-- what holds of a world of machines in block B; WT: the type of its struct; its lists lie from D on -/
structure WI (WT : TypeId) (w0 wr : World) (E : List (Option Nat)) (B D : Nat) (x : WV) (y : WM) : Prop where
  w0B : w0.heap.size ≤ B
  eW : ∀ j, some j ∈ E → w0.heap.size ≤ j ∧ j < wr.heap.size
  BD : B < D
  Dw : D ≤ wr.heap.size
  row : wr.heap[B]? = some (.cells (x.row y) WT (0, 0))
  conf : ∀ w2, OffS (x.S E B) wr w2 → SlI w2 .i64 (x.vc y.c) y.c.caps ∧ SlI w2 .u64 (x.vs y.c) y.c.starts
  good : y.c.good
  mem : StM (OffS (x.S E B) wr) (.agg (x.mem y)) y.m
  fits : y.m.fits
  ol : OwnS wr D 68 14 (x.vl y) (y.l.map (machL (x.vc y.c) (x.vs y.c) y.c.threads))
  ot : OwnS wr D 42 8 (x.vt y) (y.t.map itemCells)
  op : OwnS wr D 29 3 (x.vp y) (y.p.map Prod.fst)
  of : OwnS wr D 71 5 (x.vf y) y.f
  past : ∀ z ∈ y.p, StM (OffS (x.S E B) wr) (.agg z.1.toArray) z.2
  below : Below w0.heap.size w0 wr
section
variable {WT : TypeId} {w0 wr w2 : World} {E : List (Option Nat)} {B D : Nat} {x : WV} {y : WM}
theorem WI.lt (h : WI WT w0 wr E B D x y) : B < wr.heap.size := (Array.getElem?_eq_some_iff.1 h.row).1
/-- the blocks that may change lie below the heap's size -/
theorem WI.Slt (h : WI WT w0 wr E B D x y) : ∀ j, some j ∈ x.S E B → j < wr.heap.size := by
  intro j hj
  simp only [WV.S, List.mem_append, List.mem_cons, List.not_mem_nil, or_false, Option.some.injEq] at hj
  have k : ∀ {a : Option Addr} {n c : Nat} {e : TypeId} {s : Nat} {r : List (List Value)}, OwnS wr D e s (.slice a n c) r → some j = addrB a → j < wr.heap.size := fun ho e => (ho.lt j (by rw [own_addr]; exact e.symm)).2
  rcases hj with e | rfl | e | e | e | e
  · exact (h.eW j e).2
  · exact h.lt
  · exact k h.ol e
  · exact k h.ot e
  · exact k h.op e
  · exact k h.of e
theorem WI.Sge (h : WI WT w0 wr E B D x y) : ∀ j, some j ∈ x.S E B → w0.heap.size ≤ j := by
  intro j hj
  have h2 := h.w0B
  have h3 := h.BD
  simp only [WV.S, List.mem_append, List.mem_cons, List.not_mem_nil, or_false, Option.some.injEq] at hj
  have k : ∀ {a : Option Addr} {n c : Nat} {e : TypeId} {s : Nat} {r : List (List Value)}, OwnS wr D e s (.slice a n c) r → some j = addrB a → w0.heap.size ≤ j := fun ho e => by have := (ho.lt j (by rw [own_addr]; exact e.symm)).1; omega
  rcases hj with e | rfl | e | e | e | e
  · exact (h.eW j e).1
  · omega
  · exact k h.ol e
  · exact k h.ot e
  · exact k h.op e
  · exact k h.of e
theorem WI.next (h : WI WT w0 wr E B D x y) (hb : Below wr.heap.size wr w2) : WI WT w0 w2 E B D x y :=
  ⟨h.w0B, fun j hj => ⟨(h.eW j hj).1, Nat.lt_of_lt_of_le (h.eW j hj).2 hb.size⟩, h.BD, Nat.le_trans h.Dw hb.size, (hb.block B h.lt).trans h.row, fun w3 h3 => h.conf w3 ((OffS.below hb).trans1 h3), h.good, h.mem.sub fun w3 h3 => (OffS.below hb).trans1 h3, h.fits, h.ol.below hb, h.ot.below hb, h.op.below hb, h.of.below hb, fun z hz => (h.past z hz).sub fun w3 h3 => (OffS.below hb).trans1 h3, below_then h.below hb⟩
/-- the reader has gone on -/
theorem WI.drawn {g : Nat} (h : WI WT w0 wr E B D x y) (hgE : some g ∈ E) (hgB : g < B) (hg : wr.grownBy w2 (some g)) : WI WT w0 w2 E B D x y := by
  have h3 := h.BD
  have o : OffS (x.S E B) wr w2 := OffS.grown hg (.inr (by simp [WV.S, hgE]))
  exact ⟨h.w0B, fun j hj => ⟨(h.eW j hj).1, Nat.lt_of_lt_of_le (h.eW j hj).2 hg.size⟩, h.BD, Nat.le_trans h.Dw hg.size, (hg.block B h.lt (by simp; omega)).trans h.row, fun w3 h4 => h.conf w3 (o.trans1 h4), h.good, h.mem.sub fun w3 h4 => o.trans1 h4, h.fits, h.ol.kept hg (h.ol.ne (by omega)), h.ot.kept hg (h.ot.ne (by omega)), h.op.kept hg (h.op.ne (by omega)), h.of.kept hg (h.of.ne (by omega)), fun z hz => (h.past z hz).sub fun w3 h4 => o.trans1 h4, h.below.grown hg h.below.size (fun k hk => by cases hk; exact (h.eW g hgE).1)⟩
theorem WI.confV (h : WI WT w0 wr E B D x y) : ConfV wr (.agg #[x.vc y.c, x.vs y.c, .int .i64 y.c.threads]) y.c := ⟨_, _, rfl, h.conf wr (OffS.self _ _)⟩
end
theorem OffS.mono {S S2 : List (Option Nat)} {w w2 : World} (h : OffS S w w2) (hs : ∀ j, some j ∈ S → some j ∈ S2) : OffS S2 w w2 := ⟨h.1, fun j hj hn => h.2 j hj (fun e => hn (hs j e))⟩
/-- a new block may change from here on -/
theorem WI.exempt {WT : TypeId} {w0 wr w2 : World} {E : List (Option Nat)} {B D : Nat} {x : WV} {y : WM} (h : WI WT w0 wr E B D x y) (hb : Below wr.heap.size wr w2) (A : Nat) (hA : wr.heap.size ≤ A) (hA2 : A < w2.heap.size) : WI WT w0 w2 (some A :: E) B D x y := by
  have h1 := h.next hb
  have hin : ∀ w3, OffS (x.S (some A :: E) B) w2 w3 → OffS (x.S E B) wr w3 := fun w3 h3 => (OffS.below (S := x.S E B) hb).trans h3 fun j hj hm => by
    simp only [WV.S, List.cons_append, List.mem_cons, Option.some.injEq] at hm
    rcases hm with rfl | hm
    · omega
    · exact hm
  exact ⟨h1.w0B, fun j hj => by
    simp only [List.mem_cons, Option.some.injEq] at hj
    rcases hj with rfl | hj
    · exact ⟨by have := h.below.size; omega, hA2⟩
    · exact h1.eW j hj, h1.BD, h1.Dw, h1.row, fun w3 h3 => h.conf w3 (hin w3 h3), h1.good, h.mem.sub hin, h1.fits, h1.ol, h1.ot, h1.op, h1.of, fun z hz => (h.past z hz).sub hin, h1.below⟩
/-- that block was written: it may change no more -/
theorem WI.settle {WT AT : TypeId} {w0 wr w2 : World} {E : List (Option Nat)} {B D A : Nat} {x : WV} {y : WM} {cs : Array Value} (h : WI WT w0 wr (some A :: E) B D x y) (hA : wr.heap[A]? = some (.cells cs AT (0, 0))) (hAB : B < A) (hg : wr.grownBy w2 (some A)) (h1 : AT ≠ 68) (h2 : AT ≠ 42) (h3 : AT ≠ 29) (h4 : AT ≠ 71) :
    WI WT w0 w2 E B D x y ∧ ∀ w3, OffS (x.S E B) w2 w3 → OffS (x.S (some A :: E) B) wr w3 := by
  have hin : ∀ w3, OffS (x.S E B) w2 w3 → OffS (x.S (some A :: E) B) wr w3 := fun w3 h5 => by
    have o1 : OffS (x.S (some A :: E) B) wr w2 := OffS.grown hg (.inr (by simp [WV.S]))
    exact o1.trans1 (h5.mono fun j hj => by simp only [WV.S, List.cons_append, List.mem_cons] at hj ⊢; exact .inr hj)
  have k : ∀ {e : TypeId} {s : Nat} {v : Value} {r : List (List Value)}, OwnS wr D e s v r → AT ≠ e → OwnS w2 D e s v r := fun ho he => ho.kept hg (by
    rcases ho.2.2 with ⟨rfl, _⟩ | ⟨b, cap, cur, rfl, _, hb, _⟩
    · exact .inl rfl
    · refine .inr ?_
      simp only [Value.ownBlock, ne_eq, Option.some.injEq]
      rintro rfl
      rw [hA] at hb
      simp at hb
      exact he hb.2)
  exact ⟨⟨h.w0B, fun j hj => ⟨(h.eW j (List.mem_cons_of_mem _ hj)).1, Nat.lt_of_lt_of_le (h.eW j (List.mem_cons_of_mem _ hj)).2 hg.size⟩, h.BD, Nat.le_trans h.Dw hg.size, (hg.block B h.lt (by simp; omega)).trans h.row, fun w3 h5 => h.conf w3 (hin w3 h5), h.good, h.mem.sub hin, h.fits, k h.ol h1, k h.ot h2, k h.op h3, k h.of h4, fun z hz => (h.past z hz).sub hin, h.below.grown hg h.below.size (fun j hj => by cases hj; exact (h.eW A (List.mem_cons_self ..)).1)⟩, hin⟩
/-- the relation of frames to machines, in all worlds of G -/
def FrI (R : (World → Prop) → ConfM → List Value → MachM → Prop) (G : World → Prop) (y : WM) : Prop := y.f.length = y.l.length ∧ ∀ i (h1 : i < y.f.length) (h2 : i < y.l.length), R G y.c y.f[i] y.l[i]
end Go.Proofs.Ytipjfcjdefdoeaa
