import Derived.Deep.QuietTactic
import Derived.BigQuiet
import Derived.Deep.DeepCutAuto
import Derived.RegionTactic
import Derived.BigRegion
import Derived.Test.YtjnlkemdaffgbaaRows
import Derived.Laws.AppendOwnNone
import Derived.Test.YtjnlkemdaffgbaaB01
import Derived.Test.YtjnlkemdaffgbaaB03
import Derived.Test.YtjnlkemdaffgbaaB02
set_option linter.unusedVariables false
set_option linter.unusedSimpArgs false
/- A region that draws its order, whose operations only read and whose callees make memory of their own: one walk in the order of the text. -/
namespace Go.Proofs.Ytjnlkemdaffgbaa
open Go.ChangeShapes Go.WideShapes Go.ChangeAt Go.RowKit
set_option maxRecDepth 100000

/-- a world that holds more than W, and W's memory as it was -/
structure Ext (W : World) where
  wd : World
  below : Below W.heap.size W wd
instance (W : World) : Nonempty (Ext W) := ⟨⟨W, Below.refl _ _⟩⟩
theorem wp_region_ext {P : Program} {id : Nat} {Q : Exit → Act → World → Prop} {a : Act} {w : World} {l : List Oper} (W : World) (hm : P.follows .mixedOrders = true) (hB : Region.lexB .any l.toArray = true) (hW : Below W.heap.size W w)
    (h : wpQuiet P l.toArray (fun w' => ∃ n : Ext W, w' = n.wd) (fun a' => ∀ w', (∃ n : Ext W, w' = n.wd) → Q .normal a' w') l a) : (Code.region id l.toArray true).wp P Q a w :=
  wp_region_quiet (C := fun w' => ∃ n : Ext W, w' = n.wd) hm hB ⟨⟨_, below_drewN hW 1⟩, rfl⟩ (by simpa using h)
theorem calls_ext {P : Program} {f : FuncId} {args : Array Value} {W : World} {n : Ext W} {v : Value}
    (h : Calls P f args n.wd fun e w' => e = .returned v ∧ Below n.wd.heap.size n.wd w') : Calls P f args n.wd fun e w'' => e = .returned v ∧ ∃ m : Ext W, w'' = m.wd :=
  h.mono fun _ w' ⟨he, hm⟩ => ⟨he, ⟨w', below_then n.below hm⟩, rfl⟩
theorem calls_ext_draw {P : Program} {f : FuncId} {args : Array Value} {W : World} {n : Ext W} {v : Value}
    (h : Calls P f args n.wd fun e w' => e = .returned v ∧ ∃ m, n.wd.drewN m = w') : Calls P f args n.wd fun e w'' => e = .returned v ∧ ∃ m : Ext W, w'' = m.wd :=
  h.mono fun _ w' ⟨he, m, hm⟩ => ⟨he, ⟨w', hm ▸ below_drewN n.below m⟩, rfl⟩
theorem ext_cell {W : World} (b o : Nat) (h : b < W.heap.size) (v : Value) (hc : W.cell? ⟨b, o, none⟩ = some v) (n : Ext W) : n.wd.cell? ⟨b, o, none⟩ = some v := (n.below.cell (p := ⟨b, o, none⟩) h).trans hc
end Go.Proofs.Ytjnlkemdaffgbaa
/- What the program makes of a memory by an access to a word or to a list. -/
namespace Go.Proofs.Ytjnlkemdaffgbaa
open Go.ChangeShapes Go.WideShapes Go.ChangeAt Go.RowKit
set_option maxRecDepth 100000

theorem ne_beq {x c : Int} (h : x ≠ c) : (x == c) = false := by simpa using h
theorem hasB_true {n : Nat} {x : Int} (h : hasB n x = true) : ∃ i : Nat, x = i ∧ i < n := by
  simp only [hasB, Bool.and_eq_true, decide_eq_true_eq] at h
  exact ⟨x.toNat, by omega, by omega⟩
theorem results_cells2 {fn : Func} {P : Program} {p q : Tmp} {t1 t2 : TypeId} (h : fn.results = #[.cell p t1, .cell q t2]) (tmps : Array Value) (w : World) (g1 g2 : Nat) (u1 u2 : TypeId) (c1 c2 : Array Value) (f1 f2 : Nat × Nat) (d1 d2 : TypeDesc)
    (hp : tmps.getD p undef = .pointer (some ⟨g1, 0, none⟩)) (hq : tmps.getD q undef = .pointer (some ⟨g2, 0, none⟩)) (hg1 : w.heap[g1]? = some (.cells c1 u1 f1)) (hg2 : w.heap[g2]? = some (.cells c2 u2 f2))
    (hu1 : P.underlying t1 = some d1) (hd1 : (match d1 with | .struct _ | .array _ _ => true | _ => false) = true) (hi1 : (P.info? t1).map (·.size) = some c1.size)
    (hu2 : P.underlying t2 = some d2) (hd2 : (match d2 with | .struct _ | .array _ _ => true | _ => false) = true) (hi2 : (P.info? t2).map (·.size) = some c2.size) :
    (results fn tmps).run P w = .ok (.tuple #[.agg c1, .agg c2]) w := by
  have hp' : tmps[p]?.getD undef = .pointer (some ⟨g1, 0, none⟩) := by simpa using hp
  have hq' : tmps[q]?.getD undef = .pointer (some ⟨g2, 0, none⟩) := by simpa using hq
  simp [results, h, hp', hq', asAddr, run_loadVar_row w g1 u1 t1 c1 f1 d1 hg1 hu1 hd1 hi1, run_loadVar_row w g2 u2 t2 c2 f2 d2 hg2 hu2 hd2 hi2]
theorem results_cells3 {fn : Func} {P : Program} {p q u : Tmp} {t1 t2 : TypeId} (h : fn.results = #[.cell p t1, .cell q t2, .tmp u]) (tmps : Array Value) (w : World) (g1 g2 : Nat) (u1 u2 : TypeId) (c1 c2 : Array Value) (f1 f2 : Nat × Nat) (d1 d2 : TypeDesc)
    (hp : tmps.getD p undef = .pointer (some ⟨g1, 0, none⟩)) (hq : tmps.getD q undef = .pointer (some ⟨g2, 0, none⟩)) (hg1 : w.heap[g1]? = some (.cells c1 u1 f1)) (hg2 : w.heap[g2]? = some (.cells c2 u2 f2))
    (hu1 : P.underlying t1 = some d1) (hd1 : (match d1 with | .struct _ | .array _ _ => true | _ => false) = true) (hi1 : (P.info? t1).map (·.size) = some c1.size)
    (hu2 : P.underlying t2 = some d2) (hd2 : (match d2 with | .struct _ | .array _ _ => true | _ => false) = true) (hi2 : (P.info? t2).map (·.size) = some c2.size) (x : Value) (hx : tmps.getD u undef = x) :
    (results fn tmps).run P w = .ok (.tuple #[.agg c1, .agg c2, x]) w := by
  have hp' : tmps[p]?.getD undef = .pointer (some ⟨g1, 0, none⟩) := by simpa using hp
  have hq' : tmps[q]?.getD undef = .pointer (some ⟨g2, 0, none⟩) := by simpa using hq
  have hx' : tmps[u]?.getD undef = x := by simpa using hx
  simp [results, h, hp', hq', hx', asAddr, run_loadVar_row w g1 u1 t1 c1 f1 d1 hg1 hu1 hd1 hi1, run_loadVar_row w g2 u2 t2 c2 f2 d2 hg2 hu2 hd2 hi2]
theorem heap_alloc4 (w : World) (A B C D : Obj) : let W := (((w.alloc A).alloc B).alloc C).alloc D
    W.heap[w.heap.size]? = some A ∧ W.heap[w.heap.size + 1]? = some B ∧ W.heap[w.heap.size + 2]? = some C ∧ W.heap[w.heap.size + 3]? = some D ∧ W.heap.size = w.heap.size + 4 ∧ Below w.heap.size w W := by
  intro W
  have hs : ((w.alloc A).alloc B).heap.size = w.heap.size + 2 := by simp
  have hb := below_new (below_new (Below.refl ((w.alloc A).alloc B).heap.size ((w.alloc A).alloc B)) C) D
  have e2 := heap_alloc2_old ((w.alloc A).alloc B) C D
  have e3 := heap_alloc2_new ((w.alloc A).alloc B) C D
  rw [hs] at e2 e3 hb
  exact ⟨(hb.block _ (by omega)).trans (heap_alloc2_old w A B), (hb.block _ (by omega)).trans (heap_alloc2_new w A B), e2, e3, by simp [W], below_new (below_new (below_new (below_new (Below.refl _ _) _) _) _) _⟩
theorem store3 {w : World} {g : Nat} {T : TypeId} {v0 v1 v2 : Value} (h : w.heap[g]? = some (.cells #[v0, v1, v2] T (0, 0))) (u0 u1 u2 : Value) :
    (((w.setCell ⟨g, 0, none⟩ u0).setCell ⟨g, 1, none⟩ u1).setCell ⟨g, 2, none⟩ u2).heap[g]? = some (.cells #[u0, u1, u2] T (0, 0)) := by
  have h1 := heap_setCell_same w g 0 _ _ u0 h
  have h2 := heap_setCell_same _ g 1 _ _ u1 h1
  have h3 := heap_setCell_same _ g 2 _ _ u2 h2
  simpa using h3
theorem store4 {w : World} {g : Nat} {T : TypeId} {v0 v1 v2 v3 : Value} (h : w.heap[g]? = some (.cells #[v0, v1, v2, v3] T (0, 0))) (u0 u1 u2 u3 : Value) :
    ((((w.setCell ⟨g, 0, none⟩ u0).setCell ⟨g, 1, none⟩ u1).setCell ⟨g, 2, none⟩ u2).setCell ⟨g, 3, none⟩ u3).heap[g]? = some (.cells #[u0, u1, u2, u3] T (0, 0)) := by
  have h1 := heap_setCell_same w g 0 _ _ u0 h
  have h2 := heap_setCell_same _ g 1 _ _ u1 h1
  have h3 := heap_setCell_same _ g 2 _ _ u2 h2
  have h4 := heap_setCell_same _ g 3 _ _ u3 h3
  simpa using h4
/-- seven stores into two rows -/
def put34 (w : World) (g : Nat) (u0 u1 u2 r0 r1 r2 r3 : Value) : World :=
  (((((((w.setCell ⟨g, 0, none⟩ u0).setCell ⟨g, 1, none⟩ u1).setCell ⟨g, 2, none⟩ u2).setCell ⟨g + 1, 0, none⟩ r0).setCell ⟨g + 1, 1, none⟩ r1).setCell ⟨g + 1, 2, none⟩ r2).setCell ⟨g + 1, 3, none⟩ r3).drew
theorem put34_rows {w : World} {g : Nat} {T T' : TypeId} {v0 v1 v2 q0 q1 q2 q3 : Value} (h : w.heap[g]? = some (.cells #[v0, v1, v2] T (0, 0))) (h' : w.heap[g + 1]? = some (.cells #[q0, q1, q2, q3] T' (0, 0))) (u0 u1 u2 r0 r1 r2 r3 : Value) :
    (put34 w g u0 u1 u2 r0 r1 r2 r3).heap[g]? = some (.cells #[u0, u1, u2] T (0, 0)) ∧ (put34 w g u0 u1 u2 r0 r1 r2 r3).heap[g + 1]? = some (.cells #[r0, r1, r2, r3] T' (0, 0)) := by
  have o : ∀ (x : World) (j : Nat) (u : Value), (x.setCell ⟨g, j, none⟩ u).heap[g + 1]? = x.heap[g + 1]? := fun x j u => heap_setCell_other x ⟨g, j, none⟩ (g + 1) u (by simp)
  have o' : ∀ (x : World) (j : Nat) (u : Value), (x.setCell ⟨g + 1, j, none⟩ u).heap[g]? = x.heap[g]? := fun x j u => heap_setCell_other x ⟨g + 1, j, none⟩ g u (by simp)
  unfold put34
  rw [heap_drew]
  refine ⟨?_, store4 (v0 := q0) (v1 := q1) (v2 := q2) (v3 := q3) ?_ r0 r1 r2 r3⟩
  · rw [o', o', o', o']; exact store3 h u0 u1 u2
  · rw [o, o, o]; exact h'
theorem put34_below {B : Nat} {a w : World} {g : Nat} (h : Below B a w) (hg : B ≤ g) (u0 u1 u2 r0 r1 r2 r3 : Value) : Below B a (put34 w g u0 u1 u2 r0 r1 r2 r3) := by
  unfold put34
  exact below_drewN ((((((((h.setCell (p := ⟨g, 0, none⟩) hg u0).setCell (p := ⟨g, 1, none⟩) hg u1).setCell (p := ⟨g, 2, none⟩) hg u2).setCell (p := ⟨g + 1, 0, none⟩) (Nat.le_succ_of_le hg) r0).setCell (p := ⟨g + 1, 1, none⟩) (Nat.le_succ_of_le hg) r1).setCell (p := ⟨g + 1, 2, none⟩) (Nat.le_succ_of_le hg) r2).setCell (p := ⟨g + 1, 3, none⟩) (Nat.le_succ_of_le hg) r3)) 1
def zeroAns : Array Value := #[.int .u64 0, .bool false, .bool false, .slice none 0 0]
/-- a memory and an answer are handed back -/
def PairR (G : World → Prop) (w : World) (r : MemM × AnsM) (e : Ending) (w' : World) : Prop :=
  ∃ v' b', e = .returned (.tuple #[v', b']) ∧ StM (Nx G w w') v' r.1 ∧ StA (Nx G w w') b' r.2 ∧ Below w.heap.size w w'
theorem word_none {m : MemM} {a : AccM} (h : hasB m.words.length a.addr = false) : wordE m a = (m, ansZ) := by simp [wordE, h]
theorem word_put {m : MemM} {k ad old nw til : Int} (h : hasB m.words.length ad = true) (hk : k = 2 ∨ k = 6) : wordE m ⟨k, ad, old, nw, til⟩ = (⟨m.words.set ad.toNat nw, m.lists, m.tick⟩, ansZ) := by simp [wordE, h, hk]
theorem word_cas {m : MemM} {ad old nw til : Int} (h : hasB m.words.length ad = true) (hk : m.words.getD ad.toNat 0 = old) : wordE m ⟨3, ad, old, nw, til⟩ = (⟨m.words.set ad.toNat nw, m.lists, m.tick⟩, ⟨m.words.getD ad.toNat 0, true, false, []⟩) := by unfold wordE; simp only [h]; simp only [List.getD_eq_getElem?_getD] at *; simp [hk]
theorem word_miss {m : MemM} {ad old nw til : Int} (h : hasB m.words.length ad = true) (hk : m.words.getD ad.toNat 0 ≠ old) : wordE m ⟨3, ad, old, nw, til⟩ = (m, ⟨m.words.getD ad.toNat 0, false, false, []⟩) := by unfold wordE; simp only [h]; simp only [List.getD_eq_getElem?_getD] at *; simp [hk]
theorem word_wait {m : MemM} {ad old nw til : Int} (h : hasB m.words.length ad = true) : wordE m ⟨4, ad, old, nw, til⟩ = (m, ⟨m.words.getD ad.toNat 0, false, m.words.getD ad.toNat 0 == old, []⟩) := by unfold wordE; simp [h]
theorem word_load {m : MemM} {k ad old nw til : Int} (h : hasB m.words.length ad = true) (h2 : k ≠ 2) (h3 : k ≠ 3) (h4 : k ≠ 4) (h6 : k ≠ 6) : wordE m ⟨k, ad, old, nw, til⟩ = (m, ⟨m.words.getD ad.toNat 0, false, false, []⟩) := by unfold wordE; simp [h, h2, h3, h4, h6]
/-- the memory's parts in a world -/
theorem StM.open {G : World → Prop} {v : Value} {m : MemM} (h : StM G v m) (w : World) (hG : G w) : ∃ a cap a2 cap2, v = .agg #[.slice a m.words.length cap, .slice a2 m.lists.length cap2, .int .i64 m.tick] := by
  obtain ⟨vw, vl, us, rfl, hall⟩ := h
  obtain ⟨h1, h2⟩ := hall w hG
  obtain ⟨a, cap, rfl, -⟩ := h1.len
  obtain ⟨a2, cap2, rfl, -⟩ := h2.len
  exact ⟨_, _, _, _, rfl⟩
theorem StM.words {G : World → Prop} {a a2 : Option Addr} {n cap n2 cap2 : Nat} {t : Int} {m : MemM} (h : StM G (.agg #[.slice a n cap, .slice a2 n2 cap2, .int .i64 t]) m) (w : World) (hG : G w) : SlI w .u64 (.slice a n cap) m.words := by
  obtain ⟨vw, vl, us, e, hall⟩ := h
  obtain ⟨h1, h2⟩ := hall w hG
  simp only [Value.agg.injEq, Array.mk.injEq, List.cons.injEq, and_true] at e
  rw [e.1]; exact h1
theorem StM.listsOf {G : World → Prop} {a a2 : Option Addr} {n cap n2 cap2 : Nat} {t : Int} {m : MemM} (h : StM G (.agg #[.slice a n cap, .slice a2 n2 cap2, .int .i64 t]) m) : ∃ us, ∀ w, G w → SlL w (.slice a2 n2 cap2) us m.lists := by
  obtain ⟨vw, vl, us, e, hall⟩ := h
  simp only [Value.agg.injEq, Array.mk.injEq, List.cons.injEq, and_true] at e
  exact ⟨us, fun w hG => by rw [e.2.1]; exact (hall w hG).2⟩
end Go.Proofs.Ytjnlkemdaffgbaa
/- Layer 4: which kinds are atomic, which write. -/
namespace Go.Proofs.Ytjnlkemdaffgbaa
open Go.ChangeShapes Go.WideShapes Go.ChangeAt Go.RowKit
set_option maxRecDepth 100000

def atomicB (k : Int) : Bool := decide (1 ≤ k) && decide (k ≤ 4)
def writesB (k : Int) : Bool := k == 2 || k == 3 || k == 6 || k == 8 || k == 9
end Go.Proofs.Ytjnlkemdaffgbaa
/- Records of accesses, plainly; the functions of one and of two records. -/
namespace Go.Proofs.Ytjnlkemdaffgbaa
open Go.ChangeShapes Go.WideShapes Go.ChangeAt Go.RowKit
set_option maxRecDepth 100000

structure ItemM where
  thr : Int
  acc : AccM
  val : Int
  ok : Bool
def noItem : ItemM := ⟨0, ⟨0, 0, 0, 0, 0⟩, 0, false⟩
structure ItemM.good (x : ItemM) : Prop where
  thr : x.thr = IntKind.i64.wrap x.thr
  acc : x.acc.ok
  val : x.val = IntKind.u64.wrap x.val
def itemCells (x : ItemM) : List Value := [.int .i64 x.thr, .int .i64 x.acc.kind, .int .i64 x.acc.addr, .int .u64 x.acc.old, .int .u64 x.acc.new, .int .i64 x.acc.til, .int .u64 x.val, .bool x.ok]
def itemV (x : ItemM) : Value := .agg #[.int .i64 x.thr, .int .i64 x.acc.kind, .int .i64 x.acc.addr, .int .u64 x.acc.old, .int .u64 x.acc.new, .int .i64 x.acc.til, .int .u64 x.val, .bool x.ok]
theorem rowc8 {w : World} {g : Nat} {T : TypeId} {v0 v1 v2 v3 v4 v5 v6 v7 : Value} (h : w.heap[g]? = some (.cells #[v0, v1, v2, v3, v4, v5, v6, v7] T (0, 0))) :
    w.cell? ⟨g, 0, none⟩ = some v0 ∧ w.cell? ⟨g, 1, none⟩ = some v1 ∧ w.cell? ⟨g, 2, none⟩ = some v2 ∧ w.cell? ⟨g, 3, none⟩ = some v3 ∧ w.cell? ⟨g, 4, none⟩ = some v4 ∧ w.cell? ⟨g, 5, none⟩ = some v5 ∧ w.cell? ⟨g, 6, none⟩ = some v6 ∧ w.cell? ⟨g, 7, none⟩ = some v7 :=
  ⟨cell_of_row _ _ 0 _ _ _ h, cell_of_row _ _ 1 _ _ _ h, cell_of_row _ _ 2 _ _ _ h, cell_of_row _ _ 3 _ _ _ h, cell_of_row _ _ 4 _ _ _ h, cell_of_row _ _ 5 _ _ _ h, cell_of_row _ _ 6 _ _ _ h, cell_of_row _ _ 7 _ _ _ h⟩
def zeroAccI : Array Value := #[.int .i64 0, .int .i64 0, .int .u64 0, .int .u64 0, .int .i64 0]
def placeE (x : ItemM) : Int :=
  if x.acc.addr < 0 then 1099511627776 else if 1 ≤ x.acc.kind ∧ x.acc.kind ≤ 6 then x.acc.addr else if 7 ≤ x.acc.kind ∧ x.acc.kind ≤ 9 then -1 - x.acc.addr else 1099511627776
def readsE (x : ItemM) : Bool := x.acc.kind == 1 || x.acc.kind == 3 || x.acc.kind == 4 || x.acc.kind == 5 || x.acc.kind == 7 || x.acc.kind == 8 || x.acc.kind == 9
def changesE (x : ItemM) : Bool := writesB x.acc.kind && (!(x.acc.kind == 3) || x.ok)
def plainB (k : Int) : Bool := decide (5 ≤ k) && decide (k ≤ 9)
def conflictE (x y : ItemM) : Bool := plainB x.acc.kind && plainB y.acc.kind && !(x.thr == y.thr) && (placeE x == placeE y) && (changesE x || changesE y)
theorem neg_wrap {x : Int} (h0 : ¬ x < 0) (h1 : x = IntKind.i64.wrap x) : IntKind.i64.wrap (-1 - x) = -1 - x := by rw [IntKind.wrap_i64] at *; omega
end Go.Proofs.Ytjnlkemdaffgbaa
/- The reader of choices (package chanfabricdraw): its state in memory, and what its small methods do to it. -/
namespace Go.Proofs.Ytjnlkemdaffgbaa
open Go.ChangeShapes Go.WideShapes Go.ChangeAt Go.RowKit
set_option maxRecDepth 100000

/-- the reader in block g has the choices r left, and its counter of values stands at val -/
def CodesAt (w : World) (g : Nat) (r : List Int) (val : Int) : Prop :=
  ∃ v l, ∃ k : Nat, w.heap[g]? = some (.cells #[v, .int .i64 k, .int .u64 val] 76 (0, 0)) ∧ SlI w .u8 v l ∧ k ≤ l.length ∧ r = l.drop k ∧ (l ≠ [] → ∀ a n c, v = .slice a n c → ∀ b, a = some b → b.block < g)
theorem CodesAt.drew {w : World} {g : Nat} {r : List Int} {val : Int} (h : CodesAt w g r val) (n : Nat) : CodesAt (w.drewN n) g r val := h
theorem CodesAt.lt {w : World} {g : Nat} {r : List Int} {val : Int} (h : CodesAt w g r val) : g < w.heap.size := by
  obtain ⟨v, l, k, hg, _⟩ := h
  exact (Array.getElem?_eq_some_iff.1 hg).1
theorem CodesAt.kept {w w' : World} {g B : Nat} {r : List Int} {val : Int} (h : CodesAt w g r val) (hB : g < B) (hb : Below B w w') : CodesAt w' g r val := by
  obtain ⟨v, l, k, hg, ⟨m1, m2, a, cap, rfl, hcap, h5⟩, hk, hr, h4⟩ := h
  refine ⟨_, l, k, (hb.block g hB).trans hg, ⟨m1, m2, a, cap, rfl, hcap, fun t ht => ?_⟩, hk, hr, h4⟩
  obtain ⟨b, off, e, hlt, hc⟩ := h5 t ht
  have hbg := h4 (by rintro rfl; simp at ht) _ _ _ rfl _ e
  exact ⟨b, off, e, Nat.lt_of_lt_of_le hlt hb.size, (hb.cell (p := ⟨b, off + t, none⟩) (by simp at hbg ⊢; omega)).trans hc⟩
/-- one choice -/
def nxt (r : List Int) (n : Int) : Int := match r with | [] => 0 | c :: _ => c % n

theorem nxt_bd (r : List Int) (n : Int) (h : 1 ≤ n) : 0 ≤ nxt r n ∧ nxt r n < n := by
  unfold nxt
  split
  · omega
  · exact ⟨Int.emod_nonneg _ (by omega), Int.emod_lt_of_pos _ (by omega)⟩
theorem left_any (g : Nat) (r : List Int) (val : Int) (w : World) (h : CodesAt w g r val) :
    Calls Try.prog 22 #[.pointer (some ⟨g, 0, none⟩)] w fun e w' => ∃ n, e = .returned (.bool (!r.isEmpty)) ∧ w.drewN n = w' := by
  obtain ⟨v, l, k, hg, hl, hk, rfl, _⟩ := h
  have hmx := hl.1
  obtain ⟨a, cap, rfl, _⟩ := hl.len
  have c0 := cell_of_row w g 0 _ _ _ hg
  have c1 := cell_of_row w g 1 _ _ _ hg
  simp at c0 c1
  clear hg hl
  have hr : ((l.drop k).isEmpty) = decide (l.length ≤ k) := by
    rw [Bool.eq_iff_iff]; simp
  have HR := Lib.hid hr
  clear hr
  go_enter Try.func22, Try.ntmps22
  go_wp2
  go_quiet (fail)
  go_wp2
  go_ret
  exact ⟨nq, ret_bool (by rw [HR.out]; by_cases e : k < l.length <;> simp [e] <;> omega), rfl⟩
theorem codes_step {w : World} {g : Nat} {val : Int} {b off n cap k : Nat} {l : List Int}
    (hg : w.heap[g]? = some (.cells #[.slice (some ⟨b, off, none⟩) n cap, .int .i64 k, .int .u64 val] 76 (0, 0)))
    (hl : SlI w .u8 (.slice (some ⟨b, off, none⟩) n cap) l) (hlt : k < l.length) (hbg0 : b < g) (m : Nat) :
    (CodesAt (w.setCell ⟨g, 1, none⟩ (.int .i64 ((k : Int) + 1))) g (l.drop k).tail val) ∧
    w.grownBy ((w.setCell ⟨g, 1, none⟩ (.int .i64 ((k : Int) + 1))).drewN m) (some g) ∧
    (w.setCell ⟨g, 1, none⟩ (.int .i64 ((k : Int) + 1))).cell? ⟨g, 0, none⟩ = some (.slice (some ⟨b, off, none⟩) n cap) ∧
    (w.setCell ⟨g, 1, none⟩ (.int .i64 ((k : Int) + 1))).cell? ⟨g, 1, none⟩ = some (.int .i64 ((k : Int) + 1)) ∧
    (w.setCell ⟨g, 1, none⟩ (.int .i64 ((k : Int) + 1))).cell? ⟨b, off + k, none⟩ = some (.int .u8 (l.getD k 0)) := by
  have hbg : b ≠ g := by omega
  have hs := heap_setCell_same w g 1 _ _ (.int .i64 ((k : Int) + 1)) hg
  have ho : ∀ j, j ≠ g → (w.setCell ⟨g, 1, none⟩ (.int .i64 ((k : Int) + 1))).heap[j]? = w.heap[j]? := fun j hj => heap_setCell_other w ⟨g, 1, none⟩ j _ hj
  have e0 := cell_of_row _ g 0 _ _ _ hs
  have e1 := cell_of_row _ g 1 _ _ _ hs
  have hcell : ∀ j, (w.setCell ⟨g, 1, none⟩ (.int .i64 ((k : Int) + 1))).cell? ⟨b, j, none⟩ = w.cell? ⟨b, j, none⟩ := fun j => World.cell?_of_block (ho b hbg)
  obtain ⟨m1, m2, a', cap', e, hle, h5⟩ := hl
  simp only [Value.slice.injEq] at e
  obtain ⟨rfl, rfl, rfl⟩ := e
  have hsz : (w.setCell ⟨g, 1, none⟩ (.int .i64 ((k : Int) + 1))).heap.size = w.heap.size := by simp
  refine ⟨⟨_, l, k + 1, by simpa using hs, ⟨m1, m2, _, _, rfl, hle, fun t ht => ?_⟩, hlt, by rw [List.tail_drop], ?_⟩, ⟨rfl, rfl, rfl, by simp, fun j _ hj => ho j (fun e => hj (by rw [e]))⟩, by simpa using e0, by simpa using e1, ?_⟩
  · obtain ⟨b1, o1, e2, h6, h7⟩ := h5 t ht
    simp only [Option.some.injEq, Addr.mk.injEq, and_true] at e2
    obtain ⟨rfl, rfl⟩ := e2
    exact ⟨_, _, rfl, by rw [hsz]; exact h6, (hcell _).trans h7⟩
  · intro _ a n c e bb e2
    simp only [Value.slice.injEq] at e
    rw [← e.1] at e2
    cases e2
    exact hbg0
  · obtain ⟨b1, o1, e2, h6, h7⟩ := h5 k hlt
    simp only [Option.some.injEq, Addr.mk.injEq, and_true] at e2
    obtain ⟨rfl, rfl⟩ := e2
    exact (hcell _).trans h7
theorem next_any (g : Nat) (r : List Int) (val n : Int) (w : World) (h : CodesAt w g r val) (h1 : 1 ≤ n) (h2 : n ≤ 256) :
    Calls Try.prog 14 #[.pointer (some ⟨g, 0, none⟩), .int .i64 n] w fun e w' => e = .returned (.int .i64 (nxt r n)) ∧ CodesAt w' g r.tail val ∧ w.grownBy w' (some g) := by
  have h0 := h
  obtain ⟨v, l, k, hg, hl, hk, hr, hv⟩ := h
  have hmx := hl.1
  by_cases hlt : k < l.length
  · obtain ⟨b, off, cap, rfl, hcap, hb, hc⟩ := hl.open (by rintro rfl; simp at hlt)
    have c0 := cell_of_row w g 0 _ _ _ hg
    have c1 := cell_of_row w g 1 _ _ _ hg
    have f1 := frozen_of_row w g 1 _ _ hg
    simp at c0 c1
    have hu := hl.2.1 (l.getD k 0) (by simp [List.getD_eq_getElem?_getD, hlt])
    have ST := Lib.hid fun m q => codes_step (w := w.drewN m) hg (hl.drew m) hlt (hv (by rintro rfl; simp at hlt) _ _ _ rfl _ rfl) q
    have hre : r.isEmpty = false := by rw [hr]; simp; omega
    have hn := Lib.hid (show nxt r n = l.getD k 0 % n by rw [hr, List.drop_eq_getElem_cons hlt]; simp [nxt, List.getD_eq_getElem?_getD, hlt])
    have L := Lib.hid fun w' => left_any g r val w'
    have H0 := Lib.hid h0
    have HR := Lib.hid hr
    have hkx : k ≤ 140737488351232 := by omega
    generalize l.getD k 0 = x at *
    have hx : 0 ≤ x ∧ x < 256 := by rw [hu, IntKind.wrap_u8]; omega
    obtain ⟨hx0, hx1⟩ := hx
    have e1 := Int.tmod_eq_emod_of_nonneg (b := n) hx0
    have e2 := Int.emod_nonneg x (show n ≠ 0 by omega)
    have e3 := Int.emod_lt_of_pos x (show 0 < n by omega)
    have hltI : (k : Int) < l.length := by omega
    clear hg hl hc hv hr h0 hu
    have EX := Lib.hid e1
    clear e1
    go_enter Try.func14, Try.ntmps14
    go_wp2_with (go_at_call 22; refine (L.out _ H0.out).mono ?_; rintro e w' ⟨m, rfl, rfl⟩)
    obtain ⟨s1, s5, s2, s3, s4⟩ := ST.out m 0
    have SS := Lib.hid (And.intro s1 s5)
    clear s1 s5 c0 c1 f1
    generalize (w.drewN m).setCell _ _ = W1 at *
    go_quiet (fail)
    go_wp2
    go_ret
    exact ⟨ret_i64 (hn.out.symm), by rw [HR.out]; exact SS.out.1, ⟨SS.out.2.os, SS.out.2.tape, SS.out.2.output, SS.out.2.size, SS.out.2.block⟩⟩
  · have hr0 : r = [] := by rw [hr]; simp; omega
    subst hr0
    have L := Lib.hid fun w' => left_any g [] val w'
    have H0 := Lib.hid h0
    clear hg hl hv hr h0
    go_enter Try.func14, Try.ntmps14
    go_wp2_with (go_at_call 22; refine (L.out _ H0.out).mono ?_; rintro e w' ⟨m, rfl, rfl⟩)
    go_ret
    exact ⟨rfl, H0.out, ⟨rfl, rfl, rfl, Nat.le_refl _, fun _ _ _ => rfl⟩⟩
theorem new_any (v : Value) (l : List Int) (m : Nat) (w : World) (hl : SlI w .u8 v l) (hm : m ≤ 1000) :
    Calls Try.prog 10 #[v, .int .i64 m] w fun e w' => e = .returned (.pointer (some ⟨w.heap.size, 0, none⟩)) ∧ CodesAt w' w.heap.size (l.take m) 0 ∧ Below w.heap.size w w' := by
  have h0 := hl
  obtain ⟨m1, m2, a, cap, rfl, hcap, h5⟩ := hl
  by_cases hlt : m < l.length
  · obtain ⟨b, off, rfl, hb, -⟩ := h5 m hlt
    have hlen : (l.take m).length = m := by simp; omega
    have hfin : SlI (w.alloc (.cells #[.slice (some ⟨b, off, none⟩) m cap, .int .i64 0, .int .u64 0] 76)) .u8 (.slice (some ⟨b, off, none⟩) m cap) (l.take m) := by
      refine ⟨by omega, fun x hx => m2 x (List.mem_of_mem_take hx), _, cap, by rw [hlen], by omega, fun t ht => ?_⟩
      have ht' : t < m := by simp at ht; omega
      obtain ⟨b', off', e, hb', hc⟩ := h5 t (by omega)
      simp only [Option.some.injEq, Addr.mk.injEq, and_true] at e
      obtain ⟨rfl, rfl⟩ := e
      refine ⟨b, off, rfl, by simp; omega, ?_⟩
      rw [World.cell?_alloc_past _ _ _ hb', hc]
      simp [List.getD_eq_getElem?_getD, ht']
    have HF := Lib.hid hfin
    clear hfin h5
    have hmc : (m : Int) ≤ cap := by omega
    have hb' : b < w.heap.size := hb
    clear hlen h0 m2
    go_enter Try.func10, Try.ntmps10
    go_wp2
    go_ret
    exact ⟨rfl, ⟨_, l.take m, 0, heap_alloc_new w _, HF.out, Nat.zero_le _, rfl, fun _ a n c e b2 e2 => by
      simp only [Value.slice.injEq] at e
      rw [← e.1] at e2
      cases e2
      exact hb'⟩, (Below.refl _ _).alloc (Nat.le_refl _) _⟩
  · have e : l.take m = l := List.take_of_length_le (by omega)
    rw [e]
    have hfin : SlI (w.alloc (.cells #[.slice a l.length cap, .int .i64 0, .int .u64 0] 76)) .u8 (.slice a l.length cap) l := h0.below ((Below.refl _ _).alloc (Nat.le_refl _) _)
    have HF := Lib.hid hfin
    have H5 := Lib.hid h5
    clear hfin h5 e h0 m2
    go_enter Try.func10, Try.ntmps10
    go_wp2
    go_ret
    refine ⟨rfl, ⟨_, l, 0, heap_alloc_new w _, HF.out, Nat.zero_le _, rfl, fun hne a n c e b2 e2 => ?_⟩, (Below.refl _ _).alloc (Nat.le_refl _) _⟩
    simp only [Value.slice.injEq] at e
    obtain ⟨b, off, e3, hb, _⟩ := H5.out 0 (List.length_pos_iff.2 hne)
    rw [← e.1, e3] at e2
    cases e2
    exact hb
end Go.Proofs.Ytjnlkemdaffgbaa
/- Lists of records (eight cells each): as they read, and as the call owns them; append. -/
namespace Go.Proofs.Ytjnlkemdaffgbaa
open Go.ChangeShapes Go.WideShapes Go.ChangeAt Go.RowKit
set_option maxRecDepth 100000

/-- at offset off of block g lies the record x -/
def ItemAt (w : World) (g off : Nat) (x : ItemM) : Prop :=
  w.cell? ⟨g, off + 0, none⟩ = some (.int .i64 x.thr) ∧ w.cell? ⟨g, off + 1, none⟩ = some (.int .i64 x.acc.kind) ∧ w.cell? ⟨g, off + 2, none⟩ = some (.int .i64 x.acc.addr) ∧ w.cell? ⟨g, off + 3, none⟩ = some (.int .u64 x.acc.old) ∧ w.cell? ⟨g, off + 4, none⟩ = some (.int .u64 x.acc.new) ∧ w.cell? ⟨g, off + 5, none⟩ = some (.int .i64 x.acc.til) ∧ w.cell? ⟨g, off + 6, none⟩ = some (.int .u64 x.val) ∧ w.cell? ⟨g, off + 7, none⟩ = some (.bool x.ok)
/-- The slice value v reads in w as the list l of records. -/
def SlT (w : World) (v : Value) (l : List ItemM) : Prop :=
  l.length ≤ 140737488351232 ∧ (∀ x ∈ l, x.good) ∧ ∃ a cap, v = .slice a l.length cap ∧ l.length ≤ cap ∧ ∀ t, t < l.length → ∃ b off, a = some ⟨b, off, none⟩ ∧ b < w.heap.size ∧ ItemAt w b (off + t * 8) (l.getD t noItem)
theorem SlT.below {w w' : World} {v : Value} {l : List ItemM} (h : SlT w v l) (hb : Below w.heap.size w w') : SlT w' v l := by
  obtain ⟨h1, h2, a, cap, h3, h4, h5⟩ := h
  refine ⟨h1, h2, a, cap, h3, h4, fun t ht => ?_⟩
  obtain ⟨b, off, e, hlt, c0, c1, c2, c3, c4, c5, c6, c7⟩ := h5 t ht
  have hc : ∀ j, w'.cell? ⟨b, j, none⟩ = w.cell? ⟨b, j, none⟩ := fun j => hb.cell (p := ⟨b, j, none⟩) hlt
  exact ⟨b, off, e, Nat.lt_of_lt_of_le hlt hb.size, (hc _).trans c0, (hc _).trans c1, (hc _).trans c2, (hc _).trans c3, (hc _).trans c4, (hc _).trans c5, (hc _).trans c6, (hc _).trans c7⟩
theorem SlT.len {w : World} {v : Value} {l : List ItemM} (h : SlT w v l) : ∃ a cap, v = .slice a l.length cap ∧ l.length ≤ cap := by
  obtain ⟨_, _, a, cap, rfl, h4, _⟩ := h
  exact ⟨a, cap, rfl, h4⟩
theorem SlT.nil (w : World) : SlT w (.slice none 0 0) [] := ⟨by simp, by simp, none, 0, rfl, Nat.le_refl _, fun t ht => by simp at ht⟩
theorem SlT.open {w : World} {v : Value} {l : List ItemM} (h : SlT w v l) (hne : l ≠ []) :
    ∃ b off cap, v = .slice (some ⟨b, off, none⟩) l.length cap ∧ l.length ≤ cap ∧ b < w.heap.size ∧ ∀ t, t < l.length → ItemAt w b (off + t * 8) (l.getD t noItem) := by
  obtain ⟨_, _, a, cap, rfl, h4, h5⟩ := h
  obtain ⟨b, off, rfl, hlt, _⟩ := h5 0 (List.length_pos_iff.2 hne)
  refine ⟨b, off, cap, rfl, h4, hlt, fun t ht => ?_⟩
  obtain ⟨b', off', e, _, hc⟩ := h5 t ht
  simp only [Option.some.injEq, Addr.mk.injEq] at e
  obtain ⟨rfl, rfl, _⟩ := e
  exact hc
/-- The slice value v owns, among the blocks from base on, a row of cases that reads as l. -/
def OwnT (w : World) (base : Nat) (v : Value) (l : List ItemM) : Prop :=
  w.ownsRow base 71 8 v l.length (l.flatMap itemCells)
theorem flatT_length (l : List ItemM) : (l.flatMap itemCells).length = l.length * 8 := by
  induction l with
  | nil => rfl
  | cons x l ih => rw [List.flatMap_cons, List.length_append, ih, List.length_cons]; simp [itemCells]; omega
theorem flatT_get (l : List ItemM) (t j : Nat) (ht : t < l.length) (hj : j < 8) : (l.flatMap itemCells)[t * 8 + j]? = (itemCells (l.getD t noItem))[j]? := by
  induction l generalizing t with
  | nil => simp at ht
  | cons x l ih =>
    rw [List.flatMap_cons]
    have hx : (itemCells x).length = 8 := rfl
    cases t with
    | zero => rw [List.getElem?_append_left (by rw [hx]; omega)]; simp
    | succ t =>
      rw [List.getElem?_append_right (by rw [hx]; omega), hx, show (t + 1) * 8 + j - 8 = t * 8 + j by omega, ih t (by simpa using ht)]
      simp
theorem OwnT.nil (w : World) (base : Nat) : OwnT w base (.slice none 0 0) [] := World.ownsRow_nil w base _ 8
theorem OwnT.shape {w : World} {base : Nat} {v : Value} {l : List ItemM} (h : OwnT w base v l) :
    (v = .slice none 0 0 ∧ l = []) ∨ ∃ g cap, v = .slice (some ⟨g, 0, none⟩) l.length cap ∧ base ≤ g ∧ g < w.heap.size ∧ l.length ≤ cap := by
  rcases h.2 with ⟨rfl, h2⟩ | ⟨g, cap, cur, rfl, h3, h4, h5, h6, _, _⟩
  · exact .inl ⟨rfl, List.length_eq_zero_iff.1 h2⟩
  · exact .inr ⟨g, cap, rfl, h3, (Array.getElem?_eq_some_iff.1 h4).1, h5⟩
theorem OwnT.len {w : World} {base : Nat} {v : Value} {l : List ItemM} (h : OwnT w base v l) : ∃ a cap, v = .slice a l.length cap := by
  rcases h.shape with ⟨rfl, rfl⟩ | ⟨g, cap, rfl, _⟩
  · exact ⟨_, _, rfl⟩
  · exact ⟨_, _, rfl⟩
theorem OwnT.read {w : World} {base : Nat} {v : Value} {l : List ItemM} (h : OwnT w base v l) (hl : l.length ≤ 140737488351232) (hw : ∀ x ∈ l, x.good) : SlT w v l := by
  have h0 := h
  rcases h.shape with ⟨rfl, rfl⟩ | ⟨g, cap, rfl, h1, h2, h3⟩
  · exact SlT.nil w
  · refine ⟨hl, hw, some ⟨g, 0, none⟩, cap, rfl, h3, fun t ht => ⟨g, 0, rfl, h2, ?_⟩⟩
    have hc : ∀ j, j < 8 → w.cell? ⟨g, t * 8 + j, none⟩ = (itemCells (l.getD t noItem))[j]? := fun j hj => by
      rw [World.ownsRow.cellAt h0 (t * 8 + j) (by omega), flatT_get l t j ht hj]
    have c0 := hc 0 (by omega)
    have c1 := hc 1 (by omega)
    have c2 := hc 2 (by omega)
    have c3 := hc 3 (by omega)
    have c4 := hc 4 (by omega)
    have c5 := hc 5 (by omega)
    have c6 := hc 6 (by omega)
    have c7 := hc 7 (by omega)
    rw [Nat.zero_add]
    exact ⟨by simpa [itemCells] using c0, by simpa [itemCells] using c1, by simpa [itemCells] using c2, by simpa [itemCells] using c3, by simpa [itemCells] using c4, by simpa [itemCells] using c5, by simpa [itemCells] using c6, by simpa [itemCells] using c7⟩
theorem OwnT.kept {w w' : World} {base : Nat} {v : Value} {l : List ItemM} {row : Option Nat} (h : OwnT w base v l) (hg : w.grownBy w' row) (hne : v.ownBlock = none ∨ v.ownBlock ≠ row) : OwnT w' base v l := World.ownsRow.kept h hg hne
theorem OwnT.alloc {w : World} {base : Nat} {v : Value} {l : List ItemM} (h : OwnT w base v l) (o : Obj) : OwnT (w.alloc o) base v l := World.ownsRow.alloc h o
theorem OwnT.own_ge {w : World} {base : Nat} {v : Value} {l : List ItemM} (h : OwnT w base v l) : ∀ j, v.ownBlock = some j → base ≤ j := fun j hj => (World.ownsRow.lt h j hj).1
theorem OwnT.ne {w : World} {base : Nat} {v : Value} {l : List ItemM} (h : OwnT w base v l) {g : Nat} (hg : g < base) : v.ownBlock = none ∨ v.ownBlock ≠ some g := by
  cases hv : v.ownBlock with
  | none => exact .inl rfl
  | some b => exact .inr fun e => by have := h.own_ge b hv; cases e; omega
theorem OwnT.below {w w' : World} {base : Nat} {v : Value} {l : List ItemM} (h : OwnT w base v l) (hb : Below w.heap.size w w') : OwnT w' base v l := by
  refine h.kept (row := none) ⟨hb.os, hb.tape, hb.output, hb.size, fun j hj _ => hb.block j hj⟩ ?_
  cases hv : v.ownBlock with
  | none => exact .inl rfl
  | some x => exact .inr (by simp)
theorem OwnT.mono_base {w : World} {base b' : Nat} {v : Value} {l : List ItemM} (h : OwnT w base v l) (hb : b' ≤ base) : OwnT w b' v l := by
  refine ⟨h.1, ?_⟩
  rcases h.2 with h1 | ⟨g, cap, cur, h1, h2, h3⟩
  · exact .inl h1
  · exact .inr ⟨g, cap, cur, h1, Nat.le_trans hb h2, h3⟩
theorem Try.info_item : (Try.prog.info? 71).map (fun i => (i.zero, i.size, i.bytes)) = some (some (.agg #[.int .i64 0, .int .i64 0, .int .i64 0, .int .u64 0, .int .u64 0, .int .i64 0, .int .u64 0, .bool false]), 8, 64) := by kernel_rfl
section
variable (w : World) {ops : Array Oper} {rest : List Oper} {o : Oper} {a : Act} {Q : Exit → Act → World → Prop}
theorem wp_append_item (hg : o.guard = none) (s x : Operand) (hop : o.op = Op.call { callee := Callee.builtin Builtin.append, args := #[s, x], argTypes := #[41, 41] })
    (base : Nat) (v : Value) (l : List ItemM) (hs : a.eval s = v) (hown : OwnT w base v l) (y : ItemM) (g : Nat)
    (hx : a.eval x = .slice (some ⟨g, 0, none⟩) 1 1) (hcell : ItemAt w g 0 y) (hl : l.length ≤ 1000000) (hb : base ≤ w.heap.size)
    (hK : ∀ v' w', OwnT w' base v' (l ++ [y]) → w.grownBy w' v.ownBlock → wpList Try.prog ops Q rest (a.put o.dst v') w') :
    wpList Try.prog ops Q (o :: rest) a w := by
  obtain ⟨i0, hi, hz0, hz1, hz2⟩ := info_parts Try.info_item
  refine wpList_append_own w hg s x _ hop base _ i0 _ 8 _ (by kernel_rfl) hi hz0 hz1 rfl rfl (by decide) v l.length _ hs hown ⟨g, 0, none⟩ 1 1 (itemCells y) hx rfl ?_ ?_ (by unfold maxLen; omega) (by rw [hz2]; omega) hb fun v' w' h1 h2 h3 => hK v' w' ?_ h2
  · obtain ⟨c0, c1, c2, c3, c4, c5, c6, c7⟩ := hcell
    intro j u hj
    match j, hj with
    | 0, hj => simp [itemCells] at hj; subst hj; simpa [Addr.add] using c0
    | 1, hj => simp [itemCells] at hj; subst hj; simpa [Addr.add] using c1
    | 2, hj => simp [itemCells] at hj; subst hj; simpa [Addr.add] using c2
    | 3, hj => simp [itemCells] at hj; subst hj; simpa [Addr.add] using c3
    | 4, hj => simp [itemCells] at hj; subst hj; simpa [Addr.add] using c4
    | 5, hj => simp [itemCells] at hj; subst hj; simpa [Addr.add] using c5
    | 6, hj => simp [itemCells] at hj; subst hj; simpa [Addr.add] using c6
    | 7, hj => simp [itemCells] at hj; subst hj; simpa [Addr.add] using c7
  · intro u hu
    simp only [itemCells, List.mem_cons, List.not_mem_nil, or_false] at hu
    rcases hu with rfl | rfl | rfl | rfl | rfl | rfl | rfl | rfl <;> rfl
  · unfold OwnT
    rw [List.length_append, List.flatMap_append, List.flatMap_cons, List.flatMap_nil, List.append_nil]
    exact h1
end
theorem step_append_item {w : World} {ops : Array Oper} {o : Oper} {a : Act} {K : Act → World → Prop} {Q : Exit → Act → World → Prop} {E : Prop}
    (hgd : o.guard = none) (s x : Operand) (hop : o.op = Op.call { callee := Callee.builtin Builtin.append, args := #[s, x], argTypes := #[41, 41] })
    (base : Nat) (v : Value) (l : List ItemM) (hs : a.eval s = v) (hown : OwnT w base v l) (y : ItemM) (g : Nat)
    (hx : a.eval x = .slice (some ⟨g, 0, none⟩) 1 1) (hcell : ItemAt w g 0 y) (hl : l.length ≤ 1000000) (hb : base ≤ w.heap.size)
    (hK : ∀ v' w', OwnT w' base v' (l ++ [y]) → w.grownBy w' v.ownBlock → K (a.put o.dst v') w') :
    if Region.wanted o (yielded ops a.tmps) = true then Oper.wp Try.prog o a w K Q else E := by
  have hw : Region.wanted o (yielded ops a.tmps) = true := by simp [Region.wanted, hgd]
  rw [if_pos hw]
  obtain ⟨i0, hi, hz0, hz1, hz2⟩ := info_parts Try.info_item
  refine wp_append_own w s x _ hop base _ i0 _ 8 _ (by kernel_rfl) hi hz0 hz1 rfl rfl (by decide) v l.length _ hs hown ⟨g, 0, none⟩ 1 1 (itemCells y) hx rfl ?_ ?_ (by unfold maxLen; omega) (by rw [hz2]; omega) hb fun v' w' h1 h2 _ => hK v' w' ?_ h2
  · obtain ⟨c0, c1, c2, c3, c4, c5, c6, c7⟩ := hcell
    intro j u hj
    match j, hj with
    | 0, hj => simp [itemCells] at hj; subst hj; simpa [Addr.add] using c0
    | 1, hj => simp [itemCells] at hj; subst hj; simpa [Addr.add] using c1
    | 2, hj => simp [itemCells] at hj; subst hj; simpa [Addr.add] using c2
    | 3, hj => simp [itemCells] at hj; subst hj; simpa [Addr.add] using c3
    | 4, hj => simp [itemCells] at hj; subst hj; simpa [Addr.add] using c4
    | 5, hj => simp [itemCells] at hj; subst hj; simpa [Addr.add] using c5
    | 6, hj => simp [itemCells] at hj; subst hj; simpa [Addr.add] using c6
    | 7, hj => simp [itemCells] at hj; subst hj; simpa [Addr.add] using c7
  · intro u hu
    simp only [itemCells, List.mem_cons, List.not_mem_nil, or_false] at hu
    rcases hu with rfl | rfl | rfl | rfl | rfl | rfl | rfl | rfl <;> rfl
  · unfold OwnT
    rw [List.length_append, List.flatMap_append, List.flatMap_cons, List.flatMap_nil, List.append_nil]
    exact h1
def zeroItem : Array Value := #[.int .i64 0, .int .i64 0, .int .i64 0, .int .u64 0, .int .u64 0, .int .i64 0, .int .u64 0, .bool false]
end Go.Proofs.Ytjnlkemdaffgbaa
