import Derived.Laws.AppendOwn
import Derived.Laws.OwnMore
import Derived.Maps.AppendAt
import Derived.Lib.AppendZeros
import Derived.Deep.MidRow
import Derived.Test.YtmkngpjjimalhaaRows
import Derived.Laws.BitsAllLaws
import Derived.Test.YtmkngpjjimalhaaB02
import Derived.Test.YtmkngpjjimalhaaB05
import Derived.Test.YtmkngpjjimalhaaB01
import Derived.Test.YtmkngpjjimalhaaB04
set_option linter.unusedVariables false
set_option linter.unusedSimpArgs false
/- Lists of structs of any kind that the call owns, row by row; worlds that differ only in some blocks. -/
namespace Go.Proofs.Ytmkngpjjimalhaa
open Go.ChangeShapes Go.WideShapes Go.ChangeAt Go.RowKit
set_option maxRecDepth 100000

/-- rows of s cells each -/
def Rows' (s : Nat) (rows : List (List Value)) : Prop := ∀ r ∈ rows, r.length = s ∧ ∀ u ∈ r, u.oneCell' = true
/-- The slice value v owns, among the blocks from base on, structs of s cells each, that read as rows. -/
def OwnS (w : World) (base : Nat) (e : TypeId) (s : Nat) (v : Value) (rows : List (List Value)) : Prop :=
  Rows' s rows ∧ w.ownsRow base e s v rows.length rows.flatten
section
variable {w w' : World} {base : Nat} {e : TypeId} {s : Nat} {v : Value} {rows : List (List Value)}
theorem OwnS.nil (w : World) (base : Nat) (e : TypeId) (s : Nat) : OwnS w base e s (.slice none 0 0) [] := ⟨fun r h => by simp at h, World.ownsRow_nil w base _ s⟩
theorem OwnS.shape (h : OwnS w base e s v rows) : (v = .slice none 0 0 ∧ rows = []) ∨ ∃ g cap, v = .slice (some ⟨g, 0, none⟩) rows.length cap ∧ base ≤ g ∧ g < w.heap.size ∧ rows.length ≤ cap := by
  rcases h.2.2 with ⟨rfl, h2⟩ | ⟨g, cap, cur, rfl, h3, h4, h5, h6, _, _⟩
  · exact .inl ⟨rfl, List.length_eq_zero_iff.1 h2⟩
  · exact .inr ⟨g, cap, rfl, h3, (Array.getElem?_eq_some_iff.1 h4).1, h5⟩
theorem OwnS.len (h : OwnS w base e s v rows) : ∃ a cap, v = .slice a rows.length cap := by
  rcases h.shape with ⟨rfl, rfl⟩ | ⟨g, cap, rfl, _⟩
  · exact ⟨_, _, rfl⟩
  · exact ⟨_, _, rfl⟩
theorem OwnS.open (h : OwnS w base e s v rows) (hn : 0 < rows.length) : ∃ g cap, v = .slice (some ⟨g, 0, none⟩) rows.length cap ∧ base ≤ g ∧ g < w.heap.size ∧ rows.length ≤ cap := by
  rcases h.shape with ⟨_, rfl⟩ | h
  · simp at hn
  · exact h
theorem OwnS.kept {row : Option Nat} (h : OwnS w base e s v rows) (hg : w.grownBy w' row) (hne : v.ownBlock = none ∨ v.ownBlock ≠ row) : OwnS w' base e s v rows := ⟨h.1, World.ownsRow.kept h.2 hg hne⟩
theorem OwnS.lt (h : OwnS w base e s v rows) : ∀ j, v.ownBlock = some j → base ≤ j ∧ j < w.heap.size := World.ownsRow.lt h.2
theorem OwnS.ne (h : OwnS w base e s v rows) {g : Nat} (hg : g < base) : v.ownBlock = none ∨ v.ownBlock ≠ some g := by
  cases hv : v.ownBlock with
  | none => exact .inl rfl
  | some b => exact .inr fun e => by have := (h.lt b hv).1; cases e; omega
theorem OwnS.below (h : OwnS w base e s v rows) (hb : Below w.heap.size w w') : OwnS w' base e s v rows := by
  refine h.kept (row := none) ⟨hb.os, hb.tape, hb.output, hb.size, fun j hj _ => hb.block j hj⟩ ?_
  cases hv : v.ownBlock with
  | none => exact .inl rfl
  | some x => exact .inr (by simp)
theorem OwnS.apart {b2 s2 : Nat} {e2 : TypeId} {v2 : Value} {r2 : List (List Value)} (h1 : OwnS w base e s v rows) (h2 : OwnS w b2 e2 s2 v2 r2) (he : e ≠ e2) : v.ownBlock = none ∨ v.ownBlock ≠ v2.ownBlock := by
  rcases h1.2.2 with ⟨rfl, _⟩ | ⟨g, cap, cur, rfl, _, hg, _⟩
  · exact .inl rfl
  · rcases h2.2.2 with ⟨rfl, _⟩ | ⟨g', cap', cur', rfl, _, hg', _⟩
    · exact .inr (by simp [Value.ownBlock])
    · refine .inr ?_
      simp only [Value.ownBlock, ne_eq, Option.some.injEq]
      intro e
      rw [e, hg'] at hg
      simp at hg
      exact he hg.2.symm
theorem flatS_length : ∀ (rows : List (List Value)), Rows' s rows → rows.flatten.length = rows.length * s
  | [], _ => by simp
  | r :: l, h => by
    rw [List.flatten_cons, List.length_append, flatS_length l (fun x hx => h x (List.mem_cons_of_mem _ hx)), (h r (List.mem_cons_self ..)).1, List.length_cons, Nat.add_mul]
    omega
theorem flatS_get : ∀ (rows : List (List Value)), Rows' s rows → ∀ (i j : Nat) (hi : i < rows.length), j < s → rows.flatten[i * s + j]? = rows[i][j]?
  | [], _, i, _, hi, _ => by simp at hi
  | r :: l, h, i, j, hi, hj => by
    have hr : r.length = s := (h r (List.mem_cons_self ..)).1
    cases i with
    | zero => rw [List.flatten_cons, Nat.zero_mul, Nat.zero_add, List.getElem?_append_left (by omega)]; rfl
    | succ i =>
      rw [List.flatten_cons, List.getElem?_append_right (by rw [hr, Nat.succ_mul]; omega), hr, show (i + 1) * s + j - s = i * s + j by rw [Nat.succ_mul]; omega]
      exact flatS_get l (fun x hx => h x (List.mem_cons_of_mem _ hx)) i j (by simpa using hi) hj
theorem flatS_set : ∀ (rows : List (List Value)) (i : Nat) (a b r : List Value) (u x : Value), Rows' s rows → (hi : i < rows.length) → rows[i] = a ++ x :: b → r = a ++ u :: b → rows.flatten.set (i * s + a.length) u = (rows.set i r).flatten
  | [], i, _, _, _, _, _, _, hi, _, _ => by simp at hi
  | q :: l, i, a, b, r, u, x, h, hi, he, hr => by
    have hq : q.length = s := (h q (List.mem_cons_self ..)).1
    cases i with
    | zero =>
      simp only [List.getElem_cons_zero] at he
      subst he hr
      rw [List.flatten_cons, Nat.zero_mul, Nat.zero_add, List.set_cons_zero, List.flatten_cons, List.set_append_left _ _ (by simp)]
      congr 1
      rw [List.set_append_right _ _ (Nat.le_refl _), Nat.sub_self, List.set_cons_zero]
    | succ i =>
      rw [List.flatten_cons, List.set_cons_succ, List.flatten_cons, List.set_append_right _ _ (by rw [hq, Nat.succ_mul]; omega), hq, show (i + 1) * s + a.length - s = i * s + a.length by rw [Nat.succ_mul]; omega]
      rw [flatS_set l i a b r u x (fun x hx => h x (List.mem_cons_of_mem _ hx)) (by simpa using hi) (by simpa using he) hr]
theorem Rows'.set {r : List Value} (h : Rows' s rows) (i : Nat) (hr : r.length = s) (h1 : ∀ u ∈ r, u.oneCell' = true) : Rows' s (rows.set i r) := fun x hx => by
  rcases List.mem_or_eq_of_mem_set hx with h2 | rfl
  · exact h x h2
  · exact ⟨hr, h1⟩
theorem Rows'.snoc {r : List Value} (h : Rows' s rows) (hr : r.length = s) (h1 : ∀ u ∈ r, u.oneCell' = true) : Rows' s (rows ++ [r]) := fun x hx => by
  rw [List.mem_append, List.mem_singleton] at hx
  rcases hx with h2 | rfl
  · exact h x h2
  · exact ⟨hr, h1⟩
/-- a row as it lies -/
theorem OwnS.row {g n cap : Nat} (h : OwnS w base e s (.slice (some ⟨g, 0, none⟩) n cap) rows) (i : Nat) (hi : i < rows.length) : w.rangeAt g (i * s) rows[i] ∧ w.there g (i * s) s := by
  obtain rfl : n = rows.length := by obtain ⟨a, c, h2⟩ := h.len; simp only [Value.slice.injEq] at h2; exact h2.2.1
  have hr := (h.1 _ (List.getElem_mem hi)).1
  have hb : ∀ j, j < s → i * s + j < rows.length * s := fun j hj => by
    have : i * s + s ≤ rows.length * s := by rw [← Nat.succ_mul]; exact Nat.mul_le_mul_right _ hi
    omega
  have hc : ∀ j, j < s → w.cell? ⟨g, i * s + j, none⟩ = rows[i][j]? := fun j hj => by
    rw [World.ownsRow.cellAt h.2 _ (hb j hj), flatS_get rows h.1 i j hi hj]
  refine ⟨fun j u hj => ?_, fun j hj => ⟨?_, World.ownsRow.frozenAt h.2 _⟩⟩
  · have hjs : j < s := by rw [← hr]; exact (List.getElem?_eq_some_iff.1 hj).1
    rw [hc j hjs, hj]
  · rw [hc j hj, List.getElem?_eq_getElem (by omega)]; rfl
theorem OwnS.setCell {g n cap : Nat} (h : OwnS w base e s (.slice (some ⟨g, 0, none⟩) n cap) rows) (i : Nat) (hi : i < rows.length) (a b : List Value) (x u : Value) (he : rows[i] = a ++ x :: b) (hu : u.oneCell' = true) : OwnS (w.setCell ⟨g, i * s + a.length, none⟩ u) base e s (.slice (some ⟨g, 0, none⟩) n cap) (rows.set i (a ++ u :: b)) := by
  obtain rfl : n = rows.length := by obtain ⟨a, c, h2⟩ := h.len; simp only [Value.slice.injEq] at h2; exact h2.2.1
  have hm := h.1 _ (List.getElem_mem hi)
  have h1 := (World.ownsRow.stored h.2 (i * s + a.length) u).1
  refine ⟨h.1.set i (by rw [← hm.1, he]; simp) fun z hz => ?_, ?_⟩
  · rw [List.mem_append, List.mem_cons] at hz
    rcases hz with hz | rfl | hz
    · exact hm.2 z (by rw [he]; simp [hz])
    · exact hu
    · exact hm.2 z (by rw [he]; simp [hz])
  · rw [List.length_set, ← flatS_set rows i a b _ u x h.1 hi he rfl]
    exact h1
/-- a whole row is stored -/
theorem OwnS.setCells {g n cap : Nat} (i : Nat) : ∀ (r q a : List Value) (w : World) (rows : List (List Value)), OwnS w base e s (.slice (some ⟨g, 0, none⟩) n cap) rows → (hi : i < rows.length) → rows[i] = a ++ q → q.length = r.length → (∀ u ∈ r, u.oneCell' = true) → OwnS (w.setCells g (i * s + a.length) r) base e s (.slice (some ⟨g, 0, none⟩) n cap) (rows.set i (a ++ r))
  | [], q, a, w, rows, h, hi, he, hl, _ => by
    have : q = [] := List.length_eq_zero_iff.1 hl
    subst this
    rw [← he, List.set_getElem_self]
    exact h
  | u :: r, q, a, w, rows, h, hi, he, hl, h1 => by
    cases q with
    | nil => simp at hl
    | cons x q =>
      have h2 := h.setCell i hi a q x u he (h1 u (List.mem_cons_self ..))
      have h3 := OwnS.setCells i r q (a ++ [u]) _ _ h2 (by simpa using hi) (by simp) (by simpa using hl) (fun z hz => h1 z (List.mem_cons_of_mem _ hz))
      rw [List.set_set, List.append_assoc] at h3
      rw [List.length_append] at h3
      exact h3
theorem OwnS.setRow {g n cap : Nat} {r : List Value} (h : OwnS w base e s (.slice (some ⟨g, 0, none⟩) n cap) rows) (i : Nat) (hi : i < rows.length) (hr : r.length = s) (h1 : ∀ u ∈ r, u.oneCell' = true) : OwnS (w.setCells g (i * s) r) base e s (.slice (some ⟨g, 0, none⟩) n cap) (rows.set i r) :=
  OwnS.setCells i r rows[i] [] w rows h hi rfl (by rw [(h.1 _ (List.getElem_mem hi)).1, hr]) h1
theorem setCells_other (g : Nat) : ∀ (r : List Value) (o : Nat) (w : World) (k : Nat), k ≠ g → (w.setCells g o r).heap[k]? = w.heap[k]?
  | [], _, _, _, _ => rfl
  | u :: r, o, w, k, h => (setCells_other g r (o + 1) _ k h).trans (heap_setCell_other w ⟨g, o, none⟩ k u h)
theorem setCells_size (g : Nat) : ∀ (r : List Value) (o : Nat) (w : World), (w.setCells g o r).heap.size = w.heap.size
  | [], _, _ => rfl
  | u :: r, o, w => (setCells_size g r (o + 1) _).trans (by simp)
theorem setCells_grown (g : Nat) : ∀ (r : List Value) (o : Nat) (w : World), w.grownBy (w.setCells g o r) (some g)
  | [], _, w => grownBy_refl w _
  | u :: r, o, w => grownBy_trans (grownBy_setCell w ⟨g, o, none⟩ u) (setCells_grown g r (o + 1) _)
/-- append of a struct to such a list, inside a region that draws; the struct lies in block g -/
theorem step_append_s (st : TypeId) {bytes : Nat} {z : Value} (hu : Try.prog.underlying st = some (.slice e)) (hinfo : (Try.prog.info? e).map (fun i => (i.zero, i.size, i.bytes)) = some (some z, s, bytes)) (hzs : z.cells.size = s) (hsz : 0 < s) (hby : bytes ≤ 200)
    {ops : Array Oper} {o : Oper} {a : Act} {K : Act → World → Prop} {Q : Exit → Act → World → Prop} {E : Prop}
    (hgd : o.guard = none) (sl x : Operand) (hop : o.op = Op.call { callee := Callee.builtin Builtin.append, args := #[sl, x], argTypes := #[st, st] })
    (hs : a.eval sl = v) (hown : OwnS w base e s v rows) (r : List Value) (hr : r.length = s) (hr1 : ∀ u ∈ r, u.oneCell' = true) (g : Nat)
    (hx : a.eval x = .slice (some ⟨g, 0, none⟩) 1 1) (hcell : w.heap[g]? = some (.cells r.toArray e (0, 0))) (hl : rows.length ≤ 1000000) (hb : base ≤ w.heap.size)
    (hK : ∀ v' w', OwnS w' base e s v' (rows ++ [r]) → w.grownBy w' v.ownBlock → (v'.ownBlock = v.ownBlock ∨ v'.ownBlock = some w.heap.size) → K (a.put o.dst v') w') :
    if Region.wanted o (yielded ops a.tmps) = true then Oper.wp Try.prog o a w K Q else E := by
  rw [if_pos (by simp [Region.wanted, hgd])]
  obtain ⟨i0, hi, hz0, hz1, hz2⟩ := info_parts hinfo
  obtain ⟨v', w', hrun, h2, h3, -, h4⟩ := run_append_own_at (P := Try.prog) w base st o.type e i0 z s bytes hu hi hz0 hz1 hz2 hzs hsz v rows.length _ hown.2 ⟨g, 0, none⟩ 1 1 r (by omega) (fun j u hj => by
    have : w.cell? ⟨g, j, none⟩ = r.toArray[j]? := cell_of_row _ _ j _ _ _ hcell
    have e2 : ((⟨g, 0, none⟩ : Addr).add j) = ⟨g, j, none⟩ := by rw [Addr.add_mid, Nat.zero_add]
    rw [e2, this]
    simpa using hj) hr1 (by unfold maxLen; omega) (by have : (rows.length + 1) * bytes ≤ 1000001 * 200 := Nat.mul_le_mul (by omega) hby; omega) hb
  refine Lib.wp_append_run w sl x _ _ hop _ _ hs hx v' w' hrun (hK v' w' ⟨hown.1.snoc hr hr1, ?_⟩ h3 h4)
  rw [List.length_append, List.flatten_append]
  simpa using h2
end
/-- a whole struct is stored in the midst of a block, at a step of a region -/
theorem step_store_mid {ops : Array Oper} {Q : Exit → Act → World → Prop} {o : Oper} {a : Act} {w : World} {K : Act → World → Prop} {E : Prop} (hgd : o.guard = none) (ty : TypeId) (x y : Operand) (ho : o.op = .store ty x y)
    (b off : Nat) (cells : Array Value) (hx : a.eval x = .pointer (some ⟨b, off, none⟩)) (hy : a.eval y = .agg cells) (ht : w.there b off cells.size) (hi : (Try.prog.info? ty).map (·.size) = some cells.size) (h1 : cells.all (·.oneCell') = true)
    (h : K (a.put o.dst undef) (w.setCells b off cells.toList)) : if Region.wanted o (yielded ops a.tmps) = true then Oper.wp Try.prog o a w K Q else E := by
  rw [if_pos (by simp [Region.wanted, hgd])]
  exact wp_store_mid ty x y ho b off cells hx hy ht hi h1 h
/-- the worlds that hold w0's memory but for the blocks of S -/
def OffS (S : List (Option Nat)) (w0 : World) : World → Prop := fun w => w0.heap.size ≤ w.heap.size ∧ ∀ j, j < w0.heap.size → some j ∉ S → w.heap[j]? = w0.heap[j]?
section
variable {S S2 : List (Option Nat)} {w w0 w1 w2 w' : World}
theorem OffS.self (S : List (Option Nat)) (w : World) : OffS S w w := ⟨Nat.le_refl _, fun _ _ _ => rfl⟩
theorem OffS.trans (h : OffS S w0 w1) (h2 : OffS S2 w1 w2) (hs : ∀ j, j < w0.heap.size → some j ∈ S2 → some j ∈ S) : OffS S w0 w2 :=
  ⟨Nat.le_trans h.1 h2.1, fun j hj hn => (h2.2 j (Nat.lt_of_lt_of_le hj h.1) (fun e => hn (hs j hj e))).trans (h.2 j hj hn)⟩
theorem OffS.trans1 (h : OffS S w0 w1) (h2 : OffS S w1 w2) : OffS S w0 w2 := h.trans h2 fun _ _ e => e
theorem OffS.below (h : Below w.heap.size w w') : OffS S w w' := ⟨h.size, fun j hj _ => h.block j hj⟩
theorem OffS.wide (S : List (Option Nat)) (w0 : World) : Wide (OffS S w0) := fun _ _ h hb => h.trans1 (OffS.below hb)
theorem OffS.grown {row : Option Nat} (h : w.grownBy w' row) (hr : row = none ∨ row ∈ S) : OffS S w w' := ⟨h.size, fun j hj hn => h.block j hj (fun e => by
  rcases hr with rfl | hr
  · simp at e
  · exact hn (e ▸ hr))⟩
theorem OffS.nx (h : OffS S w0 w) (hb : Below w.heap.size w w') (hS : ∀ j, some j ∈ S → j < w.heap.size) : ∀ w2, OffS S w' w2 → Nx (OffS S w0) w w' w2 := fun w2 h3 =>
  ⟨h.trans1 ((OffS.below hb).trans1 h3), ⟨h3.1, fun j hj hj2 => h3.2 j hj2 (fun e => by have := hS j e; omega)⟩⟩
end
end Go.Proofs.Ytmkngpjjimalhaa
/- A valid configuration, plainly. -/
namespace Go.Proofs.Ytmkngpjjimalhaa
open Go.ChangeShapes Go.WideShapes Go.ChangeAt Go.RowKit
set_option maxRecDepth 100000

/-- a valid configuration -/
structure ConfM.good (c : ConfM) : Prop where
  len : c.caps.length ≤ 8
  same : c.starts.length = c.caps.length
  caps : ∀ x ∈ c.caps, 0 ≤ x ∧ x ≤ 16
  starts : ∀ x ∈ c.starts, 0 ≤ x ∧ x < 9223372036854775808
  thr : 1 ≤ c.threads ∧ c.threads ≤ 8
theorem below_setRow {B g : Nat} {a w : World} (h : Below B a w) (hB : B ≤ g) (cs : Array Value) : Below B a (w.setRow g cs) :=
  ⟨h.os, h.tape, h.output, by simpa [World.setRow] using h.size, fun k hk => (setRow_other w g k cs (by omega)).trans (h.block k hk)⟩
end Go.Proofs.Ytmkngpjjimalhaa
/- Worlds of the document's small machines: what the memory of a run holds of them. -/
namespace Go.Proofs.Ytmkngpjjimalhaa
open Go.ChangeShapes Go.WideShapes Go.ChangeAt Go.RowKit
set_option maxRecDepth 100000

/-- a small machine of the document, but for its configuration; pl: its place -/
structure MachM where
  what : Int
  pl : Int
  chan : Int
  thr : Int
  idx : Int
  kind : Int
  val : Int
  t : Int
  h : Int
  ok : Int
  ov : Int
def machL (vc vs : Value) (th : Int) (m : MachM) : List Value := [.int .i64 m.what, .int .i64 m.pl, vc, vs, .int .i64 th, .int .i64 m.chan, .int .i64 m.thr, .int .i64 m.idx, .int .i64 m.kind, .int .u64 m.val, .int .u64 m.t, .int .u64 m.h, .int .i64 m.ok, .int .u64 m.ov]
/-- the values of a world of machines: the slices of its lists -/
structure WV where
  cA : Option Addr
  cc : Nat
  sA : Option Addr
  sc : Nat
  mA : Option Addr
  mc : Nat
  nA : Option Addr
  nc : Nat
  lA : Option Addr
  lc : Nat
  tA : Option Addr
  tc : Nat
  pA : Option Addr
  pc : Nat
  fA : Option Addr
  fc : Nat
/-- a world of machines: the configuration, the memory, the machines, the trace, the past, the program's frames -/
structure WM where
  c : ConfM
  m : MemM
  l : List MachM
  t : List ItemM
  p : List (List Value × MemM)
  f : List (List Value)
def WV.vc (x : WV) (c : ConfM) : Value := .slice x.cA c.caps.length x.cc
def WV.vs (x : WV) (c : ConfM) : Value := .slice x.sA c.starts.length x.sc
def WV.vl (x : WV) (y : WM) : Value := .slice x.lA y.l.length x.lc
def WV.vt (x : WV) (y : WM) : Value := .slice x.tA y.t.length x.tc
def WV.vp (x : WV) (y : WM) : Value := .slice x.pA y.p.length x.pc
def WV.vf (x : WV) (y : WM) : Value := .slice x.fA y.f.length x.fc
def WV.mem (x : WV) (y : WM) : Array Value := #[.slice x.mA y.m.words.length x.mc, .slice x.nA y.m.lists.length x.nc, .int .i64 y.m.tick]
def WV.row (x : WV) (y : WM) : Array Value := #[.slice x.cA y.c.caps.length x.cc, .slice x.sA y.c.starts.length x.sc, .int .i64 y.c.threads, .slice x.mA y.m.words.length x.mc, .slice x.nA y.m.lists.length x.nc, .int .i64 y.m.tick, .slice x.lA y.l.length x.lc, .slice x.tA y.t.length x.tc, .slice x.pA y.p.length x.pc, .slice x.fA y.f.length x.fc]
def addrB (a : Option Addr) : Option Nat := a.map (·.block)
/-- the blocks that may change: those of E (the reader's), the world's own, those of its lists -/
def WV.S (x : WV) (E : List (Option Nat)) (B : Nat) : List (Option Nat) := E ++ [some B, addrB x.lA, addrB x.tA, addrB x.pA, addrB x.fA]
theorem own_addr (a : Option Addr) (n c : Nat) : (Value.slice a n c).ownBlock = addrB a := by cases a <;> rfl
/-- what holds of a world of machines in block B; WT: the type of its struct; its lists lie from D on -/
structure WI (WT : TypeId) (w0 wr : World) (E : List (Option Nat)) (B D : Nat) (x : WV) (y : WM) : Prop where
  w0B : w0.heap.size ≤ B
  eW : ∀ j, some j ∈ E → w0.heap.size ≤ j ∧ j < wr.heap.size
  BD : B < D
  Dw : D ≤ wr.heap.size
  row : wr.heap[B]? = some (.cells (x.row y) WT (0, 0))
  conf : ∀ w2, OffS (x.S E B) wr w2 → SlI w2 .i64 (x.vc y.c) y.c.caps ∧ SlI w2 .u64 (x.vs y.c) y.c.starts
  good : y.c.good
  mem : StM (OffS (x.S E B) wr) (.agg (x.mem y)) y.m
  fits : y.m.fits
  ol : OwnS wr D 56 14 (x.vl y) (y.l.map (machL (x.vc y.c) (x.vs y.c) y.c.threads))
  ot : OwnS wr D 106 8 (x.vt y) (y.t.map itemCells)
  op : OwnS wr D 41 3 (x.vp y) (y.p.map Prod.fst)
  of : OwnS wr D 60 5 (x.vf y) y.f
  past : ∀ z ∈ y.p, StM (OffS (x.S E B) wr) (.agg z.1.toArray) z.2
  below : Below w0.heap.size w0 wr
section
variable {WT : TypeId} {w0 wr w2 : World} {E : List (Option Nat)} {B D : Nat} {x : WV} {y : WM}
theorem WI.lt (h : WI WT w0 wr E B D x y) : B < wr.heap.size := (Array.getElem?_eq_some_iff.1 h.row).1
/-- the blocks that may change lie below the heap's size -/
theorem WI.Slt (h : WI WT w0 wr E B D x y) : ∀ j, some j ∈ x.S E B → j < wr.heap.size := by
  intro j hj
  simp only [WV.S, List.mem_append, List.mem_cons, List.not_mem_nil, or_false, Option.some.injEq] at hj
  have k : ∀ {a : Option Addr} {n c : Nat} {e : TypeId} {s : Nat} {r : List (List Value)}, OwnS wr D e s (.slice a n c) r → some j = addrB a → j < wr.heap.size := fun ho e => (ho.lt j (by rw [own_addr]; exact e.symm)).2
  rcases hj with e | rfl | e | e | e | e
  · exact (h.eW j e).2
  · exact h.lt
  · exact k h.ol e
  · exact k h.ot e
  · exact k h.op e
  · exact k h.of e
theorem WI.Sge (h : WI WT w0 wr E B D x y) : ∀ j, some j ∈ x.S E B → w0.heap.size ≤ j := by
  intro j hj
  have h2 := h.w0B
  have h3 := h.BD
  simp only [WV.S, List.mem_append, List.mem_cons, List.not_mem_nil, or_false, Option.some.injEq] at hj
  have k : ∀ {a : Option Addr} {n c : Nat} {e : TypeId} {s : Nat} {r : List (List Value)}, OwnS wr D e s (.slice a n c) r → some j = addrB a → w0.heap.size ≤ j := fun ho e => by have := (ho.lt j (by rw [own_addr]; exact e.symm)).1; omega
  rcases hj with e | rfl | e | e | e | e
  · exact (h.eW j e).1
  · omega
  · exact k h.ol e
  · exact k h.ot e
  · exact k h.op e
  · exact k h.of e
theorem WI.next (h : WI WT w0 wr E B D x y) (hb : Below wr.heap.size wr w2) : WI WT w0 w2 E B D x y :=
  ⟨h.w0B, fun j hj => ⟨(h.eW j hj).1, Nat.lt_of_lt_of_le (h.eW j hj).2 hb.size⟩, h.BD, Nat.le_trans h.Dw hb.size, (hb.block B h.lt).trans h.row, fun w3 h3 => h.conf w3 ((OffS.below hb).trans1 h3), h.good, h.mem.sub fun w3 h3 => (OffS.below hb).trans1 h3, h.fits, h.ol.below hb, h.ot.below hb, h.op.below hb, h.of.below hb, fun z hz => (h.past z hz).sub fun w3 h3 => (OffS.below hb).trans1 h3, below_then h.below hb⟩
/-- the reader has gone on -/
theorem WI.drawn {g : Nat} (h : WI WT w0 wr E B D x y) (hgE : some g ∈ E) (hgB : g < B) (hg : wr.grownBy w2 (some g)) : WI WT w0 w2 E B D x y := by
  have h3 := h.BD
  have o : OffS (x.S E B) wr w2 := OffS.grown hg (.inr (by simp [WV.S, hgE]))
  exact ⟨h.w0B, fun j hj => ⟨(h.eW j hj).1, Nat.lt_of_lt_of_le (h.eW j hj).2 hg.size⟩, h.BD, Nat.le_trans h.Dw hg.size, (hg.block B h.lt (by simp; omega)).trans h.row, fun w3 h4 => h.conf w3 (o.trans1 h4), h.good, h.mem.sub fun w3 h4 => o.trans1 h4, h.fits, h.ol.kept hg (h.ol.ne (by omega)), h.ot.kept hg (h.ot.ne (by omega)), h.op.kept hg (h.op.ne (by omega)), h.of.kept hg (h.of.ne (by omega)), fun z hz => (h.past z hz).sub fun w3 h4 => o.trans1 h4, h.below.grown hg h.below.size (fun k hk => by cases hk; exact (h.eW g hgE).1)⟩
theorem WI.confV (h : WI WT w0 wr E B D x y) : ConfV wr (.agg #[x.vc y.c, x.vs y.c, .int .i64 y.c.threads]) y.c := ⟨_, _, rfl, h.conf wr (OffS.self _ _)⟩
end
theorem OffS.mono {S S2 : List (Option Nat)} {w w2 : World} (h : OffS S w w2) (hs : ∀ j, some j ∈ S → some j ∈ S2) : OffS S2 w w2 := ⟨h.1, fun j hj hn => h.2 j hj (fun e => hn (hs j e))⟩
/-- a new block may change from here on -/
theorem WI.exempt {WT : TypeId} {w0 wr w2 : World} {E : List (Option Nat)} {B D : Nat} {x : WV} {y : WM} (h : WI WT w0 wr E B D x y) (hb : Below wr.heap.size wr w2) (A : Nat) (hA : wr.heap.size ≤ A) (hA2 : A < w2.heap.size) : WI WT w0 w2 (some A :: E) B D x y := by
  have h1 := h.next hb
  have hin : ∀ w3, OffS (x.S (some A :: E) B) w2 w3 → OffS (x.S E B) wr w3 := fun w3 h3 => (OffS.below (S := x.S E B) hb).trans h3 fun j hj hm => by
    simp only [WV.S, List.cons_append, List.mem_cons, Option.some.injEq] at hm
    rcases hm with rfl | hm
    · omega
    · exact hm
  exact ⟨h1.w0B, fun j hj => by
    simp only [List.mem_cons, Option.some.injEq] at hj
    rcases hj with rfl | hj
    · exact ⟨by have := h.below.size; omega, hA2⟩
    · exact h1.eW j hj, h1.BD, h1.Dw, h1.row, fun w3 h3 => h.conf w3 (hin w3 h3), h1.good, h.mem.sub hin, h1.fits, h1.ol, h1.ot, h1.op, h1.of, fun z hz => (h.past z hz).sub hin, h1.below⟩
/-- that block was written: it may change no more -/
theorem WI.settle {WT AT : TypeId} {w0 wr w2 : World} {E : List (Option Nat)} {B D A : Nat} {x : WV} {y : WM} {cs : Array Value} (h : WI WT w0 wr (some A :: E) B D x y) (hA : wr.heap[A]? = some (.cells cs AT (0, 0))) (hAB : B < A) (hg : wr.grownBy w2 (some A)) (h1 : AT ≠ 56) (h2 : AT ≠ 106) (h3 : AT ≠ 41) (h4 : AT ≠ 60) :
    WI WT w0 w2 E B D x y ∧ ∀ w3, OffS (x.S E B) w2 w3 → OffS (x.S (some A :: E) B) wr w3 := by
  have hin : ∀ w3, OffS (x.S E B) w2 w3 → OffS (x.S (some A :: E) B) wr w3 := fun w3 h5 => by
    have o1 : OffS (x.S (some A :: E) B) wr w2 := OffS.grown hg (.inr (by simp [WV.S]))
    exact o1.trans1 (h5.mono fun j hj => by simp only [WV.S, List.cons_append, List.mem_cons] at hj ⊢; exact .inr hj)
  have k : ∀ {e : TypeId} {s : Nat} {v : Value} {r : List (List Value)}, OwnS wr D e s v r → AT ≠ e → OwnS w2 D e s v r := fun ho he => ho.kept hg (by
    rcases ho.2.2 with ⟨rfl, _⟩ | ⟨b, cap, cur, rfl, _, hb, _⟩
    · exact .inl rfl
    · refine .inr ?_
      simp only [Value.ownBlock, ne_eq, Option.some.injEq]
      rintro rfl
      rw [hA] at hb
      simp at hb
      exact he hb.2)
  exact ⟨⟨h.w0B, fun j hj => ⟨(h.eW j (List.mem_cons_of_mem _ hj)).1, Nat.lt_of_lt_of_le (h.eW j (List.mem_cons_of_mem _ hj)).2 hg.size⟩, h.BD, Nat.le_trans h.Dw hg.size, (hg.block B h.lt (by simp; omega)).trans h.row, fun w3 h5 => h.conf w3 (hin w3 h5), h.good, h.mem.sub hin, h.fits, k h.ol h1, k h.ot h2, k h.op h3, k h.of h4, fun z hz => (h.past z hz).sub hin, h.below.grown hg h.below.size (fun j hj => by cases hj; exact (h.eW A (List.mem_cons_self ..)).1)⟩, hin⟩
/-- the relation of frames to machines, in all worlds of G -/
def FrI (R : (World → Prop) → ConfM → List Value → MachM → Prop) (G : World → Prop) (y : WM) : Prop := y.f.length = y.l.length ∧ ∀ i (h1 : i < y.f.length) (h2 : i < y.l.length), R G y.c y.f[i] y.l[i]
end Go.Proofs.Ytmkngpjjimalhaa
/- Sequence numbers, slots and sizes: plain arithmetic, and what package seqword and the document's answers for chapter 1 return. -/
namespace Go.Proofs.Ytmkngpjjimalhaa
open Go.ChangeShapes Go.WideShapes Go.ChangeAt Go.RowKit
set_option maxRecDepth 100000

theorem and63 (x : Int) (h0 : 0 ≤ x) (h1 : x < 18446744073709551616) : bits BinOp.and IntKind.u64 x 9223372036854775807 = x % 9223372036854775808 := by
  rw [u64_and x 9223372036854775807 h0 h1 (by omega) (by omega)]
  have := Nat.and_two_pow_sub_one_eq_mod x.toNat 63
  rw [show (9223372036854775807 : Int).toNat = 2 ^ 63 - 1 from rfl, this]
  omega
theorem and1 (x : Int) (h0 : 0 ≤ x) (h1 : x < 18446744073709551616) : bits BinOp.and IntKind.u64 x 1 = x % 2 := by
  rw [u64_and x 1 h0 h1 (by omega) (by omega)]
  have := Nat.and_two_pow_sub_one_eq_mod x.toNat 1
  rw [show (1 : Int).toNat = 2 ^ 1 - 1 from rfl, this]
  omega
theorem or1 (x : Int) (h0 : 0 ≤ x) (h1 : x < 18446744073709551616) (h2 : x % 2 = 0) : bits BinOp.or IntKind.u64 x 1 = x + 1 := by
  rw [u64_or x 1 h0 h1 (by omega) (by omega)]
  have := nat_join 1 x.toNat 1 (by omega) (by omega)
  rw [show (1 : Int).toNat = 1 from rfl, this]
  omega

def nextI (a n : Int) : Int := (a + n) % 9223372036854775808
theorem nextI_eq (a n : Int) : bits BinOp.and IntKind.u64 (IntKind.u64.wrap (a + IntKind.u64.wrap n)) 9223372036854775807 = nextI a n := by
  unfold nextI
  rw [IntKind.wrap_u64, IntKind.wrap_u64, and63 _ (by omega) (by omega)]
  omega
def diffI (a b : Int) : Int := (a - b + 4611686018427387904) % 9223372036854775808 - 4611686018427387904
theorem diffI_eq (a b : Int) : wrap64 (IntKind.u64.wrap (IntKind.u64.wrap (a - b) * 2)) / 2 = diffI a b := by
  unfold diffI wrap64
  rw [IntKind.wrap_u64, IntKind.wrap_u64]
  omega
theorem diffI_hi (a b x : Int) (hx : bits BinOp.and IntKind.u64 (IntKind.u64.wrap (a - b)) 9223372036854775807 = x) (h : 4611686018427387904 ≤ x) :
    wrap64 (wrap64 (wrap64 x - 4611686018427387904) - 4611686018427387904) = diffI a b := by
  rw [IntKind.wrap_u64, and63 _ (by omega) (by omega)] at hx
  unfold diffI wrap64
  omega
theorem diffI_lo (a b x : Int) (hx : bits BinOp.and IntKind.u64 (IntKind.u64.wrap (a - b)) 9223372036854775807 = x) (h : ¬ 4611686018427387904 ≤ x) :
    wrap64 x = diffI a b := by
  rw [IntKind.wrap_u64, and63 _ (by omega) (by omega)] at hx
  unfold diffI wrap64
  omega
def packI (s : Int) (c : Bool) : Int := (s * 2) % 18446744073709551616 + if c then 1 else 0
theorem packI_true (s : Int) : bits BinOp.or IntKind.u64 (IntKind.u64.wrap (s * 2)) 1 = packI s true := by
  unfold packI
  rw [IntKind.wrap_u64, or1 _ (by omega) (by omega) (by omega)]
  simp
theorem packI_false (s : Int) : IntKind.u64.wrap (s * 2) = packI s false := by
  unfold packI
  rw [IntKind.wrap_u64]
  simp
def closedB (a : Int) : Bool := decide (a % 2 = 1)
theorem closedB_eq (a : Int) (h0 : 0 ≤ a) (h1 : a < 18446744073709551616) : (bits BinOp.and IntKind.u64 a 1 != 0) = closedB a := by
  unfold closedB
  rw [and1 a h0 h1]
  by_cases h : a % 2 = 1
  · simp [h]
  · have : a % 2 = 0 := by omega
    simp [this]
def slotI (a n : Int) : Int := if n < 1 then 0 else a % 9223372036854775808 % n
theorem slotI_small (a n : Int) (h : n < 1) : 0 = slotI a n := by unfold slotI; rw [if_pos h]
theorem slotI_eq (a n : Int) (h0 : 0 ≤ a) (h1 : a < 18446744073709551616) (h : 1 ≤ n) :
    wrap64 ((bits BinOp.and IntKind.u64 a 9223372036854775807).tmod n) = slotI a n := by
  unfold slotI
  rw [if_neg (by omega), and63 a h0 h1, Int.tmod_eq_emod_of_nonneg (by omega)]
  have h2 := Int.emod_nonneg (a % 9223372036854775808) (show n ≠ 0 by omega)
  have h3 : a % 9223372036854775808 % n ≤ a % 9223372036854775808 := by
    have := Int.emod_add_mul_ediv (a % 9223372036854775808) n
    have h4 : 0 ≤ n * (a % 9223372036854775808 / n) := Int.mul_nonneg (by omega) (Int.ediv_nonneg (by omega) (by omega))
    omega
  unfold wrap64
  omega
/-- the slots of a ring for a capacity -/
def sizeI (k : Int) : Int := if k < 1 then 1 else if k = 1 then 2 else if 1073741824 < k then 0 else 2 * 2 ^ Nat.log2 (k.toNat - 1)
theorem sizeI_low (k : Int) (h : k < 1) : sizeI k = 1 := by unfold sizeI; rw [if_pos h]
theorem sizeI_one : sizeI 1 = 2 := by unfold sizeI; rw [if_neg (by omega), if_pos rfl]
theorem sizeI_high (k : Int) (h : 1073741824 < k) : sizeI k = 0 := by
  unfold sizeI; rw [if_neg (by omega), if_neg (by omega), if_pos h]
theorem sizeI_of (k : Int) (j : Nat) (h2 : 2 ≤ k) (h3 : k ≤ 1073741824) (h4 : (2 : Int) ^ j < k) (h5 : k ≤ 2 * 2 ^ j) : sizeI k = 2 * 2 ^ j := by
  unfold sizeI
  rw [if_neg (by omega), if_neg (by omega), if_neg (by omega)]
  have e : ((2 ^ j : Nat) : Int) = (2 : Int) ^ j := by simp
  have e1 : (k.toNat - 1).log2 = j := by
    rw [Nat.log2_eq_iff (by omega), Nat.pow_succ]
    omega
  rw [e1]
theorem sizeI_mid (k : Int) (h2 : 2 ≤ k) (h3 : k ≤ 1073741824) : ∃ j : Nat, sizeI k = 2 * 2 ^ j ∧ (2 : Int) ^ j < k ∧ k ≤ 2 * 2 ^ j := by
  have h := (Nat.log2_eq_iff (n := k.toNat - 1) (k := (k.toNat - 1).log2) (by omega)).1 rfl
  refine ⟨(k.toNat - 1).log2, ?_⟩
  have e : ((2 ^ (k.toNat - 1).log2 : Nat) : Int) = (2 : Int) ^ (k.toNat - 1).log2 := by simp
  rw [Nat.pow_succ] at h
  have h4 : (2 : Int) ^ (k.toNat - 1).log2 < k := by omega
  have h5 : k ≤ 2 * 2 ^ (k.toNat - 1).log2 := by omega
  exact ⟨sizeI_of k _ h2 h3 h4 h5, h4, h5⟩

theorem qnext_any (a n : Int) (w : World) :
    Calls Try.prog 39 #[.int .u64 a, .int .i64 n] w fun e w' => e = .returned (.int .u64 (nextI a n)) ∧ w = w' := by
  go_enter Try.func39, Try.ntmps39
  go_wp2
  go_ret
  exact ⟨ret_u64 (nextI_eq a n), rfl⟩
theorem rqnext_any (a n : Int) (w : World) :
    Calls Try.prog 48 #[.int .u64 a, .int .i64 n] w fun e w' => e = .returned (.int .u64 (nextI a n)) ∧ w = w' := by
  go_enter Try.func48, Try.ntmps48
  go_wp2
  go_ret
  exact ⟨ret_u64 (nextI_eq a n), rfl⟩
theorem rpack_any (a : Int) (c : Bool) (w : World) :
    Calls Try.prog 44 #[.int .u64 a, .bool c] w fun e w' => e = .returned (.int .u64 (packI a c)) ∧ w = w' := by
  cases c
  · go_enter Try.func44, Try.ntmps44
    go_wp2
    go_ret
    exact ⟨ret_u64 (packI_false a), rfl⟩
  · go_enter Try.func44, Try.ntmps44
    go_wp2
    go_ret
    exact ⟨ret_u64 (packI_true a), rfl⟩
theorem seq_any (a : Int) (w : World) :
    Calls Try.prog 64 #[.int .u64 a] w fun e w' => e = .returned (.int .u64 (a / 2)) ∧ w = w' := by
  go_enter Try.func64, Try.ntmps64
  go_wp2
  go_ret
  exact ⟨rfl, rfl⟩
theorem closed_any (a : Int) (w : World) (h0 : 0 ≤ a) (h1 : a < 18446744073709551616) :
    Calls Try.prog 65 #[.int .u64 a] w fun e w' => e = .returned (.bool (closedB a)) ∧ w = w' := by
  have E' := Lib.hid (closedB_eq a h0 h1)
  clear h0 h1
  go_enter Try.func65, Try.ntmps65
  go_wp2
  go_ret
  exact ⟨ret_bool E'.out, rfl⟩
theorem slot_any (a n : Int) (w : World) (h0 : 0 ≤ a) (h1 : a < 18446744073709551616) (h2 : -9223372036854775808 ≤ n) (h3 : n ≤ 9223372036854775807) :
    Calls Try.prog 71 #[.int .u64 a, .int .i64 n] w fun e w' => e = .returned (.int .i64 (slotI a n)) ∧ w = w' := by
  by_cases h : n < 1
  · have E' := Lib.hid (slotI_small a n h)
    go_enter Try.func71, Try.ntmps71
    go_wp2
    go_ret
    exact ⟨ret_i64 E'.out, rfl⟩
  · have E' := Lib.hid (slotI_eq a n h0 h1 (by omega))
    go_enter Try.func71, Try.ntmps71
    go_wp2
    go_ret
    exact ⟨ret_i64 E'.out, rfl⟩
theorem rslot_any (a n : Int) (w : World) (h0 : 0 ≤ a) (h1 : a < 18446744073709551616) (h2 : -9223372036854775808 ≤ n) (h3 : n ≤ 9223372036854775807) :
    Calls Try.prog 70 #[.int .u64 a, .int .i64 n] w fun e w' => e = .returned (.int .i64 (slotI a n)) ∧ w = w' := by
  by_cases h : n < 1
  · have E' := Lib.hid (slotI_small a n h)
    go_enter Try.func70, Try.ntmps70
    go_wp2
    go_ret
    exact ⟨ret_i64 E'.out, rfl⟩
  · have E' := Lib.hid (slotI_eq a n h0 h1 (by omega))
    go_enter Try.func70, Try.ntmps70
    go_wp2
    go_ret
    exact ⟨ret_i64 E'.out, rfl⟩

theorem size_any (k : Int) (w : World) (h2 : -9223372036854775808 ≤ k) (h3 : k ≤ 9223372036854775807) :
    Calls Try.prog 82 #[.int .i64 k] w fun e w' => e = .returned (.int .i64 (sizeI k)) ∧ w = w' := by
  by_cases h : k < 1
  · have E' := Lib.hid (sizeI_low k h)
    go_enter Try.func82, Try.ntmps82
    go_wp2
    go_ret
    exact ⟨ret_i64 E'.out.symm, rfl⟩
  · by_cases h1 : k = 1
    · subst h1
      go_enter Try.func82, Try.ntmps82
      go_wp2
      go_ret
      exact ⟨ret_i64 sizeI_one.symm, rfl⟩
    · by_cases h4 : 1073741824 < k
      · have E' := Lib.hid (sizeI_high k h4)
        go_enter Try.func82, Try.ntmps82
        go_wp2
        go_ret
        exact ⟨ret_i64 E'.out.symm, rfl⟩
      · have g1 : 2 ≤ k := by omega
        have g2 : k ≤ 1073741824 := by omega
        clear h h1 h4 h2 h3
        go_enter Try.func82, Try.ntmps82
        go_wp2
        go_loop [3] (fun t => ∃ p : Int, ∃ j : Nat, Hid (p = 2 ^ j) ∧ 1 ≤ p ∧ p < k ∧ t = .int .i64 (p * 2)) (fun t => (2147483648 - intOf t).toNat)
        case atStart => exact ⟨1, 0, Lib.hid (by simp), by omega, by omega, rfl⟩
        case round =>
          obtain ⟨p, j, hp, p1, p2, rfl⟩ := hrel
          by_cases hlt : p * 2 < k
          · go_wp2
            go_round
            case rel => exact ⟨p * 2, j + 1, Lib.hid (by rw [Int.pow_succ, hp.out]), by omega, by omega, rfl⟩
            case measure => simp [intOf]; omega
          · have E' := Lib.hid (sizeI_of k j g1 g2 (by rw [← hp.out]; exact p2) (by rw [← hp.out]; omega))
            go_wp2
            go_ret
            exact ⟨ret_i64 (by rw [E'.out, hp.out, Int.mul_comm]), rfl⟩
theorem rsize_any (k : Int) (w : World) (h2 : -9223372036854775808 ≤ k) (h3 : k ≤ 9223372036854775807) :
    Calls Try.prog 69 #[.int .i64 k] w fun e w' => e = .returned (.int .i64 (sizeI k)) ∧ w = w' := by
  by_cases h4 : 1073741824 < k
  · have E' := Lib.hid (sizeI_high k h4)
    go_enter Try.func69, Try.ntmps69
    go_wp2
    go_ret
    exact ⟨ret_i64 E'.out.symm, rfl⟩
  · by_cases h1 : k = 1
    · subst h1
      go_enter Try.func69, Try.ntmps69
      go_wp2
      go_ret
      exact ⟨ret_i64 sizeI_one.symm, rfl⟩
    · by_cases h : k < 1
      · have E' := Lib.hid (sizeI_low k h)
        go_enter Try.func69, Try.ntmps69
        go_wp2
        go_loop [3] (fun t => t = .int .i64 1) (fun _ => 0)
        case atStart => rfl
        case round =>
          subst hrel
          go_wp2
          go_ret
          exact ⟨ret_i64 E'.out.symm, rfl⟩
      · have g1 : 2 ≤ k := by omega
        have g2 : k ≤ 1073741824 := by omega
        have hn : (k == 1) = false := by simpa using h1
        clear h h1 h4 h2 h3
        go_enter Try.func69, Try.ntmps69
        go_wp2
        go_loop [3] (fun t => ∃ p : Int, ∃ j : Nat, Hid (p = 2 ^ j) ∧ 1 ≤ p ∧ p ≤ 2 * (k - 1) ∧ t = .int .i64 p) (fun t => (2147483648 - intOf t).toNat)
        case atStart => exact ⟨1, 0, Lib.hid (by simp), by omega, by omega, rfl⟩
        case round =>
          obtain ⟨p, j, hp, p1, p2, rfl⟩ := hrel
          by_cases hlt : p < k
          · go_wp2
            go_round
            case rel => exact ⟨p * 2, j + 1, Lib.hid (by rw [Int.pow_succ, hp.out]), by omega, by omega, rfl⟩
            case measure => simp [intOf]; omega
          · have E' : Hid (sizeI k = p) := Lib.hid (by
              cases j with
              | zero => have := hp.out; simp at this; omega
              | succ i =>
                have e := hp.out
                rw [Int.pow_succ] at e
                rw [sizeI_of k i g1 g2 (by omega) (by omega), e, Int.mul_comm])
            go_wp2
            go_ret
            exact ⟨ret_i64 E'.out.symm, rfl⟩

theorem sizeI_16 (x : Int) (h0 : 0 ≤ x) (h1 : x ≤ 16) : 1 ≤ sizeI x ∧ sizeI x ≤ 16 := by
  rcases (show x = 0 ∨ x = 1 ∨ x = 2 ∨ x = 3 ∨ x = 4 ∨ x = 5 ∨ x = 6 ∨ x = 7 ∨ x = 8 ∨ x = 9 ∨ x = 10 ∨ x = 11 ∨ x = 12 ∨ x = 13 ∨ x = 14 ∨ x = 15 ∨ x = 16 by omega) with rfl | rfl | rfl | rfl | rfl | rfl | rfl | rfl | rfl | rfl | rfl | rfl | rfl | rfl | rfl | rfl | rfl <;> decide +kernel
theorem slotI_lt (a n : Int) (h0 : 0 ≤ a) (hn : 1 ≤ n) : 0 ≤ slotI a n ∧ slotI a n < n := by
  unfold slotI
  rw [if_neg (by omega)]
  exact ⟨Int.emod_nonneg _ (by omega), Int.emod_lt_of_pos _ (by omega)⟩
end Go.Proofs.Ytmkngpjjimalhaa
/- Where everything lies: plain arithmetic. -/
namespace Go.Proofs.Ytmkngpjjimalhaa
open Go.ChangeShapes Go.WideShapes Go.ChangeAt Go.RowKit
set_option maxRecDepth 100000

theorem ConfM.good.cap {c : ConfM} (h : c.good) (k : Nat) (hk : k < c.caps.length) : 0 ≤ c.caps.getD k 0 ∧ c.caps.getD k 0 ≤ 16 := by
  rw [List.getD_eq_getElem?_getD, List.getElem?_eq_getElem hk]
  exact h.caps _ (List.getElem_mem hk)
/-- the slots of the channel k -/
def ConfM.size (c : ConfM) (k : Nat) : Int := sizeI (c.caps.getD k 0)
theorem ConfM.good.size {c : ConfM} (h : c.good) (k : Nat) (hk : k < c.caps.length) : 1 ≤ c.size k ∧ c.size k ≤ 16 := sizeI_16 _ (h.cap k hk).1 (h.cap k hk).2
/-- the first word of channel k -/
def ConfM.base (c : ConfM) : Nat → Int
  | 0 => 0
  | k + 1 => c.base k + (5 + c.size k * 2)
theorem ConfM.good.base {c : ConfM} (h : c.good) (k : Nat) (hk : k ≤ c.caps.length) : 0 ≤ c.base k ∧ c.base k ≤ 37 * k := by
  induction k with
  | zero => exact ⟨Int.le_refl _, Int.le_refl _⟩
  | succ k ih =>
    have h1 := ih (by omega)
    have h2 := h.size k (by omega)
    show 0 ≤ c.base k + (5 + c.size k * 2) ∧ c.base k + (5 + c.size k * 2) ≤ _
    omega
theorem ConfM.good.base8 {c : ConfM} (h : c.good) (k : Nat) (hk : k ≤ c.caps.length) : 0 ≤ c.base k ∧ c.base k ≤ 296 := by
  have h1 := h.base k hk
  have h2 := h.len
  omega
/-- the slot's first word -/
def ConfM.slotW (c : ConfM) (k : Nat) (s : Int) : Int := c.base k + 5 + slotI s (c.size k) * 2
/-- the thread's first word -/
def ConfM.thrW (c : ConfM) (t : Int) : Int := c.base c.caps.length + t * 11
end Go.Proofs.Ytmkngpjjimalhaa
