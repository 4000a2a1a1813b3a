import Derived.Laws.AppendOwn
import Derived.Laws.OwnMore
import Derived.Maps.AppendAt
import Derived.Lib.AppendZeros
import Derived.Deep.MidRow
import Derived.Test.YtnbehigjeopniaaB02
import Derived.Test.YtnbehigjeopniaaB03
import Derived.Test.YtnbehigjeopniaaB01
set_option linter.unusedVariables false
set_option linter.unusedSimpArgs false
/- Lists of structs of any kind that the call owns, row by row; worlds that differ only in some blocks. -/
namespace Go.Proofs.Ytnbehigjeopniaa
open Go.ChangeShapes Go.WideShapes Go.ChangeAt Go.RowKit
set_option maxRecDepth 100000

/-- rows of s cells each -/
def Rows' (s : Nat) (rows : List (List Value)) : Prop := ∀ r ∈ rows, r.length = s ∧ ∀ u ∈ r, u.oneCell' = true
/-- The slice value v owns, among the blocks from base on, structs of s cells each, that read as rows. -/
def OwnS (w : World) (base : Nat) (e : TypeId) (s : Nat) (v : Value) (rows : List (List Value)) : Prop :=
  Rows' s rows ∧ w.ownsRow base e s v rows.length rows.flatten
section
variable {w w' : World} {base : Nat} {e : TypeId} {s : Nat} {v : Value} {rows : List (List Value)}
theorem OwnS.nil (w : World) (base : Nat) (e : TypeId) (s : Nat) : OwnS w base e s (.slice none 0 0) [] := ⟨fun r h => by simp at h, World.ownsRow_nil w base _ s⟩
theorem OwnS.shape (h : OwnS w base e s v rows) : (v = .slice none 0 0 ∧ rows = []) ∨ ∃ g cap, v = .slice (some ⟨g, 0, none⟩) rows.length cap ∧ base ≤ g ∧ g < w.heap.size ∧ rows.length ≤ cap := by
  rcases h.2.2 with ⟨rfl, h2⟩ | ⟨g, cap, cur, rfl, h3, h4, h5, h6, _, _⟩
  · exact .inl ⟨rfl, List.length_eq_zero_iff.1 h2⟩
  · exact .inr ⟨g, cap, rfl, h3, (Array.getElem?_eq_some_iff.1 h4).1, h5⟩
theorem OwnS.len (h : OwnS w base e s v rows) : ∃ a cap, v = .slice a rows.length cap := by
  rcases h.shape with ⟨rfl, rfl⟩ | ⟨g, cap, rfl, _⟩
  · exact ⟨_, _, rfl⟩
  · exact ⟨_, _, rfl⟩
theorem OwnS.open (h : OwnS w base e s v rows) (hn : 0 < rows.length) : ∃ g cap, v = .slice (some ⟨g, 0, none⟩) rows.length cap ∧ base ≤ g ∧ g < w.heap.size ∧ rows.length ≤ cap := by
  rcases h.shape with ⟨_, rfl⟩ | h
  · simp at hn
  · exact h
theorem OwnS.kept {row : Option Nat} (h : OwnS w base e s v rows) (hg : w.grownBy w' row) (hne : v.ownBlock = none ∨ v.ownBlock ≠ row) : OwnS w' base e s v rows := ⟨h.1, World.ownsRow.kept h.2 hg hne⟩
theorem OwnS.lt (h : OwnS w base e s v rows) : ∀ j, v.ownBlock = some j → base ≤ j ∧ j < w.heap.size := World.ownsRow.lt h.2
theorem OwnS.ne (h : OwnS w base e s v rows) {g : Nat} (hg : g < base) : v.ownBlock = none ∨ v.ownBlock ≠ some g := by
  cases hv : v.ownBlock with
  | none => exact .inl rfl
  | some b => exact .inr fun e => by have := (h.lt b hv).1; cases e; omega
theorem OwnS.below (h : OwnS w base e s v rows) (hb : Below w.heap.size w w') : OwnS w' base e s v rows := by
  refine h.kept (row := none) ⟨hb.os, hb.tape, hb.output, hb.size, fun j hj _ => hb.block j hj⟩ ?_
  cases hv : v.ownBlock with
  | none => exact .inl rfl
  | some x => exact .inr (by simp)
theorem OwnS.apart {b2 s2 : Nat} {e2 : TypeId} {v2 : Value} {r2 : List (List Value)} (h1 : OwnS w base e s v rows) (h2 : OwnS w b2 e2 s2 v2 r2) (he : e ≠ e2) : v.ownBlock = none ∨ v.ownBlock ≠ v2.ownBlock := by
  rcases h1.2.2 with ⟨rfl, _⟩ | ⟨g, cap, cur, rfl, _, hg, _⟩
  · exact .inl rfl
  · rcases h2.2.2 with ⟨rfl, _⟩ | ⟨g', cap', cur', rfl, _, hg', _⟩
    · exact .inr (by simp [Value.ownBlock])
    · refine .inr ?_
      simp only [Value.ownBlock, ne_eq, Option.some.injEq]
      intro e
      rw [e, hg'] at hg
      simp at hg
      exact he hg.2.symm
theorem flatS_length : ∀ (rows : List (List Value)), Rows' s rows → rows.flatten.length = rows.length * s
  | [], _ => by simp
  | r :: l, h => by
    rw [List.flatten_cons, List.length_append, flatS_length l (fun x hx => h x (List.mem_cons_of_mem _ hx)), (h r (List.mem_cons_self ..)).1, List.length_cons, Nat.add_mul]
    omega
theorem flatS_get : ∀ (rows : List (List Value)), Rows' s rows → ∀ (i j : Nat) (hi : i < rows.length), j < s → rows.flatten[i * s + j]? = rows[i][j]?
  | [], _, i, _, hi, _ => by simp at hi
  | r :: l, h, i, j, hi, hj => by
    have hr : r.length = s := (h r (List.mem_cons_self ..)).1
    cases i with
    | zero => rw [List.flatten_cons, Nat.zero_mul, Nat.zero_add, List.getElem?_append_left (by omega)]; rfl
    | succ i =>
      rw [List.flatten_cons, List.getElem?_append_right (by rw [hr, Nat.succ_mul]; omega), hr, show (i + 1) * s + j - s = i * s + j by rw [Nat.succ_mul]; omega]
      exact flatS_get l (fun x hx => h x (List.mem_cons_of_mem _ hx)) i j (by simpa using hi) hj
theorem flatS_set : ∀ (rows : List (List Value)) (i : Nat) (a b r : List Value) (u x : Value), Rows' s rows → (hi : i < rows.length) → rows[i] = a ++ x :: b → r = a ++ u :: b → rows.flatten.set (i * s + a.length) u = (rows.set i r).flatten
  | [], i, _, _, _, _, _, _, hi, _, _ => by simp at hi
  | q :: l, i, a, b, r, u, x, h, hi, he, hr => by
    have hq : q.length = s := (h q (List.mem_cons_self ..)).1
    cases i with
    | zero =>
      simp only [List.getElem_cons_zero] at he
      subst he hr
      rw [List.flatten_cons, Nat.zero_mul, Nat.zero_add, List.set_cons_zero, List.flatten_cons, List.set_append_left _ _ (by simp)]
      congr 1
      rw [List.set_append_right _ _ (Nat.le_refl _), Nat.sub_self, List.set_cons_zero]
    | succ i =>
      rw [List.flatten_cons, List.set_cons_succ, List.flatten_cons, List.set_append_right _ _ (by rw [hq, Nat.succ_mul]; omega), hq, show (i + 1) * s + a.length - s = i * s + a.length by rw [Nat.succ_mul]; omega]
      rw [flatS_set l i a b r u x (fun x hx => h x (List.mem_cons_of_mem _ hx)) (by simpa using hi) (by simpa using he) hr]
theorem Rows'.set {r : List Value} (h : Rows' s rows) (i : Nat) (hr : r.length = s) (h1 : ∀ u ∈ r, u.oneCell' = true) : Rows' s (rows.set i r) := fun x hx => by
  rcases List.mem_or_eq_of_mem_set hx with h2 | rfl
  · exact h x h2
  · exact ⟨hr, h1⟩
theorem Rows'.snoc {r : List Value} (h : Rows' s rows) (hr : r.length = s) (h1 : ∀ u ∈ r, u.oneCell' = true) : Rows' s (rows ++ [r]) := fun x hx => by
  rw [List.mem_append, List.mem_singleton] at hx
  rcases hx with h2 | rfl
  · exact h x h2
  · exact ⟨hr, h1⟩
/-- a row as it lies -/
theorem OwnS.row {g n cap : Nat} (h : OwnS w base e s (.slice (some ⟨g, 0, none⟩) n cap) rows) (i : Nat) (hi : i < rows.length) : w.rangeAt g (i * s) rows[i] ∧ w.there g (i * s) s := by
  obtain rfl : n = rows.length := by obtain ⟨a, c, h2⟩ := h.len; simp only [Value.slice.injEq] at h2; exact h2.2.1
  have hr := (h.1 _ (List.getElem_mem hi)).1
  have hb : ∀ j, j < s → i * s + j < rows.length * s := fun j hj => by
    have : i * s + s ≤ rows.length * s := by rw [← Nat.succ_mul]; exact Nat.mul_le_mul_right _ hi
    omega
  have hc : ∀ j, j < s → w.cell? ⟨g, i * s + j, none⟩ = rows[i][j]? := fun j hj => by
    rw [World.ownsRow.cellAt h.2 _ (hb j hj), flatS_get rows h.1 i j hi hj]
  refine ⟨fun j u hj => ?_, fun j hj => ⟨?_, World.ownsRow.frozenAt h.2 _⟩⟩
  · have hjs : j < s := by rw [← hr]; exact (List.getElem?_eq_some_iff.1 hj).1
    rw [hc j hjs, hj]
  · rw [hc j hj, List.getElem?_eq_getElem (by omega)]; rfl
theorem OwnS.setCell {g n cap : Nat} (h : OwnS w base e s (.slice (some ⟨g, 0, none⟩) n cap) rows) (i : Nat) (hi : i < rows.length) (a b : List Value) (x u : Value) (he : rows[i] = a ++ x :: b) (hu : u.oneCell' = true) : OwnS (w.setCell ⟨g, i * s + a.length, none⟩ u) base e s (.slice (some ⟨g, 0, none⟩) n cap) (rows.set i (a ++ u :: b)) := by
  obtain rfl : n = rows.length := by obtain ⟨a, c, h2⟩ := h.len; simp only [Value.slice.injEq] at h2; exact h2.2.1
  have hm := h.1 _ (List.getElem_mem hi)
  have h1 := (World.ownsRow.stored h.2 (i * s + a.length) u).1
  refine ⟨h.1.set i (by rw [← hm.1, he]; simp) fun z hz => ?_, ?_⟩
  · rw [List.mem_append, List.mem_cons] at hz
    rcases hz with hz | rfl | hz
    · exact hm.2 z (by rw [he]; simp [hz])
    · exact hu
    · exact hm.2 z (by rw [he]; simp [hz])
  · rw [List.length_set, ← flatS_set rows i a b _ u x h.1 hi he rfl]
    exact h1
/-- a whole row is stored -/
theorem OwnS.setCells {g n cap : Nat} (i : Nat) : ∀ (r q a : List Value) (w : World) (rows : List (List Value)), OwnS w base e s (.slice (some ⟨g, 0, none⟩) n cap) rows → (hi : i < rows.length) → rows[i] = a ++ q → q.length = r.length → (∀ u ∈ r, u.oneCell' = true) → OwnS (w.setCells g (i * s + a.length) r) base e s (.slice (some ⟨g, 0, none⟩) n cap) (rows.set i (a ++ r))
  | [], q, a, w, rows, h, hi, he, hl, _ => by
    have : q = [] := List.length_eq_zero_iff.1 hl
    subst this
    rw [← he, List.set_getElem_self]
    exact h
  | u :: r, q, a, w, rows, h, hi, he, hl, h1 => by
    cases q with
    | nil => simp at hl
    | cons x q =>
      have h2 := h.setCell i hi a q x u he (h1 u (List.mem_cons_self ..))
      have h3 := OwnS.setCells i r q (a ++ [u]) _ _ h2 (by simpa using hi) (by simp) (by simpa using hl) (fun z hz => h1 z (List.mem_cons_of_mem _ hz))
      rw [List.set_set, List.append_assoc] at h3
      rw [List.length_append] at h3
      exact h3
theorem OwnS.setRow {g n cap : Nat} {r : List Value} (h : OwnS w base e s (.slice (some ⟨g, 0, none⟩) n cap) rows) (i : Nat) (hi : i < rows.length) (hr : r.length = s) (h1 : ∀ u ∈ r, u.oneCell' = true) : OwnS (w.setCells g (i * s) r) base e s (.slice (some ⟨g, 0, none⟩) n cap) (rows.set i r) :=
  OwnS.setCells i r rows[i] [] w rows h hi rfl (by rw [(h.1 _ (List.getElem_mem hi)).1, hr]) h1
theorem setCells_other (g : Nat) : ∀ (r : List Value) (o : Nat) (w : World) (k : Nat), k ≠ g → (w.setCells g o r).heap[k]? = w.heap[k]?
  | [], _, _, _, _ => rfl
  | u :: r, o, w, k, h => (setCells_other g r (o + 1) _ k h).trans (heap_setCell_other w ⟨g, o, none⟩ k u h)
theorem setCells_size (g : Nat) : ∀ (r : List Value) (o : Nat) (w : World), (w.setCells g o r).heap.size = w.heap.size
  | [], _, _ => rfl
  | u :: r, o, w => (setCells_size g r (o + 1) _).trans (by simp)
theorem setCells_grown (g : Nat) : ∀ (r : List Value) (o : Nat) (w : World), w.grownBy (w.setCells g o r) (some g)
  | [], _, w => grownBy_refl w _
  | u :: r, o, w => grownBy_trans (grownBy_setCell w ⟨g, o, none⟩ u) (setCells_grown g r (o + 1) _)
/-- append of a struct to such a list, inside a region that draws; the struct lies in block g -/
theorem step_append_s (st : TypeId) {bytes : Nat} {z : Value} (hu : Try.prog.underlying st = some (.slice e)) (hinfo : (Try.prog.info? e).map (fun i => (i.zero, i.size, i.bytes)) = some (some z, s, bytes)) (hzs : z.cells.size = s) (hsz : 0 < s) (hby : bytes ≤ 200)
    {ops : Array Oper} {o : Oper} {a : Act} {K : Act → World → Prop} {Q : Exit → Act → World → Prop} {E : Prop}
    (hgd : o.guard = none) (sl x : Operand) (hop : o.op = Op.call { callee := Callee.builtin Builtin.append, args := #[sl, x], argTypes := #[st, st] })
    (hs : a.eval sl = v) (hown : OwnS w base e s v rows) (r : List Value) (hr : r.length = s) (hr1 : ∀ u ∈ r, u.oneCell' = true) (g : Nat)
    (hx : a.eval x = .slice (some ⟨g, 0, none⟩) 1 1) (hcell : w.heap[g]? = some (.cells r.toArray e (0, 0))) (hl : rows.length ≤ 1000000) (hb : base ≤ w.heap.size)
    (hK : ∀ v' w', OwnS w' base e s v' (rows ++ [r]) → w.grownBy w' v.ownBlock → (v'.ownBlock = v.ownBlock ∨ v'.ownBlock = some w.heap.size) → K (a.put o.dst v') w') :
    if Region.wanted o (yielded ops a.tmps) = true then Oper.wp Try.prog o a w K Q else E := by
  rw [if_pos (by simp [Region.wanted, hgd])]
  obtain ⟨i0, hi, hz0, hz1, hz2⟩ := info_parts hinfo
  obtain ⟨v', w', hrun, h2, h3, -, h4⟩ := run_append_own_at (P := Try.prog) w base st o.type e i0 z s bytes hu hi hz0 hz1 hz2 hzs hsz v rows.length _ hown.2 ⟨g, 0, none⟩ 1 1 r (by omega) (fun j u hj => by
    have : w.cell? ⟨g, j, none⟩ = r.toArray[j]? := cell_of_row _ _ j _ _ _ hcell
    have e2 : ((⟨g, 0, none⟩ : Addr).add j) = ⟨g, j, none⟩ := by rw [Addr.add_mid, Nat.zero_add]
    rw [e2, this]
    simpa using hj) hr1 (by unfold maxLen; omega) (by have : (rows.length + 1) * bytes ≤ 1000001 * 200 := Nat.mul_le_mul (by omega) hby; omega) hb
  refine Lib.wp_append_run w sl x _ _ hop _ _ hs hx v' w' hrun (hK v' w' ⟨hown.1.snoc hr hr1, ?_⟩ h3 h4)
  rw [List.length_append, List.flatten_append]
  simpa using h2
end
/-- a whole struct is stored in the midst of a block, at a step of a region -/
theorem step_store_mid {ops : Array Oper} {Q : Exit → Act → World → Prop} {o : Oper} {a : Act} {w : World} {K : Act → World → Prop} {E : Prop} (hgd : o.guard = none) (ty : TypeId) (x y : Operand) (ho : o.op = .store ty x y)
    (b off : Nat) (cells : Array Value) (hx : a.eval x = .pointer (some ⟨b, off, none⟩)) (hy : a.eval y = .agg cells) (ht : w.there b off cells.size) (hi : (Try.prog.info? ty).map (·.size) = some cells.size) (h1 : cells.all (·.oneCell') = true)
    (h : K (a.put o.dst undef) (w.setCells b off cells.toList)) : if Region.wanted o (yielded ops a.tmps) = true then Oper.wp Try.prog o a w K Q else E := by
  rw [if_pos (by simp [Region.wanted, hgd])]
  exact wp_store_mid ty x y ho b off cells hx hy ht hi h1 h
/-- the worlds that hold w0's memory but for the blocks of S -/
def OffS (S : List (Option Nat)) (w0 : World) : World → Prop := fun w => w0.heap.size ≤ w.heap.size ∧ ∀ j, j < w0.heap.size → some j ∉ S → w.heap[j]? = w0.heap[j]?
section
variable {S S2 : List (Option Nat)} {w w0 w1 w2 w' : World}
theorem OffS.self (S : List (Option Nat)) (w : World) : OffS S w w := ⟨Nat.le_refl _, fun _ _ _ => rfl⟩
theorem OffS.trans (h : OffS S w0 w1) (h2 : OffS S2 w1 w2) (hs : ∀ j, j < w0.heap.size → some j ∈ S2 → some j ∈ S) : OffS S w0 w2 :=
  ⟨Nat.le_trans h.1 h2.1, fun j hj hn => (h2.2 j (Nat.lt_of_lt_of_le hj h.1) (fun e => hn (hs j hj e))).trans (h.2 j hj hn)⟩
theorem OffS.trans1 (h : OffS S w0 w1) (h2 : OffS S w1 w2) : OffS S w0 w2 := h.trans h2 fun _ _ e => e
theorem OffS.below (h : Below w.heap.size w w') : OffS S w w' := ⟨h.size, fun j hj _ => h.block j hj⟩
theorem OffS.wide (S : List (Option Nat)) (w0 : World) : Wide (OffS S w0) := fun _ _ h hb => h.trans1 (OffS.below hb)
theorem OffS.grown {row : Option Nat} (h : w.grownBy w' row) (hr : row = none ∨ row ∈ S) : OffS S w w' := ⟨h.size, fun j hj hn => h.block j hj (fun e => by
  rcases hr with rfl | hr
  · simp at e
  · exact hn (e ▸ hr))⟩
theorem OffS.nx (h : OffS S w0 w) (hb : Below w.heap.size w w') (hS : ∀ j, some j ∈ S → j < w.heap.size) : ∀ w2, OffS S w' w2 → Nx (OffS S w0) w w' w2 := fun w2 h3 =>
  ⟨h.trans1 ((OffS.below hb).trans1 h3), ⟨h3.1, fun j hj hj2 => h3.2 j hj2 (fun e => by have := hS j e; omega)⟩⟩
end
end Go.Proofs.Ytnbehigjeopniaa
/- Channels as a sequential object, plainly (chapter 14). -/
namespace Go.Proofs.Ytnbehigjeopniaa
open Go.ChangeShapes Go.WideShapes Go.ChangeAt Go.RowKit
set_option maxRecDepth 100000

structure ChanM where
  cap : Int
  buf : List Int
  closed : Bool
structure ResM where
  kind : Int
  case : Int
  val : Int
  ok : Bool
  num : Int
def noChan : ChanM := ⟨0, [], false⟩
/-- there is a channel -/
def exB (l : List ChanM) (n : Int) : Bool := decide (0 ≤ n) && decide (n < (l.length : Int))
def chE (l : List ChanM) (n : Int) : ChanM := l.getD n.toNat noChan
def readyB (l : List ChanM) (x : CaseM) : Bool :=
  exB l x.chan && (if x.send then ((chE l x.chan).closed || decide (((chE l x.chan).buf.length : Int) < (chE l x.chan).cap)) else ((chE l x.chan).closed || decide (0 < (chE l x.chan).buf.length)))
def setE (l : List ChanM) (n : Int) (c : ChanM) : List ChanM := l.set n.toNat c
/-- the case that an operation is by itself -/
def oneB (op : OpM) : Bool := op.kind == 1 || op.kind == 2
def oneC (op : OpM) : CaseM := if op.kind = 1 then ⟨true, op.chan, op.val⟩ else if op.kind = 2 then ⟨false, op.chan, op.val⟩ else noCase
def chosenE (op : OpM) (r : ResM) : Option CaseM :=
  if op.kind = 4 then (if r.case < 0 ∨ (op.cases.length : Int) ≤ r.case then none else some (op.cases.getD r.case.toNat noCase))
  else if oneB op = true ∧ r.case = -1 then some (oneC op) else none
def onlyB (r : ResM) (value number : Bool) : Bool := (value || (r.val == 0 && !r.ok)) && (number || r.num == 0)
/-- a case takes effect -/
def doE (l : List ChanM) (x : CaseM) (r : ResM) : Option (List ChanM) :=
  if exB l x.chan = false then none
  else if r.kind = 1 ∧ x.send = true then
    (if onlyB r false false = true ∧ (chE l x.chan).closed = false ∧ ((chE l x.chan).buf.length : Int) < (chE l x.chan).cap then some (setE l x.chan { chE l x.chan with buf := (chE l x.chan).buf ++ [x.val] }) else none)
  else if r.kind = 5 ∧ x.send = true then (if onlyB r false false = true ∧ (chE l x.chan).closed = true then some l else none)
  else if r.kind = 2 ∧ x.send = false ∧ r.ok = true then
    (if onlyB r true false = true ∧ (chE l x.chan).buf.head? = some r.val then some (setE l x.chan { chE l x.chan with buf := (chE l x.chan).buf.tail }) else none)
  else if r.kind = 2 ∧ x.send = false then (if onlyB r true false = true ∧ r.val = 0 ∧ (chE l x.chan).closed = true ∧ (chE l x.chan).buf = [] then some l else none)
  else none
def casesE (op : OpM) : List CaseM := if op.kind = 4 then op.cases else if oneB op then [oneC op] else []
def blockedB (l : List ChanM) (op : OpM) : Bool := (casesE op).all fun x => !readyB l x
def waitsB (op : OpM) : Bool := op.kind == 1 || op.kind == 2 || op.kind == 4
/-- an operation takes effect by itself -/
def modE (l : List ChanM) (op : OpM) (r : ResM) : Option (List ChanM) :=
  if r.kind = 1 ∨ r.kind = 2 then (chosenE op r).bind fun x => doE l x r
  else if r.kind = 5 then
    (if op.kind = 3 then (if r.case = -1 ∧ onlyB r false false = true ∧ (exB l op.chan = false ∨ (chE l op.chan).closed = true) then some l else none)
    else (chosenE op r).bind fun x => doE l x r)
  else if r.kind = 6 then
    (if op.kind = 3 ∧ r.case = -1 ∧ onlyB r false false = true ∧ exB l op.chan = true ∧ (chE l op.chan).closed = false then some (setE l op.chan { chE l op.chan with closed := true }) else none)
  else if r.kind = 3 then (if waitsB op = true ∧ op.mode = 1 ∧ r.case = -1 ∧ onlyB r false false = true ∧ blockedB l op = true then some l else none)
  else if r.kind = 4 then (if waitsB op = true ∧ op.mode = 2 ∧ r.case = -1 ∧ onlyB r false false = true then some l else none)
  else if r.kind = 7 then
    (if (op.kind = 5 ∨ op.kind = 6) ∧ r.case = -1 ∧ onlyB r false true = true ∧ r.num = (if exB l op.chan = true then (if op.kind = 6 then (chE l op.chan).cap else ((chE l op.chan).buf.length : Int)) else 0) then some l else none)
  else none
def halfB (l : List ChanM) (a : OpM) (x : ResM) (b : OpM) (y : ResM) : Bool :=
  decide (x.kind = 1 ∧ y.kind = 2) && onlyB x false false && onlyB y true false && y.ok &&
  (match chosenE a x, chosenE b y with
  | some p, some q => p.send && !q.send && decide (p.chan = q.chan) && exB l p.chan && decide ((chE l p.chan).cap ≤ 0) && !(chE l p.chan).closed && decide (y.val = p.val)
  | _, _ => false)
def pairB (l : List ChanM) (a : OpM) (x : ResM) (b : OpM) (y : ResM) : Bool := halfB l a x b y || halfB l b y a x
/-- the results that a case may have -/
def tryE (l : List ChanM) (x : CaseM) (n : Int) : List ResM :=
  if x.send then [⟨5, n, 0, false, 0⟩, ⟨1, n, 0, false, 0⟩]
  else (if exB l x.chan = true ∧ 0 < (chE l x.chan).buf.length then [⟨2, n, (chE l x.chan).buf.getD 0 0, true, 0⟩] else []) ++ [⟨2, n, 0, false, 0⟩]
def numE (op : OpM) (i : Nat) : Int := if op.kind = 4 then (i : Int) else -1
/-- what the first k cases may have -/
def triesE (l : List ChanM) (op : OpM) (k : Nat) : List ResM := ((List.range k).map fun i => tryE l ((casesE op).getD i noCase) (numE op i)).flatten
def allE (l : List ChanM) (op : OpM) : List ResM := (if op.kind = 3 then [⟨6, -1, 0, false, 0⟩, ⟨5, -1, 0, false, 0⟩] else []) ++ triesE l op (casesE op).length
def couldE (l : List ChanM) (op : OpM) : List ResM := (allE l op).filter fun r => (modE l op r).isSome
theorem couldE_some {l : List ChanM} {op : OpM} {r : ResM} (h : r ∈ couldE l op) : (modE l op r).isSome = true := (List.mem_filter.1 h).2
theorem triesE_succ (l : List ChanM) (op : OpM) (k : Nat) : triesE l op (k + 1) = triesE l op k ++ tryE l ((casesE op).getD k noCase) (numE op k) := by
  unfold triesE
  rw [List.range_succ, List.map_append, List.flatten_append]
  simp
/-- two results for a meeting -/
def meetPQ (a b : OpM) (i k : Nat) : ResM × ResM :=
  if ((casesE a).getD i noCase).send then (⟨1, numE a i, 0, false, 0⟩, ⟨2, numE b k, ((casesE a).getD i noCase).val, true, 0⟩)
  else (⟨2, numE a i, ((casesE b).getD k noCase).val, true, 0⟩, ⟨1, numE b k, 0, false, 0⟩)
def meetRow (l : List ChanM) (a b : OpM) (i k : Nat) : List (ResM × ResM) := ((List.range k).map (meetPQ a b i)).filter fun p => pairB l a p.1 b p.2
def meetingE (l : List ChanM) (a b : OpM) (i : Nat) : List (ResM × ResM) := ((List.range i).map fun j => meetRow l a b j (casesE b).length).flatten
def meetsB (l : List ChanM) (a b : OpM) : Bool := !(meetingE l a b (casesE a).length).isEmpty
structure WaitM where
  thr : Int
  op : OpM
def enRow (l : List ChanM) (w : List WaitM) (i : Nat) (x : WaitM) (k : Nat) : Bool := (List.range k).any fun j => match w[j]? with | some y => decide (y.thr ≠ x.thr) && meetsB l y.op x.op | none => false
def enabledB (l : List ChanM) (w : List WaitM) (n : Nat) : Bool := (List.range n).any fun i => match w[i]? with | some x => !(couldE l x.op).isEmpty || enRow l w i x i | none => false
end Go.Proofs.Ytnbehigjeopniaa
/- Lists of structs that read, of any width; lists of channels. -/
namespace Go.Proofs.Ytnbehigjeopniaa
open Go.ChangeShapes Go.WideShapes Go.ChangeAt Go.RowKit
set_option maxRecDepth 100000

/-- The slice value v reads in w as structs of s cells each. -/
def SlS (w : World) (s : Nat) (v : Value) (rows : List (List Value)) : Prop :=
  rows.length ≤ 140737488351232 ∧ Rows' s rows ∧ ∃ a cap, v = .slice a rows.length cap ∧ rows.length ≤ cap ∧
    ∀ i, i < rows.length → ∃ b off, a = some ⟨b, off, none⟩ ∧ b < w.heap.size ∧ w.rangeAt b (off + i * s) (rows.getD i [])
theorem SlS.below {w w' : World} {s : Nat} {v : Value} {rows : List (List Value)} (h : SlS w s v rows) (hb : Below w.heap.size w w') : SlS w' s v rows := by
  obtain ⟨h1, h2, a, cap, rfl, h3, h4⟩ := h
  refine ⟨h1, h2, a, cap, rfl, h3, fun i hi => ?_⟩
  obtain ⟨b, off, e, hlt, hr⟩ := h4 i hi
  exact ⟨b, off, e, Nat.lt_of_lt_of_le hlt hb.size, fun j u hj => (hb.cell (p := ⟨b, off + i * s + j, none⟩) hlt).trans (hr j u hj)⟩
theorem SlS.len {w : World} {s : Nat} {v : Value} {rows : List (List Value)} (h : SlS w s v rows) : ∃ a cap, v = .slice a rows.length cap ∧ rows.length ≤ cap := by
  obtain ⟨-, -, a, cap, rfl, h3, -⟩ := h
  exact ⟨a, cap, rfl, h3⟩
theorem SlS.open {w : World} {s : Nat} {v : Value} {rows : List (List Value)} (h : SlS w s v rows) (hn : 0 < rows.length) : ∃ b off cap, v = .slice (some ⟨b, off, none⟩) rows.length cap ∧ b < w.heap.size ∧ ∀ i, i < rows.length → w.rangeAt b (off + i * s) (rows.getD i []) := by
  obtain ⟨-, -, a, cap, rfl, h3, h4⟩ := h
  obtain ⟨b, off, rfl, hlt, -⟩ := h4 0 hn
  refine ⟨b, off, cap, rfl, hlt, fun i hi => ?_⟩
  obtain ⟨b', off', e, -, hr⟩ := h4 i hi
  simp only [Option.some.injEq, Addr.mk.injEq] at e
  obtain ⟨rfl, rfl, -⟩ := e
  exact hr
theorem SlS.nil (w : World) (s : Nat) : SlS w s (.slice none 0 0) [] := ⟨by simp, fun r h => by simp at h, none, 0, rfl, Nat.le_refl _, fun i hi => by simp at hi⟩
theorem OwnS.sls {w : World} {base s : Nat} {e : TypeId} {v : Value} {rows : List (List Value)} (h : OwnS w base e s v rows) (hl : rows.length ≤ 140737488351232) : SlS w s v rows := by
  refine ⟨hl, h.1, ?_⟩
  rcases h.shape with ⟨rfl, rfl⟩ | ⟨g, cap, rfl, h3, h4, h5⟩
  · exact ⟨none, 0, rfl, Nat.le_refl _, fun i hi => by simp at hi⟩
  · refine ⟨some ⟨g, 0, none⟩, cap, rfl, h5, fun i hi => ⟨g, 0, rfl, h4, ?_⟩⟩
    rw [List.getD_eq_getElem?_getD, List.getElem?_eq_getElem hi, Nat.zero_add]
    exact (h.row i hi).1
/-- a list that reads is copied -/
theorem run_copy_sls (w : World) (st ty : TypeId) {e : TypeId} {s bytes : Nat} {z : Value} (hu : Try.prog.underlying st = some (.slice e)) (hinfo : (Try.prog.info? e).map (fun i => (i.zero, i.size, i.bytes)) = some (some z, s, bytes)) (hzs : z.cells.size = s) (hsz : 0 < s) (hby : bytes ≤ 200)
    {base : Nat} {v : Value} {rows : List (List Value)} (hS : SlS w s v rows) (hne : rows ≠ []) (hl : rows.length ≤ 1000000) (hb : base ≤ w.heap.size) :
    ∃ v' w', (Builtin.append_ #[st, st] ty #[.slice none 0 0, v]).run Try.prog w = .ok v' w' ∧ OwnS w' base e s v' rows ∧ w.grownBy w' none := by
  obtain ⟨i0, hi, hz0, hz1, hz2⟩ := info_parts hinfo
  have hr1 := hS.2.1
  obtain ⟨b, off, cap, rfl, hbl, hr⟩ := hS.open (List.length_pos_iff.2 hne)
  obtain ⟨v', w', hrun, h2, h3, -, h4⟩ := run_append_own_at (P := Try.prog) w base st ty e i0 z s bytes hu hi hz0 hz1 hz2 hzs hsz (.slice none 0 0) 0 [] (World.ownsRow_nil w base e s) ⟨b, off, none⟩ rows.length cap rows.flatten (flatS_length rows hr1) (fun j u hj => by
      have hlt := (List.getElem?_eq_some_iff.1 hj).1
      rw [flatS_length rows hr1] at hlt
      have hq : j / s < rows.length := Nat.div_lt_of_lt_mul (by rw [Nat.mul_comm]; exact hlt)
      have hm : j % s < s := Nat.mod_lt _ hsz
      have hj2 : j = j / s * s + j % s := by rw [Nat.mul_comm]; exact (Nat.div_add_mod j s).symm
      have e2 : ((⟨b, off, none⟩ : Addr).add j) = ⟨b, off + (j / s) * s + j % s, none⟩ := by rw [Addr.add_mid, Nat.add_assoc, ← hj2]
      rw [e2]
      refine hr (j / s) hq (j % s) u ?_
      rw [List.getD_eq_getElem?_getD, List.getElem?_eq_getElem hq]
      have h9 := flatS_get rows hr1 (j / s) (j % s) hq hm
      rw [← hj2] at h9
      show rows[j / s][j % s]? = some u
      rw [← h9]
      exact hj) (fun u hu => by
      obtain ⟨r, hr, hur⟩ := List.mem_flatten.1 hu
      exact (hr1 r hr).2 u hur) (by unfold maxLen; omega) (by have : (0 + rows.length) * bytes ≤ 1000000 * 200 := Nat.mul_le_mul (by omega) hby; omega) hb
  rw [Nat.zero_add, List.nil_append] at h2
  exact ⟨v', w', hrun, ⟨hr1, h2⟩, h3⟩
theorem wp_copy_sls (w : World) (st : TypeId) {e : TypeId} {s bytes : Nat} {z : Value} (hu : Try.prog.underlying st = some (.slice e)) (hinfo : (Try.prog.info? e).map (fun i => (i.zero, i.size, i.bytes)) = some (some z, s, bytes)) (hzs : z.cells.size = s) (hsz : 0 < s) (hby : bytes ≤ 200)
    {ops : Array Oper} {rest : List Oper} {o : Oper} {a : Act} {Q : Exit → Act → World → Prop}
    (hg : o.guard = none) (sl x : Operand) (hop : o.op = Op.call { callee := Callee.builtin Builtin.append, args := #[sl, x], argTypes := #[st, st] })
    {base : Nat} {v : Value} {rows : List (List Value)} (hs : a.eval sl = .slice none 0 0) (hx : a.eval x = v) (hS : SlS w s v rows) (hne : rows ≠ []) (hl : rows.length ≤ 1000000) (hb : base ≤ w.heap.size)
    (hK : ∀ v' w', OwnS w' base e s v' rows → w.grownBy w' none → wpList Try.prog ops Q rest (a.put o.dst v') w') :
    wpList Try.prog ops Q (o :: rest) a w := by
  obtain ⟨v', w', hr, h1, h2⟩ := run_copy_sls w st o.type hu hinfo hzs hsz hby hS hne hl hb
  exact Lib.wpList_append_run w hg sl x _ _ hop _ _ hs hx v' w' hr (hK v' w' h1 h2)
/-- channels: their buffers lie where us says -/
def chRow (c : ChanM) (u : Value) : List Value := [.int .i64 c.cap, u, .bool c.closed]
def chRows : List ChanM → List Value → List (List Value)
  | c :: l, u :: us => chRow c u :: chRows l us
  | _, _ => []
theorem chRows_length : ∀ (l : List ChanM) (us : List Value), us.length = l.length → (chRows l us).length = l.length
  | [], [], _ => rfl
  | c :: l, u :: us, h => by show (chRows l us).length + 1 = _; rw [chRows_length l us (by simpa using h)]; rfl
  | [], u :: us, h => by simp at h
  | c :: l, [], h => by simp at h
theorem chRows_get : ∀ (l : List ChanM) (us : List Value) (i : Nat), us.length = l.length → i < l.length → (chRows l us).getD i [] = chRow (l.getD i noChan) (us.getD i (.slice none 0 0))
  | c :: l, u :: us, 0, _, _ => rfl
  | c :: l, u :: us, i + 1, h, hi => by
    have := chRows_get l us i (by simpa using h) (by simpa using hi)
    simpa [chRows] using this
  | [], [], i, _, hi => by simp at hi
  | [], u :: us, _, h, _ => by simp at h
  | c :: l, [], _, h, _ => by simp at h
theorem chRows_set : ∀ (l : List ChanM) (us : List Value) (i : Nat) (c : ChanM) (u : Value), us.length = l.length → (chRows l us).set i (chRow c u) = chRows (l.set i c) (us.set i u)
  | c :: l, u :: us, 0, _, _, _ => rfl
  | c :: l, u :: us, i + 1, c2, u2, h => by
    have := chRows_set l us i c2 u2 (by simpa using h)
    simp [chRows, this]
  | [], [], i, _, _, _ => by cases i <;> rfl
  | [], u :: us, _, _, _, h => by simp at h
  | c :: l, [], _, _, _, h => by simp at h
theorem chRows_snoc : ∀ (l : List ChanM) (us : List Value) (c : ChanM) (u : Value), us.length = l.length → chRows (l ++ [c]) (us ++ [u]) = chRows l us ++ [chRow c u]
  | [], [], _, _, _ => rfl
  | c :: l, u :: us, c2, u2, h => by
    have := chRows_snoc l us c2 u2 (by simpa using h)
    simp [chRows, this]
  | [], u :: us, _, _, h => by simp at h
  | c :: l, [], _, _, h => by simp at h
/-- the block b is none of the reader's -/
def notC (w : World) (b : Nat) : Prop := ∀ cs f, w.heap[b]? ≠ some (.cells cs 70 f)
/-- what the slice value v shows lies in no block of the reader's -/
def fineB (w : World) (v : Value) : Prop := ∀ a n c, v = .slice (some a) n c → n = 0 ∨ (a.block < w.heap.size ∧ notC w a.block)
theorem fineB.nil (w : World) : fineB w (.slice none 0 0) := fun a n c h => by simp at h
theorem fineB.below {w w' : World} {v : Value} (h : fineB w v) (hb : Below w.heap.size w w') : fineB w' v := fun a n c e => by
  rcases h a n c e with h1 | ⟨h1, h2⟩
  · exact .inl h1
  · exact .inr ⟨Nat.lt_of_lt_of_le h1 hb.size, fun cs f => by rw [hb.block a.block h1]; exact h2 cs f⟩
theorem notC.setCell {w : World} {b : Nat} (h : notC w b) (p : Addr) (u : Value) : notC (w.setCell p u) b := fun cs f e => by
  by_cases hb : b = p.block
  · subst hb
    unfold World.setCell at e
    simp only [Array.getElem?_modify, if_true] at e
    obtain ⟨o, ho, hf⟩ := Option.map_eq_some_iff.1 e
    cases o <;> simp only [Obj.cells.injEq, reduceCtorEq] at hf
    exact h _ _ (by rw [ho, hf.2.1])
  · rw [heap_setCell_other w p b u hb] at e
    exact h cs f e
theorem fineB.setCell {w : World} {v : Value} (h : fineB w v) (p : Addr) (u : Value) : fineB (w.setCell p u) v := fun a n c e => by
  rcases h a n c e with h1 | ⟨h1, h2⟩
  · exact .inl h1
  · exact .inr ⟨by simpa using h1, h2.setCell p u⟩
theorem notC_of {w : World} {b : Nat} {cur : Array Value} {e : TypeId} {f : Nat × Nat} (h : w.heap[b]? = some (.cells cur e f)) (he : e ≠ 70) : notC w b := fun cs f2 h2 => by
  rw [h] at h2
  simp only [Option.some.injEq, Obj.cells.injEq] at h2
  exact he h2.2.1
theorem own_fine {w : World} {base s n : Nat} {e : TypeId} {v : Value} {xs : List Value} (h : w.ownsRow base e s v n xs) (he : e ≠ 70) : fineB w v := fun a m c e2 => by
  rcases h.2 with ⟨rfl, rfl⟩ | ⟨g, cap, cur, rfl, -, hg, -⟩
  · simp at e2
  · simp only [Value.slice.injEq, Option.some.injEq] at e2
    obtain ⟨rfl, -, -⟩ := e2
    exact .inr ⟨(Array.getElem?_eq_some_iff.1 hg).1, notC_of hg he⟩
/-- a buffer that reads, in no block of the reader's -/
def SlU (w : World) (u : Value) (l : List Int) : Prop := SlI w .u64 u l ∧ fineB w u
theorem SlU.below {w w' : World} {u : Value} {l : List Int} (h : SlU w u l) (hb : Below w.heap.size w w') : SlU w' u l := ⟨h.1.below hb, h.2.below hb⟩
theorem SlU.nil (w : World) : SlU w (.slice none 0 0) [] := ⟨SlI.nil _ _, fineB.nil _⟩
theorem OwnI.slU {w : World} {base : Nat} {u : Value} {l : List Int} (h : OwnI w base 30 .u64 u l) (hl : l.length ≤ 140737488351232) (hw : ∀ x ∈ l, x = IntKind.u64.wrap x) : SlU w u l := ⟨h.read hl hw, own_fine h (by decide)⟩
/-- The slice value v reads in w as the channels l. -/
def SlH (w : World) (v : Value) (l : List ChanM) : Prop :=
  ∃ us : List Value, us.length = l.length ∧ SlS w 3 v (chRows l us) ∧ (∀ i, i < l.length → SlU w (us.getD i (.slice none 0 0)) (l.getD i noChan).buf) ∧ (∀ c ∈ l, c.cap = IntKind.i64.wrap c.cap) ∧ fineB w v
theorem SlH.below {w w' : World} {v : Value} {l : List ChanM} (h : SlH w v l) (hb : Below w.heap.size w w') : SlH w' v l := by
  obtain ⟨us, h1, h2, h3, h4, h5⟩ := h
  exact ⟨us, h1, h2.below hb, fun i hi => (h3 i hi).below hb, h4, h5.below hb⟩
theorem SlH.len {w : World} {v : Value} {l : List ChanM} (h : SlH w v l) : ∃ a cap, v = .slice a l.length cap ∧ l.length ≤ cap := by
  obtain ⟨us, h1, h2, -⟩ := h
  obtain ⟨a, cap, rfl, h3⟩ := h2.len
  rw [chRows_length l us h1] at h3 ⊢
  exact ⟨a, cap, rfl, h3⟩
theorem SlH.bound {w : World} {v : Value} {l : List ChanM} (h : SlH w v l) : l.length ≤ 140737488351232 := by
  obtain ⟨us, h1, h2, -⟩ := h
  have := h2.1
  rw [chRows_length l us h1] at this
  exact this
/-- one channel of a list -/
theorem SlH.at2 {w : World} {v : Value} {l : List ChanM} (h : SlH w v l) (i : Nat) (hi : i < l.length) : ∃ b off cap u, v = .slice (some ⟨b, off, none⟩) l.length cap ∧ b < w.heap.size ∧ w.cell? ⟨b, off + i * 3, none⟩ = some (.int .i64 (l.getD i noChan).cap) ∧ w.cell? ⟨b, off + i * 3 + 1, none⟩ = some u ∧ w.cell? ⟨b, off + i * 3 + 2, none⟩ = some (.bool (l.getD i noChan).closed) ∧ SlU w u (l.getD i noChan).buf := by
  obtain ⟨us, h1, h2, h3, -⟩ := h
  have hlen := chRows_length l us h1
  obtain ⟨b, off, cap, rfl, hb, hr⟩ := h2.open (by omega)
  have h5 := hr i (by omega)
  rw [chRows_get l us i h1 hi] at h5
  exact ⟨b, off, cap, _, by rw [hlen], hb, h5 0 _ rfl, h5 1 _ rfl, h5 2 _ rfl, h3 i hi⟩
theorem SlH.at {w : World} {v : Value} {l : List ChanM} (h : SlH w v l) (i : Nat) (hi : i < l.length) : ∃ b off cap u, v = .slice (some ⟨b, off, none⟩) l.length cap ∧ b < w.heap.size ∧ w.cell? ⟨b, off + i * 3, none⟩ = some (.int .i64 (l.getD i noChan).cap) ∧ w.cell? ⟨b, off + i * 3 + 1, none⟩ = some u ∧ w.cell? ⟨b, off + i * 3 + 2, none⟩ = some (.bool (l.getD i noChan).closed) ∧ SlI w .u64 u (l.getD i noChan).buf := by
  obtain ⟨b, off, cap, u, h1, h2, h3, h4, h5, h6⟩ := h.at2 i hi
  exact ⟨b, off, cap, u, h1, h2, h3, h4, h5, h6.1⟩
theorem fineB.off {w w2 : World} {g : Nat} {v : Value} {b off n c : Nat} (h : fineB w v) (hv : v = .slice (some ⟨b, off, none⟩) n c) (hn : 0 < n) (hC : ∃ cs f, w.heap[g]? = some (.cells cs 70 f)) : b ≠ g := fun e => by
  obtain ⟨cs, f, hg⟩ := hC
  rcases h _ _ _ hv with h1 | ⟨-, h1⟩
  · omega
  · subst e
    exact h1 cs f hg
theorem fineB.grown {w w2 : World} {g : Nat} {v : Value} (h : fineB w v) (hg : w.grownBy w2 (some g)) (hC : ∃ cs f, w.heap[g]? = some (.cells cs 70 f)) : fineB w2 v := fun a n c e => by
  rcases h a n c e with h1 | ⟨h1, h2⟩
  · exact .inl h1
  · refine .inr ⟨Nat.lt_of_lt_of_le h1 hg.size, fun cs f => ?_⟩
    obtain ⟨cs2, f2, hgg⟩ := hC
    rw [hg.block a.block h1 (fun e => by simp only [Option.some.injEq] at e; rw [e] at h2; exact h2 cs2 f2 hgg)]
    exact h2 cs f
theorem SlU.grown {w w2 : World} {g : Nat} {u : Value} {l : List Int} (h : SlU w u l) (hg : w.grownBy w2 (some g)) (hC : ∃ cs f, w.heap[g]? = some (.cells cs 70 f)) : SlU w2 u l := by
  refine ⟨h.1.grown hg fun a n c e => ?_, h.2.grown hg hC⟩
  rcases h.2 a n c e with h1 | ⟨-, h1⟩
  · exact .inl h1
  · refine .inr fun e2 => ?_
    obtain ⟨cs, f, hgg⟩ := hC
    rw [e2] at h1
    exact h1 cs f hgg
/-- the reader's block changes, and channels stay -/
theorem SlH.grown {w w2 : World} {g : Nat} {v : Value} {l : List ChanM} (h : SlH w v l) (hg : w.grownBy w2 (some g)) (hC : ∃ cs f, w.heap[g]? = some (.cells cs 70 f)) : SlH w2 v l := by
  obtain ⟨us, h1, h2, h3, h4, h5⟩ := h
  refine ⟨us, h1, ?_, fun i hi => (h3 i hi).grown hg hC, h4, h5.grown hg hC⟩
  obtain ⟨q1, q2, a, cap, rfl, q4, q5⟩ := h2
  refine ⟨q1, q2, a, cap, rfl, q4, fun i hi => ?_⟩
  obtain ⟨b, off, rfl, hb, hr⟩ := q5 i hi
  have hne : b ≠ g := h5.off (w2 := w) rfl (by omega) hC
  exact ⟨b, off, rfl, Nat.lt_of_lt_of_le hb hg.size, fun j u hj => by
    have hbk := hg.block b hb (fun e => hne (by simp only [Option.some.injEq] at e; exact e))
    have := hr j u hj
    unfold World.cell? at this ⊢
    rw [hbk]
    exact this⟩
end Go.Proofs.Ytnbehigjeopniaa
/- The case that an operation is by itself. -/
namespace Go.Proofs.Ytnbehigjeopniaa
open Go.ChangeShapes Go.WideShapes Go.ChangeAt Go.RowKit
set_option maxRecDepth 100000

def sgB (op : OpM) : Bool := op.kind == 1 || op.kind == 2
def sgC (op : OpM) : CaseM := if op.kind = 1 then ⟨true, op.chan, op.val⟩ else if op.kind = 2 then ⟨false, op.chan, op.val⟩ else noCase
def caseW (c : CaseM) : Value := .agg #[.bool c.send, .int .i64 c.chan, .int .u64 c.val]
end Go.Proofs.Ytnbehigjeopniaa
