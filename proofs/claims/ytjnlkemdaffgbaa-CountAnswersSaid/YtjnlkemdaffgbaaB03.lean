import Derived.Laws.AppendOwn
import Derived.Laws.OwnMore
import Derived.Maps.AppendAt
import Derived.Lib.AppendZeros
import Derived.Deep.MidRow
import Derived.Laws.AppendOwnNone
import Derived.Shelf.RegionOpenPlain
import Derived.Lib.SliceRun
import Derived.Deep.LoopGhost
import Derived.Deep.QuietTactic
import Derived.BigQuiet
import Derived.RegionTactic
import Derived.Deep.DeepCutAuto
import Derived.Test.YtjnlkemdaffgbaaB01
import Derived.Test.YtjnlkemdaffgbaaB02
set_option linter.unusedVariables false
set_option linter.unusedSimpArgs false
/- Lists of structs of any kind that the call owns, row by row; worlds that differ only in some blocks. -/
namespace Go.Proofs.Ytjnlkemdaffgbaa
open Go.ChangeShapes Go.WideShapes Go.ChangeAt Go.RowKit
set_option maxRecDepth 100000

/-- rows of s cells each -/
def Rows' (s : Nat) (rows : List (List Value)) : Prop := ∀ r ∈ rows, r.length = s ∧ ∀ u ∈ r, u.oneCell' = true
/-- The slice value v owns, among the blocks from base on, structs of s cells each, that read as rows. -/
def OwnS (w : World) (base : Nat) (e : TypeId) (s : Nat) (v : Value) (rows : List (List Value)) : Prop :=
  Rows' s rows ∧ w.ownsRow base e s v rows.length rows.flatten
section
variable {w w' : World} {base : Nat} {e : TypeId} {s : Nat} {v : Value} {rows : List (List Value)}
theorem OwnS.nil (w : World) (base : Nat) (e : TypeId) (s : Nat) : OwnS w base e s (.slice none 0 0) [] := ⟨fun r h => by simp at h, World.ownsRow_nil w base _ s⟩
theorem OwnS.shape (h : OwnS w base e s v rows) : (v = .slice none 0 0 ∧ rows = []) ∨ ∃ g cap, v = .slice (some ⟨g, 0, none⟩) rows.length cap ∧ base ≤ g ∧ g < w.heap.size ∧ rows.length ≤ cap := by
  rcases h.2.2 with ⟨rfl, h2⟩ | ⟨g, cap, cur, rfl, h3, h4, h5, h6, _, _⟩
  · exact .inl ⟨rfl, List.length_eq_zero_iff.1 h2⟩
  · exact .inr ⟨g, cap, rfl, h3, (Array.getElem?_eq_some_iff.1 h4).1, h5⟩
theorem OwnS.len (h : OwnS w base e s v rows) : ∃ a cap, v = .slice a rows.length cap := by
  rcases h.shape with ⟨rfl, rfl⟩ | ⟨g, cap, rfl, _⟩
  · exact ⟨_, _, rfl⟩
  · exact ⟨_, _, rfl⟩
theorem OwnS.open (h : OwnS w base e s v rows) (hn : 0 < rows.length) : ∃ g cap, v = .slice (some ⟨g, 0, none⟩) rows.length cap ∧ base ≤ g ∧ g < w.heap.size ∧ rows.length ≤ cap := by
  rcases h.shape with ⟨_, rfl⟩ | h
  · simp at hn
  · exact h
theorem OwnS.kept {row : Option Nat} (h : OwnS w base e s v rows) (hg : w.grownBy w' row) (hne : v.ownBlock = none ∨ v.ownBlock ≠ row) : OwnS w' base e s v rows := ⟨h.1, World.ownsRow.kept h.2 hg hne⟩
theorem OwnS.lt (h : OwnS w base e s v rows) : ∀ j, v.ownBlock = some j → base ≤ j ∧ j < w.heap.size := World.ownsRow.lt h.2
theorem OwnS.ne (h : OwnS w base e s v rows) {g : Nat} (hg : g < base) : v.ownBlock = none ∨ v.ownBlock ≠ some g := by
  cases hv : v.ownBlock with
  | none => exact .inl rfl
  | some b => exact .inr fun e => by have := (h.lt b hv).1; cases e; omega
theorem OwnS.below (h : OwnS w base e s v rows) (hb : Below w.heap.size w w') : OwnS w' base e s v rows := by
  refine h.kept (row := none) ⟨hb.os, hb.tape, hb.output, hb.size, fun j hj _ => hb.block j hj⟩ ?_
  cases hv : v.ownBlock with
  | none => exact .inl rfl
  | some x => exact .inr (by simp)
theorem OwnS.apart {b2 s2 : Nat} {e2 : TypeId} {v2 : Value} {r2 : List (List Value)} (h1 : OwnS w base e s v rows) (h2 : OwnS w b2 e2 s2 v2 r2) (he : e ≠ e2) : v.ownBlock = none ∨ v.ownBlock ≠ v2.ownBlock := by
  rcases h1.2.2 with ⟨rfl, _⟩ | ⟨g, cap, cur, rfl, _, hg, _⟩
  · exact .inl rfl
  · rcases h2.2.2 with ⟨rfl, _⟩ | ⟨g', cap', cur', rfl, _, hg', _⟩
    · exact .inr (by simp [Value.ownBlock])
    · refine .inr ?_
      simp only [Value.ownBlock, ne_eq, Option.some.injEq]
      intro e
      rw [e, hg'] at hg
      simp at hg
      exact he hg.2.symm
theorem flatS_length : ∀ (rows : List (List Value)), Rows' s rows → rows.flatten.length = rows.length * s
  | [], _ => by simp
  | r :: l, h => by
    rw [List.flatten_cons, List.length_append, flatS_length l (fun x hx => h x (List.mem_cons_of_mem _ hx)), (h r (List.mem_cons_self ..)).1, List.length_cons, Nat.add_mul]
    omega
theorem flatS_get : ∀ (rows : List (List Value)), Rows' s rows → ∀ (i j : Nat) (hi : i < rows.length), j < s → rows.flatten[i * s + j]? = rows[i][j]?
  | [], _, i, _, hi, _ => by simp at hi
  | r :: l, h, i, j, hi, hj => by
    have hr : r.length = s := (h r (List.mem_cons_self ..)).1
    cases i with
    | zero => rw [List.flatten_cons, Nat.zero_mul, Nat.zero_add, List.getElem?_append_left (by omega)]; rfl
    | succ i =>
      rw [List.flatten_cons, List.getElem?_append_right (by rw [hr, Nat.succ_mul]; omega), hr, show (i + 1) * s + j - s = i * s + j by rw [Nat.succ_mul]; omega]
      exact flatS_get l (fun x hx => h x (List.mem_cons_of_mem _ hx)) i j (by simpa using hi) hj
theorem flatS_set : ∀ (rows : List (List Value)) (i : Nat) (a b r : List Value) (u x : Value), Rows' s rows → (hi : i < rows.length) → rows[i] = a ++ x :: b → r = a ++ u :: b → rows.flatten.set (i * s + a.length) u = (rows.set i r).flatten
  | [], i, _, _, _, _, _, _, hi, _, _ => by simp at hi
  | q :: l, i, a, b, r, u, x, h, hi, he, hr => by
    have hq : q.length = s := (h q (List.mem_cons_self ..)).1
    cases i with
    | zero =>
      simp only [List.getElem_cons_zero] at he
      subst he hr
      rw [List.flatten_cons, Nat.zero_mul, Nat.zero_add, List.set_cons_zero, List.flatten_cons, List.set_append_left _ _ (by simp)]
      congr 1
      rw [List.set_append_right _ _ (Nat.le_refl _), Nat.sub_self, List.set_cons_zero]
    | succ i =>
      rw [List.flatten_cons, List.set_cons_succ, List.flatten_cons, List.set_append_right _ _ (by rw [hq, Nat.succ_mul]; omega), hq, show (i + 1) * s + a.length - s = i * s + a.length by rw [Nat.succ_mul]; omega]
      rw [flatS_set l i a b r u x (fun x hx => h x (List.mem_cons_of_mem _ hx)) (by simpa using hi) (by simpa using he) hr]
theorem Rows'.set {r : List Value} (h : Rows' s rows) (i : Nat) (hr : r.length = s) (h1 : ∀ u ∈ r, u.oneCell' = true) : Rows' s (rows.set i r) := fun x hx => by
  rcases List.mem_or_eq_of_mem_set hx with h2 | rfl
  · exact h x h2
  · exact ⟨hr, h1⟩
theorem Rows'.snoc {r : List Value} (h : Rows' s rows) (hr : r.length = s) (h1 : ∀ u ∈ r, u.oneCell' = true) : Rows' s (rows ++ [r]) := fun x hx => by
  rw [List.mem_append, List.mem_singleton] at hx
  rcases hx with h2 | rfl
  · exact h x h2
  · exact ⟨hr, h1⟩
/-- a row as it lies -/
theorem OwnS.row {g n cap : Nat} (h : OwnS w base e s (.slice (some ⟨g, 0, none⟩) n cap) rows) (i : Nat) (hi : i < rows.length) : w.rangeAt g (i * s) rows[i] ∧ w.there g (i * s) s := by
  obtain rfl : n = rows.length := by obtain ⟨a, c, h2⟩ := h.len; simp only [Value.slice.injEq] at h2; exact h2.2.1
  have hr := (h.1 _ (List.getElem_mem hi)).1
  have hb : ∀ j, j < s → i * s + j < rows.length * s := fun j hj => by
    have : i * s + s ≤ rows.length * s := by rw [← Nat.succ_mul]; exact Nat.mul_le_mul_right _ hi
    omega
  have hc : ∀ j, j < s → w.cell? ⟨g, i * s + j, none⟩ = rows[i][j]? := fun j hj => by
    rw [World.ownsRow.cellAt h.2 _ (hb j hj), flatS_get rows h.1 i j hi hj]
  refine ⟨fun j u hj => ?_, fun j hj => ⟨?_, World.ownsRow.frozenAt h.2 _⟩⟩
  · have hjs : j < s := by rw [← hr]; exact (List.getElem?_eq_some_iff.1 hj).1
    rw [hc j hjs, hj]
  · rw [hc j hj, List.getElem?_eq_getElem (by omega)]; rfl
theorem OwnS.setCell {g n cap : Nat} (h : OwnS w base e s (.slice (some ⟨g, 0, none⟩) n cap) rows) (i : Nat) (hi : i < rows.length) (a b : List Value) (x u : Value) (he : rows[i] = a ++ x :: b) (hu : u.oneCell' = true) : OwnS (w.setCell ⟨g, i * s + a.length, none⟩ u) base e s (.slice (some ⟨g, 0, none⟩) n cap) (rows.set i (a ++ u :: b)) := by
  obtain rfl : n = rows.length := by obtain ⟨a, c, h2⟩ := h.len; simp only [Value.slice.injEq] at h2; exact h2.2.1
  have hm := h.1 _ (List.getElem_mem hi)
  have h1 := (World.ownsRow.stored h.2 (i * s + a.length) u).1
  refine ⟨h.1.set i (by rw [← hm.1, he]; simp) fun z hz => ?_, ?_⟩
  · rw [List.mem_append, List.mem_cons] at hz
    rcases hz with hz | rfl | hz
    · exact hm.2 z (by rw [he]; simp [hz])
    · exact hu
    · exact hm.2 z (by rw [he]; simp [hz])
  · rw [List.length_set, ← flatS_set rows i a b _ u x h.1 hi he rfl]
    exact h1
/-- a whole row is stored -/
theorem OwnS.setCells {g n cap : Nat} (i : Nat) : ∀ (r q a : List Value) (w : World) (rows : List (List Value)), OwnS w base e s (.slice (some ⟨g, 0, none⟩) n cap) rows → (hi : i < rows.length) → rows[i] = a ++ q → q.length = r.length → (∀ u ∈ r, u.oneCell' = true) → OwnS (w.setCells g (i * s + a.length) r) base e s (.slice (some ⟨g, 0, none⟩) n cap) (rows.set i (a ++ r))
  | [], q, a, w, rows, h, hi, he, hl, _ => by
    have : q = [] := List.length_eq_zero_iff.1 hl
    subst this
    rw [← he, List.set_getElem_self]
    exact h
  | u :: r, q, a, w, rows, h, hi, he, hl, h1 => by
    cases q with
    | nil => simp at hl
    | cons x q =>
      have h2 := h.setCell i hi a q x u he (h1 u (List.mem_cons_self ..))
      have h3 := OwnS.setCells i r q (a ++ [u]) _ _ h2 (by simpa using hi) (by simp) (by simpa using hl) (fun z hz => h1 z (List.mem_cons_of_mem _ hz))
      rw [List.set_set, List.append_assoc] at h3
      rw [List.length_append] at h3
      exact h3
theorem OwnS.setRow {g n cap : Nat} {r : List Value} (h : OwnS w base e s (.slice (some ⟨g, 0, none⟩) n cap) rows) (i : Nat) (hi : i < rows.length) (hr : r.length = s) (h1 : ∀ u ∈ r, u.oneCell' = true) : OwnS (w.setCells g (i * s) r) base e s (.slice (some ⟨g, 0, none⟩) n cap) (rows.set i r) :=
  OwnS.setCells i r rows[i] [] w rows h hi rfl (by rw [(h.1 _ (List.getElem_mem hi)).1, hr]) h1
theorem setCells_other (g : Nat) : ∀ (r : List Value) (o : Nat) (w : World) (k : Nat), k ≠ g → (w.setCells g o r).heap[k]? = w.heap[k]?
  | [], _, _, _, _ => rfl
  | u :: r, o, w, k, h => (setCells_other g r (o + 1) _ k h).trans (heap_setCell_other w ⟨g, o, none⟩ k u h)
theorem setCells_size (g : Nat) : ∀ (r : List Value) (o : Nat) (w : World), (w.setCells g o r).heap.size = w.heap.size
  | [], _, _ => rfl
  | u :: r, o, w => (setCells_size g r (o + 1) _).trans (by simp)
theorem setCells_grown (g : Nat) : ∀ (r : List Value) (o : Nat) (w : World), w.grownBy (w.setCells g o r) (some g)
  | [], _, w => grownBy_refl w _
  | u :: r, o, w => grownBy_trans (grownBy_setCell w ⟨g, o, none⟩ u) (setCells_grown g r (o + 1) _)
/-- append of a struct to such a list, inside a region that draws; the struct lies in block g -/
theorem step_append_s (st : TypeId) {bytes : Nat} {z : Value} (hu : Try.prog.underlying st = some (.slice e)) (hinfo : (Try.prog.info? e).map (fun i => (i.zero, i.size, i.bytes)) = some (some z, s, bytes)) (hzs : z.cells.size = s) (hsz : 0 < s) (hby : bytes ≤ 200)
    {ops : Array Oper} {o : Oper} {a : Act} {K : Act → World → Prop} {Q : Exit → Act → World → Prop} {E : Prop}
    (hgd : o.guard = none) (sl x : Operand) (hop : o.op = Op.call { callee := Callee.builtin Builtin.append, args := #[sl, x], argTypes := #[st, st] })
    (hs : a.eval sl = v) (hown : OwnS w base e s v rows) (r : List Value) (hr : r.length = s) (hr1 : ∀ u ∈ r, u.oneCell' = true) (g : Nat)
    (hx : a.eval x = .slice (some ⟨g, 0, none⟩) 1 1) (hcell : w.heap[g]? = some (.cells r.toArray e (0, 0))) (hl : rows.length ≤ 1000000) (hb : base ≤ w.heap.size)
    (hK : ∀ v' w', OwnS w' base e s v' (rows ++ [r]) → w.grownBy w' v.ownBlock → (v'.ownBlock = v.ownBlock ∨ v'.ownBlock = some w.heap.size) → K (a.put o.dst v') w') :
    if Region.wanted o (yielded ops a.tmps) = true then Oper.wp Try.prog o a w K Q else E := by
  rw [if_pos (by simp [Region.wanted, hgd])]
  obtain ⟨i0, hi, hz0, hz1, hz2⟩ := info_parts hinfo
  obtain ⟨v', w', hrun, h2, h3, -, h4⟩ := run_append_own_at (P := Try.prog) w base st o.type e i0 z s bytes hu hi hz0 hz1 hz2 hzs hsz v rows.length _ hown.2 ⟨g, 0, none⟩ 1 1 r (by omega) (fun j u hj => by
    have : w.cell? ⟨g, j, none⟩ = r.toArray[j]? := cell_of_row _ _ j _ _ _ hcell
    have e2 : ((⟨g, 0, none⟩ : Addr).add j) = ⟨g, j, none⟩ := by rw [Addr.add_mid, Nat.zero_add]
    rw [e2, this]
    simpa using hj) hr1 (by unfold maxLen; omega) (by have : (rows.length + 1) * bytes ≤ 1000001 * 200 := Nat.mul_le_mul (by omega) hby; omega) hb
  refine Lib.wp_append_run w sl x _ _ hop _ _ hs hx v' w' hrun (hK v' w' ⟨hown.1.snoc hr hr1, ?_⟩ h3 h4)
  rw [List.length_append, List.flatten_append]
  simpa using h2
end
/-- a whole struct is stored in the midst of a block, at a step of a region -/
theorem step_store_mid {ops : Array Oper} {Q : Exit → Act → World → Prop} {o : Oper} {a : Act} {w : World} {K : Act → World → Prop} {E : Prop} (hgd : o.guard = none) (ty : TypeId) (x y : Operand) (ho : o.op = .store ty x y)
    (b off : Nat) (cells : Array Value) (hx : a.eval x = .pointer (some ⟨b, off, none⟩)) (hy : a.eval y = .agg cells) (ht : w.there b off cells.size) (hi : (Try.prog.info? ty).map (·.size) = some cells.size) (h1 : cells.all (·.oneCell') = true)
    (h : K (a.put o.dst undef) (w.setCells b off cells.toList)) : if Region.wanted o (yielded ops a.tmps) = true then Oper.wp Try.prog o a w K Q else E := by
  rw [if_pos (by simp [Region.wanted, hgd])]
  exact wp_store_mid ty x y ho b off cells hx hy ht hi h1 h
/-- the worlds that hold w0's memory but for the blocks of S -/
def OffS (S : List (Option Nat)) (w0 : World) : World → Prop := fun w => w0.heap.size ≤ w.heap.size ∧ ∀ j, j < w0.heap.size → some j ∉ S → w.heap[j]? = w0.heap[j]?
section
variable {S S2 : List (Option Nat)} {w w0 w1 w2 w' : World}
theorem OffS.self (S : List (Option Nat)) (w : World) : OffS S w w := ⟨Nat.le_refl _, fun _ _ _ => rfl⟩
theorem OffS.trans (h : OffS S w0 w1) (h2 : OffS S2 w1 w2) (hs : ∀ j, j < w0.heap.size → some j ∈ S2 → some j ∈ S) : OffS S w0 w2 :=
  ⟨Nat.le_trans h.1 h2.1, fun j hj hn => (h2.2 j (Nat.lt_of_lt_of_le hj h.1) (fun e => hn (hs j hj e))).trans (h.2 j hj hn)⟩
theorem OffS.trans1 (h : OffS S w0 w1) (h2 : OffS S w1 w2) : OffS S w0 w2 := h.trans h2 fun _ _ e => e
theorem OffS.below (h : Below w.heap.size w w') : OffS S w w' := ⟨h.size, fun j hj _ => h.block j hj⟩
theorem OffS.wide (S : List (Option Nat)) (w0 : World) : Wide (OffS S w0) := fun _ _ h hb => h.trans1 (OffS.below hb)
theorem OffS.grown {row : Option Nat} (h : w.grownBy w' row) (hr : row = none ∨ row ∈ S) : OffS S w w' := ⟨h.size, fun j hj hn => h.block j hj (fun e => by
  rcases hr with rfl | hr
  · simp at e
  · exact hn (e ▸ hr))⟩
theorem OffS.nx (h : OffS S w0 w) (hb : Below w.heap.size w w') (hS : ∀ j, some j ∈ S → j < w.heap.size) : ∀ w2, OffS S w' w2 → Nx (OffS S w0) w w' w2 := fun w2 h3 =>
  ⟨h.trans1 ((OffS.below hb).trans1 h3), ⟨h3.1, fun j hj hj2 => h3.2 j hj2 (fun e => by have := hS j e; omega)⟩⟩
end
end Go.Proofs.Ytjnlkemdaffgbaa
/- Appending whole lists, and lists of lists that the call owns. -/
namespace Go.Proofs.Ytjnlkemdaffgbaa
open Go.ChangeShapes Go.WideShapes Go.ChangeAt Go.RowKit
set_option maxRecDepth 100000

/-- an append of nothing leaves the value and the world -/
theorem run_append_zero {w : World} {T ty e : TypeId} {i : TypeInfo} (ht : Try.prog.underlying T = some (.slice e)) (hi : Try.prog.info? e = some i) (A B : Option Addr) (n c c' : Nat) (hn : n ≤ c) :
    (Builtin.append_ #[T, T] ty #[.slice A n c, .slice B 0 c']).run Try.prog w = .ok (.slice A n c) w := by
  cases A <;> cases B <;> simp [Builtin.append_, run_underlying ht, sizeOf, typeInfo, hi, Builtin.lenOf, Builtin.firstCells, storeCells, loadCells, loadCellsFrom, Result.andThen, hn]
theorem run_app_i64 (w : World) (ty : TypeId) (base : Nat) (v : Value) (l : List Int) (hown : OwnI w base 3 .i64 v l) (xv : Value) (l2 : List Int) (hS : SlI w .i64 xv l2)
    (hl : l.length ≤ 1000000) (hl2 : l2.length ≤ 1000000) (hb : base ≤ w.heap.size) :
    ∃ v' w', (Builtin.append_ #[33, 33] ty #[v, xv]).run Try.prog w = .ok v' w' ∧ OwnI w' base 3 .i64 v' (l ++ l2) ∧ w.grownBy w' v.ownBlock := by
  obtain ⟨i0, hi, hz0, hz1, hz2⟩ := info_parts Try.info_i64
  by_cases hne : l2 = []
  · subst hne
    obtain ⟨B, c', rfl, -⟩ := hS.len
    have e : ∃ A c, v = .slice A l.length c ∧ l.length ≤ c := by
      rcases hown.shape with ⟨rfl, rfl⟩ | ⟨g, cap, rfl, _, _, h, _⟩
      · exact ⟨_, _, rfl, Nat.le_refl _⟩
      · exact ⟨_, _, rfl, h⟩
    obtain ⟨A, c, rfl, hc⟩ := e
    refine ⟨_, w, run_append_zero (by kernel_rfl) hi A B l.length c c' hc, by simpa using hown, grownBy_refl _ _⟩
  · obtain ⟨b, off, cap, rfl, hcap, hbk, hc⟩ := hS.open hne
    obtain ⟨v', w', hr, h2, h3, -⟩ := run_append_own (P := Try.prog) w base 33 ty 3 i0 (.int .i64 0) 1 _ (by kernel_rfl) hi hz0 hz1 rfl rfl (by decide) v l.length _ hown ⟨b, off, none⟩ l2.length cap (l2.map (Value.int .i64)) (by simp) (by
      intro j u hj
      rw [add_plain]
      simp only [List.getElem?_map, Option.map_eq_some_iff] at hj
      obtain ⟨y, hy, rfl⟩ := hj
      have hjl : j < l2.length := (List.getElem?_eq_some_iff.1 hy).1
      rw [hc j hjl, List.getD_eq_getElem?_getD, hy]; rfl) (by intro u hu; simp only [List.mem_map] at hu; obtain ⟨y, _, rfl⟩ := hu; rfl) (by unfold maxLen; omega) (by rw [hz2]; omega) hb
    refine ⟨v', w', hr, ?_, h3⟩
    unfold OwnI
    rw [List.length_append, List.map_append]
    exact h2
/-- append of a list that reads, to a list that the call owns -/
theorem wp_app_i64 (w : World) {ops : Array Oper} {rest : List Oper} {o : Oper} {a : Act} {Q : Exit → Act → World → Prop}
    (hg : o.guard = none) (s x : Operand) (hop : o.op = Op.call { callee := Callee.builtin Builtin.append, args := #[s, x], argTypes := #[33, 33] })
    (base : Nat) (v : Value) (l : List Int) (hs : a.eval s = v) (hown : OwnI w base 3 .i64 v l) (xv : Value) (l2 : List Int) (hx : a.eval x = xv) (hS : SlI w .i64 xv l2)
    (hl : l.length ≤ 1000000) (hl2 : l2.length ≤ 1000000) (hb : base ≤ w.heap.size)
    (hK : ∀ v' w', OwnI w' base 3 .i64 v' (l ++ l2) → w.grownBy w' v.ownBlock → wpList Try.prog ops Q rest (a.put o.dst v') w') :
    wpList Try.prog ops Q (o :: rest) a w := by
  obtain ⟨v', w', hr, h1, h2⟩ := run_app_i64 w o.type base v l hown xv l2 hS hl hl2 hb
  exact Lib.wpList_append_run w hg s x _ _ hop _ _ hs hx v' w' hr (hK v' w' h1 h2)
/-- the same inside a region that draws its order -/
theorem step_app_i64 {w : World} {ops : Array Oper} {o : Oper} {a : Act} {K : Act → World → Prop} {Q : Exit → Act → World → Prop} {E : Prop}
    (hgd : o.guard = none) (s x : Operand) (hop : o.op = Op.call { callee := Callee.builtin Builtin.append, args := #[s, x], argTypes := #[33, 33] })
    (base : Nat) (v : Value) (l : List Int) (hs : a.eval s = v) (hown : OwnI w base 3 .i64 v l) (xv : Value) (l2 : List Int) (hx : a.eval x = xv) (hS : SlI w .i64 xv l2)
    (hl : l.length ≤ 1000000) (hl2 : l2.length ≤ 1000000) (hb : base ≤ w.heap.size)
    (hK : ∀ v' w', OwnI w' base 3 .i64 v' (l ++ l2) → w.grownBy w' v.ownBlock → K (a.put o.dst v') w') :
    if Region.wanted o (yielded ops a.tmps) = true then Oper.wp Try.prog o a w K Q else E := by
  have hw : Region.wanted o (yielded ops a.tmps) = true := by simp [Region.wanted, hgd]
  rw [if_pos hw]
  obtain ⟨v', w', hr, h1, h2⟩ := run_app_i64 w o.type base v l hown xv l2 hS hl hl2 hb
  exact Lib.wp_append_run w s x _ _ hop _ _ hs hx v' w' hr (hK v' w' h1 h2)
/-- a copy of a list of words -/
theorem run_copy_u64 (w : World) (ty : TypeId) (B : Nat) (hB : B ≤ w.heap.size) (s : Value) (hs : w.ownsRow B 27 1 s 0 []) (xv : Value) (l : List Int) (hS : SlI w .u64 xv l) (hl : l.length ≤ 1000000) :
    ∃ v' w', (Builtin.append_ #[34, 34] ty #[s, xv]).run Try.prog w = .ok v' w' ∧ OwnI w' B 27 .u64 v' l ∧ w.grownBy w' s.ownBlock := by
  obtain ⟨i0, hi, hz0, hz1, hz2⟩ := info_parts Try.info_u64
  by_cases hne : l = []
  · subst hne
    obtain ⟨B, c', rfl, -⟩ := hS.len
    have e : ∃ A c, s = .slice A 0 c ∧ 0 ≤ c := by
      rcases hs.2 with ⟨rfl, _⟩ | ⟨g, cap, cur, rfl, _⟩
      · exact ⟨_, _, rfl, Nat.le_refl _⟩
      · exact ⟨_, _, rfl, Nat.zero_le _⟩
    obtain ⟨A, c, rfl, hc⟩ := e
    exact ⟨_, w, run_append_zero (by kernel_rfl) hi A B 0 c c' hc, hs, grownBy_refl _ _⟩
  · obtain ⟨b, off, cap, rfl, hcap, hbk, hc⟩ := hS.open hne
    obtain ⟨v', w', hr, h2, h3, -⟩ := run_append_own (P := Try.prog) w B 34 ty 27 i0 (.int .u64 0) 1 _ (by kernel_rfl) hi hz0 hz1 rfl rfl (by decide) s 0 _ hs ⟨b, off, none⟩ l.length cap (l.map (Value.int .u64)) (by simp) (by
      intro j u hj
      rw [add_plain]
      simp only [List.getElem?_map, Option.map_eq_some_iff] at hj
      obtain ⟨y, hy, rfl⟩ := hj
      have hjl : j < l.length := (List.getElem?_eq_some_iff.1 hy).1
      rw [hc j hjl, List.getD_eq_getElem?_getD, hy]; rfl) (by intro u hu; simp only [List.mem_map] at hu; obtain ⟨y, _, rfl⟩ := hu; rfl) (by unfold maxLen; omega) (by rw [hz2]; omega) hB
    refine ⟨v', w', hr, ?_, h3⟩
    unfold OwnI
    simpa using h2
theorem Try.info_li : (Try.prog.info? 33).map (fun i => (i.zero, i.size, i.bytes)) = some (some (.slice none 0 0), 1, 24) := by kernel_rfl
theorem SlI.one {w : World} {k : IntKind} {v : Value} {l : List Int} (h : SlI w k v l) : v.oneCell' = true := by
  obtain ⟨_, _, a, cap, rfl, _⟩ := h; rfl
/-- an owned row of lists reads -/
theorem row_read {w : World} {base : Nat} {v : Value} {us : List Value} {ll : List (List Int)} (h : w.ownsRow base 33 1 v ll.length us) (he : ∀ t, t < ll.length → SlI w .i64 (us.getD t (.slice none 0 0)) (ll.getD t [])) (hl : ll.length ≤ 140737488351232) : SlL w v us ll := by
  have hus : us.length = ll.length := by have := h.1; omega
  refine ⟨hl, hus, ?_⟩
  have h0 := h
  rcases h.2 with ⟨rfl, h2⟩ | ⟨g, cap, cur, rfl, h3, h4, h5, h6, h7, h8⟩
  · exact ⟨none, 0, by rw [h2], by omega, fun t ht => by omega⟩
  · refine ⟨some ⟨g, 0, none⟩, cap, rfl, h5, fun t ht => ⟨g, 0, rfl, (Array.getElem?_eq_some_iff.1 h4).1, ?_, he t ht⟩⟩
    rw [Nat.zero_add, World.ownsRow.cellAt h0 t (by omega)]
    simp [List.getD_eq_getElem?_getD, show t < us.length by omega]
theorem each_set {w : World} {us : List Value} {ll : List (List Int)} (hus : us.length = ll.length) (i : Nat) {u : Value} {l : List Int} (hu : SlI w .i64 u l) (hk : ∀ t, t < ll.length → SlI w .i64 (us.getD t (.slice none 0 0)) (ll.getD t [])) :
    ∀ t, t < (ll.set i l).length → SlI w .i64 ((us.set i u).getD t (.slice none 0 0)) ((ll.set i l).getD t []) := by
  intro t ht
  have ht' : t < ll.length := by simpa using ht
  rw [getD_setL, getD_setL]
  by_cases e : i = t
  · simpa [e, hus, ht'] using hu
  · simpa [e] using hk t ht'
theorem SlL.each {w : World} {v : Value} {us : List Value} {ll : List (List Int)} (h : SlL w v us ll) : ∀ t, t < ll.length → SlI w .i64 (us.getD t (.slice none 0 0)) (ll.getD t []) := by
  obtain ⟨_, _, _, _, _, _, h5⟩ := h
  intro t ht
  obtain ⟨_, _, _, _, _, h⟩ := h5 t ht
  exact h
/-- a copy of a list of lists: the row is new, the lists are the same -/
theorem run_copy_li (w : World) (ty : TypeId) (B : Nat) (hB : B ≤ w.heap.size) (s : Value) (hs : w.ownsRow B 33 1 s 0 []) (xv : Value) (us : List Value) (ll : List (List Int)) (hS : SlL w xv us ll) (hl : ll.length ≤ 1000000) :
    ∃ v' w', (Builtin.append_ #[37, 37] ty #[s, xv]).run Try.prog w = .ok v' w' ∧ w'.ownsRow B 33 1 v' ll.length us ∧ w.grownBy w' s.ownBlock := by
  obtain ⟨i0, hi, hz0, hz1, hz2⟩ := info_parts Try.info_li
  have hus := hS.2.1
  by_cases hne : ll = []
  · subst hne
    obtain rfl : us = [] := List.length_eq_zero_iff.1 hus
    obtain ⟨C, c', rfl, -⟩ := hS.len
    have e : ∃ A c, s = .slice A 0 c ∧ 0 ≤ c := by
      rcases hs.2 with ⟨rfl, _⟩ | ⟨g, cap, cur, rfl, _⟩
      · exact ⟨_, _, rfl, Nat.le_refl _⟩
      · exact ⟨_, _, rfl, Nat.zero_le _⟩
    obtain ⟨A, c, rfl, hc⟩ := e
    exact ⟨_, w, run_append_zero (by kernel_rfl) hi A C 0 c c' hc, hs, grownBy_refl _ _⟩
  · obtain ⟨b, off, cap, rfl, hcap, hbk, hc, hu⟩ := hS.open hne
    obtain ⟨v', w', hr, h2, h3, -⟩ := run_append_own (P := Try.prog) w B 37 ty 33 i0 (.slice none 0 0) 1 _ (by kernel_rfl) hi hz0 hz1 rfl rfl (by decide) s 0 _ hs ⟨b, off, none⟩ ll.length cap us (by omega) (by
      intro j u hj
      rw [add_plain]
      have hjl : j < us.length := (List.getElem?_eq_some_iff.1 hj).1
      rw [hc j (by omega), List.getD_eq_getElem?_getD, hj]; rfl) (by
      intro u hu'
      obtain ⟨j, hj, rfl⟩ := List.mem_iff_getElem.1 hu'
      have := (hu j (by omega)).one
      simpa [List.getD_eq_getElem?_getD, hj] using this) (by unfold maxLen; omega) (by rw [hz2]; omega) hB
    refine ⟨v', w', hr, by simpa using h2, h3⟩
end Go.Proofs.Ytjnlkemdaffgbaa
/- The library's small functions on slices: Clone, Grow of nil, Concat, Index. -/
namespace Go.Proofs.Ytjnlkemdaffgbaa
open Go.ChangeShapes Go.WideShapes Go.ChangeAt Go.RowKit
set_option maxRecDepth 100000

theorem SlI.nil_of {w : World} {k : IntKind} {n c : Nat} {l : List Int} (h : SlI w k (.slice none n c) l) : l = [] := by
  obtain ⟨_, _, a', cap', e, _, h5⟩ := h
  simp only [Value.slice.injEq] at e
  rcases Nat.eq_zero_or_pos l.length with h0 | h0
  · exact List.length_eq_zero_iff.1 h0
  · obtain ⟨b, off, e2, _⟩ := h5 0 h0
    rw [← e.1] at e2; cases e2
theorem SlL.nil_of {w : World} {n c : Nat} {us : List Value} {l : List (List Int)} (h : SlL w (.slice none n c) us l) : l = [] := by
  obtain ⟨_, _, a', cap', e, _, h5⟩ := h
  simp only [Value.slice.injEq] at e
  rcases Nat.eq_zero_or_pos l.length with h0 | h0
  · exact List.length_eq_zero_iff.1 h0
  · obtain ⟨b, off, e2, _⟩ := h5 0 h0
    rw [← e.1] at e2; cases e2
/-- x first lies at i -/
structure FstL (l : List Int) (x : Int) (i : Nat) : Prop where
  lt : i < l.length
  hit : l.getD i 0 = x
  miss : ∀ j, j < i → l.getD j 0 ≠ x
theorem erase_none (l : List Int) (x : Int) (h : ∀ j, j < l.length → l.getD j 0 ≠ x) : l.erase x = l := by
  refine List.erase_of_not_mem fun hm => ?_
  obtain ⟨j, hj, e⟩ := List.mem_iff_getElem.1 hm
  exact h j hj (by simpa [List.getD_eq_getElem?_getD, hj] using e)
theorem FstL.erase {l : List Int} {x : Int} {i : Nat} (h : FstL l x i) : l.erase x = l.take i ++ l.drop (i + 1) := by
  induction l generalizing i with
  | nil => exact absurd h.lt (by simp)
  | cons y l ih =>
    cases i with
    | zero =>
      have e : y = x := by simpa using h.hit
      subst e
      simp
    | succ i =>
      have e : y ≠ x := by simpa using h.miss 0 (Nat.succ_pos _)
      have hi : FstL l x i := ⟨by simpa using h.lt, by simpa using h.hit, fun j hj => by simpa using h.miss (j + 1) (by omega)⟩
      rw [List.erase_cons_tail (by simpa using e), ih hi]
      simp
end Go.Proofs.Ytjnlkemdaffgbaa
/- What the program makes of a memory: words, lists, time. -/
namespace Go.Proofs.Ytjnlkemdaffgbaa
open Go.ChangeShapes Go.WideShapes Go.ChangeAt Go.RowKit
set_option maxRecDepth 100000

theorem rword_any (v : Value) (m : MemM) (x : Int) (w : World) (h : MemV w v m) :
    Calls Try.prog 75 #[v, .int .i64 x] w fun e w' => e = .returned (.bool (hasB m.words.length x)) ∧ Below w.heap.size w w' := by
  obtain ⟨vw, vl, us, rfl, h1, h2⟩ := h
  have hl := h1.1
  have hl2 := h2.1
  obtain ⟨a, cap, rfl, -⟩ := h1.len
  obtain ⟨a2, cap2, rfl, -⟩ := h2.len
  clear h1 h2
  generalize m.words.length = n at *
  generalize m.lists.length = n2 at *
  by_cases h0 : 0 ≤ x
  · have hd : decide (0 ≤ x) = true := by simpa using h0
    go_enter Try.func75, Try.ntmps75
    go_wp2
    go_ret
    exact ⟨ret_bool (by simp [hasB, h0]), below_new (Below.refl _ _) _⟩
  · have hd : decide (0 ≤ x) = false := by simpa using h0
    go_enter Try.func75, Try.ntmps75
    go_wp2
    go_ret
    exact ⟨ret_bool (by simp only [hasB, hd, Bool.false_and]), below_new (Below.refl _ _) _⟩
theorem rlist_any (v : Value) (m : MemM) (x : Int) (w : World) (h : MemV w v m) :
    Calls Try.prog 72 #[v, .int .i64 x] w fun e w' => e = .returned (.bool (hasB m.lists.length x)) ∧ Below w.heap.size w w' := by
  obtain ⟨vw, vl, us, rfl, h1, h2⟩ := h
  have hl := h1.1
  have hl2 := h2.1
  obtain ⟨a, cap, rfl, -⟩ := h1.len
  obtain ⟨a2, cap2, rfl, -⟩ := h2.len
  clear h1 h2
  generalize m.words.length = n at *
  generalize m.lists.length = n2 at *
  by_cases h0 : 0 ≤ x
  · have hd : decide (0 ≤ x) = true := by simpa using h0
    go_enter Try.func72, Try.ntmps72
    go_wp2
    go_ret
    exact ⟨ret_bool (by simp [hasB, h0]), below_new (Below.refl _ _) _⟩
  · have hd : decide (0 ≤ x) = false := by simpa using h0
    go_enter Try.func72, Try.ntmps72
    go_wp2
    go_ret
    exact ⟨ret_bool (by simp only [hasB, hd, Bool.false_and]), below_new (Below.refl _ _) _⟩
def zeroMem : Array Value := #[.slice none 0 0, .slice none 0 0, .int .i64 0]
set_option maxHeartbeats 1000000 in
theorem rset_any (G : World → Prop) (v : Value) (m : MemM) (i : Nat) (u : Int) (w : World) (hG : G w) (hcl : Wide G) (h : StM G v m) (hi : i < m.words.length) (hm : m.fits) (hu : u = IntKind.u64.wrap u) :
    Calls Try.prog 76 #[v, .int .i64 i, .int .u64 u] w fun e w' => ∃ v', e = .returned v' ∧ StM (Nx G w w') v' ⟨m.words.set i u, m.lists, m.tick⟩ ∧ Below w.heap.size w w' := by
  obtain ⟨vw, vl, us, rfl, hall⟩ := h
  obtain ⟨h1, h2⟩ := hall w hG
  have HW0 := Lib.hid h1
  have hw1 := hm.words
  obtain ⟨a, cap, rfl, -⟩ := h1.len
  obtain ⟨a2, cap2, rfl, -⟩ := h2.len
  have HM := Lib.hid hm
  have HU := Lib.hid hu
  have HALL := Lib.hid hall
  clear h1 h2 hm hu hall hG hcl
  obtain ⟨W, hW⟩ : ∃ W, (w.alloc (.cells #[.slice a m.words.length cap, .slice a2 m.lists.length cap2, .int .i64 m.tick] 39)).alloc (.cells zeroMem 39) = W := ⟨_, rfl⟩
  have HB : Hid (Below w.heap.size w W) := hW ▸ below_new (below_new (Below.refl w.heap.size w) _) _
  have hz : w.heap.size + 2 ≤ W.heap.size := by rw [← hW]; simp
  have R0 : Hid (W.heap[w.heap.size]? = some (.cells #[.slice a m.words.length cap, .slice a2 m.lists.length cap2, .int .i64 m.tick] 39 (0, 0))) := hW ▸ heap_alloc2_old _ _ _
  have R1 : Hid (W.heap[w.heap.size + 1]? = some (.cells zeroMem 39 (0, 0))) := hW ▸ heap_alloc2_new _ _ _
  have HW := Lib.hid hW
  clear hW
  have c0 := cell_of_row _ _ 0 _ _ _ R0.out
  simp at c0
  go_enter Try.func76, Try.ntmps76
  go_upto_region 1 with fail
  rw [show (#[.slice none 0 0, .slice none 0 0, .int .i64 0] : Array Value) = zeroMem from rfl, HW.out]
  obtain ⟨v1, w1, hr, ho, hg1⟩ := run_copy_u64 W 34 W.heap.size (Nat.le_refl _) (.slice none 0 0) (World.ownsRow_nil _ _ _ _) _ m.words (HW0.out.below HB.out) (by omega)
  have hb1 : Below W.heap.size W w1 := (Below.refl _ _).grown hg1 (Nat.le_refl _) (fun j hj => by cases hj)
  clear hg1
  obtain ⟨g, cg, e1⟩ : ∃ g c, v1 = .slice (some ⟨g, 0, none⟩) m.words.length c := by
    rcases ho.shape with ⟨_, h⟩ | ⟨g, c, h, _⟩
    · rw [h] at hi; simp at hi
    · exact ⟨g, c, h⟩
  subst e1
  have hgW : W.heap.size ≤ g := ho.own_ge g rfl
  have HO := Lib.hid ho
  have S0 := Lib.hid ((hb1.block w.heap.size (by omega)).trans R0.out)
  have S1 := Lib.hid ((hb1.block (w.heap.size + 1) (by omega)).trans R1.out)
  have HB1 := Lib.hid (HB.out.trans (hb1.mono (by omega)))
  have hz1 : w.heap.size + 2 ≤ w1.heap.size := Nat.le_trans hz hb1.size
  clear ho hb1
  generalize hn : m.words.length = n at *
  have HN := Lib.hid hn
  clear hn
  obtain ⟨d0, d1, d2⟩ := rowc3 S0.out
  have f0 := frozen_of_row _ _ 0 _ _ S0.out
  have T0 := Lib.hid (heap_setCell_same w1 w.heap.size 0 _ _ (.slice (some ⟨g, 0, none⟩) n cg) S0.out)
  simp at T0
  obtain ⟨t0, t1, t2⟩ := rowc3 T0.out
  have HO2 := Lib.hid (HO.out.setOther ⟨w.heap.size, 0, none⟩ (by show g ≠ w.heap.size; omega) (.slice (some ⟨g, 0, none⟩) n cg))
  obtain ⟨k0, k1⟩ := HO2.out.cell i (by rw [HN.out]; exact hi)
  have HO3 := Lib.hid (HO2.out.store i u HN.out.symm)
  have TROW := Lib.hid ((heap_setCell_other (w1.setCell ⟨w.heap.size, 0, none⟩ (.slice (some ⟨g, 0, none⟩) n cg)) ⟨g, i, none⟩ (w.heap.size + 1) (.int .u64 u) (by show w.heap.size + 1 ≠ g; omega)).trans ((heap_setCell_other w1 ⟨w.heap.size, 0, none⟩ (w.heap.size + 1) (.slice (some ⟨g, 0, none⟩) n cg) (by simp)).trans S1.out))
  go_wp2_with (first | (at_builtin; refine Lib.wpList_append_run _ rfl _ _ _ _ rfl _ _ rfl rfl _ _ hr ?_) | (refine wpList_store_row rfl 39 _ _ rfl (w.heap.size + 1) _ rfl rfl 39 zeroMem TROW.out (by kernel_rfl) rfl (by simp [Value.oneCell']) ?_))
  refine bodyPost_ret (v := .agg #[.slice (some ⟨g, 0, none⟩) n cg, .slice a2 m.lists.length cap2, .int .i64 m.tick]) (results_cell_row Try.results76 _ _ (w.heap.size + 1) 39 _ (0, 0) _ rfl (setRow_heap _ _ _ _ 39 (0, 0) TROW.out) Try.underlying39 rfl (by kernel_rfl)) rfl ?_
  have hbe := row_below (((HB1.out.setCell (p := ⟨w.heap.size, 0, none⟩) (Nat.le_refl _) (.slice (some ⟨g, 0, none⟩) n cg)).setCell (p := ⟨g, i, none⟩) (by show w.heap.size ≤ g; omega) (.int .u64 u))) (Nat.le_succ _) #[.slice (some ⟨g, 0, none⟩) n cg, .slice a2 m.lists.length cap2, .int .i64 m.tick]
  have hfi := fits_put HM.out i u HU.out
  refine ⟨_, rfl, ⟨_, _, us, rfl, fun w2 hw2 => ⟨((HO3.out.kept (row_grown _ _ _) (HO3.out.ne (by omega))).newPart (by omega) hw2.2).read ?_ hfi.wf, (HALL.out w2 hw2.1).2⟩⟩, hbe⟩
  have := hfi.words
  simp only at this ⊢
  omega
set_option maxHeartbeats 1000000 in
theorem rput_any (G : World → Prop) (v : Value) (m : MemM) (i : Nat) (u : Value) (l : List Int) (w : World) (hG : G w) (hcl : Wide G) (h : StM G v m) (hi : i < m.lists.length) (hm : m.fits) (hu : StI G .i64 u l) :
    Calls Try.prog 74 #[v, .int .i64 i, u] w fun e w' => ∃ v', e = .returned v' ∧ StM (Nx G w w') v' ⟨m.words, m.lists.set i l, m.tick⟩ ∧ Below w.heap.size w w' := by
  obtain ⟨vw, vl, us, rfl, hall⟩ := h
  obtain ⟨h1, h2⟩ := hall w hG
  have hu0 := hu w hG
  have hus := h2.2.1
  have HL := Lib.hid h2
  have hw1 := hm.lists
  obtain ⟨a, cap, rfl, -⟩ := h1.len
  obtain ⟨a2, cap2, rfl, -⟩ := h2.len
  obtain ⟨ua, uc, rfl, -⟩ := hu0.len
  have HALL := Lib.hid hall
  have HU := Lib.hid hu
  clear h1 h2 hm hu0 hall hG hcl hu
  obtain ⟨W, hW⟩ : ∃ W, (w.alloc (.cells #[.slice a m.words.length cap, .slice a2 m.lists.length cap2, .int .i64 m.tick] 39)).alloc (.cells zeroMem 39) = W := ⟨_, rfl⟩
  have HB : Hid (Below w.heap.size w W) := hW ▸ below_new (below_new (Below.refl w.heap.size w) _) _
  have hz : w.heap.size + 2 ≤ W.heap.size := by rw [← hW]; simp
  have R0 : Hid (W.heap[w.heap.size]? = some (.cells #[.slice a m.words.length cap, .slice a2 m.lists.length cap2, .int .i64 m.tick] 39 (0, 0))) := hW ▸ heap_alloc2_old _ _ _
  have R1 : Hid (W.heap[w.heap.size + 1]? = some (.cells zeroMem 39 (0, 0))) := hW ▸ heap_alloc2_new _ _ _
  have HW := Lib.hid hW
  clear hW
  have c1 := cell_of_row _ _ 1 _ _ _ R0.out
  simp at c1
  go_enter Try.func74, Try.ntmps74
  go_upto_region 1 with fail
  rw [show (#[.slice none 0 0, .slice none 0 0, .int .i64 0] : Array Value) = zeroMem from rfl, HW.out]
  obtain ⟨v1, w1, hr, ho, hg1⟩ := run_copy_li W 37 W.heap.size (Nat.le_refl _) (.slice none 0 0) (World.ownsRow_nil _ _ _ _) _ us m.lists (HL.out.below HB.out) (by omega)
  have hb1 : Below W.heap.size W w1 := (Below.refl _ _).grown hg1 (Nat.le_refl _) (fun j hj => by cases hj)
  clear hg1
  obtain ⟨g, cg, e1, hgW, hg1⟩ : ∃ g c, v1 = .slice (some ⟨g, 0, none⟩) m.lists.length c ∧ W.heap.size ≤ g ∧ g < w1.heap.size := by
    rcases ho.2 with ⟨_, h⟩ | ⟨g, c, cur, h, h2, h3, _⟩
    · omega
    · exact ⟨g, c, h, h2, (Array.getElem?_eq_some_iff.1 h3).1⟩
  subst e1
  have HO := Lib.hid ho
  have S0 := Lib.hid ((hb1.block w.heap.size (by omega)).trans R0.out)
  have S1 := Lib.hid ((hb1.block (w.heap.size + 1) (by omega)).trans R1.out)
  have HB1 := Lib.hid (HB.out.trans (hb1.mono (by omega)))
  have hz1 : w.heap.size + 2 ≤ w1.heap.size := Nat.le_trans hz hb1.size
  clear ho hb1
  generalize hn : m.lists.length = n at *
  have HN := Lib.hid hn
  clear hn
  obtain ⟨d0, d1, d2⟩ := rowc3 S0.out
  have f1 := frozen_of_row _ _ 1 _ _ S0.out
  have T0 := Lib.hid (heap_setCell_same w1 w.heap.size 1 _ _ (.slice (some ⟨g, 0, none⟩) n cg) S0.out)
  simp at T0
  obtain ⟨t0, t1, t2⟩ := rowc3 T0.out
  have hne : g ≠ w.heap.size := by omega
  have gr1 := grownBy_setCell w1 ⟨w.heap.size, 1, none⟩ (.slice (some ⟨g, 0, none⟩) n cg)
  have hrow2 := HO.out.kept gr1 (.inr (by simpa [Value.ownBlock] using hne))
  have k0 : (w1.setCell ⟨w.heap.size, 1, none⟩ (.slice (some ⟨g, 0, none⟩) n cg)).cell? ⟨g, i, none⟩ = some (us.getD i (.slice none 0 0)) := by
    rw [World.ownsRow.cellAt hrow2 i (by omega)]
    simp [List.getD_eq_getElem?_getD, show i < us.length by omega]
  have k1 := hrow2.frozenAt i
  have HR2 := Lib.hid hrow2
  obtain ⟨uo, huo⟩ : ∃ uo, us.getD i (.slice none 0 0) = uo := ⟨_, rfl⟩
  rw [huo] at k0
  clear hrow2 gr1 huo
  have TROW := Lib.hid ((heap_setCell_other (w1.setCell ⟨w.heap.size, 1, none⟩ (.slice (some ⟨g, 0, none⟩) n cg)) ⟨g, i, none⟩ (w.heap.size + 1) (.slice ua l.length uc) (by show w.heap.size + 1 ≠ g; omega)).trans ((heap_setCell_other w1 ⟨w.heap.size, 1, none⟩ (w.heap.size + 1) (.slice (some ⟨g, 0, none⟩) n cg) (by simp)).trans S1.out))
  go_wp2_with (first | (at_builtin; refine Lib.wpList_append_run _ rfl _ _ _ _ rfl _ _ rfl rfl _ _ hr ?_) | (refine wpList_store_row rfl 39 _ _ rfl (w.heap.size + 1) _ rfl rfl 39 zeroMem TROW.out (by kernel_rfl) rfl (by simp [Value.oneCell']) ?_))
  refine bodyPost_ret (v := .agg #[.slice a m.words.length cap, .slice (some ⟨g, 0, none⟩) n cg, .int .i64 m.tick]) (results_cell_row Try.results74 _ _ (w.heap.size + 1) 39 _ (0, 0) _ rfl (setRow_heap _ _ _ _ 39 (0, 0) TROW.out) Try.underlying39 rfl (by kernel_rfl)) rfl ?_
  have hb2 := ((HB1.out.setCell (p := ⟨w.heap.size, 1, none⟩) (Nat.le_refl _) (.slice (some ⟨g, 0, none⟩) n cg)).setCell (p := ⟨g, i, none⟩) (by show w.heap.size ≤ g; omega) (.slice ua l.length uc))
  have hbe := row_below hb2 (Nat.le_succ _) #[.slice a m.words.length cap, .slice (some ⟨g, 0, none⟩) n cg, .int .i64 m.tick]
  have r3 := (World.ownsRow.stored HR2.out i (.slice ua l.length uc)).1.kept (row_grown _ (w.heap.size + 1) #[.slice a m.words.length cap, .slice (some ⟨g, 0, none⟩) n cg, .int .i64 m.tick]) (.inr (by simp [Value.ownBlock]; omega))
  refine ⟨_, rfl, ⟨_, _, us.set i (.slice ua l.length uc), rfl, fun w2 hw2 => ⟨(HALL.out w2 hw2.1).1, ?_⟩⟩, hbe⟩
  refine row_read (base := W.heap.size) ?_ (each_set (by rw [hus, HN.out]) i (HU.out w2 hw2.1) (HALL.out w2 hw2.1).2.each) (by rw [List.length_set, HN.out]; omega)
  rw [List.length_set, HN.out]
  exact row_newPart r3 (by omega) hw2.2
end Go.Proofs.Ytjnlkemdaffgbaa
