/- The records that a reader of choices gives. -/
import Derived.Test.YtipjfcjdefdoeaaItems
import Derived.Test.YtipjfcjdefdoeaaDrawE
import Derived.Test.YtipjfcjdefdoeaaMmA
import Derived.Test.YtipjfcjdefdoeaaOff
import Derived.Deep.LoopGhost
import Derived.Deep.DeepCutAuto
import Derived.Deep.CutBlock
namespace Go.Proofs.Ytipjfcjdefdoeaa
open Go.ChangeShapes Go.WideShapes Go.ChangeAt Go.RowKit
set_option maxRecDepth 100000

theorem leftE (g : Nat) (w : World) (h : CodesE w g) :
    Calls Try.prog 39 #[.pointer (some ⟨g, 0, none⟩)] w fun e w' => ∃ b, e = .returned (.bool b) ∧ Below w.heap.size w w' := by
  obtain ⟨r, val, h⟩ := h
  refine (left_any g r val w h).mono ?_
  rintro e w' ⟨n, rfl, rfl⟩
  exact ⟨_, rfl, below_drewN (Below.refl _ _) n⟩
def zeroItem : Array Value := #[.int .i64 0, .int .i64 0, .int .i64 0, .int .u64 0, .int .u64 0, .int .i64 0, .int .u64 0, .bool false]
theorem rowsT_apart {w : World} {b1 b2 n1 n2 s1 s2 : Nat} {e1 e2 : TypeId} {v1 v2 : Value} {l1 l2 : List Value} (h1 : w.ownsRow b1 e1 s1 v1 n1 l1) (h2 : w.ownsRow b2 e2 s2 v2 n2 l2) (he : e1 ≠ e2) : v1.ownBlock = none ∨ v1.ownBlock ≠ v2.ownBlock := by
  rcases h1.2 with ⟨rfl, _⟩ | ⟨g, cap, cur, rfl, _, hg, _⟩
  · exact .inl rfl
  · rcases h2.2 with ⟨rfl, _⟩ | ⟨g', cap', cur', rfl, _, hg', _⟩
    · exact .inr (by simp [Value.ownBlock])
    · refine .inr ?_
      simp only [Value.ownBlock, ne_eq, Option.some.injEq]
      intro e
      rw [e, hg'] at hg
      simp at hg
      exact he hg.2.symm
/-- while records are drawn: the reader in block g, the words in block X, the list v of the call's own -/
structure ItInv (w0 wr : World) (g X : Nat) (v : Value) (l : List ItemM) (th : Int) : Prop where
  lt : g < w0.heap.size
  xw : w0.heap.size ≤ X
  codes : CodesE wr g
  grown : w0.grownBy wr (some g)
  words : ∃ ws, OwnI wr X 32 .u64 (.slice (some ⟨X, 0, none⟩) 4 4) ws ∧ ws.length = 4 ∧ ∀ x ∈ ws, x = IntKind.u64.wrap x
  out : OwnT wr w0.heap.size v l
  good : ∀ x ∈ l, x.good ∧ 0 ≤ x.thr ∧ x.thr < th
theorem ItInv.apart {w0 wr : World} {g X : Nat} {v : Value} {l : List ItemM} {th : Int} (h : ItInv w0 wr g X v l th) : v.ownBlock = none ∨ v.ownBlock ≠ some X := by
  obtain ⟨ws, h1, -, -⟩ := h.words
  exact rowsT_apart h.out h1 (by decide)
theorem ItInv.xlt {w0 wr : World} {g X : Nat} {v : Value} {l : List ItemM} {th : Int} (h : ItInv w0 wr g X v l th) : X < wr.heap.size := by
  obtain ⟨ws, h1, h2, -⟩ := h.words
  rcases h1.shape with ⟨h3, -⟩ | ⟨b, c, h3, -, h4, -⟩
  · simp at h3
  · simp only [Value.slice.injEq, Option.some.injEq, Addr.mk.injEq] at h3; omega
theorem ItInv.next {w0 wr w2 : World} {g X : Nat} {v : Value} {l : List ItemM} {th : Int} (h : ItInv w0 wr g X v l th) (hc : CodesE w2 g) (hg : wr.grownBy w2 (some g)) : ItInv w0 w2 g X v l th := by
  have hl := h.lt
  have hx := h.xw
  obtain ⟨ws, h1, h2, h3⟩ := h.words
  exact ⟨h.lt, h.xw, hc, grownBy_trans h.grown hg, ⟨ws, h1.kept hg (h1.ne (by omega)), h2, h3⟩, h.out.kept hg (h.out.ne hl), h.good⟩
theorem ItInv.more {w0 wr w2 : World} {g X : Nat} {v : Value} {l : List ItemM} {th : Int} (h : ItInv w0 wr g X v l th) (hb : Below wr.heap.size wr w2) : ItInv w0 w2 g X v l th := by
  obtain ⟨ws, h1, h2, h3⟩ := h.words
  exact ⟨h.lt, h.xw, h.codes.kept h.codes.lt hb, grownBy_of_new h.grown (grown_below (row := none) hb) (fun k hk => by cases hk), ⟨ws, h1.below hb, h2, h3⟩, h.out.below hb, h.good⟩
/-- another block is written -/
theorem ItInv.other {w0 wr w2 : World} {g X Y : Nat} {v : Value} {l : List ItemM} {th : Int} (h : ItInv w0 wr g X v l th) (hg : wr.grownBy w2 (some Y)) (hY : w0.heap.size ≤ Y) (hx : X ≠ Y) (hv : v.ownBlock = none ∨ v.ownBlock ≠ some Y) : ItInv w0 w2 g X v l th := by
  have hl := h.lt
  obtain ⟨ws, h1, h2, h3⟩ := h.words
  refine ⟨h.lt, h.xw, h.codes.grown (by omega) hg, grownBy_of_new h.grown hg (fun k hk => by cases hk; omega), ⟨ws, h1.kept hg (.inr (by simpa [Value.ownBlock] using hx)), h2, h3⟩, h.out.kept hg hv, h.good⟩
theorem ItInv.word {w0 wr : World} {g X : Nat} {v : Value} {l : List ItemM} {th : Int} (h : ItInv w0 wr g X v l th) (i : Nat) (x : Int) (hx : x = IntKind.u64.wrap x) : ItInv w0 (wr.setCell ⟨X, i, none⟩ (.int .u64 x)) g X v l th := by
  have hl := h.lt
  have hxw := h.xw
  have hg := grownBy_setCell wr ⟨X, i, none⟩ (.int .u64 x)
  have ha := h.apart
  obtain ⟨ws, h1, h2, h3⟩ := h.words
  refine ⟨h.lt, h.xw, h.codes.grown (by show g < X; omega) hg, grownBy_of_new h.grown hg (fun k hk => by cases hk; exact hxw), ⟨ws.set i x, h1.store i x h2.symm, by rw [List.length_set, h2], fun y hy => ?_⟩, h.out.kept hg ha, h.good⟩
  rcases List.mem_or_eq_of_mem_set hy with hy | rfl
  · exact h3 y hy
  · exact hx
theorem ItInv.cell {w0 wr : World} {g X : Nat} {v : Value} {l : List ItemM} {th : Int} (h : ItInv w0 wr g X v l th) (i : Nat) (hi : i < 4) : ∃ x, wr.cell? ⟨X, i, none⟩ = some (.int .u64 x) ∧ x = IntKind.u64.wrap x ∧ wr.frozen? ⟨X, i, none⟩ = false := by
  obtain ⟨ws, h1, h2, h3⟩ := h.words
  obtain ⟨c, f⟩ := h1.cell i (by omega)
  refine ⟨_, c, ?_, f⟩
  have hl : i < ws.length := by omega
  rw [List.getD_eq_getElem?_getD, List.getElem?_eq_getElem hl]
  exact h3 _ (List.getElem_mem hl)
theorem ItInv.add {w0 wr w2 : World} {g X : Nat} {v v' : Value} {l : List ItemM} {th : Int} {x : ItemM} (h : ItInv w0 wr g X v l th) (ho : OwnT w2 w0.heap.size v' (l ++ [x])) (hg : wr.grownBy w2 v.ownBlock) (hx : x.good ∧ 0 ≤ x.thr ∧ x.thr < th) : ItInv w0 w2 g X v' (l ++ [x]) th := by
  have hl := h.lt
  have ha := h.apart
  have hge := h.out.own_ge
  obtain ⟨ws, h1, h2, h3⟩ := h.words
  refine ⟨h.lt, h.xw, ?_, grownBy_of_new h.grown hg hge, ⟨ws, h1.kept hg ?_, h2, h3⟩, ho, fun y hy => ?_⟩
  · cases hv : v.ownBlock with
    | none => rw [hv] at hg; exact h.codes.kept h.codes.lt ⟨hg.os, hg.tape, hg.output, hg.size, fun j hj => hg.block j hj (by simp)⟩
    | some b => rw [hv] at hg; exact h.codes.grown (by have := hge b hv; omega) hg
  · rcases ha with ha | ha
    · exact .inr (by rw [ha]; simp [Value.ownBlock])
    · exact .inr fun e => ha (by rw [← e]; rfl)
  · rw [List.mem_append, List.mem_singleton] at hy
    rcases hy with hy | rfl
    · exact h.good y hy
    · exact hx
/-- .. and the record at hand in block Y -/
structure ItY (w0 wr : World) (g X : Nat) (v : Value) (l : List ItemM) (th : Int) (Y : Nat) (x : ItemM) : Prop where
  inv : ItInv w0 wr g X v l th
  yw : w0.heap.size ≤ Y
  xy : X ≠ Y
  ne : v.ownBlock = none ∨ v.ownBlock ≠ some Y
  row : wr.heap[Y]? = some (.cells #[.int .i64 x.thr, .int .i64 x.acc.kind, .int .i64 x.acc.addr, .int .u64 x.acc.old, .int .u64 x.acc.new, .int .i64 x.acc.til, .int .u64 x.val, .bool x.ok] 42 (0, 0))
theorem ItInv.box {w0 wr : World} {g X : Nat} {v : Value} {l : List ItemM} {th : Int} (h : ItInv w0 wr g X v l th) (x : ItemM) :
    ItY w0 ((wr.alloc (.cells zeroItem 42)).setRow wr.heap.size #[.int .i64 x.thr, .int .i64 x.acc.kind, .int .i64 x.acc.addr, .int .u64 x.acc.old, .int .u64 x.acc.new, .int .i64 x.acc.til, .int .u64 x.val, .bool x.ok]) g X v l th wr.heap.size x := by
  have hx := h.xlt
  have hs := h.grown.size
  refine ⟨h.more (row_below (below_new (Below.refl _ _) _) (Nat.le_refl _) _), hs, by omega, ?_, setRow_heap _ _ _ _ _ (0, 0) (heap_alloc_new _ _)⟩
  cases hv : v.ownBlock with
  | none => exact .inl rfl
  | some b => exact .inr fun e => by have := World.ownsRow.lt h.out b hv; cases e; omega
theorem ItY.word {w0 wr : World} {g X Y : Nat} {v : Value} {l : List ItemM} {th : Int} {x : ItemM} (h : ItY w0 wr g X v l th Y x) (i : Nat) (z : Int) (hz : z = IntKind.u64.wrap z) : ItY w0 (wr.setCell ⟨X, i, none⟩ (.int .u64 z)) g X v l th Y x :=
  ⟨h.inv.word i z hz, h.yw, h.xy, h.ne, (heap_setCell_other wr ⟨X, i, none⟩ Y _ (Ne.symm h.xy)).trans h.row⟩
theorem ItY.setVal {w0 wr : World} {g X Y : Nat} {v : Value} {l : List ItemM} {th : Int} {x : ItemM} (h : ItY w0 wr g X v l th Y x) (z : Int) : ItY w0 (wr.setCell ⟨Y, 6, none⟩ (.int .u64 z)) g X v l th Y ⟨x.thr, x.acc, z, x.ok⟩ := by
  refine ⟨h.inv.other (grownBy_setCell wr ⟨Y, 6, none⟩ _) h.yw h.xy h.ne, h.yw, h.xy, h.ne, ?_⟩
  have hs := heap_setCell_same wr Y 6 _ _ (.int .u64 z) h.row
  simpa using hs
theorem ItY.setOk {w0 wr : World} {g X Y : Nat} {v : Value} {l : List ItemM} {th : Int} {x : ItemM} (h : ItY w0 wr g X v l th Y x) (b : Bool) : ItY w0 (wr.setCell ⟨Y, 7, none⟩ (.bool b)) g X v l th Y ⟨x.thr, x.acc, x.val, b⟩ := by
  refine ⟨h.inv.other (grownBy_setCell wr ⟨Y, 7, none⟩ _) h.yw h.xy h.ne, h.yw, h.xy, h.ne, ?_⟩
  have hs := heap_setCell_same wr Y 7 _ _ (.bool b) h.row
  simpa using hs
end Go.Proofs.Ytipjfcjdefdoeaa
