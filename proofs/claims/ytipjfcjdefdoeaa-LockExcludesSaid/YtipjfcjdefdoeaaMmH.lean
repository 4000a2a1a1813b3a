/- A memory in a variable beside a reader of choices; which memories are too large to be looked at. -/
import Derived.Test.YtipjfcjdefdoeaaMmR
import Derived.Test.YtipjfcjdefdoeaaMmF
import Derived.Test.YtipjfcjdefdoeaaMmD
import Derived.Test.YtipjfcjdefdoeaaOff
import Derived.Deep.DeepCutAuto
namespace Go.Proofs.Ytipjfcjdefdoeaa
open Go.ChangeShapes Go.WideShapes Go.ChangeAt Go.RowKit
set_option maxRecDepth 100000

theorem SlI.heapEq {w w2 : World} (h : w2.heap = w.heap) {k : IntKind} {v : Value} {l : List Int} (hs : SlI w k v l) : SlI w2 k v l := by
  obtain ⟨h1, h2, a, cap, h3, h4, h5⟩ := hs
  refine ⟨h1, h2, a, cap, h3, h4, fun t ht => ?_⟩
  obtain ⟨b, off, e, hb, hc⟩ := h5 t ht
  refine ⟨b, off, e, by rw [h]; exact hb, ?_⟩
  unfold World.cell? at hc ⊢
  rw [h]
  exact hc
theorem SlL.heapEq {w w2 : World} (h : w2.heap = w.heap) {v : Value} {us : List Value} {ll : List (List Int)} (hs : SlL w v us ll) : SlL w2 v us ll := by
  obtain ⟨h1, h2, a, cap, h3, h4, h5⟩ := hs
  refine ⟨h1, h2, a, cap, h3, h4, fun t ht => ?_⟩
  obtain ⟨b, off, e, hb, hc, hu⟩ := h5 t ht
  refine ⟨b, off, e, by rw [h]; exact hb, ?_, hu.heapEq h⟩
  unfold World.cell? at hc ⊢
  rw [h]
  exact hc
/-- what reads so while one block changes reads so while another one, which is new, does too -/
theorem StM.off {w0 w : World} {g M : Nat} {v : Value} {m : MemM} (h : StM (fun w2 => w0.grownBy w2 (some g)) v m) (hb : Below w0.heap.size w0 w) (hM : w0.heap.size ≤ M) : StM (Off g M w) v m := by
  obtain ⟨vw, vl, us, e, hall⟩ := h
  refine ⟨vw, vl, us, e, fun w2 h2 => ?_⟩
  have hg : w0.grownBy { w0 with heap := w2.heap } (some g) := ⟨rfl, rfl, rfl, Nat.le_trans hb.size h2.1, fun j hj hne => (h2.2 j (Nat.lt_of_lt_of_le hj hb.size) (by simpa using fun e => hne (by rw [e])) (by omega)).trans (hb.block j hj)⟩
  obtain ⟨h3, h4⟩ := hall _ hg
  exact ⟨h3.heapEq (w := { w0 with heap := w2.heap }) rfl, h4.heapEq (w := { w0 with heap := w2.heap }) rfl⟩
/-- the reader's block g, the memory's variable in block M -/
structure MemS (w0 wr : World) (g M : Nat) (m : MemM) : Prop where
  g0 : w0.heap.size ≤ g
  gm : g < M
  codes : CodesE wr g
  mem : ∃ A c A2 c2, wr.heap[M]? = some (.cells #[.slice A m.words.length c, .slice A2 m.lists.length c2, .int .i64 m.tick] 29 (0, 0)) ∧ StM (Off g M wr) (.agg #[.slice A m.words.length c, .slice A2 m.lists.length c2, .int .i64 m.tick]) m
  fits : m.fits
  wl : m.words.length ≤ 7
  ll : m.lists.length ≤ 3
  below : Below w0.heap.size w0 wr
theorem MemS.lt {w0 wr : World} {g M : Nat} {m : MemM} (h : MemS w0 wr g M m) : M < wr.heap.size := by
  obtain ⟨A, c, A2, c2, h1, -⟩ := h.mem
  exact (Array.getElem?_eq_some_iff.1 h1).1
theorem MemS.move {w0 wr w2 : World} {g M : Nat} {m : MemM} (h : MemS w0 wr g M m) (ho : Off g M wr w2) (hm : w2.heap[M]? = wr.heap[M]?) (hc : CodesE w2 g) (hb : Below w0.heap.size w0 w2) : MemS w0 w2 g M m := by
  obtain ⟨A, c, A2, c2, h1, h2⟩ := h.mem
  exact ⟨h.g0, h.gm, hc, ⟨A, c, A2, c2, hm.trans h1, h2.sub fun w3 h3 => ho.trans h3⟩, h.fits, h.wl, h.ll, hb⟩
theorem MemS.next {w0 wr w2 : World} {g M : Nat} {m : MemM} (h : MemS w0 wr g M m) (hb : Below wr.heap.size wr w2) : MemS w0 w2 g M m :=
  h.move (Off.below hb) (hb.block M h.lt) (h.codes.kept h.codes.lt hb) (below_then h.below hb)
theorem MemS.drawn {w0 wr w2 : World} {g M : Nat} {m : MemM} (h : MemS w0 wr g M m) (hc : CodesE w2 g) (hg : wr.grownBy w2 (some g)) : MemS w0 w2 g M m := by
  have hgm := h.gm
  exact h.move (Off.grown hg) (hg.block M h.lt (by simp; omega)) hc (h.below.grown hg h.below.size (fun k hk => by cases hk; exact h.g0))
theorem MemS.open {w0 wr : World} {g M : Nat} {m : MemM} (h : MemS w0 wr g M m) : ∃ A c A2 c2, Hid (wr.heap[M]? = some (.cells #[.slice A m.words.length c, .slice A2 m.lists.length c2, .int .i64 m.tick] 29 (0, 0))) ∧ Hid (StM (Off g M wr) (.agg #[.slice A m.words.length c, .slice A2 m.lists.length c2, .int .i64 m.tick]) m) := h.mem
/-- the memory that an access left is stored in the variable -/
theorem MemS.taken {w0 wr w1 w2 : World} {g M : Nat} {m m' : MemM} {A A2 : Option Addr} {c c2 : Nat} (h : MemS w0 wr g M m) (hb : Below wr.heap.size wr w1) (hb2 : Below w1.heap.size w1 w2)
    (hs : StM (Nx (Off g M wr) wr w1) (.agg #[.slice A m'.words.length c, .slice A2 m'.lists.length c2, .int .i64 m'.tick]) m') (hf : m'.fits) (hw : m'.words.length ≤ 7) (hl : m'.lists.length ≤ 3) : MemS w0 (w2.setRow M #[.slice A m'.words.length c, .slice A2 m'.lists.length c2, .int .i64 m'.tick]) g M m' := by
  have hlt := h.lt
  have hgm := h.gm
  have hg0 := h.g0
  have hs1 := hb.size
  have hs2 := hb2.size
  obtain ⟨B, d, B2, d2, h1, h2⟩ := h.mem
  have hr := (hb2.block M (by omega)).trans ((hb.block M hlt).trans h1)
  refine ⟨h.g0, h.gm, ?_, ⟨A, c, A2, c2, setRow_heap _ _ _ _ _ (0, 0) hr, hs.sub fun w3 h3 => ?_⟩, hf, hw, hl, row_below (below_then (below_then h.below hb) hb2) (by omega) _⟩
  · exact (h.codes.kept h.codes.lt (below_then hb hb2)).kept hgm (row_below (Below.refl M w2) (Nat.le_refl _) _)
  · exact Off.nx (Off.self _ _ _) hb h.codes.lt hlt w3 ((Off.below hb2).trans ((Off.setRow w2 _).trans h3))
def BigR (m : MemM) (b : Bool) : Prop := b = false → m.words.length ≤ 40 ∧ m.lists.length ≤ 20 ∧ 0 ≤ m.tick ∧ ∀ t, t < m.lists.length → (m.lists.getD t []).length ≤ 40
def BigQ (m : MemM) (w : World) (e : Ending) (w' : World) : Prop := ∃ b, e = .returned (.bool b) ∧ BigR m b ∧ Below w.heap.size w w'
theorem fits_raw {m : MemM} (hw : ∀ x ∈ m.words, x = IntKind.u64.wrap x) (ht : m.tick = IntKind.i64.wrap m.tick) (h : m.words.length ≤ 40 ∧ m.lists.length ≤ 20 ∧ 0 ≤ m.tick ∧ ∀ t, t < m.lists.length → (m.lists.getD t []).length ≤ 40) : m.fits := by
  obtain ⟨h1, h2, -, h4⟩ := h
  refine ⟨by omega, by omega, fun t => ?_, hw, ht⟩
  by_cases htl : t < m.lists.length
  · have := h4 t htl; omega
  · rw [List.getD_eq_getElem?_getD, List.getElem?_eq_none (by omega)]; simp
end Go.Proofs.Ytipjfcjdefdoeaa
