/- Layer 5: the closure that marks a word's number. -/
import Derived.Test.YtgdgneciagbikaaL5Awake
import Derived.Test.YtgdgneciagbikaaMem
namespace Go.Proofs.Ytgdgneciagbikaa
open Go.ChangeShapes Go.WideShapes Go.ChangeAt Go.RowKit
set_option maxRecDepth 100000

theorem OwnB.kept {w w' : World} {base : Nat} {e : TypeId} {v : Value} {l : List Bool} {row : Option Nat} (h : OwnB w base e v l) (hg : w.grownBy w' row) (hne : v.ownBlock = none ∨ v.ownBlock ≠ row) : OwnB w' base e v l := World.ownsRow.kept h hg hne
theorem OwnB.lt {w : World} {base : Nat} {e : TypeId} {g n cap : Nat} {l : List Bool} (h : OwnB w base e (.slice (some ⟨g, 0, none⟩) n cap) l) : base ≤ g ∧ g < w.heap.size := World.ownsRow.lt h g rfl
/-- the first n of t numbers are marked -/
def marks (n t : Nat) : List Bool := List.replicate n true ++ List.replicate (t - n) false
theorem marks_len (n t : Nat) (h : n ≤ t) : (marks n t).length = t := by simp [marks]; omega
theorem marks_at (n t : Nat) (h : n < t) : (marks n t).getD n false = false := by
  simp [marks, List.getD_eq_getElem?_getD, List.getElem?_append_right, show 0 < t - n by omega]
theorem marks_set (n t : Nat) (h : n < t) : (marks n t).set n true = marks (n + 1) t := by
  unfold marks
  rw [List.set_append_right _ _ (by simp), List.length_replicate, Nat.sub_self]
  obtain ⟨d, hd⟩ : ∃ d, t - n = d + 1 := ⟨t - n - 1, by omega⟩
  rw [hd, List.replicate_succ, List.set_cons_zero, show t - (n + 1) = d by omega, List.replicate_succ', List.append_assoc]
  rfl
/-- while numbers are marked: the three variables, and the row of marks; below block D all is as in w0 -/
structure MarkI (w0 w : World) (D T S N X t n : Nat) : Prop where
  dt : D ≤ T
  ds : D ≤ S
  dn : D ≤ N
  dx : D ≤ X
  tn : T ≠ N
  sn : S ≠ N
  xn : X ≠ N
  tx : T ≠ X
  sx : S ≠ X
  le : n ≤ t
  tot : w.heap[T]? = some (.cells #[.int .i64 t] 3 (0, 0))
  seen : w.heap[S]? = some (.cells #[.slice (some ⟨X, 0, none⟩) t t] 60 (0, 0))
  cnt : w.heap[N]? = some (.cells #[.int .i64 n] 3 (0, 0))
  row : OwnB w D 4 (.slice (some ⟨X, 0, none⟩) t t) (marks n t)
  below : Below D w0 w
theorem MarkI.next {w0 w w' : World} {D T S N X t n : Nat} (h : MarkI w0 w D T S N X t n) (hb : Below w.heap.size w w') : MarkI w0 w' D T S N X t n := by
  have hX := h.row.lt
  refine ⟨h.dt, h.ds, h.dn, h.dx, h.tn, h.sn, h.xn, h.tx, h.sx, h.le, (hb.block _ (Array.getElem?_eq_some_iff.1 h.tot).1).trans h.tot, (hb.block _ (Array.getElem?_eq_some_iff.1 h.seen).1).trans h.seen, (hb.block _ (Array.getElem?_eq_some_iff.1 h.cnt).1).trans h.cnt, h.row.kept (row := none) ⟨hb.os, hb.tape, hb.output, hb.size, fun j hj _ => hb.block j hj⟩ (.inr (by simp [Value.ownBlock])), h.below.trans (hb.mono ?_)⟩
  omega
theorem MarkI.step {w0 w : World} {D T S N X t n : Nat} (h : MarkI w0 w D T S N X t n) (hn : n < t) :
    MarkI w0 ((w.setCell ⟨X, n, none⟩ (.bool true)).setCell ⟨N, 0, none⟩ (.int .i64 (n + 1))) D T S N X t (n + 1) := by
  have o : ∀ j, j ≠ X → (w.setCell ⟨X, n, none⟩ (.bool true)).heap[j]? = w.heap[j]? := fun j hj => heap_setCell_other w ⟨X, n, none⟩ j _ hj
  have o2 : ∀ j, j ≠ N → ((w.setCell ⟨X, n, none⟩ (.bool true)).setCell ⟨N, 0, none⟩ (.int .i64 (n + 1))).heap[j]? = (w.setCell ⟨X, n, none⟩ (.bool true)).heap[j]? := fun j hj => heap_setCell_other _ ⟨N, 0, none⟩ j _ hj
  have r := h.row.store n true (marks_len n t h.le).symm
  rw [marks_set n t hn] at r
  have hc := heap_setCell_same (w.setCell ⟨X, n, none⟩ (.bool true)) N 0 _ _ (.int .i64 ((n : Int) + 1)) ((o N (Ne.symm h.xn)).trans h.cnt)
  refine ⟨h.dt, h.ds, h.dn, h.dx, h.tn, h.sn, h.xn, h.tx, h.sx, hn, (o2 _ h.tn).trans ((o _ h.tx).trans h.tot), (o2 _ h.sn).trans ((o _ h.sx).trans h.seen), by simpa using hc, r.kept (row := some N) (grownBy_setCell _ ⟨N, 0, none⟩ _) (.inr (by simpa [Value.ownBlock] using h.xn)), ?_⟩
  exact (h.below.setCell (p := ⟨X, n, none⟩) h.dx _).setCell (p := ⟨N, 0, none⟩) h.dn _
theorem MarkI.start {w0 w4 w6 : World} {t : Nat} (h4 : Below w0.heap.size w0 w4) (hb : Below (w4.heap.size + 1) (w4.alloc (.cells #[.int .i64 t] 3)) w6)
    (ho : OwnB w6 (w4.heap.size + 1) 4 (.slice (some ⟨w4.heap.size + 1, 0, none⟩) t t) (List.replicate t false)) :
    MarkI w0 ((w6.alloc (.cells #[.slice (some ⟨w4.heap.size + 1, 0, none⟩) t t] 60)).alloc (.cells #[.int .i64 0] 3)) w0.heap.size w4.heap.size w6.heap.size (w6.heap.size + 1) (w4.heap.size + 1) t 0 := by
  have hx := ho.lt
  have h4s := h4.size
  have hn := below_new (below_new (Below.refl w6.heap.size w6) (.cells #[.slice (some ⟨w4.heap.size + 1, 0, none⟩) t t] 60)) (.cells #[.int .i64 0] 3)
  have hn1 := below_new (Below.refl (w6.alloc (.cells #[.slice (some ⟨w4.heap.size + 1, 0, none⟩) t t] 60)).heap.size (w6.alloc (.cells #[.slice (some ⟨w4.heap.size + 1, 0, none⟩) t t] 60))) (.cells #[.int .i64 0] 3)
  refine ⟨h4s, by omega, by omega, by omega, by omega, by omega, by omega, by omega, by omega, Nat.zero_le _, (hn.block _ (by omega)).trans ((hb.block _ (by omega)).trans (heap_alloc_new _ _)), (hn1.block _ (by simp)).trans (heap_alloc_new _ _), box_at (by simp), ?_, ?_⟩
  · have r := ho.kept (row := none) (w' := ((w6.alloc (.cells #[.slice (some ⟨w4.heap.size + 1, 0, none⟩) t t] 60)).alloc (.cells #[.int .i64 0] 3))) ⟨hn.os, hn.tape, hn.output, hn.size, fun j hj _ => hn.block j hj⟩ (.inr (by simp [Value.ownBlock]))
    have e : marks 0 t = List.replicate t false := by simp [marks]
    rw [e]
    refine ⟨r.1, ?_⟩
    rcases r.2 with h1 | ⟨g, cap, cur, h1, h2, h3⟩
    · exact .inl h1
    · exact .inr ⟨g, cap, cur, h1, by omega, h3⟩
  · exact (h4.trans ((below_new (Below.refl w4.heap.size w4) (.cells #[.int .i64 t] 3)).mono h4s)).trans ((hb.mono (by omega)).trans (hn.mono (by omega)))
theorem ConfM.good.mono {c : ConfM} (h : c.good) (k : Nat) (hk : k < c.caps.length) : c.base k + (5 + c.size k * 2) ≤ c.base c.caps.length := by
  have key : ∀ d, k + 1 + d ≤ c.caps.length → c.base (k + 1) ≤ c.base (k + 1 + d) := by
    intro d
    induction d with
    | zero => intro _; exact Int.le_refl _
    | succ d ih =>
      intro hd
      have h1 := ih (by omega)
      have h2 := h.size (k + 1 + d) (by omega)
      have e : c.base (k + 1 + (d + 1)) = c.base (k + 1 + d) + (5 + c.size (k + 1 + d) * 2) := rfl
      omega
  have h1 := key (c.caps.length - (k + 1)) (by omega)
  rw [show k + 1 + (c.caps.length - (k + 1)) = c.caps.length by omega] at h1
  exact h1
theorem slotI_id (s z : Int) (h0 : 0 ≤ s) (hs : s < z) (hz : z ≤ 16) : slotI s z = s := by
  unfold slotI
  rw [if_neg (by omega), Int.emod_eq_of_lt h0 (by omega), Int.emod_eq_of_lt h0 hs]
set_option maxHeartbeats 1000000 in
theorem mark_any (w0 w : World) (D T S N X t n : Nat) (h : MarkI w0 w D T S N X t n) (hn : n < t) (ht : t ≤ 1000) :
    Calls Try.prog 57 #[.int .i64 n, .pointer (some ⟨T, 0, none⟩), .pointer (some ⟨S, 0, none⟩), .pointer (some ⟨N, 0, none⟩)] w fun e w' => e = .returned (.bool true) ∧ MarkI w0 w' D T S N X t (n + 1) := by
  have x0 := cell_of_row _ _ 0 _ _ _ h.tot
  have x1 := cell_of_row _ _ 0 _ _ _ h.seen
  have x2 := cell_of_row _ _ 0 _ _ _ h.cnt
  obtain ⟨x3, x4⟩ := h.row.cell n (by rw [marks_len n t h.le]; exact hn)
  rw [marks_at n t hn] at x3
  have hN : (w.setCell ⟨X, n, none⟩ (.bool true)).heap[N]? = some (.cells #[.int .i64 n] 3 (0, 0)) := (heap_setCell_other w ⟨X, n, none⟩ N _ (Ne.symm h.xn)).trans h.cnt
  have y2 := cell_of_row _ _ 0 _ _ _ hN
  have y3 := frozen_of_row _ _ 0 _ _ hN
  have ST := Lib.hid (h.step hn)
  clear h hN
  go_enter Try.func57, Try.ntmps57
  go_wp2
  go_ret
  exact ⟨rfl, ST.out⟩
theorem mark_at (w0 w : World) (D T S N X t n : Nat) (i : Int) (h : MarkI w0 w D T S N X t n) (hi : i = n) (hn : n < t) (ht : t ≤ 1000) :
    Calls Try.prog 57 #[.int .i64 i, .pointer (some ⟨T, 0, none⟩), .pointer (some ⟨S, 0, none⟩), .pointer (some ⟨N, 0, none⟩)] w fun e w' => e = .returned (.bool true) ∧ MarkI w0 w' D T S N X t (n + 1) :=
  hi ▸ mark_any w0 w D T S N X t n h hn ht
end Go.Proofs.Ytgdgneciagbikaa
