/- append of a record to an owned list: its block is the old one or a new one; what reads the same beside a reader, a variable and such a list. -/
import Derived.Test.YtipjfcjdefdoeaaRs
import Derived.Laws.AppendOwn
namespace Go.Proofs.Ytipjfcjdefdoeaa
open Go.ChangeShapes Go.WideShapes Go.ChangeAt Go.RowKit
set_option maxRecDepth 100000

theorem append_block (w : World) (ty : TypeId) (base : Nat) (v : Value) (l : List ItemM) (hown : OwnT w base v l) (y : ItemM) (g : Nat) (hcell : ItemAt w g 0 y) (hl : l.length ≤ 1000000) {v' : Value} {w' : World}
    (hr : (Builtin.append_ #[31, 31] ty #[v, .slice (some ⟨g, 0, none⟩) 1 1]).run Try.prog w = .ok v' w') : v'.ownBlock = v.ownBlock ∨ v'.ownBlock = some w.heap.size := by
  obtain ⟨i0, hi, hz0, hz1, hz2⟩ := info_parts Try.info_item
  have hnews : ∀ j u, (itemCells y)[j]? = some u → w.cell? ((⟨g, 0, none⟩ : Addr).add j) = some u := by
    obtain ⟨c0, c1, c2, c3, c4, c5, c6, c7⟩ := hcell
    intro j u hj
    match j, hj with
    | 0, hj => simp [itemCells] at hj; subst hj; simpa [Addr.add] using c0
    | 1, hj => simp [itemCells] at hj; subst hj; simpa [Addr.add] using c1
    | 2, hj => simp [itemCells] at hj; subst hj; simpa [Addr.add] using c2
    | 3, hj => simp [itemCells] at hj; subst hj; simpa [Addr.add] using c3
    | 4, hj => simp [itemCells] at hj; subst hj; simpa [Addr.add] using c4
    | 5, hj => simp [itemCells] at hj; subst hj; simpa [Addr.add] using c5
    | 6, hj => simp [itemCells] at hj; subst hj; simpa [Addr.add] using c6
    | 7, hj => simp [itemCells] at hj; subst hj; simpa [Addr.add] using c7
  have h1 : ∀ u ∈ itemCells y, u.oneCell' = true := by
    intro u hu
    simp only [itemCells, List.mem_cons, List.not_mem_nil, or_false] at hu
    rcases hu with rfl | rfl | rfl | rfl | rfl | rfl | rfl | rfl <;> rfl
  have hln : (itemCells y).length = 1 * i0.size := by rw [hz1]; rfl
  rcases hown.2 with ⟨rfl, h0⟩ | ⟨b, cap, cur, rfl, hb, hg, hnc, hcm, hcs, htake⟩
  · have hrn := run_append_nil (P := Try.prog) w 31 ty 42 i0 _ (by kernel_rfl) hi hz0 ⟨g, 0, none⟩ 1 1 (itemCells y) hln hnews (by omega) (by omega) (by rw [hz2]; omega)
    rw [hrn] at hr
    cases hr
    exact .inr rfl
  · by_cases hroom : l.length + 1 ≤ cap
    · have hfit : l.length * i0.size + (itemCells y).length ≤ cur.size := by rw [hln, hz1, hcs]; omega
      have hrr := run_append_room (P := Try.prog) w 31 ty 42 i0 (by kernel_rfl) hi b l.length cap cur hg ⟨g, 0, none⟩ 1 1 (itemCells y) hln hnews h1 hroom hfit
      rw [hrr] at hr
      cases hr
      exact .inl rfl
    · have holds : ∀ j u, (l.flatMap itemCells)[j]? = some u → w.cell? ((⟨b, 0, none⟩ : Addr).add j) = some u := World.ownsRow.cells hown (g := b) rfl
      have hrg := run_append_grow (P := Try.prog) w 31 ty 42 i0 _ (by kernel_rfl) hi hz0 ⟨b, 0, none⟩ l.length cap (l.flatMap itemCells) (by rw [flatT_length, hz1]) holds ⟨g, 0, none⟩ 1 1 (itemCells y) hln hnews (by omega) (by omega) (growslice_fits (by omega) (by rw [hz2]; omega))
      rw [hrg] at hr
      cases hr
      exact .inr rfl
/-- append of a record, inside a region that draws; the new list's block is the old one or a new one -/
theorem step_append_item2 {w : World} {ops : Array Oper} {o : Oper} {a : Act} {K : Act → World → Prop} {Q : Exit → Act → World → Prop} {E : Prop}
    (hgd : o.guard = none) (s x : Operand) (hop : o.op = Op.call { callee := Callee.builtin Builtin.append, args := #[s, x], argTypes := #[31, 31] })
    (base : Nat) (v : Value) (l : List ItemM) (hs : a.eval s = v) (hown : OwnT w base v l) (y : ItemM) (g : Nat)
    (hx : a.eval x = .slice (some ⟨g, 0, none⟩) 1 1) (hcell : ItemAt w g 0 y) (hl : l.length ≤ 1000000) (hb : base ≤ w.heap.size)
    (hK : ∀ v' w', OwnT w' base v' (l ++ [y]) → w.grownBy w' v.ownBlock → (v'.ownBlock = v.ownBlock ∨ v'.ownBlock = some w.heap.size) → K (a.put o.dst v') w') :
    if Region.wanted o (yielded ops a.tmps) = true then Oper.wp Try.prog o a w K Q else E := by
  have hw : Region.wanted o (yielded ops a.tmps) = true := by simp [Region.wanted, hgd]
  rw [if_pos hw]
  obtain ⟨i0, hi, hz0, hz1, hz2⟩ := info_parts Try.info_item
  have hln : (itemCells y).length = 1 * 8 := rfl
  obtain ⟨v', w', hr, h2, h3, -⟩ := run_append_own (P := Try.prog) w base 31 o.type 42 i0 _ 8 _ (by kernel_rfl) hi hz0 hz1 rfl rfl (by decide) v l.length _ hown ⟨g, 0, none⟩ 1 1 (itemCells y) hln (by
    obtain ⟨c0, c1, c2, c3, c4, c5, c6, c7⟩ := hcell
    intro j u hj
    match j, hj with
    | 0, hj => simp [itemCells] at hj; subst hj; simpa [Addr.add] using c0
    | 1, hj => simp [itemCells] at hj; subst hj; simpa [Addr.add] using c1
    | 2, hj => simp [itemCells] at hj; subst hj; simpa [Addr.add] using c2
    | 3, hj => simp [itemCells] at hj; subst hj; simpa [Addr.add] using c3
    | 4, hj => simp [itemCells] at hj; subst hj; simpa [Addr.add] using c4
    | 5, hj => simp [itemCells] at hj; subst hj; simpa [Addr.add] using c5
    | 6, hj => simp [itemCells] at hj; subst hj; simpa [Addr.add] using c6
    | 7, hj => simp [itemCells] at hj; subst hj; simpa [Addr.add] using c7) (by
    intro u hu
    simp only [itemCells, List.mem_cons, List.not_mem_nil, or_false] at hu
    rcases hu with rfl | rfl | rfl | rfl | rfl | rfl | rfl | rfl <;> rfl) (by unfold maxLen; omega) (by rw [hz2]; omega) hb
  refine Lib.wp_append_run w s x _ _ hop _ _ hs hx v' w' hr (hK v' w' ?_ h3 (append_block w o.type base v l hown y g hcell hl hr))
  unfold OwnT
  rw [List.length_append, List.flatMap_append, List.flatMap_cons, List.flatMap_nil, List.append_nil]
  exact h2
/-- the worlds that hold w0's memory but for the blocks a and b and what the list v owns -/
def OffV (a b : Nat) (v : Value) (w0 : World) : World → Prop := fun w => w0.heap.size ≤ w.heap.size ∧ ∀ j, j < w0.heap.size → j ≠ a → j ≠ b → v.ownBlock ≠ some j → w.heap[j]? = w0.heap[j]?
theorem OffV.self (a b : Nat) (v : Value) (w : World) : OffV a b v w w := ⟨Nat.le_refl _, fun _ _ _ _ _ => rfl⟩
theorem OffV.trans {a b : Nat} {v v2 : Value} {w0 w1 w2 : World} (h : OffV a b v w0 w1) (h2 : OffV a b v2 w1 w2) (hv : ∀ j, j < w0.heap.size → v2.ownBlock = some j → v.ownBlock = some j) : OffV a b v w0 w2 :=
  ⟨Nat.le_trans h.1 h2.1, fun j hj ha hb hn => (h2.2 j (Nat.lt_of_lt_of_le hj h.1) ha hb (fun e => hn (hv j hj e))).trans (h.2 j hj ha hb hn)⟩
theorem OffV.trans1 {a b : Nat} {v : Value} {w0 w1 w2 : World} (h : OffV a b v w0 w1) (h2 : OffV a b v w1 w2) : OffV a b v w0 w2 := h.trans h2 fun _ _ e => e
theorem OffV.below {a b : Nat} {v : Value} {w w' : World} (h : Below w.heap.size w w') : OffV a b v w w' := ⟨h.size, fun j hj _ _ _ => h.block j hj⟩
theorem OffV.wide (a b : Nat) (v : Value) (w0 : World) : Wide (OffV a b v w0) := fun _ _ h hb => h.trans1 (OffV.below hb)
theorem OffV.off {a b : Nat} {v : Value} {w w' : World} (h : Off a b w w') : OffV a b v w w' := ⟨h.1, fun j hj ha hb _ => h.2 j hj ha hb⟩
theorem OffV.grown {a b : Nat} {v : Value} {w w' : World} (h : w.grownBy w' (some a)) : OffV a b v w w' := ⟨h.size, fun j hj ha _ _ => h.block j hj (by simp; omega)⟩
theorem OffV.own {a b : Nat} {v : Value} {w w' : World} (h : w.grownBy w' v.ownBlock) : OffV a b v w w' := ⟨h.size, fun j hj _ _ hn => h.block j hj (fun e => hn e.symm)⟩
theorem OffV.nx {a b : Nat} {v : Value} {w0 w w' : World} (h : OffV a b v w0 w) (hb : Below w.heap.size w w') (h1 : a < w.heap.size) (h2 : b < w.heap.size) (h3 : ∀ j, v.ownBlock = some j → j < w.heap.size) : ∀ w2, OffV a b v w' w2 → Nx (OffV a b v w0) w w' w2 := fun w2 h4 =>
  ⟨h.trans1 ((OffV.below hb).trans1 h4), ⟨h4.1, fun j hj hj2 => h4.2 j hj2 (by omega) (by omega) (fun e => by have := h3 j e; omega)⟩⟩
/-- while accesses are recorded: the reader in block g, the memory's variable in block M, the first memory's in block F, the list v of records of the call's own, from block D on -/
structure TrI (w0 wr : World) (g M F D : Nat) (r0 : Array Value) (m0 m : MemM) (v : Value) (l : List ItemM) : Prop where
  g0 : w0.heap.size ≤ g
  gm : g < M
  mf : M < F
  fd : F < D
  dw : D ≤ wr.heap.size
  codes : CodesE wr g
  mem : ∃ A c A2 c2, wr.heap[M]? = some (.cells #[.slice A m.words.length c, .slice A2 m.lists.length c2, .int .i64 m.tick] 29 (0, 0)) ∧ StM (OffV g M v wr) (.agg #[.slice A m.words.length c, .slice A2 m.lists.length c2, .int .i64 m.tick]) m
  fits : m.fits
  wl : m.words.length ≤ 7
  ll : m.lists.length ≤ 3
  frow : wr.heap[F]? = some (.cells r0 29 (0, 0))
  first : StM (OffV g M v wr) (.agg r0) m0
  own : OwnT wr D v l
  good : ∀ x ∈ l, x.good
  rep : replayE m0 l = (m, true)
  below : Below w0.heap.size w0 wr
section
variable {w0 wr w2 : World} {g M F D : Nat} {r0 : Array Value} {m0 m : MemM} {v : Value} {l : List ItemM}
theorem TrI.next (h : TrI w0 wr g M F D r0 m0 m v l) (hb : Below wr.heap.size wr w2) : TrI w0 w2 g M F D r0 m0 m v l := by
  have h1 := h.mf
  have h2 := h.fd
  have h3 := h.dw
  obtain ⟨A, c, A2, c2, h4, h5⟩ := h.mem
  exact ⟨h.g0, h.gm, h.mf, h.fd, Nat.le_trans h3 hb.size, h.codes.kept h.codes.lt hb, ⟨A, c, A2, c2, (hb.block M (by omega)).trans h4, h5.sub fun w3 h6 => (OffV.below hb).trans1 h6⟩, h.fits, h.wl, h.ll, (hb.block F (by omega)).trans h.frow, h.first.sub fun w3 h6 => (OffV.below hb).trans1 h6, h.own.below hb, h.good, h.rep, below_then h.below hb⟩
theorem TrI.drawn (h : TrI w0 wr g M F D r0 m0 m v l) (hc : CodesE w2 g) (hg : wr.grownBy w2 (some g)) : TrI w0 w2 g M F D r0 m0 m v l := by
  have h0 := h.gm
  have h1 := h.mf
  have h2 := h.fd
  have h3 := h.dw
  obtain ⟨A, c, A2, c2, h4, h5⟩ := h.mem
  exact ⟨h.g0, h.gm, h.mf, h.fd, Nat.le_trans h3 hg.size, hc, ⟨A, c, A2, c2, (hg.block M (by omega) (by simp; omega)).trans h4, h5.sub fun w3 h6 => (OffV.grown hg).trans1 h6⟩, h.fits, h.wl, h.ll, (hg.block F (by omega) (by simp; omega)).trans h.frow, h.first.sub fun w3 h6 => (OffV.grown hg).trans1 h6, h.own.kept hg (h.own.ne (by omega)), h.good, h.rep, h.below.grown hg h.below.size (fun k hk => by cases hk; exact h.g0)⟩
/-- a record is added that the memory m' stands behind -/
theorem TrI.add {m' : MemM} {v' : Value} {x : ItemM} {A A2 : Option Addr} {c c2 : Nat} (h : TrI w0 wr g M F D r0 m0 m v l) (ho : OwnT w2 D v' (l ++ [x])) (hg : wr.grownBy w2 v.ownBlock) (hbk : v'.ownBlock = v.ownBlock ∨ v'.ownBlock = some wr.heap.size)
    (hs : StM (OffV g M v wr) (.agg #[.slice A m'.words.length c, .slice A2 m'.lists.length c2, .int .i64 m'.tick]) m') (hf : m'.fits) (hw : m'.words.length ≤ 7) (hl : m'.lists.length ≤ 3) (hx : x.good) (hr : replayE m0 (l ++ [x]) = (m', true)) :
    TrI w0 (w2.setRow M #[.slice A m'.words.length c, .slice A2 m'.lists.length c2, .int .i64 m'.tick]) g M F D r0 m0 m' v' (l ++ [x]) := by
  have h0 := h.gm
  have h00 := h.g0
  have h1 := h.mf
  have h2 := h.fd
  have h3 := h.dw
  have hge := h.own.own_ge
  have hgo : ∀ j, v.ownBlock = some j → M < j ∧ F < j := fun j hj => by have := hge j hj; omega
  have hM : w2.heap[M]? = wr.heap[M]? := hg.block M (by omega) (fun e => by have := hgo M e.symm; omega)
  have hF : w2.heap[F]? = wr.heap[F]? := hg.block F (by omega) (fun e => by have := hgo F e.symm; omega)
  have hvv : ∀ j, j < wr.heap.size → v'.ownBlock = some j → v.ownBlock = some j := fun j hj e => by
    rcases hbk with hb | hb
    · rw [← hb]; exact e
    · rw [hb] at e; cases e; omega
  have hoff : ∀ w3, OffV g M v' (w2.setRow M #[.slice A m'.words.length c, .slice A2 m'.lists.length c2, .int .i64 m'.tick]) w3 → OffV g M v wr w3 := fun w3 h6 => ((OffV.own hg).trans1 (OffV.off (Off.setRow w2 _))).trans h6 hvv
  obtain ⟨E, d, E2, d2, h4, -⟩ := h.mem
  refine ⟨h.g0, h.gm, h.mf, h.fd, by have := hg.size; simp [World.setRow]; omega, ?_, ⟨A, c, A2, c2, setRow_heap _ _ _ _ _ (0, 0) (hM.trans h4), hs.sub hoff⟩, hf, hw, hl, (setRow_other _ _ _ _ (by omega)).trans (hF.trans h.frow), h.first.sub hoff, ho.kept (row_grown w2 M _) (ho.ne (by omega)), fun y hy => ?_, hr, row_below (h.below.grown hg h.below.size (fun k hk => by have := hge k hk; omega)) (by omega) _⟩
  · have hc : CodesE w2 g := by
      cases hv : v.ownBlock with
      | none => rw [hv] at hg; exact h.codes.kept h.codes.lt ⟨hg.os, hg.tape, hg.output, hg.size, fun j hj => hg.block j hj (by simp)⟩
      | some b => rw [hv] at hg; exact h.codes.grown (by have := hge b hv; omega) hg
    exact hc.kept h0 (row_below (Below.refl M w2) (Nat.le_refl _) _)
  · rw [List.mem_append, List.mem_singleton] at hy
    rcases hy with hy | rfl
    · exact h.good y hy
    · exact hx
end
end Go.Proofs.Ytipjfcjdefdoeaa
