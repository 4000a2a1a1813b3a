import Derived.Test.YtmkngpjjimalhaaRows
import Derived.Deep.QuietTactic
import Derived.BigQuiet
import Derived.Deep.DeepCutAuto
import Derived.Test.YtmkngpjjimalhaaB06
import Derived.Test.YtmkngpjjimalhaaB01
import Derived.Test.YtmkngpjjimalhaaB03
import Derived.Test.YtmkngpjjimalhaaB04
set_option linter.unusedVariables false
set_option linter.unusedSimpArgs false
/- What becomes of a world of machines: a list grows by a row, a row is stored anew, the memory is stored. -/
namespace Go.Proofs.Ytmkngpjjimalhaa
open Go.ChangeShapes Go.WideShapes Go.ChangeAt Go.RowKit
set_option maxRecDepth 100000

section
variable {WT : TypeId} {w0 wr w2 : World} {E : List (Option Nat)} {B D : Nat} {x : WV} {y : WM}
theorem OwnS.keptB {w : World} {base : Nat} {e : TypeId} {s : Nat} {v u : Value} {rows : List (List Value)} {o : Nat} (h : OwnS w base e s v rows) (hB : B < base) : OwnS (w.setCell ⟨B, o, none⟩ u) base e s v rows := h.kept (grownBy_setCell w ⟨B, o, none⟩ u) (h.ne hB)
theorem WI.addL {a' : Option Addr} {c' : Nat} {z : MachM} (h : WI WT w0 wr E B D x y) (ho : OwnS w2 D 56 14 (.slice a' (y.l.length + 1) c') (y.l.map (machL (x.vc y.c) (x.vs y.c) y.c.threads) ++ [machL (x.vc y.c) (x.vs y.c) y.c.threads z])) (hg : wr.grownBy w2 (x.vl y).ownBlock) (hbk : addrB a' = addrB x.lA ∨ addrB a' = some wr.heap.size) :
    WI WT w0 (w2.setCell ⟨B, 6, none⟩ (.slice a' (y.l.length + 1) c')) E B D { x with lA := a', lc := c' } { y with l := y.l ++ [z] } ∧ ∀ w3, OffS (WV.S { x with lA := a', lc := c' } E B) (w2.setCell ⟨B, 6, none⟩ (.slice a' (y.l.length + 1) c')) w3 → OffS (x.S E B) wr w3 := by
  have h3 := h.BD
  have hge : ∀ j, (x.vl y).ownBlock = some j → D ≤ j := fun j hj => (h.ol.lt j hj).1
  have hgB : w2.heap[B]? = wr.heap[B]? := hg.block B h.lt (fun e => by have := hge B e.symm; omega)
  have hin : ∀ w3, OffS (WV.S { x with lA := a', lc := c' } E B) (w2.setCell ⟨B, 6, none⟩ (.slice a' (y.l.length + 1) c')) w3 → OffS (x.S E B) wr w3 := fun w3 h4 => by
    have o1 : OffS (x.S E B) wr w2 := OffS.grown hg (.inr (by rw [WV.vl, own_addr]; simp [WV.S]))
    have o2 : OffS (x.S E B) w2 (w2.setCell ⟨B, 6, none⟩ (.slice a' (y.l.length + 1) c')) := OffS.grown (grownBy_setCell w2 ⟨B, 6, none⟩ _) (.inr (by simp [WV.S]))
    refine (o1.trans1 o2).trans h4 fun j hj hm => ?_
    simp only [WV.S, List.mem_append, List.mem_cons, List.not_mem_nil, or_false] at hm ⊢
    rcases hm with e | e | e | e | e | e
    · exact .inl e
    · exact .inr (.inl e)
    all_goals first
      | (rcases hbk with hb | hb
         · rw [hb] at e; simp [e]; done
         · rw [hb] at e; simp at e; omega)
      | (simp [e]; done)
  refine ⟨⟨h.w0B, fun j hj => ⟨(h.eW j hj).1, Nat.lt_of_lt_of_le (h.eW j hj).2 (by have := hg.size; simp; omega)⟩, h3, by have := hg.size; have := h.Dw; simp; omega, ?_, fun w3 h4 => h.conf w3 (hin w3 h4), h.good, h.mem.sub hin, h.fits, ?_, ?_, ?_, ?_, fun z hz => (h.past z hz).sub hin, (h.below.grown hg h.below.size (fun j hj => by have := hge j hj; have := h.w0B; omega)).setCell (p := ⟨B, 6, none⟩) (by have := h.w0B; show w0.heap.size ≤ B; omega) _⟩, hin⟩
  · have := heap_setCell_same w2 B 6 _ _ (.slice a' (y.l.length + 1) c') (hgB.trans h.row)
    simpa [WV.row] using this
  · have ho' : OwnS w2 D 56 14 (WV.vl { x with lA := a', lc := c' } { y with l := y.l ++ [z] }) (y.l.map (machL (x.vc y.c) (x.vs y.c) y.c.threads) ++ [machL (x.vc y.c) (x.vs y.c) y.c.threads z]) := by
      have e : (WV.vl { x with lA := a', lc := c' } { y with l := y.l ++ [z] }) = .slice a' (y.l.length + 1) c' := by simp [WV.vl]
      rw [e]; exact ho
    have h5 := ho'.keptB (o := 6) (u := .slice a' (y.l.length + 1) c') h3
    simpa [List.map_append, WV.vc, WV.vs] using h5
  · exact (h.ot.kept hg (h.ot.apart h.ol (by decide))).keptB h3
  · exact (h.op.kept hg (h.op.apart h.ol (by decide))).keptB h3
  · exact (h.of.kept hg (h.of.apart h.ol (by decide))).keptB h3
theorem WI.addT {a' : Option Addr} {c' : Nat} {z : ItemM} (h : WI WT w0 wr E B D x y) (ho : OwnS w2 D 106 8 (.slice a' (y.t.length + 1) c') (y.t.map itemCells ++ [itemCells z])) (hg : wr.grownBy w2 (x.vt y).ownBlock) (hbk : addrB a' = addrB x.tA ∨ addrB a' = some wr.heap.size) :
    WI WT w0 (w2.setCell ⟨B, 7, none⟩ (.slice a' (y.t.length + 1) c')) E B D { x with tA := a', tc := c' } { y with t := y.t ++ [z] } ∧ ∀ w3, OffS (WV.S { x with tA := a', tc := c' } E B) (w2.setCell ⟨B, 7, none⟩ (.slice a' (y.t.length + 1) c')) w3 → OffS (x.S E B) wr w3 := by
  have h3 := h.BD
  have hge : ∀ j, (x.vt y).ownBlock = some j → D ≤ j := fun j hj => (h.ot.lt j hj).1
  have hgB : w2.heap[B]? = wr.heap[B]? := hg.block B h.lt (fun e => by have := hge B e.symm; omega)
  have hin : ∀ w3, OffS (WV.S { x with tA := a', tc := c' } E B) (w2.setCell ⟨B, 7, none⟩ (.slice a' (y.t.length + 1) c')) w3 → OffS (x.S E B) wr w3 := fun w3 h4 => by
    have o1 : OffS (x.S E B) wr w2 := OffS.grown hg (.inr (by rw [WV.vt, own_addr]; simp [WV.S]))
    have o2 : OffS (x.S E B) w2 (w2.setCell ⟨B, 7, none⟩ (.slice a' (y.t.length + 1) c')) := OffS.grown (grownBy_setCell w2 ⟨B, 7, none⟩ _) (.inr (by simp [WV.S]))
    refine (o1.trans1 o2).trans h4 fun j hj hm => ?_
    simp only [WV.S, List.mem_append, List.mem_cons, List.not_mem_nil, or_false] at hm ⊢
    rcases hm with e | e | e | e | e | e
    · exact .inl e
    · exact .inr (.inl e)
    all_goals first
      | (rcases hbk with hb | hb
         · rw [hb] at e; simp [e]; done
         · rw [hb] at e; simp at e; omega)
      | (simp [e]; done)
  refine ⟨⟨h.w0B, fun j hj => ⟨(h.eW j hj).1, Nat.lt_of_lt_of_le (h.eW j hj).2 (by have := hg.size; simp; omega)⟩, h3, by have := hg.size; have := h.Dw; simp; omega, ?_, fun w3 h4 => h.conf w3 (hin w3 h4), h.good, h.mem.sub hin, h.fits, ?_, ?_, ?_, ?_, fun z hz => (h.past z hz).sub hin, (h.below.grown hg h.below.size (fun j hj => by have := hge j hj; have := h.w0B; omega)).setCell (p := ⟨B, 7, none⟩) (by have := h.w0B; show w0.heap.size ≤ B; omega) _⟩, hin⟩
  · have := heap_setCell_same w2 B 7 _ _ (.slice a' (y.t.length + 1) c') (hgB.trans h.row)
    simpa [WV.row] using this
  · exact (h.ol.kept hg (h.ol.apart h.ot (by decide))).keptB h3
  · have ho' : OwnS w2 D 106 8 (WV.vt { x with tA := a', tc := c' } { y with t := y.t ++ [z] }) (y.t.map itemCells ++ [itemCells z]) := by
      have e : (WV.vt { x with tA := a', tc := c' } { y with t := y.t ++ [z] }) = .slice a' (y.t.length + 1) c' := by simp [WV.vt]
      rw [e]; exact ho
    have h5 := ho'.keptB (o := 7) (u := .slice a' (y.t.length + 1) c') h3
    simpa [List.map_append, WV.vc, WV.vs] using h5
  · exact (h.op.kept hg (h.op.apart h.ot (by decide))).keptB h3
  · exact (h.of.kept hg (h.of.apart h.ot (by decide))).keptB h3
theorem WI.addP {a' : Option Addr} {c' : Nat} {z : List Value × MemM} (h : WI WT w0 wr E B D x y) (ho : OwnS w2 D 41 3 (.slice a' (y.p.length + 1) c') (y.p.map Prod.fst ++ [z.1])) (hg : wr.grownBy w2 (x.vp y).ownBlock) (hbk : addrB a' = addrB x.pA ∨ addrB a' = some wr.heap.size) (hz : StM (OffS (x.S E B) wr) (.agg z.1.toArray) z.2) :
    WI WT w0 (w2.setCell ⟨B, 8, none⟩ (.slice a' (y.p.length + 1) c')) E B D { x with pA := a', pc := c' } { y with p := y.p ++ [z] } ∧ ∀ w3, OffS (WV.S { x with pA := a', pc := c' } E B) (w2.setCell ⟨B, 8, none⟩ (.slice a' (y.p.length + 1) c')) w3 → OffS (x.S E B) wr w3 := by
  have h3 := h.BD
  have hge : ∀ j, (x.vp y).ownBlock = some j → D ≤ j := fun j hj => (h.op.lt j hj).1
  have hgB : w2.heap[B]? = wr.heap[B]? := hg.block B h.lt (fun e => by have := hge B e.symm; omega)
  have hin : ∀ w3, OffS (WV.S { x with pA := a', pc := c' } E B) (w2.setCell ⟨B, 8, none⟩ (.slice a' (y.p.length + 1) c')) w3 → OffS (x.S E B) wr w3 := fun w3 h4 => by
    have o1 : OffS (x.S E B) wr w2 := OffS.grown hg (.inr (by rw [WV.vp, own_addr]; simp [WV.S]))
    have o2 : OffS (x.S E B) w2 (w2.setCell ⟨B, 8, none⟩ (.slice a' (y.p.length + 1) c')) := OffS.grown (grownBy_setCell w2 ⟨B, 8, none⟩ _) (.inr (by simp [WV.S]))
    refine (o1.trans1 o2).trans h4 fun j hj hm => ?_
    simp only [WV.S, List.mem_append, List.mem_cons, List.not_mem_nil, or_false] at hm ⊢
    rcases hm with e | e | e | e | e | e
    · exact .inl e
    · exact .inr (.inl e)
    all_goals first
      | (rcases hbk with hb | hb
         · rw [hb] at e; simp [e]; done
         · rw [hb] at e; simp at e; omega)
      | (simp [e]; done)
  refine ⟨⟨h.w0B, fun j hj => ⟨(h.eW j hj).1, Nat.lt_of_lt_of_le (h.eW j hj).2 (by have := hg.size; simp; omega)⟩, h3, by have := hg.size; have := h.Dw; simp; omega, ?_, fun w3 h4 => h.conf w3 (hin w3 h4), h.good, h.mem.sub hin, h.fits, ?_, ?_, ?_, ?_, fun q hq => by
    rw [List.mem_append, List.mem_singleton] at hq
    rcases hq with hq | rfl
    · exact (h.past q hq).sub hin
    · exact hz.sub hin, (h.below.grown hg h.below.size (fun j hj => by have := hge j hj; have := h.w0B; omega)).setCell (p := ⟨B, 8, none⟩) (by have := h.w0B; show w0.heap.size ≤ B; omega) _⟩, hin⟩
  · have := heap_setCell_same w2 B 8 _ _ (.slice a' (y.p.length + 1) c') (hgB.trans h.row)
    simpa [WV.row] using this
  · exact (h.ol.kept hg (h.ol.apart h.op (by decide))).keptB h3
  · exact (h.ot.kept hg (h.ot.apart h.op (by decide))).keptB h3
  · have ho' : OwnS w2 D 41 3 (WV.vp { x with pA := a', pc := c' } { y with p := y.p ++ [z] }) (y.p.map Prod.fst ++ [z.1]) := by
      have e : (WV.vp { x with pA := a', pc := c' } { y with p := y.p ++ [z] }) = .slice a' (y.p.length + 1) c' := by simp [WV.vp]
      rw [e]; exact ho
    have h5 := ho'.keptB (o := 8) (u := .slice a' (y.p.length + 1) c') h3
    simpa [List.map_append, WV.vc, WV.vs] using h5
  · exact (h.of.kept hg (h.of.apart h.op (by decide))).keptB h3
theorem WI.addF {a' : Option Addr} {c' : Nat} {z : List Value} (h : WI WT w0 wr E B D x y) (ho : OwnS w2 D 60 5 (.slice a' (y.f.length + 1) c') (y.f ++ [z])) (hg : wr.grownBy w2 (x.vf y).ownBlock) (hbk : addrB a' = addrB x.fA ∨ addrB a' = some wr.heap.size) :
    WI WT w0 (w2.setCell ⟨B, 9, none⟩ (.slice a' (y.f.length + 1) c')) E B D { x with fA := a', fc := c' } { y with f := y.f ++ [z] } ∧ ∀ w3, OffS (WV.S { x with fA := a', fc := c' } E B) (w2.setCell ⟨B, 9, none⟩ (.slice a' (y.f.length + 1) c')) w3 → OffS (x.S E B) wr w3 := by
  have h3 := h.BD
  have hge : ∀ j, (x.vf y).ownBlock = some j → D ≤ j := fun j hj => (h.of.lt j hj).1
  have hgB : w2.heap[B]? = wr.heap[B]? := hg.block B h.lt (fun e => by have := hge B e.symm; omega)
  have hin : ∀ w3, OffS (WV.S { x with fA := a', fc := c' } E B) (w2.setCell ⟨B, 9, none⟩ (.slice a' (y.f.length + 1) c')) w3 → OffS (x.S E B) wr w3 := fun w3 h4 => by
    have o1 : OffS (x.S E B) wr w2 := OffS.grown hg (.inr (by rw [WV.vf, own_addr]; simp [WV.S]))
    have o2 : OffS (x.S E B) w2 (w2.setCell ⟨B, 9, none⟩ (.slice a' (y.f.length + 1) c')) := OffS.grown (grownBy_setCell w2 ⟨B, 9, none⟩ _) (.inr (by simp [WV.S]))
    refine (o1.trans1 o2).trans h4 fun j hj hm => ?_
    simp only [WV.S, List.mem_append, List.mem_cons, List.not_mem_nil, or_false] at hm ⊢
    rcases hm with e | e | e | e | e | e
    · exact .inl e
    · exact .inr (.inl e)
    all_goals first
      | (rcases hbk with hb | hb
         · rw [hb] at e; simp [e]; done
         · rw [hb] at e; simp at e; omega)
      | (simp [e]; done)
  refine ⟨⟨h.w0B, fun j hj => ⟨(h.eW j hj).1, Nat.lt_of_lt_of_le (h.eW j hj).2 (by have := hg.size; simp; omega)⟩, h3, by have := hg.size; have := h.Dw; simp; omega, ?_, fun w3 h4 => h.conf w3 (hin w3 h4), h.good, h.mem.sub hin, h.fits, ?_, ?_, ?_, ?_, fun z hz => (h.past z hz).sub hin, (h.below.grown hg h.below.size (fun j hj => by have := hge j hj; have := h.w0B; omega)).setCell (p := ⟨B, 9, none⟩) (by have := h.w0B; show w0.heap.size ≤ B; omega) _⟩, hin⟩
  · have := heap_setCell_same w2 B 9 _ _ (.slice a' (y.f.length + 1) c') (hgB.trans h.row)
    simpa [WV.row] using this
  · exact (h.ol.kept hg (h.ol.apart h.of (by decide))).keptB h3
  · exact (h.ot.kept hg (h.ot.apart h.of (by decide))).keptB h3
  · exact (h.op.kept hg (h.op.apart h.of (by decide))).keptB h3
  · have ho' : OwnS w2 D 60 5 (WV.vf { x with fA := a', fc := c' } { y with f := y.f ++ [z] }) (y.f ++ [z]) := by
      have e : (WV.vf { x with fA := a', fc := c' } { y with f := y.f ++ [z] }) = .slice a' (y.f.length + 1) c' := by simp [WV.vf]
      rw [e]; exact ho
    exact ho'.keptB h3
theorem WI.setL {b n cap i : Nat} {z : MachM} (h : WI WT w0 wr E B D x y) (hv : x.vl y = .slice (some ⟨b, 0, none⟩) n cap) (hi : i < y.l.length) (hz : (machL (x.vc y.c) (x.vs y.c) y.c.threads z).length = 14) (hz1 : ∀ u ∈ (machL (x.vc y.c) (x.vs y.c) y.c.threads z), u.oneCell' = true) :
    WI WT w0 (wr.setCells b (i * 14) (machL (x.vc y.c) (x.vs y.c) y.c.threads z)) E B D x { y with l := y.l.set i z } ∧ ∀ w3, OffS (x.S E B) (wr.setCells b (i * 14) (machL (x.vc y.c) (x.vs y.c) y.c.threads z)) w3 → OffS (x.S E B) wr w3 := by
  have h3 := h.BD
  have hbo : (x.vl y).ownBlock = some b := by rw [hv]; rfl
  have hb := h.ol.lt b hbo
  have hg : wr.grownBy (wr.setCells b (i * 14) (machL (x.vc y.c) (x.vs y.c) y.c.threads z)) (x.vl y).ownBlock := by rw [hbo]; exact setCells_grown b _ _ wr
  have hin : ∀ w3, OffS (x.S E B) (wr.setCells b (i * 14) (machL (x.vc y.c) (x.vs y.c) y.c.threads z)) w3 → OffS (x.S E B) wr w3 := fun w3 h4 =>
    (OffS.grown hg (.inr (by rw [WV.vl, own_addr]; simp [WV.S]))).trans1 h4
  have ho := h.ol
  rw [hv] at ho
  have hs := ho.setRow (r := machL (x.vc y.c) (x.vs y.c) y.c.threads z) i (by simpa using hi) hz hz1
  refine ⟨⟨h.w0B, fun j hj => ⟨(h.eW j hj).1, Nat.lt_of_lt_of_le (h.eW j hj).2 hg.size⟩, h3, by rw [setCells_size]; exact h.Dw, ?_, fun w3 h4 => h.conf w3 (hin w3 h4), h.good, h.mem.sub hin, h.fits, ?_, ?_, ?_, ?_, fun z hz => (h.past z hz).sub hin, h.below.grown hg h.below.size (fun j hj => by rw [hbo] at hj; cases hj; have := h.w0B; omega)⟩, hin⟩
  · rw [setCells_other _ _ _ _ _ (by omega), h.row]
    simp [WV.row]
  · have e : WV.vl x { y with l := y.l.set i z } = .slice (some ⟨b, 0, none⟩) n cap := by rw [← hv]; simp [WV.vl]
    rw [e]
    simpa [List.map_set, WV.vc, WV.vs] using hs
  · exact h.ot.kept hg (h.ot.apart h.ol (by decide))
  · exact h.op.kept hg (h.op.apart h.ol (by decide))
  · exact h.of.kept hg (h.of.apart h.ol (by decide))
theorem WI.setF {b n cap i : Nat} {z : List Value} (h : WI WT w0 wr E B D x y) (hv : x.vf y = .slice (some ⟨b, 0, none⟩) n cap) (hi : i < y.f.length) (hz : (z).length = 5) (hz1 : ∀ u ∈ (z), u.oneCell' = true) :
    WI WT w0 (wr.setCells b (i * 5) (z)) E B D x { y with f := y.f.set i z } ∧ ∀ w3, OffS (x.S E B) (wr.setCells b (i * 5) (z)) w3 → OffS (x.S E B) wr w3 := by
  have h3 := h.BD
  have hbo : (x.vf y).ownBlock = some b := by rw [hv]; rfl
  have hb := h.of.lt b hbo
  have hg : wr.grownBy (wr.setCells b (i * 5) (z)) (x.vf y).ownBlock := by rw [hbo]; exact setCells_grown b _ _ wr
  have hin : ∀ w3, OffS (x.S E B) (wr.setCells b (i * 5) (z)) w3 → OffS (x.S E B) wr w3 := fun w3 h4 =>
    (OffS.grown hg (.inr (by rw [WV.vf, own_addr]; simp [WV.S]))).trans1 h4
  have ho := h.of
  rw [hv] at ho
  have hs := ho.setRow (r := z) i (by simpa using hi) hz hz1
  refine ⟨⟨h.w0B, fun j hj => ⟨(h.eW j hj).1, Nat.lt_of_lt_of_le (h.eW j hj).2 hg.size⟩, h3, by rw [setCells_size]; exact h.Dw, ?_, fun w3 h4 => h.conf w3 (hin w3 h4), h.good, h.mem.sub hin, h.fits, ?_, ?_, ?_, ?_, fun z hz => (h.past z hz).sub hin, h.below.grown hg h.below.size (fun j hj => by rw [hbo] at hj; cases hj; have := h.w0B; omega)⟩, hin⟩
  · rw [setCells_other _ _ _ _ _ (by omega), h.row]
    simp [WV.row]
  · exact h.ol.kept hg (h.ol.apart h.of (by decide))
  · exact h.ot.kept hg (h.ot.apart h.of (by decide))
  · exact h.op.kept hg (h.op.apart h.of (by decide))
  · have e : WV.vf x { y with f := y.f.set i z } = .slice (some ⟨b, 0, none⟩) n cap := by rw [← hv]; simp [WV.vf]
    rw [e]
    exact hs
theorem WI.setM {ma na : Option Addr} {mc nc : Nat} {m2 : MemM} (h : WI WT w0 wr E B D x y) (hm : StM (OffS (x.S E B) wr) (.agg #[.slice ma m2.words.length mc, .slice na m2.lists.length nc, .int .i64 m2.tick]) m2) (hf : m2.fits) :
    WI WT w0 (((wr.setCell ⟨B, 3, none⟩ (.slice ma m2.words.length mc)).setCell ⟨B, 4, none⟩ (.slice na m2.lists.length nc)).setCell ⟨B, 5, none⟩ (.int .i64 m2.tick)) E B D { x with mA := ma, mc := mc, nA := na, nc := nc } { y with m := m2 } ∧ ∀ w3, OffS (WV.S { x with mA := ma, mc := mc, nA := na, nc := nc } E B) (((wr.setCell ⟨B, 3, none⟩ (.slice ma m2.words.length mc)).setCell ⟨B, 4, none⟩ (.slice na m2.lists.length nc)).setCell ⟨B, 5, none⟩ (.int .i64 m2.tick)) w3 → OffS (x.S E B) wr w3 := by
  have h3 := h.BD
  have hg : wr.grownBy (((wr.setCell ⟨B, 3, none⟩ (.slice ma m2.words.length mc)).setCell ⟨B, 4, none⟩ (.slice na m2.lists.length nc)).setCell ⟨B, 5, none⟩ (.int .i64 m2.tick)) (some B) := grownBy_trans (grownBy_trans (grownBy_setCell wr ⟨B, 3, none⟩ _) (grownBy_setCell _ ⟨B, 4, none⟩ _)) (grownBy_setCell _ ⟨B, 5, none⟩ _)
  have hin : ∀ w3, OffS (WV.S { x with mA := ma, mc := mc, nA := na, nc := nc } E B) (((wr.setCell ⟨B, 3, none⟩ (.slice ma m2.words.length mc)).setCell ⟨B, 4, none⟩ (.slice na m2.lists.length nc)).setCell ⟨B, 5, none⟩ (.int .i64 m2.tick)) w3 → OffS (x.S E B) wr w3 := fun w3 h4 =>
    (OffS.grown (S := x.S E B) hg (.inr (by simp [WV.S]))).trans1 h4
  refine ⟨⟨h.w0B, fun j hj => ⟨(h.eW j hj).1, Nat.lt_of_lt_of_le (h.eW j hj).2 hg.size⟩, h3, by have := h.Dw; simp; omega, ?_, fun w3 h4 => h.conf w3 (hin w3 h4), h.good, hm.sub hin, hf, h.ol.kept hg (h.ol.ne h3), h.ot.kept hg (h.ot.ne h3), h.op.kept hg (h.op.ne h3), h.of.kept hg (h.of.ne h3), fun z hz => (h.past z hz).sub hin, h.below.grown hg h.below.size (fun j hj => by cases hj; have := h.w0B; omega)⟩, hin⟩
  have r1 := heap_setCell_same wr B 3 _ _ (.slice ma m2.words.length mc) h.row
  have r2 := heap_setCell_same _ B 4 _ _ (.slice na m2.lists.length nc) r1
  have r3 := heap_setCell_same _ B 5 _ _ (.int .i64 m2.tick) r2
  simpa [WV.row] using r3
end
end Go.Proofs.Ytmkngpjjimalhaa
/- What the functions that only read return (draws brought into range, searches, comparisons). -/
namespace Go.Proofs.Ytmkngpjjimalhaa
open Go.ChangeShapes Go.WideShapes Go.ChangeAt Go.RowKit
set_option maxRecDepth 100000

def fdN (x : Int) (l : List Int) : Nat := if fd x l < l.length then fd x l else 0
def fdB (x : Int) (l : List Int) : Bool := decide (fd x l < l.length)
def fdI (x : Int) (l : List Int) : Int := if fd x l < l.length then (fd x l : Int) else -1
theorem fdN_hit {x : Int} {l : List Int} {k : Nat} {A B : Prop} (h : A → B → fd x l = k) (a : A) (b : B) (hlt : k < l.length) : fdN x l = k ∧ fdB x l = true ∧ fdI x l = k := by
  have e := h a b
  unfold fdN fdB fdI; rw [e]; simp [hlt]
theorem fdN_miss {x : Int} {l : List Int} (h : fd x l = l.length) : fdN x l = 0 ∧ fdB x l = false ∧ fdI x l = -1 := by
  unfold fdN fdB fdI; rw [h]; simp
end Go.Proofs.Ytmkngpjjimalhaa
/- Two memories, two answers that read the same are the same by the document. -/
namespace Go.Proofs.Ytmkngpjjimalhaa
open Go.ChangeShapes Go.WideShapes Go.ChangeAt Go.RowKit
set_option maxRecDepth 100000

end Go.Proofs.Ytmkngpjjimalhaa
/- The record of an access: what the program and the document's answer hand back. -/
namespace Go.Proofs.Ytmkngpjjimalhaa
open Go.ChangeShapes Go.WideShapes Go.ChangeAt Go.RowKit
set_option maxRecDepth 100000

theorem alloc3_rows (w : World) (o0 o1 o2 : Obj) : (((w.alloc o0).alloc o1).alloc o2).heap[w.heap.size]? = some o0 ∧ (((w.alloc o0).alloc o1).alloc o2).heap[w.heap.size + 1]? = some o1 ∧ (((w.alloc o0).alloc o1).alloc o2).heap[w.heap.size + 2]? = some o2 ∧ Below w.heap.size w (((w.alloc o0).alloc o1).alloc o2) := by
  have h1 := below_new (Below.refl _ ((w.alloc o0).alloc o1)) o2
  refine ⟨(h1.block _ (by simp; omega)).trans (heap_alloc2_old _ _ _), (h1.block _ (by simp)).trans (heap_alloc2_new _ _ _), ?_, below_new (below_new (below_new (Below.refl _ _) _) _) _⟩
  have := heap_alloc_new ((w.alloc o0).alloc o1) o2
  simpa using this
set_option maxHeartbeats 4000000 in
theorem ritem_any (th : Int) (b1 : AccM) (b2 : AnsM) (aa : Option Addr) (n ac : Nat) (w : World) : Calls Try.prog 67 #[.int .i64 th, accV b1, .agg #[.int .u64 b2.val, .bool b2.ok, .bool b2.late, .slice aa n ac]] w fun e w' => e = .returned (itemV ⟨th, b1, b2.val, b2.ok⟩) ∧ Below w.heap.size w w' := by
  obtain ⟨hr0, hr1, hr2, hrb⟩ := alloc3_rows w (.cells #[.int .i64 b1.kind, .int .i64 b1.addr, .int .u64 b1.old, .int .u64 b1.new, .int .i64 b1.til] 75) (.cells #[.int .u64 b2.val, .bool b2.ok, .bool b2.late, .slice aa n ac] 52) (.cells zeroItem 106)
  obtain ⟨W, hW⟩ : ∃ W, ((w.alloc (.cells #[.int .i64 b1.kind, .int .i64 b1.addr, .int .u64 b1.old, .int .u64 b1.new, .int .i64 b1.til] 75)).alloc (.cells #[.int .u64 b2.val, .bool b2.ok, .bool b2.late, .slice aa n ac] 52)).alloc (.cells zeroItem 106) = W := ⟨_, rfl⟩
  rw [hW] at hr0 hr1 hr2 hrb
  have R0 := Lib.hid hr0
  have R1 := Lib.hid hr1
  have R2 := Lib.hid hr2
  have HB := Lib.hid hrb
  have HW := Lib.hid hW
  clear hr0 hr1 hr2 hrb hW
  unfold accV
  go_enter Try.func67, Try.ntmps67
  go_upto_region 1 with fail
  rw [show (#[.int .i64 0, .int .i64 0, .int .i64 0, .int .u64 0, .int .u64 0, .int .i64 0, .int .u64 0, .bool false] : Array Value) = zeroItem from rfl, HW.out]
  clear HW
  obtain ⟨y0, y1, y2, y3, y4⟩ := rowc5 R0.out
  obtain ⟨z0, z1, z2, z3⟩ := rowc4 R1.out
  go_wp2_with (refine wpList_store_row rfl 106 _ _ rfl (w.heap.size + 2) _ rfl rfl 106 zeroItem R2.out (by kernel_rfl) rfl (by simp [Value.oneCell']) ?_)
  refine bodyPost_ret (v := itemV ⟨th, b1, b2.val, b2.ok⟩) (results_cell_row Try.results67 _ _ (w.heap.size + 2) 106 _ (0, 0) _ rfl (setRow_heap _ _ _ _ 106 (0, 0) R2.out) Try.underlying106 rfl (by kernel_rfl)) rfl ?_
  exact ⟨rfl, row_below HB.out (by omega) _⟩
end Go.Proofs.Ytmkngpjjimalhaa
