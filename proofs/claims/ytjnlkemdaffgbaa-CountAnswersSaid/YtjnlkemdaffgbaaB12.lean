
import Derived.Test.YtjnlkemdaffgbaaB09
import Derived.Test.YtjnlkemdaffgbaaB05
import Derived.Test.YtjnlkemdaffgbaaB11
import Derived.Test.YtjnlkemdaffgbaaB06
set_option linter.unusedVariables false
set_option linter.unusedSimpArgs false
/- The world of machines with which a law begins. -/
namespace Go.Proofs.Ytjnlkemdaffgbaa
open Go.ChangeShapes Go.WideShapes Go.ChangeAt Go.RowKit
set_option maxRecDepth 100000

/-- w0: before the law; wc: behind the configuration; wd: behind Begin; the world's own block is made last; E: blocks that may change -/
theorem WI.start {WT : TypeId} {w0 wc wd : World} {E : List (Option Nat)} {a a2 m1 m2 : Option Addr} {cap cap2 n1 n2 : Nat} {c : ConfM} (hg : c.good) (hE : ∀ j, some j ∈ E → w0.heap.size ≤ j ∧ j < wc.heap.size)
    (hc : ∀ w2, OffS E wc w2 → SlI w2 .i64 (.slice a c.caps.length cap) c.caps ∧ SlI w2 .u64 (.slice a2 c.starts.length cap2) c.starts) (hb : Below wc.heap.size wc wd)
    (hm : StM (NewPart wc wd) (.agg #[.slice m1 (newE c).words.length n1, .slice m2 (newE c).lists.length n2, .int .i64 (newE c).tick]) (newE c)) (h0 : Below w0.heap.size w0 wc) :
    WI WT w0 (wd.alloc (.cells #[.slice a c.caps.length cap, .slice a2 c.starts.length cap2, .int .i64 c.threads, .slice m1 (newE c).words.length n1, .slice m2 (newE c).lists.length n2, .int .i64 (newE c).tick, .slice none 0 0, .slice none 0 0, .slice none 0 0, .slice none 0 0] WT)) E wd.heap.size (wd.heap.size + 1) ⟨a, cap, a2, cap2, m1, n1, m2, n2, none, 0, none, 0, none, 0, none, 0⟩ ⟨c, newE c, [], [], [], []⟩ := by
  have hb2 : Below wd.heap.size wd (wd.alloc (.cells #[.slice a c.caps.length cap, .slice a2 c.starts.length cap2, .int .i64 c.threads, .slice m1 (newE c).words.length n1, .slice m2 (newE c).lists.length n2, .int .i64 (newE c).tick, .slice none 0 0, .slice none 0 0, .slice none 0 0, .slice none 0 0] WT)) := below_new (Below.refl _ _) _
  have hz := hb.size
  have z0 := h0.size
  have hin : ∀ w2, OffS (WV.S ⟨a, cap, a2, cap2, m1, n1, m2, n2, none, 0, none, 0, none, 0, none, 0⟩ E wd.heap.size) (wd.alloc (.cells #[.slice a c.caps.length cap, .slice a2 c.starts.length cap2, .int .i64 c.threads, .slice m1 (newE c).words.length n1, .slice m2 (newE c).lists.length n2, .int .i64 (newE c).tick, .slice none 0 0, .slice none 0 0, .slice none 0 0, .slice none 0 0] WT)) w2 → OffS E wc w2 := fun w2 h2 => by
    refine (OffS.below (S := E) (below_then hb hb2)).trans h2 fun j hj hm => ?_
    simp only [WV.S, List.mem_append, List.mem_cons, List.not_mem_nil, or_false, Option.some.injEq, addrB, Option.map_none] at hm
    rcases hm with hm | rfl | hm | hm | hm | hm
    · exact hm
    · omega
    all_goals cases hm
  have hnp : ∀ w2, OffS (WV.S ⟨a, cap, a2, cap2, m1, n1, m2, n2, none, 0, none, 0, none, 0, none, 0⟩ E wd.heap.size) (wd.alloc (.cells #[.slice a c.caps.length cap, .slice a2 c.starts.length cap2, .int .i64 c.threads, .slice m1 (newE c).words.length n1, .slice m2 (newE c).lists.length n2, .int .i64 (newE c).tick, .slice none 0 0, .slice none 0 0, .slice none 0 0, .slice none 0 0] WT)) w2 → NewPart wc wd w2 := fun w2 h2 => by
    refine ⟨by have := h2.1; simp at this; omega, fun j hj hj2 => (h2.2 j (by simp; omega) fun hm => ?_).trans (hb2.block j hj2)⟩
    simp only [WV.S, List.mem_append, List.mem_cons, List.not_mem_nil, or_false, Option.some.injEq, addrB, Option.map_none] at hm
    rcases hm with hm | rfl | hm | hm | hm | hm
    · have := (hE j hm).2; omega
    · omega
    all_goals cases hm
  refine ⟨by omega, fun j hj => ⟨(hE j hj).1, by have := (hE j hj).2; simp; omega⟩, Nat.lt_succ_self _, by simp, heap_alloc_new _ _, fun w2 h2 => hc w2 (hin w2 h2), hg, hm.sub hnp, newE_fits hg, OwnS.nil _ _ _ _, OwnS.nil _ _ _ _, OwnS.nil _ _ _ _, OwnS.nil _ _ _ _, fun z hz => by simp at hz, below_then h0 (below_then hb hb2)⟩
/-- what lies in no block of the reader's reads on whatever the reader does -/
theorem SlI.offG {w w2 : World} {k : IntKind} {v : Value} {l : List Int} {g : Nat} (h : SlI w k v l) (ho : offB g v) (h2 : OffS [some g] w w2) : SlI w2 k v l := by
  have hg : w.grownBy { w with heap := w2.heap } (some g) := ⟨rfl, rfl, rfl, h2.1, fun j hj hne => h2.2 j hj (by simp only [List.mem_singleton, Option.some.injEq]; intro e; exact hne (by rw [e]))⟩
  exact (h.grown hg ho).heapEq (w := { w with heap := w2.heap }) rfl
theorem CfgOk.good {caps starts : List Int} {t : Int} (h : CfgOk caps starts caps.length) (hl : caps.length ≤ 3) (ht : 1 ≤ t ∧ t ≤ 8) : ConfM.good ⟨caps, starts, t⟩ :=
  ⟨by show caps.length ≤ 8; omega, h.2.1, fun x hx => by have := h.2.2.1 x hx; omega, h.2.2.2, ht⟩
theorem configG (g : Nat) (w : World) (h : CodesE w g) :
    Calls Try.prog 12 #[.pointer (some ⟨g, 0, none⟩)] w fun e w' => ∃ (vc vs : Value) (c : ConfM), e = .returned (.agg #[vc, vs, .int .i64 c.threads]) ∧ SlI w' .i64 vc c.caps ∧ SlI w' .u64 vs c.starts ∧ offB g vc ∧ offB g vs ∧ c.good ∧ 1 ≤ c.caps.length ∧ c.caps.length ≤ 3 ∧ CodesE w' g ∧ w.grownBy w' (some g) := by
  obtain ⟨r, val, h⟩ := h
  refine (config_any g r val w h).mono ?_
  rintro e w' ⟨vc, vs, t, caps, starts, r', rfl, h1, h2, h3, h4, h5, h6, h7, h8, h9, h10, h11, h12⟩
  exact ⟨vc, vs, ⟨caps, starts, t⟩, rfl, h1, h2, h10, h11, h12.good h5 (by omega), h4, h5, ⟨_, _, h8⟩, h9⟩
end Go.Proofs.Ytjnlkemdaffgbaa
/- A configuration of a reader, owned: what changes its capacities. -/
namespace Go.Proofs.Ytjnlkemdaffgbaa
open Go.ChangeShapes Go.WideShapes Go.ChangeAt Go.RowKit
set_option maxRecDepth 100000

theorem configO (g : Nat) (w : World) (h : CodesE w g) :
    Calls Try.prog 12 #[.pointer (some ⟨g, 0, none⟩)] w fun e w' => ∃ (vc vs : Value) (c : ConfM), e = .returned (.agg #[vc, vs, .int .i64 c.threads]) ∧ OwnI w' w.heap.size 3 .i64 vc c.caps ∧ OwnI w' w.heap.size 27 .u64 vs c.starts ∧ c.good ∧ 1 ≤ c.caps.length ∧ c.caps.length ≤ 3 ∧ CodesE w' g ∧ w.grownBy w' (some g) := by
  obtain ⟨r, val, h⟩ := h
  refine (config_own g r val w h).mono ?_
  rintro e w' ⟨vc, vs, t, caps, starts, r', rfl, h1, h2, h3, h4, h5, h6, h7, h8, h9, h10, h11, h12, h13, h14⟩
  exact ⟨vc, vs, ⟨caps, starts, t⟩, rfl, h13, h14, h12.good h5 (by omega), h4, h5, ⟨_, _, h8⟩, h9⟩
/-- the same configuration with another capacity of channel 0 -/
def ConfM.cap0 (c : ConfM) (k : Int) : ConfM := ⟨c.caps.set 0 k, c.starts, c.threads⟩
theorem ConfM.good.cap0 {c : ConfM} (h : c.good) (k : Int) (hk : 0 ≤ k ∧ k ≤ 16) : (c.cap0 k).good :=
  ⟨by show (c.caps.set 0 k).length ≤ 8; simpa using h.len, by show c.starts.length = (c.caps.set 0 k).length; simpa using h.same, fun x hx => by
    rcases List.mem_or_eq_of_mem_set hx with h1 | rfl
    · exact h.caps x h1
    · exact hk, h.starts, h.thr⟩
theorem OwnI.readOff {S : List (Option Nat)} {w w2 : World} {base : Nat} {e : TypeId} {k : IntKind} {v : Value} {l : List Int} (h : OwnI w base e k v l) (hl : l.length ≤ 1000000) (hw : ∀ x ∈ l, x = k.wrap x) (hS : ∀ j, v.ownBlock = some j → some j ∉ S) (h2 : OffS S w w2) : SlI w2 k v l := by
  have h3 : OwnI w2 base e k v l := by
    refine ⟨h.1, h.2.imp id fun ⟨g, cap, cur, hv, h3, h4, h5⟩ => ⟨g, cap, cur, hv, h3, (h2.2 g (Array.getElem?_eq_some_iff.1 h4).1 (hS g (by rw [hv]; rfl))).trans h4, h5⟩⟩
  exact h3.read (by omega) hw
end Go.Proofs.Ytjnlkemdaffgbaa
/- Layer 11: the law's small configuration. -/
namespace Go.Proofs.Ytjnlkemdaffgbaa
open Go.ChangeShapes Go.WideShapes Go.ChangeAt Go.RowKit
set_option maxRecDepth 100000

def oneC : ConfM := ⟨[1], [0], 2⟩
theorem oneC_good : oneC.good := ⟨by decide, rfl, by decide, by decide, by decide⟩
set_option maxHeartbeats 4000000 in
theorem one_any (w : World) : Calls Try.prog 20 #[] w fun e w' => ∃ a a2, e = .returned (.agg #[.slice a 1 1, .slice a2 1 1, .int .i64 2]) ∧ ConfV w' (.agg #[.slice a 1 1, .slice a2 1 1, .int .i64 2]) oneC ∧ Below w.heap.size w w' := by
  obtain ⟨W, hW, HB, R0, R1, R2, hz⟩ := three_new w (.cells #[.slice none 0 0, .slice none 0 0, .int .i64 0] 36) (.cells #[.int .i64 1] 3) (.cells #[.int .u64 0] 27)
  have HW := Lib.hid hW
  clear hW
  go_enter Try.func20, Try.ntmps20
  go_wp2_with (refine wpList_store_row rfl 36 _ _ rfl (w.heap.size) _ rfl rfl 36 #[.slice none 0 0, .slice none 0 0, .int .i64 0] (by rw [HW.out]; exact R0.out) (by kernel_rfl) rfl (by simp [Value.oneCell']) ?_)
  rw [HW.out]
  refine bodyPost_ret (v := .agg #[.slice (some ⟨w.heap.size + 1, 0, none⟩) 1 1, .slice (some ⟨w.heap.size + 2, 0, none⟩) 1 1, .int .i64 2]) (results_cell_row Try.results20 _ _ (w.heap.size) 36 _ (0, 0) _ rfl (setRow_heap _ _ _ _ 36 (0, 0) R0.out) Try.underlying36 rfl (by kernel_rfl)) rfl ?_
  have Q1 := (setRow_other W w.heap.size (w.heap.size + 1) #[.slice (some ⟨w.heap.size + 1, 0, none⟩) 1 1, .slice (some ⟨w.heap.size + 2, 0, none⟩) 1 1, .int .i64 2] (by omega)).trans R1.out
  have Q2 := (setRow_other W w.heap.size (w.heap.size + 2) #[.slice (some ⟨w.heap.size + 1, 0, none⟩) 1 1, .slice (some ⟨w.heap.size + 2, 0, none⟩) 1 1, .int .i64 2] (by omega)).trans R2.out
  exact ⟨_, _, rfl, ⟨_, _, rfl, sl1_at Q1 (by decide), sl1_at Q2 (by decide)⟩, row_below HB.out (Nat.le_refl _) _⟩
end Go.Proofs.Ytjnlkemdaffgbaa
/- What becomes of a world of machines: a list grows by a row, a row is stored anew, the memory is stored. -/
namespace Go.Proofs.Ytjnlkemdaffgbaa
open Go.ChangeShapes Go.WideShapes Go.ChangeAt Go.RowKit
set_option maxRecDepth 100000

section
variable {WT : TypeId} {w0 wr w2 : World} {E : List (Option Nat)} {B D : Nat} {x : WV} {y : WM}
theorem OwnS.keptB {w : World} {base : Nat} {e : TypeId} {s : Nat} {v u : Value} {rows : List (List Value)} {o : Nat} (h : OwnS w base e s v rows) (hB : B < base) : OwnS (w.setCell ⟨B, o, none⟩ u) base e s v rows := h.kept (grownBy_setCell w ⟨B, o, none⟩ u) (h.ne hB)
theorem WI.addL {a' : Option Addr} {c' : Nat} {z : MachM} (h : WI WT w0 wr E B D x y) (ho : OwnS w2 D 58 14 (.slice a' (y.l.length + 1) c') (y.l.map (machL (x.vc y.c) (x.vs y.c) y.c.threads) ++ [machL (x.vc y.c) (x.vs y.c) y.c.threads z])) (hg : wr.grownBy w2 (x.vl y).ownBlock) (hbk : addrB a' = addrB x.lA ∨ addrB a' = some wr.heap.size) :
    WI WT w0 (w2.setCell ⟨B, 6, none⟩ (.slice a' (y.l.length + 1) c')) E B D { x with lA := a', lc := c' } { y with l := y.l ++ [z] } ∧ ∀ w3, OffS (WV.S { x with lA := a', lc := c' } E B) (w2.setCell ⟨B, 6, none⟩ (.slice a' (y.l.length + 1) c')) w3 → OffS (x.S E B) wr w3 := by
  have h3 := h.BD
  have hge : ∀ j, (x.vl y).ownBlock = some j → D ≤ j := fun j hj => (h.ol.lt j hj).1
  have hgB : w2.heap[B]? = wr.heap[B]? := hg.block B h.lt (fun e => by have := hge B e.symm; omega)
  have hin : ∀ w3, OffS (WV.S { x with lA := a', lc := c' } E B) (w2.setCell ⟨B, 6, none⟩ (.slice a' (y.l.length + 1) c')) w3 → OffS (x.S E B) wr w3 := fun w3 h4 => by
    have o1 : OffS (x.S E B) wr w2 := OffS.grown hg (.inr (by rw [WV.vl, own_addr]; simp [WV.S]))
    have o2 : OffS (x.S E B) w2 (w2.setCell ⟨B, 6, none⟩ (.slice a' (y.l.length + 1) c')) := OffS.grown (grownBy_setCell w2 ⟨B, 6, none⟩ _) (.inr (by simp [WV.S]))
    refine (o1.trans1 o2).trans h4 fun j hj hm => ?_
    simp only [WV.S, List.mem_append, List.mem_cons, List.not_mem_nil, or_false] at hm ⊢
    rcases hm with e | e | e | e | e | e
    · exact .inl e
    · exact .inr (.inl e)
    all_goals first
      | (rcases hbk with hb | hb
         · rw [hb] at e; simp [e]; done
         · rw [hb] at e; simp at e; omega)
      | (simp [e]; done)
  refine ⟨⟨h.w0B, fun j hj => ⟨(h.eW j hj).1, Nat.lt_of_lt_of_le (h.eW j hj).2 (by have := hg.size; simp; omega)⟩, h3, by have := hg.size; have := h.Dw; simp; omega, ?_, fun w3 h4 => h.conf w3 (hin w3 h4), h.good, h.mem.sub hin, h.fits, ?_, ?_, ?_, ?_, fun z hz => (h.past z hz).sub hin, (h.below.grown hg h.below.size (fun j hj => by have := hge j hj; have := h.w0B; omega)).setCell (p := ⟨B, 6, none⟩) (by have := h.w0B; show w0.heap.size ≤ B; omega) _⟩, hin⟩
  · have := heap_setCell_same w2 B 6 _ _ (.slice a' (y.l.length + 1) c') (hgB.trans h.row)
    simpa [WV.row] using this
  · have ho' : OwnS w2 D 58 14 (WV.vl { x with lA := a', lc := c' } { y with l := y.l ++ [z] }) (y.l.map (machL (x.vc y.c) (x.vs y.c) y.c.threads) ++ [machL (x.vc y.c) (x.vs y.c) y.c.threads z]) := by
      have e : (WV.vl { x with lA := a', lc := c' } { y with l := y.l ++ [z] }) = .slice a' (y.l.length + 1) c' := by simp [WV.vl]
      rw [e]; exact ho
    have h5 := ho'.keptB (o := 6) (u := .slice a' (y.l.length + 1) c') h3
    simpa [List.map_append, WV.vc, WV.vs] using h5
  · exact (h.ot.kept hg (h.ot.apart h.ol (by decide))).keptB h3
  · exact (h.op.kept hg (h.op.apart h.ol (by decide))).keptB h3
  · exact (h.of.kept hg (h.of.apart h.ol (by decide))).keptB h3
theorem WI.addT {a' : Option Addr} {c' : Nat} {z : ItemM} (h : WI WT w0 wr E B D x y) (ho : OwnS w2 D 71 8 (.slice a' (y.t.length + 1) c') (y.t.map itemCells ++ [itemCells z])) (hg : wr.grownBy w2 (x.vt y).ownBlock) (hbk : addrB a' = addrB x.tA ∨ addrB a' = some wr.heap.size) :
    WI WT w0 (w2.setCell ⟨B, 7, none⟩ (.slice a' (y.t.length + 1) c')) E B D { x with tA := a', tc := c' } { y with t := y.t ++ [z] } ∧ ∀ w3, OffS (WV.S { x with tA := a', tc := c' } E B) (w2.setCell ⟨B, 7, none⟩ (.slice a' (y.t.length + 1) c')) w3 → OffS (x.S E B) wr w3 := by
  have h3 := h.BD
  have hge : ∀ j, (x.vt y).ownBlock = some j → D ≤ j := fun j hj => (h.ot.lt j hj).1
  have hgB : w2.heap[B]? = wr.heap[B]? := hg.block B h.lt (fun e => by have := hge B e.symm; omega)
  have hin : ∀ w3, OffS (WV.S { x with tA := a', tc := c' } E B) (w2.setCell ⟨B, 7, none⟩ (.slice a' (y.t.length + 1) c')) w3 → OffS (x.S E B) wr w3 := fun w3 h4 => by
    have o1 : OffS (x.S E B) wr w2 := OffS.grown hg (.inr (by rw [WV.vt, own_addr]; simp [WV.S]))
    have o2 : OffS (x.S E B) w2 (w2.setCell ⟨B, 7, none⟩ (.slice a' (y.t.length + 1) c')) := OffS.grown (grownBy_setCell w2 ⟨B, 7, none⟩ _) (.inr (by simp [WV.S]))
    refine (o1.trans1 o2).trans h4 fun j hj hm => ?_
    simp only [WV.S, List.mem_append, List.mem_cons, List.not_mem_nil, or_false] at hm ⊢
    rcases hm with e | e | e | e | e | e
    · exact .inl e
    · exact .inr (.inl e)
    all_goals first
      | (rcases hbk with hb | hb
         · rw [hb] at e; simp [e]; done
         · rw [hb] at e; simp at e; omega)
      | (simp [e]; done)
  refine ⟨⟨h.w0B, fun j hj => ⟨(h.eW j hj).1, Nat.lt_of_lt_of_le (h.eW j hj).2 (by have := hg.size; simp; omega)⟩, h3, by have := hg.size; have := h.Dw; simp; omega, ?_, fun w3 h4 => h.conf w3 (hin w3 h4), h.good, h.mem.sub hin, h.fits, ?_, ?_, ?_, ?_, fun z hz => (h.past z hz).sub hin, (h.below.grown hg h.below.size (fun j hj => by have := hge j hj; have := h.w0B; omega)).setCell (p := ⟨B, 7, none⟩) (by have := h.w0B; show w0.heap.size ≤ B; omega) _⟩, hin⟩
  · have := heap_setCell_same w2 B 7 _ _ (.slice a' (y.t.length + 1) c') (hgB.trans h.row)
    simpa [WV.row] using this
  · exact (h.ol.kept hg (h.ol.apart h.ot (by decide))).keptB h3
  · have ho' : OwnS w2 D 71 8 (WV.vt { x with tA := a', tc := c' } { y with t := y.t ++ [z] }) (y.t.map itemCells ++ [itemCells z]) := by
      have e : (WV.vt { x with tA := a', tc := c' } { y with t := y.t ++ [z] }) = .slice a' (y.t.length + 1) c' := by simp [WV.vt]
      rw [e]; exact ho
    have h5 := ho'.keptB (o := 7) (u := .slice a' (y.t.length + 1) c') h3
    simpa [List.map_append, WV.vc, WV.vs] using h5
  · exact (h.op.kept hg (h.op.apart h.ot (by decide))).keptB h3
  · exact (h.of.kept hg (h.of.apart h.ot (by decide))).keptB h3
theorem WI.addP {a' : Option Addr} {c' : Nat} {z : List Value × MemM} (h : WI WT w0 wr E B D x y) (ho : OwnS w2 D 39 3 (.slice a' (y.p.length + 1) c') (y.p.map Prod.fst ++ [z.1])) (hg : wr.grownBy w2 (x.vp y).ownBlock) (hbk : addrB a' = addrB x.pA ∨ addrB a' = some wr.heap.size) (hz : StM (OffS (x.S E B) wr) (.agg z.1.toArray) z.2) :
    WI WT w0 (w2.setCell ⟨B, 8, none⟩ (.slice a' (y.p.length + 1) c')) E B D { x with pA := a', pc := c' } { y with p := y.p ++ [z] } ∧ ∀ w3, OffS (WV.S { x with pA := a', pc := c' } E B) (w2.setCell ⟨B, 8, none⟩ (.slice a' (y.p.length + 1) c')) w3 → OffS (x.S E B) wr w3 := by
  have h3 := h.BD
  have hge : ∀ j, (x.vp y).ownBlock = some j → D ≤ j := fun j hj => (h.op.lt j hj).1
  have hgB : w2.heap[B]? = wr.heap[B]? := hg.block B h.lt (fun e => by have := hge B e.symm; omega)
  have hin : ∀ w3, OffS (WV.S { x with pA := a', pc := c' } E B) (w2.setCell ⟨B, 8, none⟩ (.slice a' (y.p.length + 1) c')) w3 → OffS (x.S E B) wr w3 := fun w3 h4 => by
    have o1 : OffS (x.S E B) wr w2 := OffS.grown hg (.inr (by rw [WV.vp, own_addr]; simp [WV.S]))
    have o2 : OffS (x.S E B) w2 (w2.setCell ⟨B, 8, none⟩ (.slice a' (y.p.length + 1) c')) := OffS.grown (grownBy_setCell w2 ⟨B, 8, none⟩ _) (.inr (by simp [WV.S]))
    refine (o1.trans1 o2).trans h4 fun j hj hm => ?_
    simp only [WV.S, List.mem_append, List.mem_cons, List.not_mem_nil, or_false] at hm ⊢
    rcases hm with e | e | e | e | e | e
    · exact .inl e
    · exact .inr (.inl e)
    all_goals first
      | (rcases hbk with hb | hb
         · rw [hb] at e; simp [e]; done
         · rw [hb] at e; simp at e; omega)
      | (simp [e]; done)
  refine ⟨⟨h.w0B, fun j hj => ⟨(h.eW j hj).1, Nat.lt_of_lt_of_le (h.eW j hj).2 (by have := hg.size; simp; omega)⟩, h3, by have := hg.size; have := h.Dw; simp; omega, ?_, fun w3 h4 => h.conf w3 (hin w3 h4), h.good, h.mem.sub hin, h.fits, ?_, ?_, ?_, ?_, fun q hq => by
    rw [List.mem_append, List.mem_singleton] at hq
    rcases hq with hq | rfl
    · exact (h.past q hq).sub hin
    · exact hz.sub hin, (h.below.grown hg h.below.size (fun j hj => by have := hge j hj; have := h.w0B; omega)).setCell (p := ⟨B, 8, none⟩) (by have := h.w0B; show w0.heap.size ≤ B; omega) _⟩, hin⟩
  · have := heap_setCell_same w2 B 8 _ _ (.slice a' (y.p.length + 1) c') (hgB.trans h.row)
    simpa [WV.row] using this
  · exact (h.ol.kept hg (h.ol.apart h.op (by decide))).keptB h3
  · exact (h.ot.kept hg (h.ot.apart h.op (by decide))).keptB h3
  · have ho' : OwnS w2 D 39 3 (WV.vp { x with pA := a', pc := c' } { y with p := y.p ++ [z] }) (y.p.map Prod.fst ++ [z.1]) := by
      have e : (WV.vp { x with pA := a', pc := c' } { y with p := y.p ++ [z] }) = .slice a' (y.p.length + 1) c' := by simp [WV.vp]
      rw [e]; exact ho
    have h5 := ho'.keptB (o := 8) (u := .slice a' (y.p.length + 1) c') h3
    simpa [List.map_append, WV.vc, WV.vs] using h5
  · exact (h.of.kept hg (h.of.apart h.op (by decide))).keptB h3
theorem WI.addF {a' : Option Addr} {c' : Nat} {z : List Value} (h : WI WT w0 wr E B D x y) (ho : OwnS w2 D 61 5 (.slice a' (y.f.length + 1) c') (y.f ++ [z])) (hg : wr.grownBy w2 (x.vf y).ownBlock) (hbk : addrB a' = addrB x.fA ∨ addrB a' = some wr.heap.size) :
    WI WT w0 (w2.setCell ⟨B, 9, none⟩ (.slice a' (y.f.length + 1) c')) E B D { x with fA := a', fc := c' } { y with f := y.f ++ [z] } ∧ ∀ w3, OffS (WV.S { x with fA := a', fc := c' } E B) (w2.setCell ⟨B, 9, none⟩ (.slice a' (y.f.length + 1) c')) w3 → OffS (x.S E B) wr w3 := by
  have h3 := h.BD
  have hge : ∀ j, (x.vf y).ownBlock = some j → D ≤ j := fun j hj => (h.of.lt j hj).1
  have hgB : w2.heap[B]? = wr.heap[B]? := hg.block B h.lt (fun e => by have := hge B e.symm; omega)
  have hin : ∀ w3, OffS (WV.S { x with fA := a', fc := c' } E B) (w2.setCell ⟨B, 9, none⟩ (.slice a' (y.f.length + 1) c')) w3 → OffS (x.S E B) wr w3 := fun w3 h4 => by
    have o1 : OffS (x.S E B) wr w2 := OffS.grown hg (.inr (by rw [WV.vf, own_addr]; simp [WV.S]))
    have o2 : OffS (x.S E B) w2 (w2.setCell ⟨B, 9, none⟩ (.slice a' (y.f.length + 1) c')) := OffS.grown (grownBy_setCell w2 ⟨B, 9, none⟩ _) (.inr (by simp [WV.S]))
    refine (o1.trans1 o2).trans h4 fun j hj hm => ?_
    simp only [WV.S, List.mem_append, List.mem_cons, List.not_mem_nil, or_false] at hm ⊢
    rcases hm with e | e | e | e | e | e
    · exact .inl e
    · exact .inr (.inl e)
    all_goals first
      | (rcases hbk with hb | hb
         · rw [hb] at e; simp [e]; done
         · rw [hb] at e; simp at e; omega)
      | (simp [e]; done)
  refine ⟨⟨h.w0B, fun j hj => ⟨(h.eW j hj).1, Nat.lt_of_lt_of_le (h.eW j hj).2 (by have := hg.size; simp; omega)⟩, h3, by have := hg.size; have := h.Dw; simp; omega, ?_, fun w3 h4 => h.conf w3 (hin w3 h4), h.good, h.mem.sub hin, h.fits, ?_, ?_, ?_, ?_, fun z hz => (h.past z hz).sub hin, (h.below.grown hg h.below.size (fun j hj => by have := hge j hj; have := h.w0B; omega)).setCell (p := ⟨B, 9, none⟩) (by have := h.w0B; show w0.heap.size ≤ B; omega) _⟩, hin⟩
  · have := heap_setCell_same w2 B 9 _ _ (.slice a' (y.f.length + 1) c') (hgB.trans h.row)
    simpa [WV.row] using this
  · exact (h.ol.kept hg (h.ol.apart h.of (by decide))).keptB h3
  · exact (h.ot.kept hg (h.ot.apart h.of (by decide))).keptB h3
  · exact (h.op.kept hg (h.op.apart h.of (by decide))).keptB h3
  · have ho' : OwnS w2 D 61 5 (WV.vf { x with fA := a', fc := c' } { y with f := y.f ++ [z] }) (y.f ++ [z]) := by
      have e : (WV.vf { x with fA := a', fc := c' } { y with f := y.f ++ [z] }) = .slice a' (y.f.length + 1) c' := by simp [WV.vf]
      rw [e]; exact ho
    exact ho'.keptB h3
theorem WI.setL {b n cap i : Nat} {z : MachM} (h : WI WT w0 wr E B D x y) (hv : x.vl y = .slice (some ⟨b, 0, none⟩) n cap) (hi : i < y.l.length) (hz : (machL (x.vc y.c) (x.vs y.c) y.c.threads z).length = 14) (hz1 : ∀ u ∈ (machL (x.vc y.c) (x.vs y.c) y.c.threads z), u.oneCell' = true) :
    WI WT w0 (wr.setCells b (i * 14) (machL (x.vc y.c) (x.vs y.c) y.c.threads z)) E B D x { y with l := y.l.set i z } ∧ ∀ w3, OffS (x.S E B) (wr.setCells b (i * 14) (machL (x.vc y.c) (x.vs y.c) y.c.threads z)) w3 → OffS (x.S E B) wr w3 := by
  have h3 := h.BD
  have hbo : (x.vl y).ownBlock = some b := by rw [hv]; rfl
  have hb := h.ol.lt b hbo
  have hg : wr.grownBy (wr.setCells b (i * 14) (machL (x.vc y.c) (x.vs y.c) y.c.threads z)) (x.vl y).ownBlock := by rw [hbo]; exact setCells_grown b _ _ wr
  have hin : ∀ w3, OffS (x.S E B) (wr.setCells b (i * 14) (machL (x.vc y.c) (x.vs y.c) y.c.threads z)) w3 → OffS (x.S E B) wr w3 := fun w3 h4 =>
    (OffS.grown hg (.inr (by rw [WV.vl, own_addr]; simp [WV.S]))).trans1 h4
  have ho := h.ol
  rw [hv] at ho
  have hs := ho.setRow (r := machL (x.vc y.c) (x.vs y.c) y.c.threads z) i (by simpa using hi) hz hz1
  refine ⟨⟨h.w0B, fun j hj => ⟨(h.eW j hj).1, Nat.lt_of_lt_of_le (h.eW j hj).2 hg.size⟩, h3, by rw [setCells_size]; exact h.Dw, ?_, fun w3 h4 => h.conf w3 (hin w3 h4), h.good, h.mem.sub hin, h.fits, ?_, ?_, ?_, ?_, fun z hz => (h.past z hz).sub hin, h.below.grown hg h.below.size (fun j hj => by rw [hbo] at hj; cases hj; have := h.w0B; omega)⟩, hin⟩
  · rw [setCells_other _ _ _ _ _ (by omega), h.row]
    simp [WV.row]
  · have e : WV.vl x { y with l := y.l.set i z } = .slice (some ⟨b, 0, none⟩) n cap := by rw [← hv]; simp [WV.vl]
    rw [e]
    simpa [List.map_set, WV.vc, WV.vs] using hs
  · exact h.ot.kept hg (h.ot.apart h.ol (by decide))
  · exact h.op.kept hg (h.op.apart h.ol (by decide))
  · exact h.of.kept hg (h.of.apart h.ol (by decide))
theorem WI.setF {b n cap i : Nat} {z : List Value} (h : WI WT w0 wr E B D x y) (hv : x.vf y = .slice (some ⟨b, 0, none⟩) n cap) (hi : i < y.f.length) (hz : (z).length = 5) (hz1 : ∀ u ∈ (z), u.oneCell' = true) :
    WI WT w0 (wr.setCells b (i * 5) (z)) E B D x { y with f := y.f.set i z } ∧ ∀ w3, OffS (x.S E B) (wr.setCells b (i * 5) (z)) w3 → OffS (x.S E B) wr w3 := by
  have h3 := h.BD
  have hbo : (x.vf y).ownBlock = some b := by rw [hv]; rfl
  have hb := h.of.lt b hbo
  have hg : wr.grownBy (wr.setCells b (i * 5) (z)) (x.vf y).ownBlock := by rw [hbo]; exact setCells_grown b _ _ wr
  have hin : ∀ w3, OffS (x.S E B) (wr.setCells b (i * 5) (z)) w3 → OffS (x.S E B) wr w3 := fun w3 h4 =>
    (OffS.grown hg (.inr (by rw [WV.vf, own_addr]; simp [WV.S]))).trans1 h4
  have ho := h.of
  rw [hv] at ho
  have hs := ho.setRow (r := z) i (by simpa using hi) hz hz1
  refine ⟨⟨h.w0B, fun j hj => ⟨(h.eW j hj).1, Nat.lt_of_lt_of_le (h.eW j hj).2 hg.size⟩, h3, by rw [setCells_size]; exact h.Dw, ?_, fun w3 h4 => h.conf w3 (hin w3 h4), h.good, h.mem.sub hin, h.fits, ?_, ?_, ?_, ?_, fun z hz => (h.past z hz).sub hin, h.below.grown hg h.below.size (fun j hj => by rw [hbo] at hj; cases hj; have := h.w0B; omega)⟩, hin⟩
  · rw [setCells_other _ _ _ _ _ (by omega), h.row]
    simp [WV.row]
  · exact h.ol.kept hg (h.ol.apart h.of (by decide))
  · exact h.ot.kept hg (h.ot.apart h.of (by decide))
  · exact h.op.kept hg (h.op.apart h.of (by decide))
  · have e : WV.vf x { y with f := y.f.set i z } = .slice (some ⟨b, 0, none⟩) n cap := by rw [← hv]; simp [WV.vf]
    rw [e]
    exact hs
theorem WI.setM {ma na : Option Addr} {mc nc : Nat} {m2 : MemM} (h : WI WT w0 wr E B D x y) (hm : StM (OffS (x.S E B) wr) (.agg #[.slice ma m2.words.length mc, .slice na m2.lists.length nc, .int .i64 m2.tick]) m2) (hf : m2.fits) :
    WI WT w0 (((wr.setCell ⟨B, 3, none⟩ (.slice ma m2.words.length mc)).setCell ⟨B, 4, none⟩ (.slice na m2.lists.length nc)).setCell ⟨B, 5, none⟩ (.int .i64 m2.tick)) E B D { x with mA := ma, mc := mc, nA := na, nc := nc } { y with m := m2 } ∧ ∀ w3, OffS (WV.S { x with mA := ma, mc := mc, nA := na, nc := nc } E B) (((wr.setCell ⟨B, 3, none⟩ (.slice ma m2.words.length mc)).setCell ⟨B, 4, none⟩ (.slice na m2.lists.length nc)).setCell ⟨B, 5, none⟩ (.int .i64 m2.tick)) w3 → OffS (x.S E B) wr w3 := by
  have h3 := h.BD
  have hg : wr.grownBy (((wr.setCell ⟨B, 3, none⟩ (.slice ma m2.words.length mc)).setCell ⟨B, 4, none⟩ (.slice na m2.lists.length nc)).setCell ⟨B, 5, none⟩ (.int .i64 m2.tick)) (some B) := grownBy_trans (grownBy_trans (grownBy_setCell wr ⟨B, 3, none⟩ _) (grownBy_setCell _ ⟨B, 4, none⟩ _)) (grownBy_setCell _ ⟨B, 5, none⟩ _)
  have hin : ∀ w3, OffS (WV.S { x with mA := ma, mc := mc, nA := na, nc := nc } E B) (((wr.setCell ⟨B, 3, none⟩ (.slice ma m2.words.length mc)).setCell ⟨B, 4, none⟩ (.slice na m2.lists.length nc)).setCell ⟨B, 5, none⟩ (.int .i64 m2.tick)) w3 → OffS (x.S E B) wr w3 := fun w3 h4 =>
    (OffS.grown (S := x.S E B) hg (.inr (by simp [WV.S]))).trans1 h4
  refine ⟨⟨h.w0B, fun j hj => ⟨(h.eW j hj).1, Nat.lt_of_lt_of_le (h.eW j hj).2 hg.size⟩, h3, by have := h.Dw; simp; omega, ?_, fun w3 h4 => h.conf w3 (hin w3 h4), h.good, hm.sub hin, hf, h.ol.kept hg (h.ol.ne h3), h.ot.kept hg (h.ot.ne h3), h.op.kept hg (h.op.ne h3), h.of.kept hg (h.of.ne h3), fun z hz => (h.past z hz).sub hin, h.below.grown hg h.below.size (fun j hj => by cases hj; have := h.w0B; omega)⟩, hin⟩
  have r1 := heap_setCell_same wr B 3 _ _ (.slice ma m2.words.length mc) h.row
  have r2 := heap_setCell_same _ B 4 _ _ (.slice na m2.lists.length nc) r1
  have r3 := heap_setCell_same _ B 5 _ _ (.int .i64 m2.tick) r2
  simpa [WV.row] using r3
end
end Go.Proofs.Ytjnlkemdaffgbaa
