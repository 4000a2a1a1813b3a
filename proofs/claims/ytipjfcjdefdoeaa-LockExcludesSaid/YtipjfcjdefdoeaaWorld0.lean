/- The world of machines with which a law begins. -/
import Derived.Test.YtipjfcjdefdoeaaBegin
import Derived.Test.YtipjfcjdefdoeaaWm
import Derived.Test.YtipjfcjdefdoeaaMmH
import Derived.Test.YtipjfcjdefdoeaaDrawE
import Derived.Test.YtipjfcjdefdoeaaDrawCfg
import Derived.Test.YtipjfcjdefdoeaaConf
namespace Go.Proofs.Ytipjfcjdefdoeaa
open Go.ChangeShapes Go.WideShapes Go.ChangeAt Go.RowKit
set_option maxRecDepth 100000

/-- w0: before the law; wc: behind the configuration; wd: behind Begin; the world's own block is made last; E: blocks that may change -/
theorem WI.start {WT : TypeId} {w0 wc wd : World} {E : List (Option Nat)} {a a2 m1 m2 : Option Addr} {cap cap2 n1 n2 : Nat} {c : ConfM} (hg : c.good) (hE : ∀ j, some j ∈ E → w0.heap.size ≤ j ∧ j < wc.heap.size)
    (hc : ∀ w2, OffS E wc w2 → SlI w2 .i64 (.slice a c.caps.length cap) c.caps ∧ SlI w2 .u64 (.slice a2 c.starts.length cap2) c.starts) (hb : Below wc.heap.size wc wd)
    (hm : StM (NewPart wc wd) (.agg #[.slice m1 (newE c).words.length n1, .slice m2 (newE c).lists.length n2, .int .i64 (newE c).tick]) (newE c)) (h0 : Below w0.heap.size w0 wc) :
    WI WT w0 (wd.alloc (.cells #[.slice a c.caps.length cap, .slice a2 c.starts.length cap2, .int .i64 c.threads, .slice m1 (newE c).words.length n1, .slice m2 (newE c).lists.length n2, .int .i64 (newE c).tick, .slice none 0 0, .slice none 0 0, .slice none 0 0, .slice none 0 0] WT)) E wd.heap.size (wd.heap.size + 1) ⟨a, cap, a2, cap2, m1, n1, m2, n2, none, 0, none, 0, none, 0, none, 0⟩ ⟨c, newE c, [], [], [], []⟩ := by
  have hb2 : Below wd.heap.size wd (wd.alloc (.cells #[.slice a c.caps.length cap, .slice a2 c.starts.length cap2, .int .i64 c.threads, .slice m1 (newE c).words.length n1, .slice m2 (newE c).lists.length n2, .int .i64 (newE c).tick, .slice none 0 0, .slice none 0 0, .slice none 0 0, .slice none 0 0] WT)) := below_new (Below.refl _ _) _
  have hz := hb.size
  have z0 := h0.size
  have hin : ∀ w2, OffS (WV.S ⟨a, cap, a2, cap2, m1, n1, m2, n2, none, 0, none, 0, none, 0, none, 0⟩ E wd.heap.size) (wd.alloc (.cells #[.slice a c.caps.length cap, .slice a2 c.starts.length cap2, .int .i64 c.threads, .slice m1 (newE c).words.length n1, .slice m2 (newE c).lists.length n2, .int .i64 (newE c).tick, .slice none 0 0, .slice none 0 0, .slice none 0 0, .slice none 0 0] WT)) w2 → OffS E wc w2 := fun w2 h2 => by
    refine (OffS.below (S := E) (below_then hb hb2)).trans h2 fun j hj hm => ?_
    simp only [WV.S, List.mem_append, List.mem_cons, List.not_mem_nil, or_false, Option.some.injEq, addrB, Option.map_none] at hm
    rcases hm with hm | rfl | hm | hm | hm | hm
    · exact hm
    · omega
    all_goals cases hm
  have hnp : ∀ w2, OffS (WV.S ⟨a, cap, a2, cap2, m1, n1, m2, n2, none, 0, none, 0, none, 0, none, 0⟩ E wd.heap.size) (wd.alloc (.cells #[.slice a c.caps.length cap, .slice a2 c.starts.length cap2, .int .i64 c.threads, .slice m1 (newE c).words.length n1, .slice m2 (newE c).lists.length n2, .int .i64 (newE c).tick, .slice none 0 0, .slice none 0 0, .slice none 0 0, .slice none 0 0] WT)) w2 → NewPart wc wd w2 := fun w2 h2 => by
    refine ⟨by have := h2.1; simp at this; omega, fun j hj hj2 => (h2.2 j (by simp; omega) fun hm => ?_).trans (hb2.block j hj2)⟩
    simp only [WV.S, List.mem_append, List.mem_cons, List.not_mem_nil, or_false, Option.some.injEq, addrB, Option.map_none] at hm
    rcases hm with hm | rfl | hm | hm | hm | hm
    · have := (hE j hm).2; omega
    · omega
    all_goals cases hm
  refine ⟨by omega, fun j hj => ⟨(hE j hj).1, by have := (hE j hj).2; simp; omega⟩, Nat.lt_succ_self _, by simp, heap_alloc_new _ _, fun w2 h2 => hc w2 (hin w2 h2), hg, hm.sub hnp, newE_fits hg, OwnS.nil _ _ _ _, OwnS.nil _ _ _ _, OwnS.nil _ _ _ _, OwnS.nil _ _ _ _, fun z hz => by simp at hz, below_then h0 (below_then hb hb2)⟩
/-- what lies in no block of the reader's reads on whatever the reader does -/
theorem SlI.offG {w w2 : World} {k : IntKind} {v : Value} {l : List Int} {g : Nat} (h : SlI w k v l) (ho : offB g v) (h2 : OffS [some g] w w2) : SlI w2 k v l := by
  have hg : w.grownBy { w with heap := w2.heap } (some g) := ⟨rfl, rfl, rfl, h2.1, fun j hj hne => h2.2 j hj (by simp only [List.mem_singleton, Option.some.injEq]; intro e; exact hne (by rw [e]))⟩
  exact (h.grown hg ho).heapEq (w := { w with heap := w2.heap }) rfl
theorem CfgOk.good {caps starts : List Int} {t : Int} (h : CfgOk caps starts caps.length) (hl : caps.length ≤ 3) (ht : 1 ≤ t ∧ t ≤ 8) : ConfM.good ⟨caps, starts, t⟩ :=
  ⟨by show caps.length ≤ 8; omega, h.2.1, fun x hx => by have := h.2.2.1 x hx; omega, h.2.2.2, ht⟩
theorem configG (g : Nat) (w : World) (h : CodesE w g) :
    Calls Try.prog 20 #[.pointer (some ⟨g, 0, none⟩)] w fun e w' => ∃ (vc vs : Value) (c : ConfM), e = .returned (.agg #[vc, vs, .int .i64 c.threads]) ∧ SlI w' .i64 vc c.caps ∧ SlI w' .u64 vs c.starts ∧ offB g vc ∧ offB g vs ∧ c.good ∧ 1 ≤ c.caps.length ∧ c.caps.length ≤ 3 ∧ CodesE w' g ∧ w.grownBy w' (some g) := by
  obtain ⟨r, val, h⟩ := h
  refine (config_any g r val w h).mono ?_
  rintro e w' ⟨vc, vs, t, caps, starts, r', rfl, h1, h2, h3, h4, h5, h6, h7, h8, h9, h10, h11, h12⟩
  exact ⟨vc, vs, ⟨caps, starts, t⟩, rfl, h1, h2, h10, h11, h12.good h5 (by omega), h4, h5, ⟨_, _, h8⟩, h9⟩
end Go.Proofs.Ytipjfcjdefdoeaa
