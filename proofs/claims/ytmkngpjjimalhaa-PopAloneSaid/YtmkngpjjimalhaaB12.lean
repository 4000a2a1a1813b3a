
import Derived.Test.YtmkngpjjimalhaaB09
import Derived.Test.YtmkngpjjimalhaaB05
import Derived.Test.YtmkngpjjimalhaaB11
import Derived.Test.YtmkngpjjimalhaaB07
import Derived.Test.YtmkngpjjimalhaaB06
set_option linter.unusedVariables false
set_option linter.unusedSimpArgs false
/- The world of machines with which a law begins. -/
namespace Go.Proofs.Ytmkngpjjimalhaa
open Go.ChangeShapes Go.WideShapes Go.ChangeAt Go.RowKit
set_option maxRecDepth 100000

/-- w0: before the law; wc: behind the configuration; wd: behind Begin; the world's own block is made last; E: blocks that may change -/
theorem WI.start {WT : TypeId} {w0 wc wd : World} {E : List (Option Nat)} {a a2 m1 m2 : Option Addr} {cap cap2 n1 n2 : Nat} {c : ConfM} (hg : c.good) (hE : ∀ j, some j ∈ E → w0.heap.size ≤ j ∧ j < wc.heap.size)
    (hc : ∀ w2, OffS E wc w2 → SlI w2 .i64 (.slice a c.caps.length cap) c.caps ∧ SlI w2 .u64 (.slice a2 c.starts.length cap2) c.starts) (hb : Below wc.heap.size wc wd)
    (hm : StM (NewPart wc wd) (.agg #[.slice m1 (newE c).words.length n1, .slice m2 (newE c).lists.length n2, .int .i64 (newE c).tick]) (newE c)) (h0 : Below w0.heap.size w0 wc) :
    WI WT w0 (wd.alloc (.cells #[.slice a c.caps.length cap, .slice a2 c.starts.length cap2, .int .i64 c.threads, .slice m1 (newE c).words.length n1, .slice m2 (newE c).lists.length n2, .int .i64 (newE c).tick, .slice none 0 0, .slice none 0 0, .slice none 0 0, .slice none 0 0] WT)) E wd.heap.size (wd.heap.size + 1) ⟨a, cap, a2, cap2, m1, n1, m2, n2, none, 0, none, 0, none, 0, none, 0⟩ ⟨c, newE c, [], [], [], []⟩ := by
  have hb2 : Below wd.heap.size wd (wd.alloc (.cells #[.slice a c.caps.length cap, .slice a2 c.starts.length cap2, .int .i64 c.threads, .slice m1 (newE c).words.length n1, .slice m2 (newE c).lists.length n2, .int .i64 (newE c).tick, .slice none 0 0, .slice none 0 0, .slice none 0 0, .slice none 0 0] WT)) := below_new (Below.refl _ _) _
  have hz := hb.size
  have z0 := h0.size
  have hin : ∀ w2, OffS (WV.S ⟨a, cap, a2, cap2, m1, n1, m2, n2, none, 0, none, 0, none, 0, none, 0⟩ E wd.heap.size) (wd.alloc (.cells #[.slice a c.caps.length cap, .slice a2 c.starts.length cap2, .int .i64 c.threads, .slice m1 (newE c).words.length n1, .slice m2 (newE c).lists.length n2, .int .i64 (newE c).tick, .slice none 0 0, .slice none 0 0, .slice none 0 0, .slice none 0 0] WT)) w2 → OffS E wc w2 := fun w2 h2 => by
    refine (OffS.below (S := E) (below_then hb hb2)).trans h2 fun j hj hm => ?_
    simp only [WV.S, List.mem_append, List.mem_cons, List.not_mem_nil, or_false, Option.some.injEq, addrB, Option.map_none] at hm
    rcases hm with hm | rfl | hm | hm | hm | hm
    · exact hm
    · omega
    all_goals cases hm
  have hnp : ∀ w2, OffS (WV.S ⟨a, cap, a2, cap2, m1, n1, m2, n2, none, 0, none, 0, none, 0, none, 0⟩ E wd.heap.size) (wd.alloc (.cells #[.slice a c.caps.length cap, .slice a2 c.starts.length cap2, .int .i64 c.threads, .slice m1 (newE c).words.length n1, .slice m2 (newE c).lists.length n2, .int .i64 (newE c).tick, .slice none 0 0, .slice none 0 0, .slice none 0 0, .slice none 0 0] WT)) w2 → NewPart wc wd w2 := fun w2 h2 => by
    refine ⟨by have := h2.1; simp at this; omega, fun j hj hj2 => (h2.2 j (by simp; omega) fun hm => ?_).trans (hb2.block j hj2)⟩
    simp only [WV.S, List.mem_append, List.mem_cons, List.not_mem_nil, or_false, Option.some.injEq, addrB, Option.map_none] at hm
    rcases hm with hm | rfl | hm | hm | hm | hm
    · have := (hE j hm).2; omega
    · omega
    all_goals cases hm
  refine ⟨by omega, fun j hj => ⟨(hE j hj).1, by have := (hE j hj).2; simp; omega⟩, Nat.lt_succ_self _, by simp, heap_alloc_new _ _, fun w2 h2 => hc w2 (hin w2 h2), hg, hm.sub hnp, newE_fits hg, OwnS.nil _ _ _ _, OwnS.nil _ _ _ _, OwnS.nil _ _ _ _, OwnS.nil _ _ _ _, fun z hz => by simp at hz, below_then h0 (below_then hb hb2)⟩
/-- what lies in no block of the reader's reads on whatever the reader does -/
theorem SlI.offG {w w2 : World} {k : IntKind} {v : Value} {l : List Int} {g : Nat} (h : SlI w k v l) (ho : offB g v) (h2 : OffS [some g] w w2) : SlI w2 k v l := by
  have hg : w.grownBy { w with heap := w2.heap } (some g) := ⟨rfl, rfl, rfl, h2.1, fun j hj hne => h2.2 j hj (by simp only [List.mem_singleton, Option.some.injEq]; intro e; exact hne (by rw [e]))⟩
  exact (h.grown hg ho).heapEq (w := { w with heap := w2.heap }) rfl
theorem CfgOk.good {caps starts : List Int} {t : Int} (h : CfgOk caps starts caps.length) (hl : caps.length ≤ 3) (ht : 1 ≤ t ∧ t ≤ 8) : ConfM.good ⟨caps, starts, t⟩ :=
  ⟨by show caps.length ≤ 8; omega, h.2.1, fun x hx => by have := h.2.2.1 x hx; omega, h.2.2.2, ht⟩
theorem configG (g : Nat) (w : World) (h : CodesE w g) :
    Calls Try.prog 11 #[.pointer (some ⟨g, 0, none⟩)] w fun e w' => ∃ (vc vs : Value) (c : ConfM), e = .returned (.agg #[vc, vs, .int .i64 c.threads]) ∧ SlI w' .i64 vc c.caps ∧ SlI w' .u64 vs c.starts ∧ offB g vc ∧ offB g vs ∧ c.good ∧ 1 ≤ c.caps.length ∧ c.caps.length ≤ 3 ∧ CodesE w' g ∧ w.grownBy w' (some g) := by
  obtain ⟨r, val, h⟩ := h
  refine (config_any g r val w h).mono ?_
  rintro e w' ⟨vc, vs, t, caps, starts, r', rfl, h1, h2, h3, h4, h5, h6, h7, h8, h9, h10, h11, h12⟩
  exact ⟨vc, vs, ⟨caps, starts, t⟩, rfl, h1, h2, h10, h11, h12.good h5 (by omega), h4, h5, ⟨_, _, h8⟩, h9⟩
end Go.Proofs.Ytmkngpjjimalhaa
/- A configuration of a reader, owned: what changes its capacities. -/
namespace Go.Proofs.Ytmkngpjjimalhaa
open Go.ChangeShapes Go.WideShapes Go.ChangeAt Go.RowKit
set_option maxRecDepth 100000

theorem configO (g : Nat) (w : World) (h : CodesE w g) :
    Calls Try.prog 11 #[.pointer (some ⟨g, 0, none⟩)] w fun e w' => ∃ (vc vs : Value) (c : ConfM), e = .returned (.agg #[vc, vs, .int .i64 c.threads]) ∧ OwnI w' w.heap.size 3 .i64 vc c.caps ∧ OwnI w' w.heap.size 27 .u64 vs c.starts ∧ c.good ∧ 1 ≤ c.caps.length ∧ c.caps.length ≤ 3 ∧ CodesE w' g ∧ w.grownBy w' (some g) := by
  obtain ⟨r, val, h⟩ := h
  refine (config_own g r val w h).mono ?_
  rintro e w' ⟨vc, vs, t, caps, starts, r', rfl, h1, h2, h3, h4, h5, h6, h7, h8, h9, h10, h11, h12, h13, h14⟩
  exact ⟨vc, vs, ⟨caps, starts, t⟩, rfl, h13, h14, h12.good h5 (by omega), h4, h5, ⟨_, _, h8⟩, h9⟩
/-- the same configuration with another capacity of channel 0 -/
def ConfM.cap0 (c : ConfM) (k : Int) : ConfM := ⟨c.caps.set 0 k, c.starts, c.threads⟩
theorem ConfM.good.cap0 {c : ConfM} (h : c.good) (k : Int) (hk : 0 ≤ k ∧ k ≤ 16) : (c.cap0 k).good :=
  ⟨by show (c.caps.set 0 k).length ≤ 8; simpa using h.len, by show c.starts.length = (c.caps.set 0 k).length; simpa using h.same, fun x hx => by
    rcases List.mem_or_eq_of_mem_set hx with h1 | rfl
    · exact h.caps x h1
    · exact hk, h.starts, h.thr⟩
theorem OwnI.readOff {S : List (Option Nat)} {w w2 : World} {base : Nat} {e : TypeId} {k : IntKind} {v : Value} {l : List Int} (h : OwnI w base e k v l) (hl : l.length ≤ 1000000) (hw : ∀ x ∈ l, x = k.wrap x) (hS : ∀ j, v.ownBlock = some j → some j ∉ S) (h2 : OffS S w w2) : SlI w2 k v l := by
  have h3 : OwnI w2 base e k v l := by
    refine ⟨h.1, h.2.imp id fun ⟨g, cap, cur, hv, h3, h4, h5⟩ => ⟨g, cap, cur, hv, h3, (h2.2 g (Array.getElem?_eq_some_iff.1 h4).1 (hS g (by rw [hv]; rfl))).trans h4, h5⟩⟩
  exact h3.read (by omega) hw
end Go.Proofs.Ytmkngpjjimalhaa
/- Layer 9: the law's small configuration. -/
namespace Go.Proofs.Ytmkngpjjimalhaa
open Go.ChangeShapes Go.WideShapes Go.ChangeAt Go.RowKit
set_option maxRecDepth 100000

def oneC : ConfM := ⟨[1], [0], 2⟩
theorem oneC_good : oneC.good := ⟨by decide, rfl, by decide, by decide, by decide⟩
set_option maxHeartbeats 4000000 in
theorem one_any (w : World) : Calls Try.prog 19 #[] w fun e w' => ∃ a a2, e = .returned (.agg #[.slice a 1 1, .slice a2 1 1, .int .i64 2]) ∧ ConfV w' (.agg #[.slice a 1 1, .slice a2 1 1, .int .i64 2]) oneC ∧ Below w.heap.size w w' := by
  obtain ⟨W, hW, HB, R0, R1, R2, hz⟩ := three_new w (.cells #[.slice none 0 0, .slice none 0 0, .int .i64 0] 36) (.cells #[.int .i64 1] 3) (.cells #[.int .u64 0] 27)
  have HW := Lib.hid hW
  clear hW
  go_enter Try.func19, Try.ntmps19
  go_wp2_with (refine wpList_store_row rfl 36 _ _ rfl (w.heap.size) _ rfl rfl 36 #[.slice none 0 0, .slice none 0 0, .int .i64 0] (by rw [HW.out]; exact R0.out) (by kernel_rfl) rfl (by simp [Value.oneCell']) ?_)
  rw [HW.out]
  refine bodyPost_ret (v := .agg #[.slice (some ⟨w.heap.size + 1, 0, none⟩) 1 1, .slice (some ⟨w.heap.size + 2, 0, none⟩) 1 1, .int .i64 2]) (results_cell_row Try.results19 _ _ (w.heap.size) 36 _ (0, 0) _ rfl (setRow_heap _ _ _ _ 36 (0, 0) R0.out) Try.underlying36 rfl (by kernel_rfl)) rfl ?_
  have Q1 := (setRow_other W w.heap.size (w.heap.size + 1) #[.slice (some ⟨w.heap.size + 1, 0, none⟩) 1 1, .slice (some ⟨w.heap.size + 2, 0, none⟩) 1 1, .int .i64 2] (by omega)).trans R1.out
  have Q2 := (setRow_other W w.heap.size (w.heap.size + 2) #[.slice (some ⟨w.heap.size + 1, 0, none⟩) 1 1, .slice (some ⟨w.heap.size + 2, 0, none⟩) 1 1, .int .i64 2] (by omega)).trans R2.out
  exact ⟨_, _, rfl, ⟨_, _, rfl, sl1_at Q1 (by decide), sl1_at Q2 (by decide)⟩, row_below HB.out (Nat.le_refl _) _⟩
end Go.Proofs.Ytmkngpjjimalhaa
/- The document's ring machines, plainly: what they want next, and what an answer makes of them. -/
namespace Go.Proofs.Ytmkngpjjimalhaa
open Go.ChangeShapes Go.WideShapes Go.ChangeAt Go.RowKit
set_option maxRecDepth 100000

def restI (a b : Int) : Int := (a - b) % 9223372036854775808
def accZ : AccM := ⟨0, 0, 0, 0, 0⟩
def pushNE (c : ConfM) (k : Nat) (m : MachM) : AccM :=
  if m.pl = 1 ∨ m.pl = 3 then ⟨1, c.base k, 0, 0, 0⟩ else if m.pl = 2 then ⟨1, c.base k + 1, 0, 0, 0⟩ else if m.pl = 4 then ⟨1, c.slotW k (m.t / 2), 0, 0, 0⟩
  else if m.pl = 5 then ⟨3, c.base k, m.t, packI (nextI (m.t / 2) 1) false, 0⟩ else if m.pl = 6 then ⟨6, c.slotW k (m.t / 2) + 1, 0, m.val, 0⟩ else ⟨2, c.slotW k (m.t / 2), 0, nextI (m.t / 2) 1, 0⟩
def popNE (c : ConfM) (k : Nat) (m : MachM) : AccM :=
  if m.pl = 1 ∨ m.pl = 3 then ⟨1, c.base k + 1, 0, 0, 0⟩ else if m.pl = 2 then ⟨1, c.base k, 0, 0, 0⟩ else if m.pl = 4 then ⟨1, c.slotW k m.h, 0, 0, 0⟩
  else if m.pl = 5 then ⟨3, c.base k + 1, m.h, nextI m.h 1, 0⟩ else if m.pl = 6 then ⟨5, c.slotW k m.h + 1, 0, 0, 0⟩ else ⟨2, c.slotW k m.h, 0, nextI m.h (c.size k), 0⟩
def shutNE (c : ConfM) (k : Nat) (m : MachM) : AccM := if m.pl = 1 then ⟨1, c.base k, 0, 0, 0⟩ else ⟨3, c.base k, m.t, packI (m.t / 2) true, 0⟩
def countNE (c : ConfM) (k : Nat) (m : MachM) : AccM := if m.pl = 2 then ⟨1, c.base k + 1, 0, 0, 0⟩ else ⟨1, c.base k, 0, 0, 0⟩
def rgNE (c : ConfM) (m : MachM) : AccM :=
  if m.pl = 0 then accZ else if m.what = 3 then pushNE c m.chan.toNat m else if m.what = 4 then popNE c m.chan.toNat m else if m.what = 5 then shutNE c m.chan.toNat m else countNE c m.chan.toNat m
def pushRE (kc : Int) (m : MachM) (b : AnsM) : MachM :=
  if m.pl = 1 then (if closedB b.val = true then { m with t := b.val, pl := 0, ok := 4, ov := 0 } else { m with t := b.val, pl := 2 })
  else if m.pl = 2 then (if restI (m.t / 2) b.val = kc then { m with pl := 3 } else if kc < restI (m.t / 2) b.val then { m with pl := 1 } else { m with pl := 4 })
  else if m.pl = 3 then (if b.val = m.t then { m with pl := 0, ok := 2, ov := 0 } else if closedB b.val = true then { m with t := b.val, pl := 0, ok := 4, ov := 0 } else { m with t := b.val, pl := 2 })
  else if m.pl = 4 then (if b.val = m.t / 2 then { m with pl := 5 } else { m with pl := 1 })
  else if m.pl = 5 then (if b.ok = true then { m with pl := 6 } else { m with pl := 1 })
  else if m.pl = 6 then { m with pl := 7 } else { m with pl := 0, ok := 1, ov := 0 }
def popRE (kc : Int) (m : MachM) (b : AnsM) : MachM :=
  if m.pl = 1 then { m with h := b.val, pl := 2 }
  else if m.pl = 2 then (if restI (b.val / 2) m.h = 0 then { m with t := b.val, pl := 3 } else if kc < restI (b.val / 2) m.h then { m with t := b.val, pl := 1 } else { m with t := b.val, pl := 4 })
  else if m.pl = 3 then (if ¬ b.val = m.h then { m with h := b.val, pl := 2 } else if closedB m.t = true then { m with pl := 0, ok := 5, ov := 0 } else { m with pl := 0, ok := 3, ov := 0 })
  else if m.pl = 4 then (if b.val = nextI m.h 1 then { m with pl := 5 } else { m with pl := 1 })
  else if m.pl = 5 then (if b.ok = true then { m with pl := 6 } else { m with pl := 1 })
  else if m.pl = 6 then { m with val := b.val, pl := 7 } else { m with pl := 0, ok := 6, ov := m.val }
def shutRE (m : MachM) (b : AnsM) : MachM :=
  if m.pl = 1 then (if closedB b.val = true then { m with t := b.val, pl := 0, ok := 4, ov := 0 } else { m with t := b.val, pl := 2 })
  else if b.ok = true then { m with pl := 0, ok := 1, ov := 0 } else { m with pl := 1 }
def countRE (m : MachM) (b : AnsM) : MachM :=
  if m.pl = 1 then { m with t := b.val, pl := 2 } else if m.pl = 2 then { m with h := b.val, pl := 3 }
  else if b.val = m.t then { m with pl := 0, ok := 9, ov := restI (m.t / 2) m.h } else { m with t := b.val, pl := 2 }
def rgRE (c : ConfM) (m : MachM) (b : AnsM) : MachM :=
  if m.pl = 0 then m else if m.what = 3 then pushRE (c.caps.getD m.chan.toNat 0) m b else if m.what = 4 then popRE (c.caps.getD m.chan.toNat 0) m b else if m.what = 5 then shutRE m b else countRE m b
def U64 (x : Int) : Prop := 0 ≤ x ∧ x < 18446744073709551616
theorem U64.wrap {x : Int} (h : U64 x) : x = IntKind.u64.wrap x := by rw [IntKind.wrap_u64]; have := h.1; have := h.2; omega
theorem U64.of {x : Int} (h : x = IntKind.u64.wrap x) : U64 x := by rw [IntKind.wrap_u64] at h; unfold U64; omega
structure rgK (c : ConfM) (m : MachM) : Prop where
  what : m.what = 3 ∨ m.what = 4 ∨ m.what = 5 ∨ m.what = 6
  pl : 0 ≤ m.pl ∧ m.pl ≤ 7 ∧ (m.what = 5 → m.pl ≤ 2) ∧ (m.what = 6 → m.pl ≤ 3)
  chan : ∃ k : Nat, k < c.caps.length ∧ m.chan = k
  val : U64 m.val
  t : U64 m.t
  h : U64 m.h
/-- how an answer may change a machine -/
structure Goes (m : MachM) (b : AnsM) (r : MachM) (hi : Int) : Prop where
  what : r.what = m.what
  chan : r.chan = m.chan
  thr : r.thr = m.thr
  pl : 0 ≤ r.pl ∧ r.pl ≤ hi
  val : r.val = m.val ∨ r.val = b.val
  t : r.t = m.t ∨ r.t = b.val
  h : r.h = m.h ∨ r.h = b.val
theorem Goes.mk' (m : MachM) (b : AnsM) (hi p v t h o u : Int) (hp : 0 ≤ p ∧ p ≤ hi) (hv : v = m.val ∨ v = b.val) (ht : t = m.t ∨ t = b.val) (hh : h = m.h ∨ h = b.val) : Goes m b ⟨m.what, p, m.chan, m.thr, m.idx, m.kind, v, t, h, o, u⟩ hi := ⟨rfl, rfl, rfl, hp, hv, ht, hh⟩
theorem pushRE_goes (kc : Int) (m : MachM) (b : AnsM) : Goes m b (pushRE kc m b) 7 := by
  unfold pushRE
  repeat' split
  all_goals exact Goes.mk' m b 7 _ _ _ _ _ _ (by omega) (by first | exact .inl rfl | exact .inr rfl) (by first | exact .inl rfl | exact .inr rfl) (by first | exact .inl rfl | exact .inr rfl)
theorem popRE_goes (kc : Int) (m : MachM) (b : AnsM) : Goes m b (popRE kc m b) 7 := by
  unfold popRE
  repeat' split
  all_goals exact Goes.mk' m b 7 _ _ _ _ _ _ (by omega) (by first | exact .inl rfl | exact .inr rfl) (by first | exact .inl rfl | exact .inr rfl) (by first | exact .inl rfl | exact .inr rfl)
theorem shutRE_goes (m : MachM) (b : AnsM) : Goes m b (shutRE m b) 2 := by
  unfold shutRE
  repeat' split
  all_goals exact Goes.mk' m b 2 _ _ _ _ _ _ (by omega) (by first | exact .inl rfl | exact .inr rfl) (by first | exact .inl rfl | exact .inr rfl) (by first | exact .inl rfl | exact .inr rfl)
theorem countRE_goes (m : MachM) (b : AnsM) : Goes m b (countRE m b) 3 := by
  unfold countRE
  repeat' split
  all_goals exact Goes.mk' m b 3 _ _ _ _ _ _ (by omega) (by first | exact .inl rfl | exact .inr rfl) (by first | exact .inl rfl | exact .inr rfl) (by first | exact .inl rfl | exact .inr rfl)
theorem rgRE_goes (c : ConfM) (m : MachM) (b : AnsM) (h : 0 ≤ m.pl ∧ m.pl ≤ 7 ∧ (m.what = 5 → m.pl ≤ 2) ∧ (m.what = 6 → m.pl ≤ 3)) : ∃ hi, Goes m b (rgRE c m b) hi ∧ hi ≤ 7 ∧ (m.what = 5 → hi ≤ 2) ∧ ((m.what = 6 ∧ ¬ m.what = 5) → hi ≤ 3) := by
  unfold rgRE
  split
  · exact ⟨m.pl, ⟨rfl, rfl, rfl, ⟨by omega, by omega⟩, .inl rfl, .inl rfl, .inl rfl⟩, by omega, by omega, by omega⟩
  · split
    · exact ⟨7, pushRE_goes _ _ _, by omega, by omega, by omega⟩
    · split
      · exact ⟨7, popRE_goes _ _ _, by omega, by omega, by omega⟩
      · split
        · exact ⟨2, shutRE_goes _ _, by omega, by omega, by omega⟩
        · exact ⟨3, countRE_goes _ _, by omega, by omega, by omega⟩
theorem rgRE_what (c : ConfM) (m : MachM) (b : AnsM) : (rgRE c m b).what = m.what := by
  unfold rgRE
  split
  · rfl
  · split
    · exact (pushRE_goes _ _ _).what
    · split
      · exact (popRE_goes _ _ _).what
      · split
        · exact (shutRE_goes _ _).what
        · exact (countRE_goes _ _).what
theorem rgK_RE {c : ConfM} {m : MachM} {b : AnsM} (h : rgK c m) (hb : U64 b.val) : rgK c (rgRE c m b) := by
  obtain ⟨hi, g, h7, h5, h6⟩ := rgRE_goes c m b h.pl
  have hw := h.what
  have hg := g.pl
  have cases2 : ∀ {x a b : Int}, U64 a → U64 b → (x = a ∨ x = b) → U64 x := fun ha hb h => by rcases h with rfl | rfl <;> assumption
  refine ⟨by rw [g.what]; exact hw, ⟨hg.1, by omega, by rw [g.what]; intro e; have := h5 e; omega, by rw [g.what]; intro e; have := h6 ⟨e, by omega⟩; omega⟩, by rw [g.chan]; exact h.chan, cases2 h.val hb g.val, cases2 h.t hb g.t, cases2 h.h hb g.h⟩
theorem U64.zero : U64 0 := ⟨by omega, by omega⟩
theorem rgK_new (c : ConfM) (what : Int) (k : Nat) (th v : Int) (hw : what = 3 ∨ what = 4 ∨ what = 5 ∨ what = 6) (hk : k < c.caps.length) (hv : U64 v) : rgK c ⟨what, 1, k, th, v % 4, v % 8, v, 0, 0, 0, 0⟩ :=
  ⟨hw, ⟨by show (0 : Int) ≤ 1; omega, by show (1 : Int) ≤ 7; omega, fun _ => by show (1 : Int) ≤ 2; omega, fun _ => by show (1 : Int) ≤ 3; omega⟩, ⟨k, hk, rfl⟩, hv, U64.zero, U64.zero⟩
theorem applyE_val {m : MemM} (h : m.fits) (a : AccM) : U64 (applyE m a).2.1.val := by
  have hz : U64 0 := ⟨by omega, by omega⟩
  have hw : ∀ i, U64 (m.words.getD i 0) := fun i => by
    by_cases hi : i < m.words.length
    · rw [List.getD_eq_getElem?_getD, List.getElem?_eq_getElem hi]; exact U64.of (h.wf _ (List.getElem_mem hi))
    · rw [List.getD_eq_getElem?_getD, List.getElem?_eq_none (by omega)]; exact hz
  have hl : ∀ l : List Int, l.length ≤ 100000 → U64 (l.length : Int) := fun l hl => ⟨by omega, by omega⟩
  unfold applyE listE wordE
  repeat' split
  all_goals first | exact hz | exact hw _ | exact hl _ (nextL_length _ _ _ (h.each _))
end Go.Proofs.Ytmkngpjjimalhaa
