
import Derived.Test.YtjnlkemdaffgbaaB06
import Derived.Test.YtjnlkemdaffgbaaB05
set_option linter.unusedVariables false
set_option linter.unusedSimpArgs false
/- The document's small machines: seq. -/
namespace Go.Proofs.Ytjnlkemdaffgbaa
open Go.ChangeShapes Go.WideShapes Go.ChangeAt Go.RowKit
set_option maxRecDepth 100000

theorem rseq1_any (a : Int) (w : World) :
    Calls Try.prog 44 #[.int .u64 a] w fun e w' => e = .returned (.int .u64 (a / 2)) ∧ w = w' := by
  go_enter Try.func44, Try.ntmps44
  go_wp2
  go_ret
  exact ⟨rfl, rfl⟩
set_option maxHeartbeats 4000000 in
theorem machSeq_any (a a2 : Option Addr) (cap cap2 : Nat) (c : ConfM) (m : MachM) (w : World) : Calls Try.prog 56 #[(.agg (machL (.slice a c.caps.length cap) (.slice a2 c.starts.length cap2) c.threads m).toArray)] w fun e w' => e = .returned (.int .u64 (m.t / 2)) ∧ Below w.heap.size w w' := by
  obtain ⟨W, hW⟩ : ∃ W, w.alloc (.cells #[.int .i64 m.what, .int .i64 m.pl, .slice a c.caps.length cap, .slice a2 c.starts.length cap2, .int .i64 c.threads, .int .i64 m.chan, .int .i64 m.thr, .int .i64 m.idx, .int .i64 m.kind, .int .u64 m.val, .int .u64 m.t, .int .u64 m.h, .int .i64 m.ok, .int .u64 m.ov] 58) = W := ⟨_, rfl⟩
  have HB : Hid (Below w.heap.size w W) := hW ▸ below_new (Below.refl w.heap.size w) _
  have R0 : Hid (W.heap[w.heap.size]? = some (.cells #[.int .i64 m.what, .int .i64 m.pl, .slice a c.caps.length cap, .slice a2 c.starts.length cap2, .int .i64 c.threads, .int .i64 m.chan, .int .i64 m.thr, .int .i64 m.idx, .int .i64 m.kind, .int .u64 m.val, .int .u64 m.t, .int .u64 m.h, .int .i64 m.ok, .int .u64 m.ov] 58 (0, 0))) := hW ▸ heap_alloc_new _ _
  have HW := Lib.hid hW
  clear hW
  unfold machL
  go_enter Try.func56, Try.ntmps56
  go_upto_region 1 with fail
  rw [HW.out]
  clear HW
  have q10 := cell_of_row _ _ 10 _ _ _ R0.out
  simp at q10
  go_wp2_with (go_at_call 44; refine (rseq1_any _ _).mono ?_; rintro e w' ⟨rfl, rfl⟩)
  go_ret
  exact ⟨rfl, HB.out⟩
end Go.Proofs.Ytjnlkemdaffgbaa
/- The document's ring machines, plainly: what they want next, and what an answer makes of them. -/
namespace Go.Proofs.Ytjnlkemdaffgbaa
open Go.ChangeShapes Go.WideShapes Go.ChangeAt Go.RowKit
set_option maxRecDepth 100000

/-- a row stays over a call that leaves it alone -/
theorem keepR {w w' : World} {b : Nat} {o : Obj} (hb : Below w.heap.size w w') (h : Hid (w.heap[b]? = some o)) : Hid (w'.heap[b]? = some o) := (hb.block b (Array.getElem?_eq_some_iff.1 h.out).1).trans h.out
theorem ltR {w : World} {b : Nat} {o : Obj} (h : Hid (w.heap[b]? = some o)) : b < w.heap.size := (Array.getElem?_eq_some_iff.1 h.out).1
def restI (a b : Int) : Int := (a - b) % 9223372036854775808
def accZ : AccM := ⟨0, 0, 0, 0, 0⟩
def pushNE (c : ConfM) (k : Nat) (m : MachM) : AccM :=
  if m.pl = 1 ∨ m.pl = 3 then ⟨1, c.base k, 0, 0, 0⟩ else if m.pl = 2 then ⟨1, c.base k + 1, 0, 0, 0⟩ else if m.pl = 4 then ⟨1, c.slotW k (m.t / 2), 0, 0, 0⟩
  else if m.pl = 5 then ⟨3, c.base k, m.t, packI (nextI (m.t / 2) 1) false, 0⟩ else if m.pl = 6 then ⟨6, c.slotW k (m.t / 2) + 1, 0, m.val, 0⟩ else ⟨2, c.slotW k (m.t / 2), 0, nextI (m.t / 2) 1, 0⟩
def popNE (c : ConfM) (k : Nat) (m : MachM) : AccM :=
  if m.pl = 1 ∨ m.pl = 3 then ⟨1, c.base k + 1, 0, 0, 0⟩ else if m.pl = 2 then ⟨1, c.base k, 0, 0, 0⟩ else if m.pl = 4 then ⟨1, c.slotW k m.h, 0, 0, 0⟩
  else if m.pl = 5 then ⟨3, c.base k + 1, m.h, nextI m.h 1, 0⟩ else if m.pl = 6 then ⟨5, c.slotW k m.h + 1, 0, 0, 0⟩ else ⟨2, c.slotW k m.h, 0, nextI m.h (c.size k), 0⟩
def shutNE (c : ConfM) (k : Nat) (m : MachM) : AccM := if m.pl = 1 then ⟨1, c.base k, 0, 0, 0⟩ else ⟨3, c.base k, m.t, packI (m.t / 2) true, 0⟩
def countNE (c : ConfM) (k : Nat) (m : MachM) : AccM := if m.pl = 2 then ⟨1, c.base k + 1, 0, 0, 0⟩ else ⟨1, c.base k, 0, 0, 0⟩
def rgNE (c : ConfM) (m : MachM) : AccM :=
  if m.pl = 0 then accZ else if m.what = 3 then pushNE c m.chan.toNat m else if m.what = 4 then popNE c m.chan.toNat m else if m.what = 5 then shutNE c m.chan.toNat m else countNE c m.chan.toNat m
def pushRE (kc : Int) (m : MachM) (b : AnsM) : MachM :=
  if m.pl = 1 then (if closedB b.val = true then { m with t := b.val, pl := 0, ok := 4, ov := 0 } else { m with t := b.val, pl := 2 })
  else if m.pl = 2 then (if restI (m.t / 2) b.val = kc then { m with pl := 3 } else if kc < restI (m.t / 2) b.val then { m with pl := 1 } else { m with pl := 4 })
  else if m.pl = 3 then (if b.val = m.t then { m with pl := 0, ok := 2, ov := 0 } else if closedB b.val = true then { m with t := b.val, pl := 0, ok := 4, ov := 0 } else { m with t := b.val, pl := 2 })
  else if m.pl = 4 then (if b.val = m.t / 2 then { m with pl := 5 } else { m with pl := 1 })
  else if m.pl = 5 then (if b.ok = true then { m with pl := 6 } else { m with pl := 1 })
  else if m.pl = 6 then { m with pl := 7 } else { m with pl := 0, ok := 1, ov := 0 }
def popRE (kc : Int) (m : MachM) (b : AnsM) : MachM :=
  if m.pl = 1 then { m with h := b.val, pl := 2 }
  else if m.pl = 2 then (if restI (b.val / 2) m.h = 0 then { m with t := b.val, pl := 3 } else if kc < restI (b.val / 2) m.h then { m with t := b.val, pl := 1 } else { m with t := b.val, pl := 4 })
  else if m.pl = 3 then (if ¬ b.val = m.h then { m with h := b.val, pl := 2 } else if closedB m.t = true then { m with pl := 0, ok := 5, ov := 0 } else { m with pl := 0, ok := 3, ov := 0 })
  else if m.pl = 4 then (if b.val = nextI m.h 1 then { m with pl := 5 } else { m with pl := 1 })
  else if m.pl = 5 then (if b.ok = true then { m with pl := 6 } else { m with pl := 1 })
  else if m.pl = 6 then { m with val := b.val, pl := 7 } else { m with pl := 0, ok := 6, ov := m.val }
def shutRE (m : MachM) (b : AnsM) : MachM :=
  if m.pl = 1 then (if closedB b.val = true then { m with t := b.val, pl := 0, ok := 4, ov := 0 } else { m with t := b.val, pl := 2 })
  else if b.ok = true then { m with pl := 0, ok := 1, ov := 0 } else { m with pl := 1 }
def countRE (m : MachM) (b : AnsM) : MachM :=
  if m.pl = 1 then { m with t := b.val, pl := 2 } else if m.pl = 2 then { m with h := b.val, pl := 3 }
  else if b.val = m.t then { m with pl := 0, ok := 9, ov := restI (m.t / 2) m.h } else { m with t := b.val, pl := 2 }
def rgRE (c : ConfM) (m : MachM) (b : AnsM) : MachM :=
  if m.pl = 0 then m else if m.what = 3 then pushRE (c.caps.getD m.chan.toNat 0) m b else if m.what = 4 then popRE (c.caps.getD m.chan.toNat 0) m b else if m.what = 5 then shutRE m b else countRE m b
def U64 (x : Int) : Prop := 0 ≤ x ∧ x < 18446744073709551616
theorem U64.wrap {x : Int} (h : U64 x) : x = IntKind.u64.wrap x := by rw [IntKind.wrap_u64]; have := h.1; have := h.2; omega
theorem U64.of {x : Int} (h : x = IntKind.u64.wrap x) : U64 x := by rw [IntKind.wrap_u64] at h; unfold U64; omega
structure rgK (c : ConfM) (m : MachM) : Prop where
  what : m.what = 3 ∨ m.what = 4 ∨ m.what = 5 ∨ m.what = 6
  pl : 0 ≤ m.pl ∧ m.pl ≤ 7 ∧ (m.what = 5 → m.pl ≤ 2) ∧ (m.what = 6 → m.pl ≤ 3)
  chan : ∃ k : Nat, k < c.caps.length ∧ m.chan = k
  val : U64 m.val
  t : U64 m.t
  h : U64 m.h
/-- how an answer may change a machine -/
structure Goes (m : MachM) (b : AnsM) (r : MachM) (hi : Int) : Prop where
  what : r.what = m.what
  chan : r.chan = m.chan
  thr : r.thr = m.thr
  pl : 0 ≤ r.pl ∧ r.pl ≤ hi
  val : r.val = m.val ∨ r.val = b.val
  t : r.t = m.t ∨ r.t = b.val
  h : r.h = m.h ∨ r.h = b.val
theorem Goes.mk' (m : MachM) (b : AnsM) (hi p v t h o u : Int) (hp : 0 ≤ p ∧ p ≤ hi) (hv : v = m.val ∨ v = b.val) (ht : t = m.t ∨ t = b.val) (hh : h = m.h ∨ h = b.val) : Goes m b ⟨m.what, p, m.chan, m.thr, m.idx, m.kind, v, t, h, o, u⟩ hi := ⟨rfl, rfl, rfl, hp, hv, ht, hh⟩
theorem pushRE_goes (kc : Int) (m : MachM) (b : AnsM) : Goes m b (pushRE kc m b) 7 := by
  unfold pushRE
  repeat' split
  all_goals exact Goes.mk' m b 7 _ _ _ _ _ _ (by omega) (by first | exact .inl rfl | exact .inr rfl) (by first | exact .inl rfl | exact .inr rfl) (by first | exact .inl rfl | exact .inr rfl)
theorem popRE_goes (kc : Int) (m : MachM) (b : AnsM) : Goes m b (popRE kc m b) 7 := by
  unfold popRE
  repeat' split
  all_goals exact Goes.mk' m b 7 _ _ _ _ _ _ (by omega) (by first | exact .inl rfl | exact .inr rfl) (by first | exact .inl rfl | exact .inr rfl) (by first | exact .inl rfl | exact .inr rfl)
theorem shutRE_goes (m : MachM) (b : AnsM) : Goes m b (shutRE m b) 2 := by
  unfold shutRE
  repeat' split
  all_goals exact Goes.mk' m b 2 _ _ _ _ _ _ (by omega) (by first | exact .inl rfl | exact .inr rfl) (by first | exact .inl rfl | exact .inr rfl) (by first | exact .inl rfl | exact .inr rfl)
theorem countRE_goes (m : MachM) (b : AnsM) : Goes m b (countRE m b) 3 := by
  unfold countRE
  repeat' split
  all_goals exact Goes.mk' m b 3 _ _ _ _ _ _ (by omega) (by first | exact .inl rfl | exact .inr rfl) (by first | exact .inl rfl | exact .inr rfl) (by first | exact .inl rfl | exact .inr rfl)
theorem rgRE_goes (c : ConfM) (m : MachM) (b : AnsM) (h : 0 ≤ m.pl ∧ m.pl ≤ 7 ∧ (m.what = 5 → m.pl ≤ 2) ∧ (m.what = 6 → m.pl ≤ 3)) : ∃ hi, Goes m b (rgRE c m b) hi ∧ hi ≤ 7 ∧ (m.what = 5 → hi ≤ 2) ∧ ((m.what = 6 ∧ ¬ m.what = 5) → hi ≤ 3) := by
  unfold rgRE
  split
  · exact ⟨m.pl, ⟨rfl, rfl, rfl, ⟨by omega, by omega⟩, .inl rfl, .inl rfl, .inl rfl⟩, by omega, by omega, by omega⟩
  · split
    · exact ⟨7, pushRE_goes _ _ _, by omega, by omega, by omega⟩
    · split
      · exact ⟨7, popRE_goes _ _ _, by omega, by omega, by omega⟩
      · split
        · exact ⟨2, shutRE_goes _ _, by omega, by omega, by omega⟩
        · exact ⟨3, countRE_goes _ _, by omega, by omega, by omega⟩
theorem rgRE_what (c : ConfM) (m : MachM) (b : AnsM) : (rgRE c m b).what = m.what := by
  unfold rgRE
  split
  · rfl
  · split
    · exact (pushRE_goes _ _ _).what
    · split
      · exact (popRE_goes _ _ _).what
      · split
        · exact (shutRE_goes _ _).what
        · exact (countRE_goes _ _).what
theorem rgK_RE {c : ConfM} {m : MachM} {b : AnsM} (h : rgK c m) (hb : U64 b.val) : rgK c (rgRE c m b) := by
  obtain ⟨hi, g, h7, h5, h6⟩ := rgRE_goes c m b h.pl
  have hw := h.what
  have hg := g.pl
  have cases2 : ∀ {x a b : Int}, U64 a → U64 b → (x = a ∨ x = b) → U64 x := fun ha hb h => by rcases h with rfl | rfl <;> assumption
  refine ⟨by rw [g.what]; exact hw, ⟨hg.1, by omega, by rw [g.what]; intro e; have := h5 e; omega, by rw [g.what]; intro e; have := h6 ⟨e, by omega⟩; omega⟩, by rw [g.chan]; exact h.chan, cases2 h.val hb g.val, cases2 h.t hb g.t, cases2 h.h hb g.h⟩
theorem U64.zero : U64 0 := ⟨by omega, by omega⟩
theorem rgK_new (c : ConfM) (what : Int) (k : Nat) (th v : Int) (hw : what = 3 ∨ what = 4 ∨ what = 5 ∨ what = 6) (hk : k < c.caps.length) (hv : U64 v) : rgK c ⟨what, 1, k, th, v % 4, v % 8, v, 0, 0, 0, 0⟩ :=
  ⟨hw, ⟨by show (0 : Int) ≤ 1; omega, by show (1 : Int) ≤ 7; omega, fun _ => by show (1 : Int) ≤ 2; omega, fun _ => by show (1 : Int) ≤ 3; omega⟩, ⟨k, hk, rfl⟩, hv, U64.zero, U64.zero⟩
theorem applyE_val {m : MemM} (h : m.fits) (a : AccM) : U64 (applyE m a).2.1.val := by
  have hz : U64 0 := ⟨by omega, by omega⟩
  have hw : ∀ i, U64 (m.words.getD i 0) := fun i => by
    by_cases hi : i < m.words.length
    · rw [List.getD_eq_getElem?_getD, List.getElem?_eq_getElem hi]; exact U64.of (h.wf _ (List.getElem_mem hi))
    · rw [List.getD_eq_getElem?_getD, List.getElem?_eq_none (by omega)]; exact hz
  have hl : ∀ l : List Int, l.length ≤ 100000 → U64 (l.length : Int) := fun l hl => ⟨by omega, by omega⟩
  unfold applyE listE wordE
  repeat' split
  all_goals first | exact hz | exact hw _ | exact hl _ (nextL_length _ _ _ (h.each _))
end Go.Proofs.Ytjnlkemdaffgbaa
/- The document's small machines: to, capacity; Closed and Rest of its sequence numbers. -/
namespace Go.Proofs.Ytjnlkemdaffgbaa
open Go.ChangeShapes Go.WideShapes Go.ChangeAt Go.RowKit
set_option maxRecDepth 100000

set_option maxRecDepth 100000 in
set_option maxHeartbeats 16000000 in
theorem machTo_any (a a2 : Option Addr) (cap cap2 : Nat) (c : ConfM) (m : MachM) (p : Int) (w : World) : Calls Try.prog 34 #[(.agg (machL (.slice a c.caps.length cap) (.slice a2 c.starts.length cap2) c.threads m).toArray), .int .i64 p] w fun e w' => e = .returned (.agg (machL (.slice a c.caps.length cap) (.slice a2 c.starts.length cap2) c.threads { m with pl := p }).toArray) ∧ Below w.heap.size w w' := by
  obtain ⟨W, hW, HB, R0, R1, hz⟩ := two_new w (.cells #[.int .i64 m.what, .int .i64 m.pl, .slice a c.caps.length cap, .slice a2 c.starts.length cap2, .int .i64 c.threads, .int .i64 m.chan, .int .i64 m.thr, .int .i64 m.idx, .int .i64 m.kind, .int .u64 m.val, .int .u64 m.t, .int .u64 m.h, .int .i64 m.ok, .int .u64 m.ov] 58) (.cells #[.int .i64 0, .int .i64 0, .slice none 0 0, .slice none 0 0, .int .i64 0, .int .i64 0, .int .i64 0, .int .i64 0, .int .i64 0, .int .u64 0, .int .u64 0, .int .u64 0, .int .i64 0, .int .u64 0] 58)
  have HW := Lib.hid hW
  clear hW
  unfold machL
  dsimp only
  have f1 := frozen_of_row W w.heap.size 1 _ _ R0.out
  have r1 := heap_setCell_same W w.heap.size 1 _ _ (.int .i64 p) R0.out
  simp at r1
  have R3 := Lib.hid r1
  clear r1
  have Q1 := Lib.hid ((heap_setCell_other W ⟨w.heap.size, 1, none⟩ (w.heap.size + 1) (.int .i64 p) (by show w.heap.size + 1 ≠ w.heap.size; omega)).trans R1.out)
  have HB5 := Lib.hid (HB.out.setCell (p := ⟨w.heap.size, 1, none⟩) (Nat.le_refl _) (.int .i64 p))
  obtain ⟨W5, hW5⟩ : ∃ W5, W.setCell ⟨w.heap.size, 1, none⟩ (.int .i64 p) = W5 := ⟨_, rfl⟩
  rw [hW5] at R3 Q1 HB5
  have HW5 := Lib.hid hW5
  clear hW5
  go_enter Try.func34, Try.ntmps34
  go_upto_region 1 with fail
  rw [HW.out]
  clear HW
  obtain ⟨x0, x1, x2, x3, x4, x5, x6, x7, x8, x9, x10, x11, x12, x13⟩ := rowc14 R0.out
  go_upto_region 2 with fail
  rw [HW5.out]
  clear HW5 x0 x1 x2 x3 x4 x5 x6 x7 x8 x9 x10 x11 x12 x13 f1
  obtain ⟨x0, x1, x2, x3, x4, x5, x6, x7, x8, x9, x10, x11, x12, x13⟩ := rowc14 R3.out
  go_wp2_with (refine wpList_store_row rfl 58 _ _ rfl (w.heap.size + 1) _ rfl rfl 58 #[.int .i64 0, .int .i64 0, .slice none 0 0, .slice none 0 0, .int .i64 0, .int .i64 0, .int .i64 0, .int .i64 0, .int .i64 0, .int .u64 0, .int .u64 0, .int .u64 0, .int .i64 0, .int .u64 0] Q1.out (by kernel_rfl) rfl (by simp [Value.oneCell']) ?_)
  refine bodyPost_ret (v := .agg #[.int .i64 m.what, .int .i64 p, .slice a c.caps.length cap, .slice a2 c.starts.length cap2, .int .i64 c.threads, .int .i64 m.chan, .int .i64 m.thr, .int .i64 m.idx, .int .i64 m.kind, .int .u64 m.val, .int .u64 m.t, .int .u64 m.h, .int .i64 m.ok, .int .u64 m.ov]) (results_cell_row Try.results34 _ _ (w.heap.size + 1) 58 _ (0, 0) _ rfl (setRow_heap _ _ _ _ 58 (0, 0) Q1.out) Try.underlying58 rfl (by kernel_rfl)) rfl ?_
  exact ⟨rfl, row_below HB5.out (by omega) _⟩
set_option maxRecDepth 100000 in
set_option maxHeartbeats 16000000 in
theorem machCap_any (a a2 : Option Addr) (cap cap2 : Nat) (c : ConfM) (m : MachM) (k : Nat) (hk : k < c.caps.length) (hg : c.good) (hc : m.chan = k) (w : World) (hv : ConfV w (.agg #[.slice a c.caps.length cap, .slice a2 c.starts.length cap2, .int .i64 c.threads]) c) : Calls Try.prog 63 #[(.agg (machL (.slice a c.caps.length cap) (.slice a2 c.starts.length cap2) c.threads m).toArray)] w fun e w' => e = .returned (.int .u64 (c.caps.getD k 0)) ∧ Below w.heap.size w w' := by
  obtain ⟨W, hW⟩ : ∃ W, w.alloc (.cells #[.int .i64 m.what, .int .i64 m.pl, .slice a c.caps.length cap, .slice a2 c.starts.length cap2, .int .i64 c.threads, .int .i64 k, .int .i64 m.thr, .int .i64 m.idx, .int .i64 m.kind, .int .u64 m.val, .int .u64 m.t, .int .u64 m.h, .int .i64 m.ok, .int .u64 m.ov] 58) = W := ⟨_, rfl⟩
  have HB : Hid (Below w.heap.size w W) := hW ▸ below_new (Below.refl w.heap.size w) _
  have R0 : Hid (W.heap[w.heap.size]? = some (.cells #[.int .i64 m.what, .int .i64 m.pl, .slice a c.caps.length cap, .slice a2 c.starts.length cap2, .int .i64 c.threads, .int .i64 k, .int .i64 m.thr, .int .i64 m.idx, .int .i64 m.kind, .int .u64 m.val, .int .u64 m.t, .int .u64 m.h, .int .i64 m.ok, .int .u64 m.ov] 58 (0, 0))) := hW ▸ heap_alloc_new _ _
  have HW := Lib.hid hW
  clear hW
  unfold machL
  rw [hc]
  clear hc
  obtain ⟨vc, vs, e, h1, h2⟩ := hv
  simp only [Value.agg.injEq, Array.mk.injEq, List.cons.injEq] at e
  obtain ⟨rfl, rfl, -⟩ := e
  obtain ⟨b, off, he, hb, hcl⟩ := h1.cellAt k hk
  subst he
  have HC : Hid (W.cell? ⟨b, off + k, none⟩ = some (.int .i64 (c.caps.getD k 0))) := (HB.out.cell (p := ⟨b, off + k, none⟩) hb).trans hcl
  have hc0 := (hg.cap k hk).1
  have hc1 := (hg.cap k hk).2
  have hl := hg.len
  clear h1 h2 hg hcl
  obtain ⟨q, hq⟩ : ∃ q, c.caps.getD k 0 = q := ⟨_, rfl⟩
  rw [hq] at HC hc0 hc1
  rw [hq]
  clear hq
  have hkI : (k : Int) < (c.caps.length : Int) := by omega
  have hwq : IntKind.u64.wrap q = q := by rw [IntKind.wrap_u64]; omega
  go_enter Try.func63, Try.ntmps63
  go_upto_region 1 with fail
  rw [HW.out]
  clear HW
  obtain ⟨x0, x1, x2, x3, x4, x5, x6, x7, x8, x9, x10, x11, x12, x13⟩ := rowc14 R0.out
  have hcx := HC.out
  go_wp2_with fail
  go_ret
  exact ⟨by first | rfl | rw [hwq], HB.out⟩
theorem rclosed1_any (x : Int) (w : World) (h0 : 0 ≤ x) (h1 : x < 18446744073709551616) : Calls Try.prog 45 #[.int .u64 x] w fun e w' => e = .returned (.bool (closedB x)) ∧ w = w' := by
  have hx := and1 x h0 h1
  obtain ⟨y, hy⟩ : ∃ y, bits BinOp.and IntKind.u64 x 1 = y := ⟨_, rfl⟩
  rw [hy] at hx
  have hv : closedB x = (y == 1) := by unfold closedB; rw [hx]; by_cases h : x % 2 = 1 <;> simp [h]
  rw [hv]
  clear hv hx h0 h1
  go_enter Try.func45, Try.ntmps45
  go_wp2
  go_ret
  exact ⟨by first | rfl | rw [hy], rfl⟩
theorem restI_eq (a b : Int) : bits BinOp.and IntKind.u64 (IntKind.u64.wrap (a - b)) 9223372036854775807 = restI a b := by
  rw [and63 _ (by rw [IntKind.wrap_u64]; omega) (by rw [IntKind.wrap_u64]; omega), IntKind.wrap_u64]
  unfold restI
  omega
theorem rrest_any (x y : Int) (w : World) : Calls Try.prog 43 #[.int .u64 x, .int .u64 y] w fun e w' => e = .returned (.int .u64 (restI x y)) ∧ w = w' := by
  rw [← restI_eq]
  go_enter Try.func43, Try.ntmps43
  go_wp2
  go_ret
  exact ⟨rfl, rfl⟩
end Go.Proofs.Ytjnlkemdaffgbaa
