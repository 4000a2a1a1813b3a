
import Derived.Test.YtjnlkemdaffgbaaB07
import Derived.Test.YtjnlkemdaffgbaaB17
import Derived.Test.YtjnlkemdaffgbaaB18
import Derived.Test.YtjnlkemdaffgbaaB19
import Derived.Test.YtjnlkemdaffgbaaB20
set_option linter.unusedVariables false
set_option linter.unusedSimpArgs false
/- The document's small machines: Resume of the ring machines, by their own functions. -/
namespace Go.Proofs.Ytjnlkemdaffgbaa
open Go.ChangeShapes Go.WideShapes Go.ChangeAt Go.RowKit
set_option maxRecDepth 100000

set_option maxRecDepth 100000 in
set_option maxHeartbeats 16000000 in
theorem machRes_push (a a2 : Option Addr) (cap cap2 : Nat) (c : ConfM) (m : MachM) (m2 : MachM) (b : Int) (p q : Bool) (aa : Option Addr) (n ac : Nat) (hw : m.what = 3) (hp : ¬ m.pl = 0) (w : World) (ht : ∀ w', Below w.heap.size w w' → Calls Try.prog 30 #[(.agg (machL (.slice a c.caps.length cap) (.slice a2 c.starts.length cap2) c.threads m).toArray), .agg #[.int .u64 b, .bool p, .bool q, .slice aa n ac]] w' fun e w2 => e = .returned (.agg (machL (.slice a c.caps.length cap) (.slice a2 c.starts.length cap2) c.threads m2).toArray) ∧ Below w'.heap.size w' w2) : Calls Try.prog 16 #[(.agg (machL (.slice a c.caps.length cap) (.slice a2 c.starts.length cap2) c.threads m).toArray), .agg #[.int .u64 b, .bool p, .bool q, .slice aa n ac]] w fun e w' => e = .returned (.agg (machL (.slice a c.caps.length cap) (.slice a2 c.starts.length cap2) c.threads m2).toArray) ∧ Below w.heap.size w w' := by
  have T := Lib.hid ht
  clear ht
  obtain ⟨W, hW, HB, R0, R1, R2, hz⟩ := three_new w (.cells #[.int .i64 3, .int .i64 m.pl, .slice a c.caps.length cap, .slice a2 c.starts.length cap2, .int .i64 c.threads, .int .i64 m.chan, .int .i64 m.thr, .int .i64 m.idx, .int .i64 m.kind, .int .u64 m.val, .int .u64 m.t, .int .u64 m.h, .int .i64 m.ok, .int .u64 m.ov] 58) (.cells #[.int .u64 b, .bool p, .bool q, .slice aa n ac] 53) (.cells #[.int .i64 0, .int .i64 0, .slice none 0 0, .slice none 0 0, .int .i64 0, .int .i64 0, .int .i64 0, .int .i64 0, .int .i64 0, .int .u64 0, .int .u64 0, .int .u64 0, .int .i64 0, .int .u64 0] 58)
  have HW := Lib.hid hW
  clear hW
  unfold machL at *
  rw [hw] at T ⊢
  clear hw
  go_enter Try.func16, Try.ntmps16
  go_upto_region 1 with fail
  rw [HW.out]
  clear HW
  obtain ⟨x0, x1, x2, x3, x4, x5, x6, x7, x8, x9, x10, x11, x12, x13⟩ := rowc14 R0.out
  obtain ⟨y0, y1, y2, y3⟩ := rowc4 R1.out
  go_wp2_with fail
  refine (T.out _ HB.out).mono ?_; rintro e w1 ⟨rfl, hb1⟩
  have HB1 := Lib.hid hb1
  have R2' := Lib.hid ((hb1.block (w.heap.size + 2) (by omega)).trans R2.out)
  clear hb1 T x0 x1 x2 x3 x4 x5 x6 x7 x8 x9 x10 x11 x12 x13 y0 y1 y2 y3
  go_wp2_with (refine wpList_store_row rfl 58 _ _ rfl (w.heap.size + 2) _ rfl rfl 58 #[.int .i64 0, .int .i64 0, .slice none 0 0, .slice none 0 0, .int .i64 0, .int .i64 0, .int .i64 0, .int .i64 0, .int .i64 0, .int .u64 0, .int .u64 0, .int .u64 0, .int .i64 0, .int .u64 0] R2'.out (by kernel_rfl) rfl (by simp [Value.oneCell']) ?_)
  refine bodyPost_ret (v := .agg #[.int .i64 m2.what, .int .i64 m2.pl, .slice a c.caps.length cap, .slice a2 c.starts.length cap2, .int .i64 c.threads, .int .i64 m2.chan, .int .i64 m2.thr, .int .i64 m2.idx, .int .i64 m2.kind, .int .u64 m2.val, .int .u64 m2.t, .int .u64 m2.h, .int .i64 m2.ok, .int .u64 m2.ov]) (results_cell_row Try.results16 _ _ (w.heap.size + 2) 58 _ (0, 0) _ rfl (setRow_heap _ _ _ _ 58 (0, 0) R2'.out) Try.underlying58 rfl (by kernel_rfl)) rfl ?_
  exact ⟨rfl, row_below (below_then HB.out HB1.out) (by omega) _⟩
set_option maxRecDepth 100000 in
set_option maxHeartbeats 16000000 in
theorem machRes_pop (a a2 : Option Addr) (cap cap2 : Nat) (c : ConfM) (m : MachM) (m2 : MachM) (b : Int) (p q : Bool) (aa : Option Addr) (n ac : Nat) (hw : m.what = 4) (hp : ¬ m.pl = 0) (w : World) (ht : ∀ w', Below w.heap.size w w' → Calls Try.prog 31 #[(.agg (machL (.slice a c.caps.length cap) (.slice a2 c.starts.length cap2) c.threads m).toArray), .agg #[.int .u64 b, .bool p, .bool q, .slice aa n ac]] w' fun e w2 => e = .returned (.agg (machL (.slice a c.caps.length cap) (.slice a2 c.starts.length cap2) c.threads m2).toArray) ∧ Below w'.heap.size w' w2) : Calls Try.prog 16 #[(.agg (machL (.slice a c.caps.length cap) (.slice a2 c.starts.length cap2) c.threads m).toArray), .agg #[.int .u64 b, .bool p, .bool q, .slice aa n ac]] w fun e w' => e = .returned (.agg (machL (.slice a c.caps.length cap) (.slice a2 c.starts.length cap2) c.threads m2).toArray) ∧ Below w.heap.size w w' := by
  have T := Lib.hid ht
  clear ht
  obtain ⟨W, hW, HB, R0, R1, R2, hz⟩ := three_new w (.cells #[.int .i64 4, .int .i64 m.pl, .slice a c.caps.length cap, .slice a2 c.starts.length cap2, .int .i64 c.threads, .int .i64 m.chan, .int .i64 m.thr, .int .i64 m.idx, .int .i64 m.kind, .int .u64 m.val, .int .u64 m.t, .int .u64 m.h, .int .i64 m.ok, .int .u64 m.ov] 58) (.cells #[.int .u64 b, .bool p, .bool q, .slice aa n ac] 53) (.cells #[.int .i64 0, .int .i64 0, .slice none 0 0, .slice none 0 0, .int .i64 0, .int .i64 0, .int .i64 0, .int .i64 0, .int .i64 0, .int .u64 0, .int .u64 0, .int .u64 0, .int .i64 0, .int .u64 0] 58)
  have HW := Lib.hid hW
  clear hW
  unfold machL at *
  rw [hw] at T ⊢
  clear hw
  go_enter Try.func16, Try.ntmps16
  go_upto_region 1 with fail
  rw [HW.out]
  clear HW
  obtain ⟨x0, x1, x2, x3, x4, x5, x6, x7, x8, x9, x10, x11, x12, x13⟩ := rowc14 R0.out
  obtain ⟨y0, y1, y2, y3⟩ := rowc4 R1.out
  go_wp2_with fail
  refine (T.out _ HB.out).mono ?_; rintro e w1 ⟨rfl, hb1⟩
  have HB1 := Lib.hid hb1
  have R2' := Lib.hid ((hb1.block (w.heap.size + 2) (by omega)).trans R2.out)
  clear hb1 T x0 x1 x2 x3 x4 x5 x6 x7 x8 x9 x10 x11 x12 x13 y0 y1 y2 y3
  go_wp2_with (refine wpList_store_row rfl 58 _ _ rfl (w.heap.size + 2) _ rfl rfl 58 #[.int .i64 0, .int .i64 0, .slice none 0 0, .slice none 0 0, .int .i64 0, .int .i64 0, .int .i64 0, .int .i64 0, .int .i64 0, .int .u64 0, .int .u64 0, .int .u64 0, .int .i64 0, .int .u64 0] R2'.out (by kernel_rfl) rfl (by simp [Value.oneCell']) ?_)
  refine bodyPost_ret (v := .agg #[.int .i64 m2.what, .int .i64 m2.pl, .slice a c.caps.length cap, .slice a2 c.starts.length cap2, .int .i64 c.threads, .int .i64 m2.chan, .int .i64 m2.thr, .int .i64 m2.idx, .int .i64 m2.kind, .int .u64 m2.val, .int .u64 m2.t, .int .u64 m2.h, .int .i64 m2.ok, .int .u64 m2.ov]) (results_cell_row Try.results16 _ _ (w.heap.size + 2) 58 _ (0, 0) _ rfl (setRow_heap _ _ _ _ 58 (0, 0) R2'.out) Try.underlying58 rfl (by kernel_rfl)) rfl ?_
  exact ⟨rfl, row_below (below_then HB.out HB1.out) (by omega) _⟩
set_option maxRecDepth 100000 in
set_option maxHeartbeats 16000000 in
theorem machRes_shut (a a2 : Option Addr) (cap cap2 : Nat) (c : ConfM) (m : MachM) (m2 : MachM) (b : Int) (p q : Bool) (aa : Option Addr) (n ac : Nat) (hw : m.what = 5) (hp : ¬ m.pl = 0) (w : World) (ht : ∀ w', Below w.heap.size w w' → Calls Try.prog 32 #[(.agg (machL (.slice a c.caps.length cap) (.slice a2 c.starts.length cap2) c.threads m).toArray), .agg #[.int .u64 b, .bool p, .bool q, .slice aa n ac]] w' fun e w2 => e = .returned (.agg (machL (.slice a c.caps.length cap) (.slice a2 c.starts.length cap2) c.threads m2).toArray) ∧ Below w'.heap.size w' w2) : Calls Try.prog 16 #[(.agg (machL (.slice a c.caps.length cap) (.slice a2 c.starts.length cap2) c.threads m).toArray), .agg #[.int .u64 b, .bool p, .bool q, .slice aa n ac]] w fun e w' => e = .returned (.agg (machL (.slice a c.caps.length cap) (.slice a2 c.starts.length cap2) c.threads m2).toArray) ∧ Below w.heap.size w w' := by
  have T := Lib.hid ht
  clear ht
  obtain ⟨W, hW, HB, R0, R1, R2, hz⟩ := three_new w (.cells #[.int .i64 5, .int .i64 m.pl, .slice a c.caps.length cap, .slice a2 c.starts.length cap2, .int .i64 c.threads, .int .i64 m.chan, .int .i64 m.thr, .int .i64 m.idx, .int .i64 m.kind, .int .u64 m.val, .int .u64 m.t, .int .u64 m.h, .int .i64 m.ok, .int .u64 m.ov] 58) (.cells #[.int .u64 b, .bool p, .bool q, .slice aa n ac] 53) (.cells #[.int .i64 0, .int .i64 0, .slice none 0 0, .slice none 0 0, .int .i64 0, .int .i64 0, .int .i64 0, .int .i64 0, .int .i64 0, .int .u64 0, .int .u64 0, .int .u64 0, .int .i64 0, .int .u64 0] 58)
  have HW := Lib.hid hW
  clear hW
  unfold machL at *
  rw [hw] at T ⊢
  clear hw
  go_enter Try.func16, Try.ntmps16
  go_upto_region 1 with fail
  rw [HW.out]
  clear HW
  obtain ⟨x0, x1, x2, x3, x4, x5, x6, x7, x8, x9, x10, x11, x12, x13⟩ := rowc14 R0.out
  obtain ⟨y0, y1, y2, y3⟩ := rowc4 R1.out
  go_wp2_with fail
  refine (T.out _ HB.out).mono ?_; rintro e w1 ⟨rfl, hb1⟩
  have HB1 := Lib.hid hb1
  have R2' := Lib.hid ((hb1.block (w.heap.size + 2) (by omega)).trans R2.out)
  clear hb1 T x0 x1 x2 x3 x4 x5 x6 x7 x8 x9 x10 x11 x12 x13 y0 y1 y2 y3
  go_wp2_with (refine wpList_store_row rfl 58 _ _ rfl (w.heap.size + 2) _ rfl rfl 58 #[.int .i64 0, .int .i64 0, .slice none 0 0, .slice none 0 0, .int .i64 0, .int .i64 0, .int .i64 0, .int .i64 0, .int .i64 0, .int .u64 0, .int .u64 0, .int .u64 0, .int .i64 0, .int .u64 0] R2'.out (by kernel_rfl) rfl (by simp [Value.oneCell']) ?_)
  refine bodyPost_ret (v := .agg #[.int .i64 m2.what, .int .i64 m2.pl, .slice a c.caps.length cap, .slice a2 c.starts.length cap2, .int .i64 c.threads, .int .i64 m2.chan, .int .i64 m2.thr, .int .i64 m2.idx, .int .i64 m2.kind, .int .u64 m2.val, .int .u64 m2.t, .int .u64 m2.h, .int .i64 m2.ok, .int .u64 m2.ov]) (results_cell_row Try.results16 _ _ (w.heap.size + 2) 58 _ (0, 0) _ rfl (setRow_heap _ _ _ _ 58 (0, 0) R2'.out) Try.underlying58 rfl (by kernel_rfl)) rfl ?_
  exact ⟨rfl, row_below (below_then HB.out HB1.out) (by omega) _⟩
set_option maxRecDepth 100000 in
set_option maxHeartbeats 16000000 in
theorem machRes_count (a a2 : Option Addr) (cap cap2 : Nat) (c : ConfM) (m : MachM) (m2 : MachM) (b : Int) (p q : Bool) (aa : Option Addr) (n ac : Nat) (hw : m.what = 6) (hp : ¬ m.pl = 0) (w : World) (ht : ∀ w', Below w.heap.size w w' → Calls Try.prog 33 #[(.agg (machL (.slice a c.caps.length cap) (.slice a2 c.starts.length cap2) c.threads m).toArray), .agg #[.int .u64 b, .bool p, .bool q, .slice aa n ac]] w' fun e w2 => e = .returned (.agg (machL (.slice a c.caps.length cap) (.slice a2 c.starts.length cap2) c.threads m2).toArray) ∧ Below w'.heap.size w' w2) : Calls Try.prog 16 #[(.agg (machL (.slice a c.caps.length cap) (.slice a2 c.starts.length cap2) c.threads m).toArray), .agg #[.int .u64 b, .bool p, .bool q, .slice aa n ac]] w fun e w' => e = .returned (.agg (machL (.slice a c.caps.length cap) (.slice a2 c.starts.length cap2) c.threads m2).toArray) ∧ Below w.heap.size w w' := by
  have T := Lib.hid ht
  clear ht
  obtain ⟨W, hW, HB, R0, R1, R2, hz⟩ := three_new w (.cells #[.int .i64 6, .int .i64 m.pl, .slice a c.caps.length cap, .slice a2 c.starts.length cap2, .int .i64 c.threads, .int .i64 m.chan, .int .i64 m.thr, .int .i64 m.idx, .int .i64 m.kind, .int .u64 m.val, .int .u64 m.t, .int .u64 m.h, .int .i64 m.ok, .int .u64 m.ov] 58) (.cells #[.int .u64 b, .bool p, .bool q, .slice aa n ac] 53) (.cells #[.int .i64 0, .int .i64 0, .slice none 0 0, .slice none 0 0, .int .i64 0, .int .i64 0, .int .i64 0, .int .i64 0, .int .i64 0, .int .u64 0, .int .u64 0, .int .u64 0, .int .i64 0, .int .u64 0] 58)
  have HW := Lib.hid hW
  clear hW
  unfold machL at *
  rw [hw] at T ⊢
  clear hw
  go_enter Try.func16, Try.ntmps16
  go_upto_region 1 with fail
  rw [HW.out]
  clear HW
  obtain ⟨x0, x1, x2, x3, x4, x5, x6, x7, x8, x9, x10, x11, x12, x13⟩ := rowc14 R0.out
  obtain ⟨y0, y1, y2, y3⟩ := rowc4 R1.out
  go_wp2_with fail
  refine (T.out _ HB.out).mono ?_; rintro e w1 ⟨rfl, hb1⟩
  have HB1 := Lib.hid hb1
  have R2' := Lib.hid ((hb1.block (w.heap.size + 2) (by omega)).trans R2.out)
  clear hb1 T x0 x1 x2 x3 x4 x5 x6 x7 x8 x9 x10 x11 x12 x13 y0 y1 y2 y3
  go_wp2_with (refine wpList_store_row rfl 58 _ _ rfl (w.heap.size + 2) _ rfl rfl 58 #[.int .i64 0, .int .i64 0, .slice none 0 0, .slice none 0 0, .int .i64 0, .int .i64 0, .int .i64 0, .int .i64 0, .int .i64 0, .int .u64 0, .int .u64 0, .int .u64 0, .int .i64 0, .int .u64 0] R2'.out (by kernel_rfl) rfl (by simp [Value.oneCell']) ?_)
  refine bodyPost_ret (v := .agg #[.int .i64 m2.what, .int .i64 m2.pl, .slice a c.caps.length cap, .slice a2 c.starts.length cap2, .int .i64 c.threads, .int .i64 m2.chan, .int .i64 m2.thr, .int .i64 m2.idx, .int .i64 m2.kind, .int .u64 m2.val, .int .u64 m2.t, .int .u64 m2.h, .int .i64 m2.ok, .int .u64 m2.ov]) (results_cell_row Try.results16 _ _ (w.heap.size + 2) 58 _ (0, 0) _ rfl (setRow_heap _ _ _ _ 58 (0, 0) R2'.out) Try.underlying58 rfl (by kernel_rfl)) rfl ?_
  exact ⟨rfl, row_below (below_then HB.out HB1.out) (by omega) _⟩
end Go.Proofs.Ytjnlkemdaffgbaa
/- The document's ring machines: their contracts together. -/
namespace Go.Proofs.Ytjnlkemdaffgbaa
open Go.ChangeShapes Go.WideShapes Go.ChangeAt Go.RowKit
set_option maxRecDepth 100000

/-- the document's machines of a world: what Next and Resume hand back -/
structure Doc (NE : ConfM → MachM → AccM) (RE : ConfM → MachM → AnsM → MachM) (K : ConfM → MachM → Prop) : Prop where
  next : ∀ (c : ConfM) (m : MachM) (a a2 : Option Addr) (cap cap2 : Nat) (w : World), K c m → c.good → ConfV w (.agg #[.slice a c.caps.length cap, .slice a2 c.starts.length cap2, .int .i64 c.threads]) c → Calls Try.prog 28 #[.agg (machL (.slice a c.caps.length cap) (.slice a2 c.starts.length cap2) c.threads m).toArray] w fun e w2 => e = .returned (accV (NE c m)) ∧ Below w.heap.size w w2
  acc : ∀ (c : ConfM) (m : MachM), K c m → c.good → (NE c m).ok
  resume : ∀ (c : ConfM) (m : MachM) (b : AnsM) (a a2 : Option Addr) (cap cap2 : Nat) (zA : Option Addr) (zn zc : Nat) (w : World), K c m → c.good → U64 b.val → ConfV w (.agg #[.slice a c.caps.length cap, .slice a2 c.starts.length cap2, .int .i64 c.threads]) c → Calls Try.prog 16 #[.agg (machL (.slice a c.caps.length cap) (.slice a2 c.starts.length cap2) c.threads m).toArray, .agg #[.int .u64 b.val, .bool b.ok, .bool b.late, .slice zA zn zc]] w fun e w2 => e = .returned (.agg (machL (.slice a c.caps.length cap) (.slice a2 c.starts.length cap2) c.threads (RE c m b)).toArray) ∧ Below w.heap.size w w2
  stays : ∀ (c : ConfM) (m : MachM) (b : AnsM), K c m → U64 b.val → K c (RE c m b)
theorem pushD_any (a a2 : Option Addr) (cap cap2 : Nat) (c : ConfM) (m : MachM) (k : Nat) (hk : k < c.caps.length) (hg : c.good) (hw : m.what = 3) (hc : m.chan = k) (hp : 1 ≤ m.pl ∧ m.pl ≤ 7) (ht : U64 m.t) (b : AnsM) (hb : U64 b.val) (aa : Option Addr) (n ac : Nat) (w : World) (hv : ConfV w (.agg #[.slice a c.caps.length cap, .slice a2 c.starts.length cap2, .int .i64 c.threads]) c) : Calls Try.prog 30 #[(.agg (machL (.slice a c.caps.length cap) (.slice a2 c.starts.length cap2) c.threads m).toArray), .agg #[.int .u64 b.val, .bool b.ok, .bool b.late, .slice aa n ac]] w fun e w' => e = .returned (.agg (machL (.slice a c.caps.length cap) (.slice a2 c.starts.length cap2) c.threads (pushRE (c.caps.getD k 0) m b)).toArray) ∧ Below w.heap.size w w' := by
  unfold pushRE
  by_cases h1 : m.pl = 1
  · rw [if_pos h1]
    cases hcl : closedB b.val with
    | true => rw [if_pos rfl]; exact machPush_1c a a2 cap cap2 c m _ _ _ aa n ac hw h1 w hb.1 hb.2 hcl
    | false => rw [if_neg (by simp)]; exact machPush_1o a a2 cap cap2 c m _ _ _ aa n ac hw h1 w hb.1 hb.2 hcl
  rw [if_neg h1]
  by_cases h2 : m.pl = 2
  · rw [if_pos h2]
    by_cases he : restI (m.t / 2) b.val = c.caps.getD k 0
    · rw [if_pos he]; exact machPush_2e a a2 cap cap2 c m _ _ _ aa n ac hw h2 w k hk hg hc hv he
    · rw [if_neg he]
      by_cases hl : c.caps.getD k 0 < restI (m.t / 2) b.val
      · rw [if_pos hl]; exact machPush_2g a a2 cap cap2 c m _ _ _ aa n ac hw h2 w k hk hg hc hv hl
      · rw [if_neg hl]; exact machPush_2l a a2 cap cap2 c m _ _ _ aa n ac hw h2 w k hk hg hc hv (by omega)
  rw [if_neg h2]
  by_cases h3 : m.pl = 3
  · rw [if_pos h3]
    by_cases he : b.val = m.t
    · rw [if_pos he]; exact machPush_3f a a2 cap cap2 c m _ _ _ aa n ac hw h3 he.symm w
    · rw [if_neg he]
      cases hcl : closedB b.val with
      | true => rw [if_pos rfl]; exact machPush_3c a a2 cap cap2 c m _ _ _ aa n ac hw h3 w hb.1 hb.2 hcl he
      | false => rw [if_neg (by simp)]; exact machPush_3o a a2 cap cap2 c m _ _ _ aa n ac hw h3 w hb.1 hb.2 hcl he
  rw [if_neg h3]
  by_cases h4 : m.pl = 4
  · rw [if_pos h4]
    by_cases he : b.val = m.t / 2
    · rw [if_pos he]; exact machPush_4e a a2 cap cap2 c m _ _ _ aa n ac hw h4 w he.symm
    · rw [if_neg he]; exact machPush_4n a a2 cap cap2 c m _ _ _ aa n ac hw h4 w he
  rw [if_neg h4]
  by_cases h5 : m.pl = 5
  · rw [if_pos h5]
    cases hok : b.ok with
    | true => rw [if_pos rfl]; exact machPush_5k a a2 cap cap2 c m _ _ aa n ac hw h5 w
    | false => rw [if_neg (by simp)]; exact machPush_5n a a2 cap cap2 c m _ _ aa n ac hw h5 w
  rw [if_neg h5]
  by_cases h6 : m.pl = 6
  · rw [if_pos h6]; exact machPush_6 a a2 cap cap2 c m _ _ _ aa n ac hw h6 w
  · rw [if_neg h6]; exact machPush_7 a a2 cap cap2 c m _ _ _ aa n ac hw (by omega) w
theorem popD_any (a a2 : Option Addr) (cap cap2 : Nat) (c : ConfM) (m : MachM) (k : Nat) (hk : k < c.caps.length) (hg : c.good) (hw : m.what = 4) (hc : m.chan = k) (hp : 1 ≤ m.pl ∧ m.pl ≤ 7) (ht : U64 m.t) (b : AnsM) (hb : U64 b.val) (aa : Option Addr) (n ac : Nat) (w : World) (hv : ConfV w (.agg #[.slice a c.caps.length cap, .slice a2 c.starts.length cap2, .int .i64 c.threads]) c) : Calls Try.prog 31 #[(.agg (machL (.slice a c.caps.length cap) (.slice a2 c.starts.length cap2) c.threads m).toArray), .agg #[.int .u64 b.val, .bool b.ok, .bool b.late, .slice aa n ac]] w fun e w' => e = .returned (.agg (machL (.slice a c.caps.length cap) (.slice a2 c.starts.length cap2) c.threads (popRE (c.caps.getD k 0) m b)).toArray) ∧ Below w.heap.size w w' := by
  unfold popRE
  by_cases h1 : m.pl = 1
  · rw [if_pos h1]; exact machPop_1 a a2 cap cap2 c m _ _ _ aa n ac hw h1 w
  rw [if_neg h1]
  by_cases h2 : m.pl = 2
  · rw [if_pos h2]
    by_cases he : restI (b.val / 2) m.h = 0
    · rw [if_pos he]; exact machPop_2z a a2 cap cap2 c m _ _ _ aa n ac hw h2 w k hk hg hc hv he
    · rw [if_neg he]
      by_cases hl : c.caps.getD k 0 < restI (b.val / 2) m.h
      · rw [if_pos hl]; exact machPop_2g a a2 cap cap2 c m _ _ _ aa n ac hw h2 w k hk hg hc hv ⟨hl, he⟩
      · rw [if_neg hl]; exact machPop_2l a a2 cap cap2 c m _ _ _ aa n ac hw h2 w k hk hg hc hv ⟨hl, he⟩
  rw [if_neg h2]
  by_cases h3 : m.pl = 3
  · rw [if_pos h3]
    by_cases he : b.val = m.h
    · rw [if_neg (by simpa using he)]
      cases hcl : closedB m.t with
      | true => rw [if_pos rfl]; exact machPop_3c a a2 cap cap2 c m _ _ _ aa n ac hw h3 he.symm w ht.1 ht.2 hcl
      | false => rw [if_neg (by simp)]; exact machPop_3o a a2 cap cap2 c m _ _ _ aa n ac hw h3 he.symm w ht.1 ht.2 hcl
    · rw [if_pos he]; exact machPop_3n a a2 cap cap2 c m _ _ _ aa n ac hw h3 w he
  rw [if_neg h3]
  by_cases h4 : m.pl = 4
  · rw [if_pos h4]
    by_cases he : b.val = nextI m.h 1
    · rw [if_pos he]; exact machPop_4e a a2 cap cap2 c m _ _ _ aa n ac hw h4 w he.symm
    · rw [if_neg he]; exact machPop_4n a a2 cap cap2 c m _ _ _ aa n ac hw h4 w he
  rw [if_neg h4]
  by_cases h5 : m.pl = 5
  · rw [if_pos h5]
    cases hok : b.ok with
    | true => rw [if_pos rfl]; exact machPop_5k a a2 cap cap2 c m _ _ aa n ac hw h5 w
    | false => rw [if_neg (by simp)]; exact machPop_5n a a2 cap cap2 c m _ _ aa n ac hw h5 w
  rw [if_neg h5]
  by_cases h6 : m.pl = 6
  · rw [if_pos h6]; exact machPop_6 a a2 cap cap2 c m _ _ _ aa n ac hw h6 w
  · rw [if_neg h6]; exact machPop_7 a a2 cap cap2 c m _ _ _ aa n ac hw (by omega) w
theorem shutD_any (a a2 : Option Addr) (cap cap2 : Nat) (c : ConfM) (m : MachM) (k : Nat) (hk : k < c.caps.length) (hg : c.good) (hw : m.what = 5) (hc : m.chan = k) (hp : 1 ≤ m.pl ∧ m.pl ≤ 2) (ht : U64 m.t) (b : AnsM) (hb : U64 b.val) (aa : Option Addr) (n ac : Nat) (w : World) (hv : ConfV w (.agg #[.slice a c.caps.length cap, .slice a2 c.starts.length cap2, .int .i64 c.threads]) c) : Calls Try.prog 32 #[(.agg (machL (.slice a c.caps.length cap) (.slice a2 c.starts.length cap2) c.threads m).toArray), .agg #[.int .u64 b.val, .bool b.ok, .bool b.late, .slice aa n ac]] w fun e w' => e = .returned (.agg (machL (.slice a c.caps.length cap) (.slice a2 c.starts.length cap2) c.threads (shutRE m b)).toArray) ∧ Below w.heap.size w w' := by
  unfold shutRE
  by_cases h1 : m.pl = 1
  · rw [if_pos h1]
    cases hcl : closedB b.val with
    | true => rw [if_pos rfl]; exact machShut_1c a a2 cap cap2 c m _ _ _ aa n ac hw h1 w hb.1 hb.2 hcl
    | false => rw [if_neg (by simp)]; exact machShut_1o a a2 cap cap2 c m _ _ _ aa n ac hw h1 w hb.1 hb.2 hcl
  rw [if_neg h1]
  cases hok : b.ok with
  | true => rw [if_pos rfl]; exact machShut_2k a a2 cap cap2 c m _ _ aa n ac hw (by omega) w
  | false => rw [if_neg (by simp)]; exact machShut_2n a a2 cap cap2 c m _ _ aa n ac hw (by omega) w
theorem countD_any (a a2 : Option Addr) (cap cap2 : Nat) (c : ConfM) (m : MachM) (k : Nat) (hk : k < c.caps.length) (hg : c.good) (hw : m.what = 6) (hc : m.chan = k) (hp : 1 ≤ m.pl ∧ m.pl ≤ 3) (ht : U64 m.t) (b : AnsM) (hb : U64 b.val) (aa : Option Addr) (n ac : Nat) (w : World) (hv : ConfV w (.agg #[.slice a c.caps.length cap, .slice a2 c.starts.length cap2, .int .i64 c.threads]) c) : Calls Try.prog 33 #[(.agg (machL (.slice a c.caps.length cap) (.slice a2 c.starts.length cap2) c.threads m).toArray), .agg #[.int .u64 b.val, .bool b.ok, .bool b.late, .slice aa n ac]] w fun e w' => e = .returned (.agg (machL (.slice a c.caps.length cap) (.slice a2 c.starts.length cap2) c.threads (countRE m b)).toArray) ∧ Below w.heap.size w w' := by
  unfold countRE
  by_cases h1 : m.pl = 1
  · rw [if_pos h1]; exact machCount_1 a a2 cap cap2 c m _ _ _ aa n ac hw h1 w
  rw [if_neg h1]
  by_cases h2 : m.pl = 2
  · rw [if_pos h2]; exact machCount_2 a a2 cap cap2 c m _ _ _ aa n ac hw h2 w
  rw [if_neg h2]
  by_cases he : b.val = m.t
  · have T := machCount_3e a a2 cap cap2 c m b.val b.ok b.late aa n ac hw (by omega) he.symm w
    rw [he] at T
    rw [if_pos he, he]; exact T
  · rw [if_neg he]; exact machCount_3n a a2 cap cap2 c m _ _ _ aa n ac hw (by omega) w he
theorem rg_doc : Doc rgNE rgRE rgK where
  next := fun c m a a2 cap cap2 w h hg hv => by
    obtain ⟨k, hk, hc⟩ := h.chan
    have hpl := h.pl
    have hwh := h.what
    by_cases h0 : m.pl = 0
    · unfold rgNE; rw [if_pos h0]; exact machNext_end a a2 cap cap2 c m h0 w
    · exact machNext_ring a a2 cap cap2 c m k _ _ hk hg rfl hc rfl h0 h w hv
  acc := fun c m h hg => by
    obtain ⟨k, hk, hc⟩ := h.chan
    have hn := hg.base8 k (Nat.le_of_lt hk)
    have hl := hg.len
    have e0 : c.base k = IntKind.i64.wrap (c.base k) := by rw [IntKind.wrap_i64]; omega
    have e1 : c.base k + 1 = IntKind.i64.wrap (c.base k + 1) := by rw [IntKind.wrap_i64]; omega
    have es : ∀ s, 0 ≤ s → c.slotW k s = IntKind.i64.wrap (c.slotW k s) ∧ c.slotW k s + 1 = IntKind.i64.wrap (c.slotW k s + 1) := fun s hs => by
      have := hg.slot8 k s hk hs
      rw [IntKind.wrap_i64, IntKind.wrap_i64]; omega
    have et := es (m.t / 2) (by have := h.t.1; omega)
    have eh := es m.h h.h.1
    have ut := h.t.wrap
    have uh := h.h.wrap
    have uv := h.val.wrap
    have z : (0 : Int) = IntKind.u64.wrap 0 := by decide
    have zi : (0 : Int) = IntKind.i64.wrap 0 := by decide
    have un : ∀ x y, nextI x y = IntKind.u64.wrap (nextI x y) := fun x y => U64.wrap ⟨by unfold nextI; omega, by unfold nextI; omega⟩
    have up : ∀ x b, packI x b = IntKind.u64.wrap (packI x b) := fun x b => U64.wrap ⟨by unfold packI; split <;> omega, by unfold packI; split <;> omega⟩
    unfold rgNE
    rw [show m.chan.toNat = k by omega]
    unfold pushNE popNE shutNE countNE
    repeat' split
    all_goals refine ⟨by dsimp only [accZ]; decide, ?_, ?_, ?_, zi⟩
    all_goals first | exact zi | exact z | exact e0 | exact e1 | exact et.1 | exact et.2 | exact eh.1 | exact eh.2 | exact ut | exact uh | exact uv | exact un _ _ | exact up _ _
  resume := fun c m b a a2 cap cap2 zA zn zc w h hg hb hv => by
    obtain ⟨k, hk, hc⟩ := h.chan
    have hpl := h.pl
    have hwh := h.what
    have HV := hv
    unfold rgRE
    by_cases h0 : m.pl = 0
    · rw [if_pos h0]; exact machRes_end a a2 cap cap2 c m _ _ _ zA zn zc h0 w
    rw [if_neg h0, show m.chan.toNat = k by omega]
    by_cases hw : m.what = 3
    · rw [if_pos hw]; exact machRes_push a a2 cap cap2 c m _ _ _ _ zA zn zc hw h0 w fun w' hb' => pushD_any a a2 cap cap2 c m k hk hg hw hc (by omega) h.t b hb zA zn zc w' (HV.below hb')
    rw [if_neg hw]
    by_cases hw : m.what = 4
    · rw [if_pos hw]; exact machRes_pop a a2 cap cap2 c m _ _ _ _ zA zn zc hw h0 w fun w' hb' => popD_any a a2 cap cap2 c m k hk hg hw hc (by omega) h.t b hb zA zn zc w' (HV.below hb')
    rw [if_neg hw]
    by_cases hw : m.what = 5
    · rw [if_pos hw]; exact machRes_shut a a2 cap cap2 c m _ _ _ _ zA zn zc hw h0 w fun w' hb' => shutD_any a a2 cap cap2 c m k hk hg hw hc (by have := hpl.2.2.1 hw; omega) h.t b hb zA zn zc w' (HV.below hb')
    rw [if_neg hw]
    have hw : m.what = 6 := by omega
    exact machRes_count a a2 cap cap2 c m _ _ _ _ zA zn zc hw h0 w fun w' hb' => countD_any a a2 cap cap2 c m k hk hg hw hc (by have := hpl.2.2.2 hw; omega) h.t b hb zA zn zc w' (HV.below hb')
  stays := fun c m b h hb => rgK_RE h hb
end Go.Proofs.Ytjnlkemdaffgbaa
