
import Derived.Test.YtmkngpjjimalhaaB05
set_option linter.unusedVariables false
set_option linter.unusedSimpArgs false
/- Where everything lies: the numbers of all words and lists. -/
namespace Go.Proofs.Ytmkngpjjimalhaa
open Go.ChangeShapes Go.WideShapes Go.ChangeAt Go.RowKit
set_option maxRecDepth 100000

theorem slotW_eq (c : ConfM) (k : Nat) (s : Int) : c.slotW k s = c.base k + 5 + slotI s (c.size k) * 2 := rfl
set_option maxHeartbeats 1000000 in
theorem tailW_any (v : Value) (c : ConfM) (k : Nat) (hk : k < c.caps.length) (w : World) (h : ConfV w v c) (hg : c.good) :
    Calls Try.prog 81 #[v, .int .i64 k] w fun e w' => e = .returned (.int .i64 (c.base k + 0)) ∧ Below w.heap.size w w' := by
  have HV := Lib.hid h
  obtain ⟨vc, vs, rfl, h1, h2⟩ := h
  obtain ⟨a, cap, rfl, -⟩ := h1.len
  obtain ⟨a2, cap2, rfl, -⟩ := h2.len
  have HB := Lib.hid (below_new (Below.refl w.heap.size w) (.cells #[.slice a c.caps.length cap, .slice a2 c.starts.length cap2, .int .i64 c.threads] 36))
  have hl := hg.len
  clear h1 h2
  have hn := hg.base8 k (Nat.le_of_lt hk)
  go_enter Try.func81, Try.ntmps81
  go_wp2_with fail
  refine (base_any _ c k _ (HV.out.below HB.out) (Nat.le_of_lt hk) hg).mono ?_; rintro e w1 ⟨rfl, hb1⟩
  have HB1 := Lib.hid (below_then HB.out hb1)
  clear hb1
  go_wp2
  go_ret
  exact ⟨ret_i64 (by omega), HB1.out⟩
set_option maxHeartbeats 1000000 in
theorem headW_any (v : Value) (c : ConfM) (k : Nat) (hk : k < c.caps.length) (w : World) (h : ConfV w v c) (hg : c.good) :
    Calls Try.prog 80 #[v, .int .i64 k] w fun e w' => e = .returned (.int .i64 (c.base k + 1)) ∧ Below w.heap.size w w' := by
  have HV := Lib.hid h
  obtain ⟨vc, vs, rfl, h1, h2⟩ := h
  obtain ⟨a, cap, rfl, -⟩ := h1.len
  obtain ⟨a2, cap2, rfl, -⟩ := h2.len
  have HB := Lib.hid (below_new (Below.refl w.heap.size w) (.cells #[.slice a c.caps.length cap, .slice a2 c.starts.length cap2, .int .i64 c.threads] 36))
  have hl := hg.len
  clear h1 h2
  have hn := hg.base8 k (Nat.le_of_lt hk)
  go_enter Try.func80, Try.ntmps80
  go_wp2_with fail
  refine (base_any _ c k _ (HV.out.below HB.out) (Nat.le_of_lt hk) hg).mono ?_; rintro e w1 ⟨rfl, hb1⟩
  have HB1 := Lib.hid (below_then HB.out hb1)
  clear hb1
  go_wp2
  go_ret
  exact ⟨ret_i64 (by omega), HB1.out⟩
set_option maxHeartbeats 1000000 in
theorem rheadW_any (v : Value) (c : ConfM) (k : Nat) (hk : k < c.caps.length) (w : World) (h : ConfV w v c) (hg : c.good) :
    Calls Try.prog 46 #[v, .int .i64 k] w fun e w' => e = .returned (.int .i64 (c.base k + 1)) ∧ Below w.heap.size w w' := by
  have HV := Lib.hid h
  obtain ⟨vc, vs, rfl, h1, h2⟩ := h
  obtain ⟨a, cap, rfl, -⟩ := h1.len
  obtain ⟨a2, cap2, rfl, -⟩ := h2.len
  have HB := Lib.hid (below_new (Below.refl w.heap.size w) (.cells #[.slice a c.caps.length cap, .slice a2 c.starts.length cap2, .int .i64 c.threads] 36))
  have hl := hg.len
  clear h1 h2
  have hn := hg.base8 k (Nat.le_of_lt hk)
  go_enter Try.func46, Try.ntmps46
  go_wp2_with fail
  refine (rtail_any _ c k _ (HV.out.below HB.out) (Nat.le_of_lt hk) hg).mono ?_; rintro e w1 ⟨rfl, hb1⟩
  have HB1 := Lib.hid (below_then HB.out hb1)
  clear hb1
  go_wp2
  go_ret
  exact ⟨ret_i64 (by omega), HB1.out⟩
set_option maxHeartbeats 1000000 in
theorem rlockW_any (v : Value) (c : ConfM) (k : Nat) (hk : k < c.caps.length) (w : World) (h : ConfV w v c) (hg : c.good) :
    Calls Try.prog 53 #[v, .int .i64 k] w fun e w' => e = .returned (.int .i64 (c.base k + 2)) ∧ Below w.heap.size w w' := by
  have HV := Lib.hid h
  obtain ⟨vc, vs, rfl, h1, h2⟩ := h
  obtain ⟨a, cap, rfl, -⟩ := h1.len
  obtain ⟨a2, cap2, rfl, -⟩ := h2.len
  have HB := Lib.hid (below_new (Below.refl w.heap.size w) (.cells #[.slice a c.caps.length cap, .slice a2 c.starts.length cap2, .int .i64 c.threads] 36))
  have hl := hg.len
  clear h1 h2
  have hn := hg.base8 k (Nat.le_of_lt hk)
  go_enter Try.func53, Try.ntmps53
  go_wp2_with fail
  refine (rtail_any _ c k _ (HV.out.below HB.out) (Nat.le_of_lt hk) hg).mono ?_; rintro e w1 ⟨rfl, hb1⟩
  have HB1 := Lib.hid (below_then HB.out hb1)
  clear hb1
  go_wp2
  go_ret
  exact ⟨ret_i64 (by omega), HB1.out⟩
set_option maxHeartbeats 1000000 in
theorem rclaimW_any (v : Value) (c : ConfM) (t : Int) (h0 : 0 ≤ t) (h8 : t ≤ 8) (w : World) (h : ConfV w v c) (hg : c.good) :
    Calls Try.prog 56 #[v, .int .i64 t] w fun e w' => e = .returned (.int .i64 (c.thrW t)) ∧ Below w.heap.size w w' := by
  have HV := Lib.hid h
  obtain ⟨vc, vs, rfl, h1, h2⟩ := h
  obtain ⟨a, cap, rfl, -⟩ := h1.len
  obtain ⟨a2, cap2, rfl, -⟩ := h2.len
  have HB := Lib.hid (below_new (Below.refl w.heap.size w) (.cells #[.slice a c.caps.length cap, .slice a2 c.starts.length cap2, .int .i64 c.threads] 36))
  have hl := hg.len
  clear h1 h2
  have hn := hg.base8 c.caps.length (Nat.le_refl _)
  have HE : Hid (c.thrW t = c.base c.caps.length + t * 11) := rfl
  have hcl : (c.caps.length : Int) ≤ 8 := by omega
  go_enter Try.func56, Try.ntmps56
  go_wp2_with fail
  refine (rtail_any _ c c.caps.length _ (HV.out.below HB.out) (Nat.le_refl _) hg).mono ?_; rintro e w1 ⟨rfl, hb1⟩
  have HB1 := Lib.hid (below_then HB.out hb1)
  clear hb1
  go_wp2
  go_ret
  exact ⟨ret_i64 (by first | (rw [HE.out]; done) | (rw [HE.out]; omega)), HB1.out⟩
theorem ConfM.good.thr8 {c : ConfM} (h : c.good) (t : Int) (h0 : 0 ≤ t) (h8 : t ≤ 8) : 0 ≤ c.thrW t ∧ c.thrW t ≤ 384 := by
  have h1 := h.base8 c.caps.length (Nat.le_refl _)
  show 0 ≤ c.base c.caps.length + t * 11 ∧ c.base c.caps.length + t * 11 ≤ 384
  omega
set_option maxHeartbeats 1000000 in
theorem rflagW_any (v : Value) (c : ConfM) (t : Int) (h0 : 0 ≤ t) (h8 : t ≤ 8) (w : World) (h : ConfV w v c) (hg : c.good) :
    Calls Try.prog 60 #[v, .int .i64 t] w fun e w' => e = .returned (.int .i64 (c.thrW t + 1)) ∧ Below w.heap.size w w' := by
  have HV := Lib.hid h
  obtain ⟨vc, vs, rfl, h1, h2⟩ := h
  obtain ⟨a, cap, rfl, -⟩ := h1.len
  obtain ⟨a2, cap2, rfl, -⟩ := h2.len
  have HB := Lib.hid (below_new (Below.refl w.heap.size w) (.cells #[.slice a c.caps.length cap, .slice a2 c.starts.length cap2, .int .i64 c.threads] 36))
  have hl := hg.len
  clear h1 h2
  have hn := hg.thr8 t h0 h8
  go_enter Try.func60, Try.ntmps60
  go_wp2_with fail
  refine (rclaimW_any _ c t h0 h8 _ (HV.out.below HB.out) hg).mono ?_; rintro e w1 ⟨rfl, hb1⟩
  have HB1 := Lib.hid (below_then HB.out hb1)
  clear hb1
  go_wp2
  go_ret
  exact ⟨ret_i64 (by omega), HB1.out⟩
set_option maxHeartbeats 1000000 in
theorem rkindW_any (v : Value) (c : ConfM) (t : Int) (h0 : 0 ≤ t) (h8 : t ≤ 8) (w : World) (h : ConfV w v c) (hg : c.good) :
    Calls Try.prog 58 #[v, .int .i64 t] w fun e w' => e = .returned (.int .i64 (c.thrW t + 2)) ∧ Below w.heap.size w w' := by
  have HV := Lib.hid h
  obtain ⟨vc, vs, rfl, h1, h2⟩ := h
  obtain ⟨a, cap, rfl, -⟩ := h1.len
  obtain ⟨a2, cap2, rfl, -⟩ := h2.len
  have HB := Lib.hid (below_new (Below.refl w.heap.size w) (.cells #[.slice a c.caps.length cap, .slice a2 c.starts.length cap2, .int .i64 c.threads] 36))
  have hl := hg.len
  clear h1 h2
  have hn := hg.thr8 t h0 h8
  go_enter Try.func58, Try.ntmps58
  go_wp2_with fail
  refine (rclaimW_any _ c t h0 h8 _ (HV.out.below HB.out) hg).mono ?_; rintro e w1 ⟨rfl, hb1⟩
  have HB1 := Lib.hid (below_then HB.out hb1)
  clear hb1
  go_wp2
  go_ret
  exact ⟨ret_i64 (by omega), HB1.out⟩
set_option maxHeartbeats 1000000 in
theorem rcaseW_any (v : Value) (c : ConfM) (t : Int) (h0 : 0 ≤ t) (h8 : t ≤ 8) (w : World) (h : ConfV w v c) (hg : c.good) :
    Calls Try.prog 57 #[v, .int .i64 t] w fun e w' => e = .returned (.int .i64 (c.thrW t + 3)) ∧ Below w.heap.size w w' := by
  have HV := Lib.hid h
  obtain ⟨vc, vs, rfl, h1, h2⟩ := h
  obtain ⟨a, cap, rfl, -⟩ := h1.len
  obtain ⟨a2, cap2, rfl, -⟩ := h2.len
  have HB := Lib.hid (below_new (Below.refl w.heap.size w) (.cells #[.slice a c.caps.length cap, .slice a2 c.starts.length cap2, .int .i64 c.threads] 36))
  have hl := hg.len
  clear h1 h2
  have hn := hg.thr8 t h0 h8
  go_enter Try.func57, Try.ntmps57
  go_wp2_with fail
  refine (rclaimW_any _ c t h0 h8 _ (HV.out.below HB.out) hg).mono ?_; rintro e w1 ⟨rfl, hb1⟩
  have HB1 := Lib.hid (below_then HB.out hb1)
  clear hb1
  go_wp2
  go_ret
  exact ⟨ret_i64 (by omega), HB1.out⟩
set_option maxHeartbeats 1000000 in
theorem rvalueW_any (v : Value) (c : ConfM) (t : Int) (h0 : 0 ≤ t) (h8 : t ≤ 8) (w : World) (h : ConfV w v c) (hg : c.good) :
    Calls Try.prog 59 #[v, .int .i64 t] w fun e w' => e = .returned (.int .i64 (c.thrW t + 4)) ∧ Below w.heap.size w w' := by
  have HV := Lib.hid h
  obtain ⟨vc, vs, rfl, h1, h2⟩ := h
  obtain ⟨a, cap, rfl, -⟩ := h1.len
  obtain ⟨a2, cap2, rfl, -⟩ := h2.len
  have HB := Lib.hid (below_new (Below.refl w.heap.size w) (.cells #[.slice a c.caps.length cap, .slice a2 c.starts.length cap2, .int .i64 c.threads] 36))
  have hl := hg.len
  clear h1 h2
  have hn := hg.thr8 t h0 h8
  go_enter Try.func59, Try.ntmps59
  go_wp2_with fail
  refine (rclaimW_any _ c t h0 h8 _ (HV.out.below HB.out) hg).mono ?_; rintro e w1 ⟨rfl, hb1⟩
  have HB1 := Lib.hid (below_then HB.out hb1)
  clear hb1
  go_wp2
  go_ret
  exact ⟨ret_i64 (by omega), HB1.out⟩
set_option maxHeartbeats 1000000 in
theorem rwords_any (v : Value) (c : ConfM) (w : World) (h : ConfV w v c) (hg : c.good) :
    Calls Try.prog 43 #[v] w fun e w' => e = .returned (.int .i64 (c.thrW c.threads)) ∧ Below w.heap.size w w' := by
  have HV := Lib.hid h
  obtain ⟨vc, vs, rfl, h1, h2⟩ := h
  obtain ⟨a, cap, rfl, -⟩ := h1.len
  obtain ⟨a2, cap2, rfl, -⟩ := h2.len
  have HB := Lib.hid (below_new (Below.refl w.heap.size w) (.cells #[.slice a c.caps.length cap, .slice a2 c.starts.length cap2, .int .i64 c.threads] 36))
  have hl := hg.len
  clear h1 h2
  have hn := hg.thr8 c.threads (by have := hg.thr; omega) hg.thr.2
  go_enter Try.func43, Try.ntmps43
  go_wp2_with fail
  refine (rclaimW_any _ c c.threads (by have := hg.thr; omega) hg.thr.2 _ (HV.out.below HB.out) hg).mono ?_; rintro e w1 ⟨rfl, hb1⟩
  have HB1 := Lib.hid (below_then HB.out hb1)
  clear hb1
  go_wp2
  go_ret
  exact ⟨rfl, HB1.out⟩
set_option maxHeartbeats 1000000 in
theorem slotBase_any (v : Value) (c : ConfM) (k : Nat) (s : Int) (hk : k < c.caps.length) (hs0 : 0 ≤ s) (hs1 : s < 18446744073709551616) (w : World) (h : ConfV w v c) (hg : c.good) :
    Calls Try.prog 86 #[v, .int .i64 k, .int .u64 s] w fun e w' => e = .returned (.int .i64 (c.slotW k s)) ∧ Below w.heap.size w w' := by
  have HV := Lib.hid h
  obtain ⟨vc, vs, rfl, h1, h2⟩ := h
  obtain ⟨a, cap, rfl, -⟩ := h1.len
  obtain ⟨a2, cap2, rfl, -⟩ := h2.len
  have HB := Lib.hid (below_new (Below.refl w.heap.size w) (.cells #[.slice a c.caps.length cap, .slice a2 c.starts.length cap2, .int .i64 c.threads] 36))
  have hl := hg.len
  clear h1 h2
  have hn := hg.base8 k (Nat.le_of_lt hk)
  have hz := hg.size k hk
  have hq := slotI_lt s (c.size k) hs0 hz.1
  have HE : Hid (c.slotW k s = c.base k + 5 + slotI s (c.size k) * 2) := rfl
  have S := Lib.hid fun w' h => slots_any (.agg #[.slice a c.caps.length cap, .slice a2 c.starts.length cap2, .int .i64 c.threads]) c k w' h hk hg
  have SL := Lib.hid fun w' => slot_any s (c.size k) w' hs0 hs1 (by omega) (by omega)
  have BA := Lib.hid fun w' h => base_any (.agg #[.slice a c.caps.length cap, .slice a2 c.starts.length cap2, .int .i64 c.threads]) c k w' h (Nat.le_of_lt hk) hg
  obtain ⟨W, hW⟩ : ∃ W, w.alloc (.cells #[.slice a c.caps.length cap, .slice a2 c.starts.length cap2, .int .i64 c.threads] 36) = W := ⟨_, rfl⟩
  rw [hW] at HB
  have R0 : Hid (W.heap[w.heap.size]? = some (.cells #[.slice a c.caps.length cap, .slice a2 c.starts.length cap2, .int .i64 c.threads] 36 (0, 0))) := hW ▸ heap_alloc_new _ _
  have hzW : w.heap.size < W.heap.size := by rw [← hW]; simp
  have HW := Lib.hid hW
  clear hW
  generalize slotI s (c.size k) = q at *
  clear hs0 hs1 hk hg
  go_enter Try.func86, Try.ntmps86
  go_upto_region 1 with fail
  rw [HW.out]
  clear HW
  obtain ⟨x0, x1, x2⟩ := rowc3 R0.out
  go_wp2_with fail
  refine (S.out _ (HV.out.below HB.out)).mono ?_; rintro e w1 ⟨rfl, hb1⟩
  have HB1 := Lib.hid (below_then HB.out hb1)
  have R1 := Lib.hid ((hb1.block w.heap.size (by omega)).trans R0.out)
  clear hb1 x0 x1 x2
  obtain ⟨x0, x1, x2⟩ := rowc3 R1.out
  go_wp2_with fail
  refine (SL.out _).mono ?_; rintro e w2 ⟨rfl, rfl⟩
  go_wp2_with fail
  refine (BA.out _ (HV.out.below HB1.out)).mono ?_; rintro e w1 ⟨rfl, hb1⟩
  have HB2 := Lib.hid (below_then HB1.out hb1)
  clear hb1
  go_wp2
  go_ret
  exact ⟨ret_i64 (by first | (rw [HE.out]; done) | (rw [HE.out]; omega)), HB2.out⟩
theorem ConfM.good.slot8 {c : ConfM} (h : c.good) (k : Nat) (s : Int) (hk : k < c.caps.length) (hs0 : 0 ≤ s) : 0 ≤ c.slotW k s ∧ c.slotW k s ≤ 400 := by
  have h1 := h.base8 k (Nat.le_of_lt hk)
  have h2 := h.size k hk
  have h3 := slotI_lt s (c.size k) hs0 h2.1
  show 0 ≤ c.base k + 5 + slotI s (c.size k) * 2 ∧ c.base k + 5 + slotI s (c.size k) * 2 ≤ 400
  omega
set_option maxHeartbeats 1000000 in
theorem slotSeqW_any (v : Value) (c : ConfM) (k : Nat) (s : Int) (hk : k < c.caps.length) (hs0 : 0 ≤ s) (hs1 : s < 18446744073709551616) (w : World) (h : ConfV w v c) (hg : c.good) :
    Calls Try.prog 83 #[v, .int .i64 k, .int .u64 s] w fun e w' => e = .returned (.int .i64 (c.slotW k s)) ∧ Below w.heap.size w w' := by
  have HV := Lib.hid h
  obtain ⟨vc, vs, rfl, h1, h2⟩ := h
  obtain ⟨a, cap, rfl, -⟩ := h1.len
  obtain ⟨a2, cap2, rfl, -⟩ := h2.len
  have HB := Lib.hid (below_new (Below.refl w.heap.size w) (.cells #[.slice a c.caps.length cap, .slice a2 c.starts.length cap2, .int .i64 c.threads] 36))
  have hl := hg.len
  clear h1 h2
  have hn := hg.slot8 k s hk hs0
  go_enter Try.func83, Try.ntmps83
  go_wp2_with fail
  refine (slotBase_any _ c k s hk hs0 hs1 _ (HV.out.below HB.out) hg).mono ?_; rintro e w1 ⟨rfl, hb1⟩
  have HB1 := Lib.hid (below_then HB.out hb1)
  clear hb1
  go_wp2
  go_ret
  exact ⟨ret_i64 (by omega), HB1.out⟩
set_option maxHeartbeats 1000000 in
theorem slotValueW_any (v : Value) (c : ConfM) (k : Nat) (s : Int) (hk : k < c.caps.length) (hs0 : 0 ≤ s) (hs1 : s < 18446744073709551616) (w : World) (h : ConfV w v c) (hg : c.good) :
    Calls Try.prog 84 #[v, .int .i64 k, .int .u64 s] w fun e w' => e = .returned (.int .i64 (c.slotW k s + 1)) ∧ Below w.heap.size w w' := by
  have HV := Lib.hid h
  obtain ⟨vc, vs, rfl, h1, h2⟩ := h
  obtain ⟨a, cap, rfl, -⟩ := h1.len
  obtain ⟨a2, cap2, rfl, -⟩ := h2.len
  have HB := Lib.hid (below_new (Below.refl w.heap.size w) (.cells #[.slice a c.caps.length cap, .slice a2 c.starts.length cap2, .int .i64 c.threads] 36))
  have hl := hg.len
  clear h1 h2
  have hn := hg.slot8 k s hk hs0
  go_enter Try.func84, Try.ntmps84
  go_wp2_with fail
  refine (slotBase_any _ c k s hk hs0 hs1 _ (HV.out.below HB.out) hg).mono ?_; rintro e w1 ⟨rfl, hb1⟩
  have HB1 := Lib.hid (below_then HB.out hb1)
  clear hb1
  go_wp2
  go_ret
  exact ⟨ret_i64 (by omega), HB1.out⟩
set_option maxHeartbeats 1000000 in
theorem rslotSeqW_any (v : Value) (c : ConfM) (k : Nat) (s : Int) (hk : k < c.caps.length) (hs0 : 0 ≤ s) (hs1 : s < 18446744073709551616) (w : World) (h : ConfV w v c) (hg : c.good) :
    Calls Try.prog 49 #[v, .int .i64 k, .int .u64 s] w fun e w' => e = .returned (.int .i64 (c.slotW k s)) ∧ Below w.heap.size w w' := by
  have HV := Lib.hid h
  obtain ⟨vc, vs, rfl, h1, h2⟩ := h
  obtain ⟨a, cap, rfl, -⟩ := h1.len
  obtain ⟨a2, cap2, rfl, -⟩ := h2.len
  have HB := Lib.hid (below_new (Below.refl w.heap.size w) (.cells #[.slice a c.caps.length cap, .slice a2 c.starts.length cap2, .int .i64 c.threads] 36))
  have hl := hg.len
  clear h1 h2
  have hn := hg.base8 k (Nat.le_of_lt hk)
  have hz := hg.size k hk
  have hq := slotI_lt s (c.size k) hs0 hz.1
  have HE : Hid (c.slotW k s = c.base k + 5 + slotI s (c.size k) * 2) := rfl
  have S := Lib.hid fun w' h => rsize4_any (.agg #[.slice a c.caps.length cap, .slice a2 c.starts.length cap2, .int .i64 c.threads]) c k w' h hk hg
  have SL := Lib.hid fun w' => rslot_any s (c.size k) w' hs0 hs1 (by omega) (by omega)
  have BA := Lib.hid fun w' h => rtail_any (.agg #[.slice a c.caps.length cap, .slice a2 c.starts.length cap2, .int .i64 c.threads]) c k w' h (Nat.le_of_lt hk) hg
  obtain ⟨W, hW⟩ : ∃ W, w.alloc (.cells #[.slice a c.caps.length cap, .slice a2 c.starts.length cap2, .int .i64 c.threads] 36) = W := ⟨_, rfl⟩
  rw [hW] at HB
  have R0 : Hid (W.heap[w.heap.size]? = some (.cells #[.slice a c.caps.length cap, .slice a2 c.starts.length cap2, .int .i64 c.threads] 36 (0, 0))) := hW ▸ heap_alloc_new _ _
  have hzW : w.heap.size < W.heap.size := by rw [← hW]; simp
  have HW := Lib.hid hW
  clear hW
  generalize hqq : slotI s (c.size k) = q at *
  clear hs0 hs1 hk hg hqq
  go_enter Try.func49, Try.ntmps49
  go_upto_region 1 with fail
  rw [HW.out]
  clear HW
  obtain ⟨x0, x1, x2⟩ := rowc3 R0.out
  have X0 := ext_cell _ 0 hzW _ x0
  have X1 := ext_cell _ 1 hzW _ x1
  have X2 := ext_cell _ 2 hzW _ x2
  have CX0 := Lib.hid X0
  clear x0 x1 x2
  refine wp_region_ext W (by kernel_rfl) (by kernel_rfl) (Below.refl _ _) ?_
  repeat (go_big_quiet_step (first
    | (go_at_call 45; with_reducible exact calls_ext (BA.out _ (HV.out.below (HB.out.trans (Below.mono (Ext.below _) (Nat.le_of_lt hzW))))))
    | (go_at_call 47; with_reducible exact calls_ext (S.out _ (HV.out.below (HB.out.trans (Below.mono (Ext.below _) (Nat.le_of_lt hzW))))))
    | (go_at_call 70; with_reducible exact calls_ext ((SL.out _).mono fun _ _ h => ⟨h.1, h.2 ▸ Below.refl _ _⟩))))
  refine wpQuiet_nil ?_
  intro _ hw'
  obtain ⟨w2, rfl⟩ := hw'
  have HB2 := Lib.hid (HB.out.trans (w2.below.mono (Nat.le_of_lt hzW)))
  generalize w2.wd = w3 at *
  go_wp2
  go_ret
  exact ⟨ret_i64 (by first | (rw [HE.out]; done) | (rw [HE.out]; omega)), HB2.out⟩
set_option maxHeartbeats 1000000 in
theorem rslotValueW_any (v : Value) (c : ConfM) (k : Nat) (s : Int) (hk : k < c.caps.length) (hs0 : 0 ≤ s) (hs1 : s < 18446744073709551616) (w : World) (h : ConfV w v c) (hg : c.good) :
    Calls Try.prog 55 #[v, .int .i64 k, .int .u64 s] w fun e w' => e = .returned (.int .i64 (c.slotW k s + 1)) ∧ Below w.heap.size w w' := by
  have HV := Lib.hid h
  obtain ⟨vc, vs, rfl, h1, h2⟩ := h
  obtain ⟨a, cap, rfl, -⟩ := h1.len
  obtain ⟨a2, cap2, rfl, -⟩ := h2.len
  have HB := Lib.hid (below_new (Below.refl w.heap.size w) (.cells #[.slice a c.caps.length cap, .slice a2 c.starts.length cap2, .int .i64 c.threads] 36))
  have hl := hg.len
  clear h1 h2
  have hn := hg.slot8 k s hk hs0
  go_enter Try.func55, Try.ntmps55
  go_wp2_with fail
  refine (rslotSeqW_any _ c k s hk hs0 hs1 _ (HV.out.below HB.out) hg).mono ?_; rintro e w1 ⟨rfl, hb1⟩
  have HB1 := Lib.hid (below_then HB.out hb1)
  clear hb1
  go_wp2
  go_ret
  exact ⟨ret_i64 (by omega), HB1.out⟩
end Go.Proofs.Ytmkngpjjimalhaa
/- Where everything lies: which configurations are valid. -/
namespace Go.Proofs.Ytmkngpjjimalhaa
open Go.ChangeShapes Go.WideShapes Go.ChangeAt Go.RowKit
set_option maxRecDepth 100000

def capB (x : Int) : Bool := decide (0 ≤ x) && decide (x ≤ 16)
def startB (x : Int) : Bool := decide (x < 9223372036854775808)
/-- the first error of a configuration, 0 if there is none -/
def checkC (c : ConfM) : Int :=
  if 8 < c.caps.length then 3 else if c.starts.length ≠ c.caps.length then 5 else if c.caps.all capB = false then 2 else if c.starts.all startB = false then 2 else
  if c.threads < 1 ∨ 8 < c.threads then 2 else 0
theorem checkC_good {c : ConfM} (h : c.good) : checkC c = 0 := by
  have h1 := h.len
  have h2 := h.thr
  have h3 : c.caps.all capB = true := List.all_eq_true.2 fun x hx => by have := h.caps x hx; simp [capB, this]
  have h4 : c.starts.all startB = true := List.all_eq_true.2 fun x hx => by have := h.starts x hx; simp [startB, this]
  unfold checkC
  rw [if_neg (by omega), if_neg (by simp [h.same]), if_neg (by simp [h3]), if_neg (by simp [h4]), if_neg (by omega)]
theorem good_of_check {c : ConfM} (h : checkC c = 0) (hs : ∀ x ∈ c.starts, 0 ≤ x) : c.good := by
  unfold checkC at h
  split at h
  · omega
  split at h
  · omega
  split at h
  · omega
  split at h
  · omega
  split at h
  · omega
  rename_i h1 h2 h3 h4 h5
  simp only [Bool.not_eq_false] at h3 h4
  refine ⟨by omega, by simpa using h2, fun x hx => ?_, fun x hx => ?_, by omega⟩
  · have := List.all_eq_true.1 h3 x hx
    simpa [capB] using this
  · have := List.all_eq_true.1 h4 x hx
    simp [startB] at this
    exact ⟨hs x hx, this⟩
theorem checkC_many {c : ConfM} (h : 8 < c.caps.length) : checkC c = 3 := by unfold checkC; rw [if_pos h]
theorem checkC_shape {c : ConfM} (h : ¬ 8 < c.caps.length) (h2 : c.starts.length ≠ c.caps.length) : checkC c = 5 := by unfold checkC; rw [if_neg h, if_pos h2]
theorem all_bad {l : List Int} {p : Int → Bool} (j : Nat) (h : j < l.length) (hb : p (l.getD j 0) = false) : l.all p = false := by
  rw [List.all_eq_false]
  rw [List.getD_eq_getElem?_getD, List.getElem?_eq_getElem h] at hb
  exact ⟨_, List.getElem_mem h, by simpa using hb⟩
theorem all_next {l : List Int} {p : Int → Bool} (j : Nat) (h : j < l.length) (ha : (l.take j).all p = true) (hb : p (l.getD j 0) = true) : (l.take (j + 1)).all p = true := by
  rw [List.take_add_one, List.getElem?_eq_getElem h, List.all_append, ha]
  rw [List.getD_eq_getElem?_getD, List.getElem?_eq_getElem h] at hb
  simpa using hb
theorem checkC_caps {c : ConfM} (h : ¬ 8 < c.caps.length) (h2 : c.starts.length = c.caps.length) (h3 : c.caps.all capB = false) : checkC c = 2 := by
  unfold checkC; rw [if_neg h, if_neg (by simp [h2]), if_pos h3]
theorem checkC_starts {c : ConfM} (h : ¬ 8 < c.caps.length) (h2 : c.starts.length = c.caps.length) (h4 : c.starts.all startB = false) : checkC c = 2 := by
  unfold checkC; rw [if_neg h, if_neg (by simp [h2])]; simp only [h4, if_true]; split <;> rfl
theorem checkC_thr {c : ConfM} (h : ¬ 8 < c.caps.length) (h2 : c.starts.length = c.caps.length) (h3 : c.caps.all capB = true) (h4 : c.starts.all startB = true) : checkC c = if c.threads < 1 ∨ 8 < c.threads then 2 else 0 := by
  unfold checkC; rw [if_neg h, if_neg (by simp [h2]), if_neg (by simp [h3]), if_neg (by simp [h4])]
set_option maxHeartbeats 2000000 in
theorem checkC_any (v : Value) (c : ConfM) (w : World) (h : ConfV w v c) :
    Calls Try.prog 79 #[v] w fun e w' => e = .returned (.int .i64 (checkC c)) ∧ Below w.heap.size w w' := by
  obtain ⟨vc, vs, rfl, h1, h2⟩ := h
  have hn := h1.1
  have hm := h2.1
  obtain ⟨a, cap, rfl, -⟩ := h1.len
  obtain ⟨a2, cap2, rfl, -⟩ := h2.len
  obtain ⟨W, hW⟩ : ∃ W, w.alloc (.cells #[.slice a c.caps.length cap, .slice a2 c.starts.length cap2, .int .i64 c.threads] 36) = W := ⟨_, rfl⟩
  have HB : Hid (Below w.heap.size w W) := hW ▸ below_new (Below.refl w.heap.size w) _
  have R0 : Hid (W.heap[w.heap.size]? = some (.cells #[.slice a c.caps.length cap, .slice a2 c.starts.length cap2, .int .i64 c.threads] 36 (0, 0))) := hW ▸ heap_alloc_new _ _
  have S1 := Lib.hid (h1.below HB.out)
  have S2 := Lib.hid (h2.below HB.out)
  have HW := Lib.hid hW
  clear h1 h2 hW
  have CM := Lib.hid (checkC_many (c := c))
  have CS := Lib.hid (checkC_shape (c := c))
  have CC := Lib.hid (checkC_caps (c := c))
  have CT := Lib.hid (checkC_starts (c := c))
  have CZ := Lib.hid (checkC_thr (c := c))
  generalize hcn : c.caps.length = n at *
  generalize hcm : c.starts.length = m at *
  have HN := Lib.hid hcn
  have HM := Lib.hid hcm
  clear hcn hcm
  generalize c.threads = thr at *
  go_enter Try.func79, Try.ntmps79
  go_upto_region 1 with fail
  rw [HW.out]
  clear HW
  obtain ⟨x0, x1, x2⟩ := rowc3 R0.out
  by_cases h8 : 8 < n
  · go_wp2
    go_ret
    exact ⟨ret_i64 (CM.out h8).symm, HB.out⟩
  by_cases hs : m = n
  case neg =>
    have hsb : ((m : Int) != (n : Int)) = true := by simp; omega
    have HS := Lib.hid hs
    clear hs
    go_wp2
    go_ret
    exact ⟨ret_i64 (CS.out h8 HS.out).symm, HB.out⟩
  case pos =>
  subst hs
  go_wp2_with fail
  go_loop [21] (fun i => ∃ j : Nat, j ≤ m ∧ i = .int .i64 j ∧ Hid ((c.caps.take j).all capB = true)) (fun i => 9 - (intOf i).toNat)
  case atStart => exact ⟨0, by omega, rfl, (by simp : (c.caps.take 0).all capB = true)⟩
  case round =>
    obtain ⟨j, hj, rfl, hall⟩ := hrel
    by_cases hlt : j < m
    · obtain ⟨b, off, rfl, hb, hc⟩ := S1.out.cellAt j (by rw [HN.out]; exact hlt)
      have BD := Lib.hid fun h => all_bad (l := c.caps) (p := capB) j (by rw [HN.out]; exact hlt) h
      have NX := Lib.hid fun h => all_next (l := c.caps) (p := capB) j (by rw [HN.out]; exact hlt) hall.out h
      generalize c.caps.getD j 0 = x at *
      by_cases h0 : 0 ≤ x ∧ x ≤ 16
      · obtain ⟨h0, h1⟩ := h0
        have hx := Lib.hid (NX.out (by simp [capB, h0, h1]))
        clear BD NX
        go_wp2
        go_round
        case rel => exact ⟨j + 1, by omega, by go_num, hx⟩
        case measure => simp [intOf]; omega
      · have hx := Lib.hid (CC.out h8 (by trivial) (BD.out (by simp [capB]; omega)))
        clear BD NX
        by_cases hx0 : x < 0
        · go_wp2
          go_ret
          exact ⟨ret_i64 hx.out.symm, HB.out⟩
        · have hx1 : 16 < x := by omega
          clear h0
          go_wp2
          go_ret
          exact ⟨ret_i64 hx.out.symm, HB.out⟩
    · obtain rfl : j = m := by omega
      have HA : Hid (c.caps.all capB = true) := by
        have := hall.out
        rw [List.take_of_length_le (by rw [HN.out]; exact Nat.le_refl _)] at this
        exact this
      clear hall
      go_wp2_with fail
      go_loop [35] (fun i => ∃ t : Nat, t ≤ j ∧ i = .int .i64 t ∧ Hid ((c.starts.take t).all startB = true)) (fun i => 9 - (intOf i).toNat)
      case atStart => exact ⟨0, by omega, rfl, (by simp : (c.starts.take 0).all startB = true)⟩
      case round =>
        obtain ⟨t, ht, rfl, hall⟩ := hrel
        by_cases htl : t < j
        · obtain ⟨b, off, rfl, hb, hc⟩ := S2.out.cellAt t (by rw [HM.out]; exact htl)
          have BD := Lib.hid fun h => all_bad (l := c.starts) (p := startB) t (by rw [HM.out]; exact htl) h
          have NX := Lib.hid fun h => all_next (l := c.starts) (p := startB) t (by rw [HM.out]; exact htl) hall.out h
          generalize c.starts.getD t 0 = x at *
          by_cases h0 : x < 9223372036854775808
          · have hx := Lib.hid (NX.out (by simp [startB, h0]))
            clear BD NX
            have hxd : decide (9223372036854775808 ≤ x) = false := decide_eq_false (by omega)
            clear h0
            go_wp2
            go_round
            case rel => exact ⟨t + 1, by omega, by go_num, hx⟩
            case measure => simp [intOf]; omega
          · have hx := Lib.hid (CT.out h8 (by trivial) (BD.out (by simp [startB]; omega)))
            clear BD NX
            have hxd : decide (9223372036854775808 ≤ x) = true := decide_eq_true (by omega)
            clear h0
            go_wp2
            go_ret
            exact ⟨ret_i64 hx.out.symm, HB.out⟩
        · obtain rfl : t = j := by omega
          have HA2 : Hid (c.starts.all startB = true) := by
            have := hall.out
            rw [List.take_of_length_le (by rw [HM.out]; exact Nat.le_refl _)] at this
            exact this
          have HZ := Lib.hid (CZ.out h8 (by trivial) HA.out HA2.out)
          clear hall HA HA2
          by_cases h1 : thr < 1
          · go_wp2
            go_ret
            exact ⟨ret_i64 (by rw [HZ.out, if_pos (.inl h1)]), HB.out⟩
          · by_cases h9 : 8 < thr
            · go_wp2
              go_ret
              exact ⟨ret_i64 (by rw [HZ.out, if_pos (.inr h9)]), HB.out⟩
            · go_wp2
              go_ret
              exact ⟨ret_i64 (by rw [HZ.out, if_neg (by omega)]), HB.out⟩
set_option maxHeartbeats 2000000 in
theorem rcheckC_any (v : Value) (c : ConfM) (w : World) (h : ConfV w v c) :
    Calls Try.prog 42 #[v] w fun e w' => e = .returned (.int .i64 (checkC c)) ∧ Below w.heap.size w w' := by
  obtain ⟨vc, vs, rfl, h1, h2⟩ := h
  have hn := h1.1
  have hm := h2.1
  obtain ⟨a, cap, rfl, -⟩ := h1.len
  obtain ⟨a2, cap2, rfl, -⟩ := h2.len
  obtain ⟨W, hW⟩ : ∃ W, w.alloc (.cells #[.slice a c.caps.length cap, .slice a2 c.starts.length cap2, .int .i64 c.threads] 36) = W := ⟨_, rfl⟩
  have HB : Hid (Below w.heap.size w W) := hW ▸ below_new (Below.refl w.heap.size w) _
  have R0 : Hid (W.heap[w.heap.size]? = some (.cells #[.slice a c.caps.length cap, .slice a2 c.starts.length cap2, .int .i64 c.threads] 36 (0, 0))) := hW ▸ heap_alloc_new _ _
  have S1 := Lib.hid (h1.below HB.out)
  have S2 := Lib.hid (h2.below HB.out)
  have HW := Lib.hid hW
  clear h1 h2 hW
  have CM := Lib.hid (checkC_many (c := c))
  have CS := Lib.hid (checkC_shape (c := c))
  have CC := Lib.hid (checkC_caps (c := c))
  have CT := Lib.hid (checkC_starts (c := c))
  have CZ := Lib.hid (checkC_thr (c := c))
  generalize hcn : c.caps.length = n at *
  generalize hcm : c.starts.length = m at *
  have HN := Lib.hid hcn
  have HM := Lib.hid hcm
  clear hcn hcm
  generalize c.threads = thr at *
  go_enter Try.func42, Try.ntmps42
  go_upto_region 1 with fail
  rw [HW.out]
  clear HW
  obtain ⟨x0, x1, x2⟩ := rowc3 R0.out
  by_cases h8 : 8 < n
  · go_wp2
    go_ret
    exact ⟨ret_i64 (CM.out h8).symm, HB.out⟩
  by_cases hs : m = n
  case neg =>
    have hsb : ((m : Int) != (n : Int)) = true := by simp; omega
    have HS := Lib.hid hs
    clear hs
    go_wp2
    go_ret
    exact ⟨ret_i64 (CS.out h8 HS.out).symm, HB.out⟩
  case pos =>
  subst hs
  go_wp2_with fail
  go_loop [3] (fun i => ∃ j : Nat, j ≤ m ∧ i = .int .i64 j ∧ Hid ((c.caps.take j).all capB = true)) (fun i => 9 - (intOf i).toNat)
  case atStart => exact ⟨0, by omega, rfl, (by simp : (c.caps.take 0).all capB = true)⟩
  case round =>
    obtain ⟨j, hj, rfl, hall⟩ := hrel
    by_cases hlt : j < m
    · obtain ⟨b, off, rfl, hb, hc⟩ := S1.out.cellAt j (by rw [HN.out]; exact hlt)
      have BD := Lib.hid fun h => all_bad (l := c.caps) (p := capB) j (by rw [HN.out]; exact hlt) h
      have NX := Lib.hid fun h => all_next (l := c.caps) (p := capB) j (by rw [HN.out]; exact hlt) hall.out h
      generalize c.caps.getD j 0 = x at *
      by_cases h0 : 0 ≤ x ∧ x ≤ 16
      · obtain ⟨h0, h1⟩ := h0
        have hx := Lib.hid (NX.out (by simp [capB, h0, h1]))
        clear BD NX
        go_wp2
        go_round
        case rel => exact ⟨j + 1, by omega, by go_num, hx⟩
        case measure => simp [intOf]; omega
      · have hx := Lib.hid (CC.out h8 (by trivial) (BD.out (by simp [capB]; omega)))
        clear BD NX
        by_cases hx0 : x < 0
        · go_wp2
          go_ret
          exact ⟨ret_i64 hx.out.symm, HB.out⟩
        · have hx1 : 16 < x := by omega
          clear h0
          go_wp2
          go_ret
          exact ⟨ret_i64 hx.out.symm, HB.out⟩
    · obtain rfl : j = m := by omega
      have HA : Hid (c.caps.all capB = true) := by
        have := hall.out
        rw [List.take_of_length_le (by rw [HN.out]; exact Nat.le_refl _)] at this
        exact this
      clear hall
      go_wp2_with fail
      go_loop [4] (fun i => ∃ t : Nat, t ≤ j ∧ i = .int .i64 t ∧ Hid ((c.starts.take t).all startB = true)) (fun i => 9 - (intOf i).toNat)
      case atStart => exact ⟨0, by omega, rfl, (by simp : (c.starts.take 0).all startB = true)⟩
      case round =>
        obtain ⟨t, ht, rfl, hall⟩ := hrel
        by_cases htl : t < j
        · obtain ⟨b, off, rfl, hb, hc⟩ := S2.out.cellAt t (by rw [HM.out]; exact htl)
          have BD := Lib.hid fun h => all_bad (l := c.starts) (p := startB) t (by rw [HM.out]; exact htl) h
          have NX := Lib.hid fun h => all_next (l := c.starts) (p := startB) t (by rw [HM.out]; exact htl) hall.out h
          generalize c.starts.getD t 0 = x at *
          by_cases h0 : x < 9223372036854775808
          · have hx := Lib.hid (NX.out (by simp [startB, h0]))
            clear BD NX
            have hxd : decide (9223372036854775808 ≤ x) = false := decide_eq_false (by omega)
            clear h0
            go_wp2
            go_round
            case rel => exact ⟨t + 1, by omega, by go_num, hx⟩
            case measure => simp [intOf]; omega
          · have hx := Lib.hid (CT.out h8 (by trivial) (BD.out (by simp [startB]; omega)))
            clear BD NX
            have hxd : decide (9223372036854775808 ≤ x) = true := decide_eq_true (by omega)
            clear h0
            go_wp2
            go_ret
            exact ⟨ret_i64 hx.out.symm, HB.out⟩
        · obtain rfl : t = j := by omega
          have HA2 : Hid (c.starts.all startB = true) := by
            have := hall.out
            rw [List.take_of_length_le (by rw [HM.out]; exact Nat.le_refl _)] at this
            exact this
          have HZ := Lib.hid (CZ.out h8 (by trivial) HA.out HA2.out)
          clear hall HA HA2
          by_cases h1 : thr < 1
          · go_wp2
            go_ret
            exact ⟨ret_i64 (by rw [HZ.out, if_pos (.inl h1)]), HB.out⟩
          · by_cases h9 : 8 < thr
            · go_wp2
              go_ret
              exact ⟨ret_i64 (by rw [HZ.out, if_pos (.inr h9)]), HB.out⟩
            · go_wp2
              go_ret
              exact ⟨ret_i64 (by rw [HZ.out, if_neg (by omega)]), HB.out⟩
end Go.Proofs.Ytmkngpjjimalhaa
