/- Where everything lies: the numbers of all words and lists. -/
import Derived.Test.YtkpnakomlfjndaaLyB
namespace Go.Proofs.Ytkpnakomlfjndaa
open Go.ChangeShapes Go.WideShapes Go.ChangeAt Go.RowKit
set_option maxRecDepth 100000

theorem slotW_eq (c : ConfM) (k : Nat) (s : Int) : c.slotW k s = c.base k + 5 + slotI s (c.size k) * 2 := rfl
set_option maxHeartbeats 1000000 in
theorem tailW_any (v : Value) (c : ConfM) (k : Nat) (hk : k < c.caps.length) (w : World) (h : ConfV w v c) (hg : c.good) :
    Calls Try.prog 59 #[v, .int .i64 k] w fun e w' => e = .returned (.int .i64 (c.base k + 0)) ∧ Below w.heap.size w w' := by
  have HV := Lib.hid h
  obtain ⟨vc, vs, rfl, h1, h2⟩ := h
  obtain ⟨a, cap, rfl, -⟩ := h1.len
  obtain ⟨a2, cap2, rfl, -⟩ := h2.len
  have HB := Lib.hid (below_new (Below.refl w.heap.size w) (.cells #[.slice a c.caps.length cap, .slice a2 c.starts.length cap2, .int .i64 c.threads] 46))
  have hl := hg.len
  clear h1 h2
  have hn := hg.base8 k (Nat.le_of_lt hk)
  go_enter Try.func59, Try.ntmps59
  go_wp2_with fail
  refine (base_any _ c k _ (HV.out.below HB.out) (Nat.le_of_lt hk) hg).mono ?_; rintro e w1 ⟨rfl, hb1⟩
  have HB1 := Lib.hid (below_then HB.out hb1)
  clear hb1
  go_wp2
  go_ret
  exact ⟨ret_i64 (by omega), HB1.out⟩
set_option maxHeartbeats 1000000 in
theorem headW_any (v : Value) (c : ConfM) (k : Nat) (hk : k < c.caps.length) (w : World) (h : ConfV w v c) (hg : c.good) :
    Calls Try.prog 64 #[v, .int .i64 k] w fun e w' => e = .returned (.int .i64 (c.base k + 1)) ∧ Below w.heap.size w w' := by
  have HV := Lib.hid h
  obtain ⟨vc, vs, rfl, h1, h2⟩ := h
  obtain ⟨a, cap, rfl, -⟩ := h1.len
  obtain ⟨a2, cap2, rfl, -⟩ := h2.len
  have HB := Lib.hid (below_new (Below.refl w.heap.size w) (.cells #[.slice a c.caps.length cap, .slice a2 c.starts.length cap2, .int .i64 c.threads] 46))
  have hl := hg.len
  clear h1 h2
  have hn := hg.base8 k (Nat.le_of_lt hk)
  go_enter Try.func64, Try.ntmps64
  go_wp2_with fail
  refine (base_any _ c k _ (HV.out.below HB.out) (Nat.le_of_lt hk) hg).mono ?_; rintro e w1 ⟨rfl, hb1⟩
  have HB1 := Lib.hid (below_then HB.out hb1)
  clear hb1
  go_wp2
  go_ret
  exact ⟨ret_i64 (by omega), HB1.out⟩
set_option maxHeartbeats 1000000 in
theorem rheadW_any (v : Value) (c : ConfM) (k : Nat) (hk : k < c.caps.length) (w : World) (h : ConfV w v c) (hg : c.good) :
    Calls Try.prog 72 #[v, .int .i64 k] w fun e w' => e = .returned (.int .i64 (c.base k + 1)) ∧ Below w.heap.size w w' := by
  have HV := Lib.hid h
  obtain ⟨vc, vs, rfl, h1, h2⟩ := h
  obtain ⟨a, cap, rfl, -⟩ := h1.len
  obtain ⟨a2, cap2, rfl, -⟩ := h2.len
  have HB := Lib.hid (below_new (Below.refl w.heap.size w) (.cells #[.slice a c.caps.length cap, .slice a2 c.starts.length cap2, .int .i64 c.threads] 46))
  have hl := hg.len
  clear h1 h2
  have hn := hg.base8 k (Nat.le_of_lt hk)
  go_enter Try.func72, Try.ntmps72
  go_wp2_with fail
  refine (rtail_any _ c k _ (HV.out.below HB.out) (Nat.le_of_lt hk) hg).mono ?_; rintro e w1 ⟨rfl, hb1⟩
  have HB1 := Lib.hid (below_then HB.out hb1)
  clear hb1
  go_wp2
  go_ret
  exact ⟨ret_i64 (by omega), HB1.out⟩
set_option maxHeartbeats 1000000 in
theorem thr_any (v : Value) (c : ConfM) (t : Int) (h0 : 0 ≤ t) (h8 : t ≤ 8) (w : World) (h : ConfV w v c) (hg : c.good) :
    Calls Try.prog 85 #[v, .int .i64 t] w fun e w' => e = .returned (.int .i64 (c.thrW t)) ∧ Below w.heap.size w w' := by
  have HV := Lib.hid h
  obtain ⟨vc, vs, rfl, h1, h2⟩ := h
  obtain ⟨a, cap, rfl, -⟩ := h1.len
  obtain ⟨a2, cap2, rfl, -⟩ := h2.len
  have HB := Lib.hid (below_new (Below.refl w.heap.size w) (.cells #[.slice a c.caps.length cap, .slice a2 c.starts.length cap2, .int .i64 c.threads] 46))
  have hl := hg.len
  clear h1 h2
  have hn := hg.base8 c.caps.length (Nat.le_refl _)
  have HE : Hid (c.thrW t = c.base c.caps.length + t * 11) := rfl
  have hcl : (c.caps.length : Int) ≤ 8 := by omega
  go_enter Try.func85, Try.ntmps85
  go_wp2_with fail
  refine (base_any _ c c.caps.length _ (HV.out.below HB.out) (Nat.le_refl _) hg).mono ?_; rintro e w1 ⟨rfl, hb1⟩
  have HB1 := Lib.hid (below_then HB.out hb1)
  clear hb1
  go_wp2
  go_ret
  exact ⟨ret_i64 (by first | (rw [HE.out]; done) | (rw [HE.out]; omega)), HB1.out⟩
set_option maxHeartbeats 1000000 in
theorem rclaimW_any (v : Value) (c : ConfM) (t : Int) (h0 : 0 ≤ t) (h8 : t ≤ 8) (w : World) (h : ConfV w v c) (hg : c.good) :
    Calls Try.prog 88 #[v, .int .i64 t] w fun e w' => e = .returned (.int .i64 (c.thrW t)) ∧ Below w.heap.size w w' := by
  have HV := Lib.hid h
  obtain ⟨vc, vs, rfl, h1, h2⟩ := h
  obtain ⟨a, cap, rfl, -⟩ := h1.len
  obtain ⟨a2, cap2, rfl, -⟩ := h2.len
  have HB := Lib.hid (below_new (Below.refl w.heap.size w) (.cells #[.slice a c.caps.length cap, .slice a2 c.starts.length cap2, .int .i64 c.threads] 46))
  have hl := hg.len
  clear h1 h2
  have hn := hg.base8 c.caps.length (Nat.le_refl _)
  have HE : Hid (c.thrW t = c.base c.caps.length + t * 11) := rfl
  have hcl : (c.caps.length : Int) ≤ 8 := by omega
  go_enter Try.func88, Try.ntmps88
  go_wp2_with fail
  refine (rtail_any _ c c.caps.length _ (HV.out.below HB.out) (Nat.le_refl _) hg).mono ?_; rintro e w1 ⟨rfl, hb1⟩
  have HB1 := Lib.hid (below_then HB.out hb1)
  clear hb1
  go_wp2
  go_ret
  exact ⟨ret_i64 (by first | (rw [HE.out]; done) | (rw [HE.out]; omega)), HB1.out⟩
theorem ConfM.good.thr8 {c : ConfM} (h : c.good) (t : Int) (h0 : 0 ≤ t) (h8 : t ≤ 8) : 0 ≤ c.thrW t ∧ c.thrW t ≤ 384 := by
  have h1 := h.base8 c.caps.length (Nat.le_refl _)
  show 0 ≤ c.base c.caps.length + t * 11 ∧ c.base c.caps.length + t * 11 ≤ 384
  omega
set_option maxHeartbeats 1000000 in
theorem claimW_any (v : Value) (c : ConfM) (t : Int) (h0 : 0 ≤ t) (h8 : t ≤ 8) (w : World) (h : ConfV w v c) (hg : c.good) :
    Calls Try.prog 60 #[v, .int .i64 t] w fun e w' => e = .returned (.int .i64 (c.thrW t + 0)) ∧ Below w.heap.size w w' := by
  have HV := Lib.hid h
  obtain ⟨vc, vs, rfl, h1, h2⟩ := h
  obtain ⟨a, cap, rfl, -⟩ := h1.len
  obtain ⟨a2, cap2, rfl, -⟩ := h2.len
  have HB := Lib.hid (below_new (Below.refl w.heap.size w) (.cells #[.slice a c.caps.length cap, .slice a2 c.starts.length cap2, .int .i64 c.threads] 46))
  have hl := hg.len
  clear h1 h2
  have hn := hg.thr8 t h0 h8
  go_enter Try.func60, Try.ntmps60
  go_wp2_with fail
  refine (thr_any _ c t h0 h8 _ (HV.out.below HB.out) hg).mono ?_; rintro e w1 ⟨rfl, hb1⟩
  have HB1 := Lib.hid (below_then HB.out hb1)
  clear hb1
  go_wp2
  go_ret
  exact ⟨ret_i64 (by omega), HB1.out⟩
set_option maxHeartbeats 1000000 in
theorem words_any (v : Value) (c : ConfM) (w : World) (h : ConfV w v c) (hg : c.good) :
    Calls Try.prog 62 #[v] w fun e w' => e = .returned (.int .i64 (c.thrW c.threads)) ∧ Below w.heap.size w w' := by
  have HV := Lib.hid h
  obtain ⟨vc, vs, rfl, h1, h2⟩ := h
  obtain ⟨a, cap, rfl, -⟩ := h1.len
  obtain ⟨a2, cap2, rfl, -⟩ := h2.len
  have HB := Lib.hid (below_new (Below.refl w.heap.size w) (.cells #[.slice a c.caps.length cap, .slice a2 c.starts.length cap2, .int .i64 c.threads] 46))
  have hl := hg.len
  clear h1 h2
  have hn := hg.thr8 c.threads (by have := hg.thr; omega) hg.thr.2
  go_enter Try.func62, Try.ntmps62
  go_wp2_with fail
  refine (thr_any _ c c.threads (by have := hg.thr; omega) hg.thr.2 _ (HV.out.below HB.out) hg).mono ?_; rintro e w1 ⟨rfl, hb1⟩
  have HB1 := Lib.hid (below_then HB.out hb1)
  clear hb1
  go_wp2
  go_ret
  exact ⟨rfl, HB1.out⟩
set_option maxHeartbeats 1000000 in
theorem rwords_any (v : Value) (c : ConfM) (w : World) (h : ConfV w v c) (hg : c.good) :
    Calls Try.prog 69 #[v] w fun e w' => e = .returned (.int .i64 (c.thrW c.threads)) ∧ Below w.heap.size w w' := by
  have HV := Lib.hid h
  obtain ⟨vc, vs, rfl, h1, h2⟩ := h
  obtain ⟨a, cap, rfl, -⟩ := h1.len
  obtain ⟨a2, cap2, rfl, -⟩ := h2.len
  have HB := Lib.hid (below_new (Below.refl w.heap.size w) (.cells #[.slice a c.caps.length cap, .slice a2 c.starts.length cap2, .int .i64 c.threads] 46))
  have hl := hg.len
  clear h1 h2
  have hn := hg.thr8 c.threads (by have := hg.thr; omega) hg.thr.2
  go_enter Try.func69, Try.ntmps69
  go_wp2_with fail
  refine (rclaimW_any _ c c.threads (by have := hg.thr; omega) hg.thr.2 _ (HV.out.below HB.out) hg).mono ?_; rintro e w1 ⟨rfl, hb1⟩
  have HB1 := Lib.hid (below_then HB.out hb1)
  clear hb1
  go_wp2
  go_ret
  exact ⟨rfl, HB1.out⟩
theorem listBase_any (k : Nat) (w : World) (hk : k ≤ 100000) : Calls Try.prog 68 #[.int .i64 k] w fun e w' => e = .returned (.int .i64 (2 * (k : Int))) ∧ w = w' := by
  go_enter Try.func68, Try.ntmps68
  go_wp2
  go_ret
  exact ⟨ret_i64 (by omega), rfl⟩
set_option maxHeartbeats 1000000 in
theorem slotBase_any (v : Value) (c : ConfM) (k : Nat) (s : Int) (hk : k < c.caps.length) (hs0 : 0 ≤ s) (hs1 : s < 18446744073709551616) (w : World) (h : ConfV w v c) (hg : c.good) :
    Calls Try.prog 87 #[v, .int .i64 k, .int .u64 s] w fun e w' => e = .returned (.int .i64 (c.slotW k s)) ∧ Below w.heap.size w w' := by
  have HV := Lib.hid h
  obtain ⟨vc, vs, rfl, h1, h2⟩ := h
  obtain ⟨a, cap, rfl, -⟩ := h1.len
  obtain ⟨a2, cap2, rfl, -⟩ := h2.len
  have HB := Lib.hid (below_new (Below.refl w.heap.size w) (.cells #[.slice a c.caps.length cap, .slice a2 c.starts.length cap2, .int .i64 c.threads] 46))
  have hl := hg.len
  clear h1 h2
  have hn := hg.base8 k (Nat.le_of_lt hk)
  have hz := hg.size k hk
  have hq := slotI_lt s (c.size k) hs0 hz.1
  have HE : Hid (c.slotW k s = c.base k + 5 + slotI s (c.size k) * 2) := rfl
  have S := Lib.hid fun w' h => slots_any (.agg #[.slice a c.caps.length cap, .slice a2 c.starts.length cap2, .int .i64 c.threads]) c k w' h hk hg
  have SL := Lib.hid fun w' => slot_any s (c.size k) w' hs0 hs1 (by omega) (by omega)
  have BA := Lib.hid fun w' h => base_any (.agg #[.slice a c.caps.length cap, .slice a2 c.starts.length cap2, .int .i64 c.threads]) c k w' h (Nat.le_of_lt hk) hg
  obtain ⟨W, hW⟩ : ∃ W, w.alloc (.cells #[.slice a c.caps.length cap, .slice a2 c.starts.length cap2, .int .i64 c.threads] 46) = W := ⟨_, rfl⟩
  rw [hW] at HB
  have R0 : Hid (W.heap[w.heap.size]? = some (.cells #[.slice a c.caps.length cap, .slice a2 c.starts.length cap2, .int .i64 c.threads] 46 (0, 0))) := hW ▸ heap_alloc_new _ _
  have hzW : w.heap.size < W.heap.size := by rw [← hW]; simp
  have HW := Lib.hid hW
  clear hW
  generalize slotI s (c.size k) = q at *
  clear hs0 hs1 hk hg
  go_enter Try.func87, Try.ntmps87
  go_upto_region 1 with fail
  rw [HW.out]
  clear HW
  obtain ⟨x0, x1, x2⟩ := rowc3 R0.out
  go_wp2_with fail
  refine (S.out _ (HV.out.below HB.out)).mono ?_; rintro e w1 ⟨rfl, hb1⟩
  have HB1 := Lib.hid (below_then HB.out hb1)
  have R1 := Lib.hid ((hb1.block w.heap.size (by omega)).trans R0.out)
  clear hb1 x0 x1 x2
  obtain ⟨x0, x1, x2⟩ := rowc3 R1.out
  go_wp2_with fail
  refine (SL.out _).mono ?_; rintro e w2 ⟨rfl, rfl⟩
  go_wp2_with fail
  refine (BA.out _ (HV.out.below HB1.out)).mono ?_; rintro e w1 ⟨rfl, hb1⟩
  have HB2 := Lib.hid (below_then HB1.out hb1)
  clear hb1
  go_wp2
  go_ret
  exact ⟨ret_i64 (by first | (rw [HE.out]; done) | (rw [HE.out]; omega)), HB2.out⟩
theorem ConfM.good.slot8 {c : ConfM} (h : c.good) (k : Nat) (s : Int) (hk : k < c.caps.length) (hs0 : 0 ≤ s) : 0 ≤ c.slotW k s ∧ c.slotW k s ≤ 400 := by
  have h1 := h.base8 k (Nat.le_of_lt hk)
  have h2 := h.size k hk
  have h3 := slotI_lt s (c.size k) hs0 h2.1
  show 0 ≤ c.base k + 5 + slotI s (c.size k) * 2 ∧ c.base k + 5 + slotI s (c.size k) * 2 ≤ 400
  omega
set_option maxHeartbeats 1000000 in
theorem slotSeqW_any (v : Value) (c : ConfM) (k : Nat) (s : Int) (hk : k < c.caps.length) (hs0 : 0 ≤ s) (hs1 : s < 18446744073709551616) (w : World) (h : ConfV w v c) (hg : c.good) :
    Calls Try.prog 67 #[v, .int .i64 k, .int .u64 s] w fun e w' => e = .returned (.int .i64 (c.slotW k s)) ∧ Below w.heap.size w w' := by
  have HV := Lib.hid h
  obtain ⟨vc, vs, rfl, h1, h2⟩ := h
  obtain ⟨a, cap, rfl, -⟩ := h1.len
  obtain ⟨a2, cap2, rfl, -⟩ := h2.len
  have HB := Lib.hid (below_new (Below.refl w.heap.size w) (.cells #[.slice a c.caps.length cap, .slice a2 c.starts.length cap2, .int .i64 c.threads] 46))
  have hl := hg.len
  clear h1 h2
  have hn := hg.slot8 k s hk hs0
  go_enter Try.func67, Try.ntmps67
  go_wp2_with fail
  refine (slotBase_any _ c k s hk hs0 hs1 _ (HV.out.below HB.out) hg).mono ?_; rintro e w1 ⟨rfl, hb1⟩
  have HB1 := Lib.hid (below_then HB.out hb1)
  clear hb1
  go_wp2
  go_ret
  exact ⟨ret_i64 (by omega), HB1.out⟩
set_option maxHeartbeats 1000000 in
theorem rslotSeqW_any (v : Value) (c : ConfM) (k : Nat) (s : Int) (hk : k < c.caps.length) (hs0 : 0 ≤ s) (hs1 : s < 18446744073709551616) (w : World) (h : ConfV w v c) (hg : c.good) :
    Calls Try.prog 75 #[v, .int .i64 k, .int .u64 s] w fun e w' => e = .returned (.int .i64 (c.slotW k s)) ∧ Below w.heap.size w w' := by
  have HV := Lib.hid h
  obtain ⟨vc, vs, rfl, h1, h2⟩ := h
  obtain ⟨a, cap, rfl, -⟩ := h1.len
  obtain ⟨a2, cap2, rfl, -⟩ := h2.len
  have HB := Lib.hid (below_new (Below.refl w.heap.size w) (.cells #[.slice a c.caps.length cap, .slice a2 c.starts.length cap2, .int .i64 c.threads] 46))
  have hl := hg.len
  clear h1 h2
  have hn := hg.base8 k (Nat.le_of_lt hk)
  have hz := hg.size k hk
  have hq := slotI_lt s (c.size k) hs0 hz.1
  have HE : Hid (c.slotW k s = c.base k + 5 + slotI s (c.size k) * 2) := rfl
  have S := Lib.hid fun w' h => rsize4_any (.agg #[.slice a c.caps.length cap, .slice a2 c.starts.length cap2, .int .i64 c.threads]) c k w' h hk hg
  have SL := Lib.hid fun w' => rslot_any s (c.size k) w' hs0 hs1 (by omega) (by omega)
  have BA := Lib.hid fun w' h => rtail_any (.agg #[.slice a c.caps.length cap, .slice a2 c.starts.length cap2, .int .i64 c.threads]) c k w' h (Nat.le_of_lt hk) hg
  obtain ⟨W, hW⟩ : ∃ W, w.alloc (.cells #[.slice a c.caps.length cap, .slice a2 c.starts.length cap2, .int .i64 c.threads] 46) = W := ⟨_, rfl⟩
  rw [hW] at HB
  have R0 : Hid (W.heap[w.heap.size]? = some (.cells #[.slice a c.caps.length cap, .slice a2 c.starts.length cap2, .int .i64 c.threads] 46 (0, 0))) := hW ▸ heap_alloc_new _ _
  have hzW : w.heap.size < W.heap.size := by rw [← hW]; simp
  have HW := Lib.hid hW
  clear hW
  generalize hqq : slotI s (c.size k) = q at *
  clear hs0 hs1 hk hg hqq
  go_enter Try.func75, Try.ntmps75
  go_upto_region 1 with fail
  rw [HW.out]
  clear HW
  obtain ⟨x0, x1, x2⟩ := rowc3 R0.out
  have X0 := ext_cell _ 0 hzW _ x0
  have X1 := ext_cell _ 1 hzW _ x1
  have X2 := ext_cell _ 2 hzW _ x2
  have CX0 := Lib.hid X0
  clear x0 x1 x2
  refine wp_region_ext W (by kernel_rfl) (by kernel_rfl) (Below.refl _ _) ?_
  repeat (go_big_quiet_step (first
    | (go_at_call 71; with_reducible exact calls_ext (BA.out _ (HV.out.below (HB.out.trans (Below.mono (Ext.below _) (Nat.le_of_lt hzW))))))
    | (go_at_call 73; with_reducible exact calls_ext (S.out _ (HV.out.below (HB.out.trans (Below.mono (Ext.below _) (Nat.le_of_lt hzW))))))
    | (go_at_call 90; with_reducible exact calls_ext ((SL.out _).mono fun _ _ h => ⟨h.1, h.2 ▸ Below.refl _ _⟩))))
  refine wpQuiet_nil ?_
  intro _ hw'
  obtain ⟨w2, rfl⟩ := hw'
  have HB2 := Lib.hid (HB.out.trans (w2.below.mono (Nat.le_of_lt hzW)))
  generalize w2.wd = w3 at *
  go_wp2
  go_ret
  exact ⟨ret_i64 (by first | (rw [HE.out]; done) | (rw [HE.out]; omega)), HB2.out⟩
end Go.Proofs.Ytkpnakomlfjndaa
