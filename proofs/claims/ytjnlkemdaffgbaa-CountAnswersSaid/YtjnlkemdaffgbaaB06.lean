import Derived.Deep.DeepCutAuto
import Derived.Test.YtjnlkemdaffgbaaB05
import Derived.Test.YtjnlkemdaffgbaaB03
import Derived.Test.YtjnlkemdaffgbaaB02
set_option linter.unusedVariables false
set_option linter.unusedSimpArgs false
/- Where everything lies: the numbers of all words and lists. -/
namespace Go.Proofs.Ytjnlkemdaffgbaa
open Go.ChangeShapes Go.WideShapes Go.ChangeAt Go.RowKit
set_option maxRecDepth 100000

theorem slotW_eq (c : ConfM) (k : Nat) (s : Int) : c.slotW k s = c.base k + 5 + slotI s (c.size k) * 2 := rfl
set_option maxHeartbeats 1000000 in
theorem tailW_any (v : Value) (c : ConfM) (k : Nat) (hk : k < c.caps.length) (w : World) (h : ConfV w v c) (hg : c.good) :
    Calls Try.prog 67 #[v, .int .i64 k] w fun e w' => e = .returned (.int .i64 (c.base k + 0)) ∧ Below w.heap.size w w' := by
  have HV := Lib.hid h
  obtain ⟨vc, vs, rfl, h1, h2⟩ := h
  obtain ⟨a, cap, rfl, -⟩ := h1.len
  obtain ⟨a2, cap2, rfl, -⟩ := h2.len
  have HB := Lib.hid (below_new (Below.refl w.heap.size w) (.cells #[.slice a c.caps.length cap, .slice a2 c.starts.length cap2, .int .i64 c.threads] 36))
  have hl := hg.len
  clear h1 h2
  have hn := hg.base8 k (Nat.le_of_lt hk)
  go_enter Try.func67, Try.ntmps67
  go_wp2_with fail
  refine (base_any _ c k _ (HV.out.below HB.out) (Nat.le_of_lt hk) hg).mono ?_; rintro e w1 ⟨rfl, hb1⟩
  have HB1 := Lib.hid (below_then HB.out hb1)
  clear hb1
  go_wp2
  go_ret
  exact ⟨ret_i64 (by omega), HB1.out⟩
set_option maxHeartbeats 1000000 in
theorem headW_any (v : Value) (c : ConfM) (k : Nat) (hk : k < c.caps.length) (w : World) (h : ConfV w v c) (hg : c.good) :
    Calls Try.prog 68 #[v, .int .i64 k] w fun e w' => e = .returned (.int .i64 (c.base k + 1)) ∧ Below w.heap.size w w' := by
  have HV := Lib.hid h
  obtain ⟨vc, vs, rfl, h1, h2⟩ := h
  obtain ⟨a, cap, rfl, -⟩ := h1.len
  obtain ⟨a2, cap2, rfl, -⟩ := h2.len
  have HB := Lib.hid (below_new (Below.refl w.heap.size w) (.cells #[.slice a c.caps.length cap, .slice a2 c.starts.length cap2, .int .i64 c.threads] 36))
  have hl := hg.len
  clear h1 h2
  have hn := hg.base8 k (Nat.le_of_lt hk)
  go_enter Try.func68, Try.ntmps68
  go_wp2_with fail
  refine (base_any _ c k _ (HV.out.below HB.out) (Nat.le_of_lt hk) hg).mono ?_; rintro e w1 ⟨rfl, hb1⟩
  have HB1 := Lib.hid (below_then HB.out hb1)
  clear hb1
  go_wp2
  go_ret
  exact ⟨ret_i64 (by omega), HB1.out⟩
set_option maxHeartbeats 1000000 in
theorem rheadW_any (v : Value) (c : ConfM) (k : Nat) (hk : k < c.caps.length) (w : World) (h : ConfV w v c) (hg : c.good) :
    Calls Try.prog 42 #[v, .int .i64 k] w fun e w' => e = .returned (.int .i64 (c.base k + 1)) ∧ Below w.heap.size w w' := by
  have HV := Lib.hid h
  obtain ⟨vc, vs, rfl, h1, h2⟩ := h
  obtain ⟨a, cap, rfl, -⟩ := h1.len
  obtain ⟨a2, cap2, rfl, -⟩ := h2.len
  have HB := Lib.hid (below_new (Below.refl w.heap.size w) (.cells #[.slice a c.caps.length cap, .slice a2 c.starts.length cap2, .int .i64 c.threads] 36))
  have hl := hg.len
  clear h1 h2
  have hn := hg.base8 k (Nat.le_of_lt hk)
  go_enter Try.func42, Try.ntmps42
  go_wp2_with fail
  refine (rtail_any _ c k _ (HV.out.below HB.out) (Nat.le_of_lt hk) hg).mono ?_; rintro e w1 ⟨rfl, hb1⟩
  have HB1 := Lib.hid (below_then HB.out hb1)
  clear hb1
  go_wp2
  go_ret
  exact ⟨ret_i64 (by omega), HB1.out⟩
set_option maxHeartbeats 1000000 in
theorem rlockW_any (v : Value) (c : ConfM) (k : Nat) (hk : k < c.caps.length) (w : World) (h : ConfV w v c) (hg : c.good) :
    Calls Try.prog 55 #[v, .int .i64 k] w fun e w' => e = .returned (.int .i64 (c.base k + 2)) ∧ Below w.heap.size w w' := by
  have HV := Lib.hid h
  obtain ⟨vc, vs, rfl, h1, h2⟩ := h
  obtain ⟨a, cap, rfl, -⟩ := h1.len
  obtain ⟨a2, cap2, rfl, -⟩ := h2.len
  have HB := Lib.hid (below_new (Below.refl w.heap.size w) (.cells #[.slice a c.caps.length cap, .slice a2 c.starts.length cap2, .int .i64 c.threads] 36))
  have hl := hg.len
  clear h1 h2
  have hn := hg.base8 k (Nat.le_of_lt hk)
  go_enter Try.func55, Try.ntmps55
  go_wp2_with fail
  refine (rtail_any _ c k _ (HV.out.below HB.out) (Nat.le_of_lt hk) hg).mono ?_; rintro e w1 ⟨rfl, hb1⟩
  have HB1 := Lib.hid (below_then HB.out hb1)
  clear hb1
  go_wp2
  go_ret
  exact ⟨ret_i64 (by omega), HB1.out⟩
set_option maxHeartbeats 1000000 in
theorem rclaimW_any (v : Value) (c : ConfM) (t : Int) (h0 : 0 ≤ t) (h8 : t ≤ 8) (w : World) (h : ConfV w v c) (hg : c.good) :
    Calls Try.prog 58 #[v, .int .i64 t] w fun e w' => e = .returned (.int .i64 (c.thrW t)) ∧ Below w.heap.size w w' := by
  have HV := Lib.hid h
  obtain ⟨vc, vs, rfl, h1, h2⟩ := h
  obtain ⟨a, cap, rfl, -⟩ := h1.len
  obtain ⟨a2, cap2, rfl, -⟩ := h2.len
  have HB := Lib.hid (below_new (Below.refl w.heap.size w) (.cells #[.slice a c.caps.length cap, .slice a2 c.starts.length cap2, .int .i64 c.threads] 36))
  have hl := hg.len
  clear h1 h2
  have hn := hg.base8 c.caps.length (Nat.le_refl _)
  have HE : Hid (c.thrW t = c.base c.caps.length + t * 11) := rfl
  have hcl : (c.caps.length : Int) ≤ 8 := by omega
  go_enter Try.func58, Try.ntmps58
  go_wp2_with fail
  refine (rtail_any _ c c.caps.length _ (HV.out.below HB.out) (Nat.le_refl _) hg).mono ?_; rintro e w1 ⟨rfl, hb1⟩
  have HB1 := Lib.hid (below_then HB.out hb1)
  clear hb1
  go_wp2
  go_ret
  exact ⟨ret_i64 (by first | (rw [HE.out]; done) | (rw [HE.out]; omega)), HB1.out⟩
theorem ConfM.good.thr8 {c : ConfM} (h : c.good) (t : Int) (h0 : 0 ≤ t) (h8 : t ≤ 8) : 0 ≤ c.thrW t ∧ c.thrW t ≤ 384 := by
  have h1 := h.base8 c.caps.length (Nat.le_refl _)
  show 0 ≤ c.base c.caps.length + t * 11 ∧ c.base c.caps.length + t * 11 ≤ 384
  omega
set_option maxHeartbeats 1000000 in
theorem rflagW_any (v : Value) (c : ConfM) (t : Int) (h0 : 0 ≤ t) (h8 : t ≤ 8) (w : World) (h : ConfV w v c) (hg : c.good) :
    Calls Try.prog 62 #[v, .int .i64 t] w fun e w' => e = .returned (.int .i64 (c.thrW t + 1)) ∧ Below w.heap.size w w' := by
  have HV := Lib.hid h
  obtain ⟨vc, vs, rfl, h1, h2⟩ := h
  obtain ⟨a, cap, rfl, -⟩ := h1.len
  obtain ⟨a2, cap2, rfl, -⟩ := h2.len
  have HB := Lib.hid (below_new (Below.refl w.heap.size w) (.cells #[.slice a c.caps.length cap, .slice a2 c.starts.length cap2, .int .i64 c.threads] 36))
  have hl := hg.len
  clear h1 h2
  have hn := hg.thr8 t h0 h8
  go_enter Try.func62, Try.ntmps62
  go_wp2_with fail
  refine (rclaimW_any _ c t h0 h8 _ (HV.out.below HB.out) hg).mono ?_; rintro e w1 ⟨rfl, hb1⟩
  have HB1 := Lib.hid (below_then HB.out hb1)
  clear hb1
  go_wp2
  go_ret
  exact ⟨ret_i64 (by omega), HB1.out⟩
set_option maxHeartbeats 1000000 in
theorem rkindW_any (v : Value) (c : ConfM) (t : Int) (h0 : 0 ≤ t) (h8 : t ≤ 8) (w : World) (h : ConfV w v c) (hg : c.good) :
    Calls Try.prog 60 #[v, .int .i64 t] w fun e w' => e = .returned (.int .i64 (c.thrW t + 2)) ∧ Below w.heap.size w w' := by
  have HV := Lib.hid h
  obtain ⟨vc, vs, rfl, h1, h2⟩ := h
  obtain ⟨a, cap, rfl, -⟩ := h1.len
  obtain ⟨a2, cap2, rfl, -⟩ := h2.len
  have HB := Lib.hid (below_new (Below.refl w.heap.size w) (.cells #[.slice a c.caps.length cap, .slice a2 c.starts.length cap2, .int .i64 c.threads] 36))
  have hl := hg.len
  clear h1 h2
  have hn := hg.thr8 t h0 h8
  go_enter Try.func60, Try.ntmps60
  go_wp2_with fail
  refine (rclaimW_any _ c t h0 h8 _ (HV.out.below HB.out) hg).mono ?_; rintro e w1 ⟨rfl, hb1⟩
  have HB1 := Lib.hid (below_then HB.out hb1)
  clear hb1
  go_wp2
  go_ret
  exact ⟨ret_i64 (by omega), HB1.out⟩
set_option maxHeartbeats 1000000 in
theorem rcaseW_any (v : Value) (c : ConfM) (t : Int) (h0 : 0 ≤ t) (h8 : t ≤ 8) (w : World) (h : ConfV w v c) (hg : c.good) :
    Calls Try.prog 59 #[v, .int .i64 t] w fun e w' => e = .returned (.int .i64 (c.thrW t + 3)) ∧ Below w.heap.size w w' := by
  have HV := Lib.hid h
  obtain ⟨vc, vs, rfl, h1, h2⟩ := h
  obtain ⟨a, cap, rfl, -⟩ := h1.len
  obtain ⟨a2, cap2, rfl, -⟩ := h2.len
  have HB := Lib.hid (below_new (Below.refl w.heap.size w) (.cells #[.slice a c.caps.length cap, .slice a2 c.starts.length cap2, .int .i64 c.threads] 36))
  have hl := hg.len
  clear h1 h2
  have hn := hg.thr8 t h0 h8
  go_enter Try.func59, Try.ntmps59
  go_wp2_with fail
  refine (rclaimW_any _ c t h0 h8 _ (HV.out.below HB.out) hg).mono ?_; rintro e w1 ⟨rfl, hb1⟩
  have HB1 := Lib.hid (below_then HB.out hb1)
  clear hb1
  go_wp2
  go_ret
  exact ⟨ret_i64 (by omega), HB1.out⟩
set_option maxHeartbeats 1000000 in
theorem rvalueW_any (v : Value) (c : ConfM) (t : Int) (h0 : 0 ≤ t) (h8 : t ≤ 8) (w : World) (h : ConfV w v c) (hg : c.good) :
    Calls Try.prog 61 #[v, .int .i64 t] w fun e w' => e = .returned (.int .i64 (c.thrW t + 4)) ∧ Below w.heap.size w w' := by
  have HV := Lib.hid h
  obtain ⟨vc, vs, rfl, h1, h2⟩ := h
  obtain ⟨a, cap, rfl, -⟩ := h1.len
  obtain ⟨a2, cap2, rfl, -⟩ := h2.len
  have HB := Lib.hid (below_new (Below.refl w.heap.size w) (.cells #[.slice a c.caps.length cap, .slice a2 c.starts.length cap2, .int .i64 c.threads] 36))
  have hl := hg.len
  clear h1 h2
  have hn := hg.thr8 t h0 h8
  go_enter Try.func61, Try.ntmps61
  go_wp2_with fail
  refine (rclaimW_any _ c t h0 h8 _ (HV.out.below HB.out) hg).mono ?_; rintro e w1 ⟨rfl, hb1⟩
  have HB1 := Lib.hid (below_then HB.out hb1)
  clear hb1
  go_wp2
  go_ret
  exact ⟨ret_i64 (by omega), HB1.out⟩
set_option maxHeartbeats 1000000 in
theorem rwords_any (v : Value) (c : ConfM) (w : World) (h : ConfV w v c) (hg : c.good) :
    Calls Try.prog 49 #[v] w fun e w' => e = .returned (.int .i64 (c.thrW c.threads)) ∧ Below w.heap.size w w' := by
  have HV := Lib.hid h
  obtain ⟨vc, vs, rfl, h1, h2⟩ := h
  obtain ⟨a, cap, rfl, -⟩ := h1.len
  obtain ⟨a2, cap2, rfl, -⟩ := h2.len
  have HB := Lib.hid (below_new (Below.refl w.heap.size w) (.cells #[.slice a c.caps.length cap, .slice a2 c.starts.length cap2, .int .i64 c.threads] 36))
  have hl := hg.len
  clear h1 h2
  have hn := hg.thr8 c.threads (by have := hg.thr; omega) hg.thr.2
  go_enter Try.func49, Try.ntmps49
  go_wp2_with fail
  refine (rclaimW_any _ c c.threads (by have := hg.thr; omega) hg.thr.2 _ (HV.out.below HB.out) hg).mono ?_; rintro e w1 ⟨rfl, hb1⟩
  have HB1 := Lib.hid (below_then HB.out hb1)
  clear hb1
  go_wp2
  go_ret
  exact ⟨rfl, HB1.out⟩
theorem ConfM.good.slot8 {c : ConfM} (h : c.good) (k : Nat) (s : Int) (hk : k < c.caps.length) (hs0 : 0 ≤ s) : 0 ≤ c.slotW k s ∧ c.slotW k s ≤ 400 := by
  have h1 := h.base8 k (Nat.le_of_lt hk)
  have h2 := h.size k hk
  have h3 := slotI_lt s (c.size k) hs0 h2.1
  show 0 ≤ c.base k + 5 + slotI s (c.size k) * 2 ∧ c.base k + 5 + slotI s (c.size k) * 2 ≤ 400
  omega
set_option maxHeartbeats 1000000 in
theorem rslotSeqW_any (v : Value) (c : ConfM) (k : Nat) (s : Int) (hk : k < c.caps.length) (hs0 : 0 ≤ s) (hs1 : s < 18446744073709551616) (w : World) (h : ConfV w v c) (hg : c.good) :
    Calls Try.prog 53 #[v, .int .i64 k, .int .u64 s] w fun e w' => e = .returned (.int .i64 (c.slotW k s)) ∧ Below w.heap.size w w' := by
  have HV := Lib.hid h
  obtain ⟨vc, vs, rfl, h1, h2⟩ := h
  obtain ⟨a, cap, rfl, -⟩ := h1.len
  obtain ⟨a2, cap2, rfl, -⟩ := h2.len
  have HB := Lib.hid (below_new (Below.refl w.heap.size w) (.cells #[.slice a c.caps.length cap, .slice a2 c.starts.length cap2, .int .i64 c.threads] 36))
  have hl := hg.len
  clear h1 h2
  have hn := hg.base8 k (Nat.le_of_lt hk)
  have hz := hg.size k hk
  have hq := slotI_lt s (c.size k) hs0 hz.1
  have HE : Hid (c.slotW k s = c.base k + 5 + slotI s (c.size k) * 2) := rfl
  have S := Lib.hid fun w' h => rsize4_any (.agg #[.slice a c.caps.length cap, .slice a2 c.starts.length cap2, .int .i64 c.threads]) c k w' h hk hg
  have SL := Lib.hid fun w' => rslot_any s (c.size k) w' hs0 hs1 (by omega) (by omega)
  have BA := Lib.hid fun w' h => rtail_any (.agg #[.slice a c.caps.length cap, .slice a2 c.starts.length cap2, .int .i64 c.threads]) c k w' h (Nat.le_of_lt hk) hg
  obtain ⟨W, hW⟩ : ∃ W, w.alloc (.cells #[.slice a c.caps.length cap, .slice a2 c.starts.length cap2, .int .i64 c.threads] 36) = W := ⟨_, rfl⟩
  rw [hW] at HB
  have R0 : Hid (W.heap[w.heap.size]? = some (.cells #[.slice a c.caps.length cap, .slice a2 c.starts.length cap2, .int .i64 c.threads] 36 (0, 0))) := hW ▸ heap_alloc_new _ _
  have hzW : w.heap.size < W.heap.size := by rw [← hW]; simp
  have HW := Lib.hid hW
  clear hW
  generalize hqq : slotI s (c.size k) = q at *
  clear hs0 hs1 hk hg hqq
  go_enter Try.func53, Try.ntmps53
  go_upto_region 1 with fail
  rw [HW.out]
  clear HW
  obtain ⟨x0, x1, x2⟩ := rowc3 R0.out
  have X0 := ext_cell _ 0 hzW _ x0
  have X1 := ext_cell _ 1 hzW _ x1
  have X2 := ext_cell _ 2 hzW _ x2
  have CX0 := Lib.hid X0
  clear x0 x1 x2
  refine wp_region_ext W (by kernel_rfl) (by kernel_rfl) (Below.refl _ _) ?_
  repeat (go_big_quiet_step (first
    | (go_at_call 41; with_reducible exact calls_ext (BA.out _ (HV.out.below (HB.out.trans (Below.mono (Ext.below _) (Nat.le_of_lt hzW))))))
    | (go_at_call 51; with_reducible exact calls_ext (S.out _ (HV.out.below (HB.out.trans (Below.mono (Ext.below _) (Nat.le_of_lt hzW))))))
    | (go_at_call 70; with_reducible exact calls_ext ((SL.out _).mono fun _ _ h => ⟨h.1, h.2 ▸ Below.refl _ _⟩))))
  refine wpQuiet_nil ?_
  intro _ hw'
  obtain ⟨w2, rfl⟩ := hw'
  have HB2 := Lib.hid (HB.out.trans (w2.below.mono (Nat.le_of_lt hzW)))
  generalize w2.wd = w3 at *
  go_wp2
  go_ret
  exact ⟨ret_i64 (by first | (rw [HE.out]; done) | (rw [HE.out]; omega)), HB2.out⟩
set_option maxHeartbeats 1000000 in
theorem rslotValueW_any (v : Value) (c : ConfM) (k : Nat) (s : Int) (hk : k < c.caps.length) (hs0 : 0 ≤ s) (hs1 : s < 18446744073709551616) (w : World) (h : ConfV w v c) (hg : c.good) :
    Calls Try.prog 57 #[v, .int .i64 k, .int .u64 s] w fun e w' => e = .returned (.int .i64 (c.slotW k s + 1)) ∧ Below w.heap.size w w' := by
  have HV := Lib.hid h
  obtain ⟨vc, vs, rfl, h1, h2⟩ := h
  obtain ⟨a, cap, rfl, -⟩ := h1.len
  obtain ⟨a2, cap2, rfl, -⟩ := h2.len
  have HB := Lib.hid (below_new (Below.refl w.heap.size w) (.cells #[.slice a c.caps.length cap, .slice a2 c.starts.length cap2, .int .i64 c.threads] 36))
  have hl := hg.len
  clear h1 h2
  have hn := hg.slot8 k s hk hs0
  go_enter Try.func57, Try.ntmps57
  go_wp2_with fail
  refine (rslotSeqW_any _ c k s hk hs0 hs1 _ (HV.out.below HB.out) hg).mono ?_; rintro e w1 ⟨rfl, hb1⟩
  have HB1 := Lib.hid (below_then HB.out hb1)
  clear hb1
  go_wp2
  go_ret
  exact ⟨ret_i64 (by omega), HB1.out⟩
end Go.Proofs.Ytjnlkemdaffgbaa
/- Where everything lies: which configurations are valid. -/
namespace Go.Proofs.Ytjnlkemdaffgbaa
open Go.ChangeShapes Go.WideShapes Go.ChangeAt Go.RowKit
set_option maxRecDepth 100000

def capB (x : Int) : Bool := decide (0 ≤ x) && decide (x ≤ 16)
def startB (x : Int) : Bool := decide (x < 9223372036854775808)
/-- the first error of a configuration, 0 if there is none -/
def checkC (c : ConfM) : Int :=
  if 8 < c.caps.length then 3 else if c.starts.length ≠ c.caps.length then 5 else if c.caps.all capB = false then 2 else if c.starts.all startB = false then 2 else
  if c.threads < 1 ∨ 8 < c.threads then 2 else 0
theorem checkC_good {c : ConfM} (h : c.good) : checkC c = 0 := by
  have h1 := h.len
  have h2 := h.thr
  have h3 : c.caps.all capB = true := List.all_eq_true.2 fun x hx => by have := h.caps x hx; simp [capB, this]
  have h4 : c.starts.all startB = true := List.all_eq_true.2 fun x hx => by have := h.starts x hx; simp [startB, this]
  unfold checkC
  rw [if_neg (by omega), if_neg (by simp [h.same]), if_neg (by simp [h3]), if_neg (by simp [h4]), if_neg (by omega)]
theorem good_of_check {c : ConfM} (h : checkC c = 0) (hs : ∀ x ∈ c.starts, 0 ≤ x) : c.good := by
  unfold checkC at h
  split at h
  · omega
  split at h
  · omega
  split at h
  · omega
  split at h
  · omega
  split at h
  · omega
  rename_i h1 h2 h3 h4 h5
  simp only [Bool.not_eq_false] at h3 h4
  refine ⟨by omega, by simpa using h2, fun x hx => ?_, fun x hx => ?_, by omega⟩
  · have := List.all_eq_true.1 h3 x hx
    simpa [capB] using this
  · have := List.all_eq_true.1 h4 x hx
    simp [startB] at this
    exact ⟨hs x hx, this⟩
theorem checkC_many {c : ConfM} (h : 8 < c.caps.length) : checkC c = 3 := by unfold checkC; rw [if_pos h]
theorem checkC_shape {c : ConfM} (h : ¬ 8 < c.caps.length) (h2 : c.starts.length ≠ c.caps.length) : checkC c = 5 := by unfold checkC; rw [if_neg h, if_pos h2]
theorem all_bad {l : List Int} {p : Int → Bool} (j : Nat) (h : j < l.length) (hb : p (l.getD j 0) = false) : l.all p = false := by
  rw [List.all_eq_false]
  rw [List.getD_eq_getElem?_getD, List.getElem?_eq_getElem h] at hb
  exact ⟨_, List.getElem_mem h, by simpa using hb⟩
theorem all_next {l : List Int} {p : Int → Bool} (j : Nat) (h : j < l.length) (ha : (l.take j).all p = true) (hb : p (l.getD j 0) = true) : (l.take (j + 1)).all p = true := by
  rw [List.take_add_one, List.getElem?_eq_getElem h, List.all_append, ha]
  rw [List.getD_eq_getElem?_getD, List.getElem?_eq_getElem h] at hb
  simpa using hb
theorem checkC_caps {c : ConfM} (h : ¬ 8 < c.caps.length) (h2 : c.starts.length = c.caps.length) (h3 : c.caps.all capB = false) : checkC c = 2 := by
  unfold checkC; rw [if_neg h, if_neg (by simp [h2]), if_pos h3]
theorem checkC_starts {c : ConfM} (h : ¬ 8 < c.caps.length) (h2 : c.starts.length = c.caps.length) (h4 : c.starts.all startB = false) : checkC c = 2 := by
  unfold checkC; rw [if_neg h, if_neg (by simp [h2])]; simp only [h4, if_true]; split <;> rfl
theorem checkC_thr {c : ConfM} (h : ¬ 8 < c.caps.length) (h2 : c.starts.length = c.caps.length) (h3 : c.caps.all capB = true) (h4 : c.starts.all startB = true) : checkC c = if c.threads < 1 ∨ 8 < c.threads then 2 else 0 := by
  unfold checkC; rw [if_neg h, if_neg (by simp [h2]), if_neg (by simp [h3]), if_neg (by simp [h4])]
set_option maxHeartbeats 2000000 in
theorem rcheckC_any (v : Value) (c : ConfM) (w : World) (h : ConfV w v c) :
    Calls Try.prog 48 #[v] w fun e w' => e = .returned (.int .i64 (checkC c)) ∧ Below w.heap.size w w' := by
  obtain ⟨vc, vs, rfl, h1, h2⟩ := h
  have hn := h1.1
  have hm := h2.1
  obtain ⟨a, cap, rfl, -⟩ := h1.len
  obtain ⟨a2, cap2, rfl, -⟩ := h2.len
  obtain ⟨W, hW⟩ : ∃ W, w.alloc (.cells #[.slice a c.caps.length cap, .slice a2 c.starts.length cap2, .int .i64 c.threads] 36) = W := ⟨_, rfl⟩
  have HB : Hid (Below w.heap.size w W) := hW ▸ below_new (Below.refl w.heap.size w) _
  have R0 : Hid (W.heap[w.heap.size]? = some (.cells #[.slice a c.caps.length cap, .slice a2 c.starts.length cap2, .int .i64 c.threads] 36 (0, 0))) := hW ▸ heap_alloc_new _ _
  have S1 := Lib.hid (h1.below HB.out)
  have S2 := Lib.hid (h2.below HB.out)
  have HW := Lib.hid hW
  clear h1 h2 hW
  have CM := Lib.hid (checkC_many (c := c))
  have CS := Lib.hid (checkC_shape (c := c))
  have CC := Lib.hid (checkC_caps (c := c))
  have CT := Lib.hid (checkC_starts (c := c))
  have CZ := Lib.hid (checkC_thr (c := c))
  generalize hcn : c.caps.length = n at *
  generalize hcm : c.starts.length = m at *
  have HN := Lib.hid hcn
  have HM := Lib.hid hcm
  clear hcn hcm
  generalize c.threads = thr at *
  go_enter Try.func48, Try.ntmps48
  go_upto_region 1 with fail
  rw [HW.out]
  clear HW
  obtain ⟨x0, x1, x2⟩ := rowc3 R0.out
  by_cases h8 : 8 < n
  · go_wp2
    go_ret
    exact ⟨ret_i64 (CM.out h8).symm, HB.out⟩
  by_cases hs : m = n
  case neg =>
    have hsb : ((m : Int) != (n : Int)) = true := by simp; omega
    have HS := Lib.hid hs
    clear hs
    go_wp2
    go_ret
    exact ⟨ret_i64 (CS.out h8 HS.out).symm, HB.out⟩
  case pos =>
  subst hs
  go_wp2_with fail
  go_loop [3] (fun i => ∃ j : Nat, j ≤ m ∧ i = .int .i64 j ∧ Hid ((c.caps.take j).all capB = true)) (fun i => 9 - (intOf i).toNat)
  case atStart => exact ⟨0, by omega, rfl, (by simp : (c.caps.take 0).all capB = true)⟩
  case round =>
    obtain ⟨j, hj, rfl, hall⟩ := hrel
    by_cases hlt : j < m
    · obtain ⟨b, off, rfl, hb, hc⟩ := S1.out.cellAt j (by rw [HN.out]; exact hlt)
      have BD := Lib.hid fun h => all_bad (l := c.caps) (p := capB) j (by rw [HN.out]; exact hlt) h
      have NX := Lib.hid fun h => all_next (l := c.caps) (p := capB) j (by rw [HN.out]; exact hlt) hall.out h
      generalize c.caps.getD j 0 = x at *
      by_cases h0 : 0 ≤ x ∧ x ≤ 16
      · obtain ⟨h0, h1⟩ := h0
        have hx := Lib.hid (NX.out (by simp [capB, h0, h1]))
        clear BD NX
        go_wp2
        go_round
        case rel => exact ⟨j + 1, by omega, by go_num, hx⟩
        case measure => simp [intOf]; omega
      · have hx := Lib.hid (CC.out h8 (by trivial) (BD.out (by simp [capB]; omega)))
        clear BD NX
        by_cases hx0 : x < 0
        · go_wp2
          go_ret
          exact ⟨ret_i64 hx.out.symm, HB.out⟩
        · have hx1 : 16 < x := by omega
          clear h0
          go_wp2
          go_ret
          exact ⟨ret_i64 hx.out.symm, HB.out⟩
    · obtain rfl : j = m := by omega
      have HA : Hid (c.caps.all capB = true) := by
        have := hall.out
        rw [List.take_of_length_le (by rw [HN.out]; exact Nat.le_refl _)] at this
        exact this
      clear hall
      go_wp2_with fail
      go_loop [4] (fun i => ∃ t : Nat, t ≤ j ∧ i = .int .i64 t ∧ Hid ((c.starts.take t).all startB = true)) (fun i => 9 - (intOf i).toNat)
      case atStart => exact ⟨0, by omega, rfl, (by simp : (c.starts.take 0).all startB = true)⟩
      case round =>
        obtain ⟨t, ht, rfl, hall⟩ := hrel
        by_cases htl : t < j
        · obtain ⟨b, off, rfl, hb, hc⟩ := S2.out.cellAt t (by rw [HM.out]; exact htl)
          have BD := Lib.hid fun h => all_bad (l := c.starts) (p := startB) t (by rw [HM.out]; exact htl) h
          have NX := Lib.hid fun h => all_next (l := c.starts) (p := startB) t (by rw [HM.out]; exact htl) hall.out h
          generalize c.starts.getD t 0 = x at *
          by_cases h0 : x < 9223372036854775808
          · have hx := Lib.hid (NX.out (by simp [startB, h0]))
            clear BD NX
            have hxd : decide (9223372036854775808 ≤ x) = false := decide_eq_false (by omega)
            clear h0
            go_wp2
            go_round
            case rel => exact ⟨t + 1, by omega, by go_num, hx⟩
            case measure => simp [intOf]; omega
          · have hx := Lib.hid (CT.out h8 (by trivial) (BD.out (by simp [startB]; omega)))
            clear BD NX
            have hxd : decide (9223372036854775808 ≤ x) = true := decide_eq_true (by omega)
            clear h0
            go_wp2
            go_ret
            exact ⟨ret_i64 hx.out.symm, HB.out⟩
        · obtain rfl : t = j := by omega
          have HA2 : Hid (c.starts.all startB = true) := by
            have := hall.out
            rw [List.take_of_length_le (by rw [HM.out]; exact Nat.le_refl _)] at this
            exact this
          have HZ := Lib.hid (CZ.out h8 (by trivial) HA.out HA2.out)
          clear hall HA HA2
          by_cases h1 : thr < 1
          · go_wp2
            go_ret
            exact ⟨ret_i64 (by rw [HZ.out, if_pos (.inl h1)]), HB.out⟩
          · by_cases h9 : 8 < thr
            · go_wp2
              go_ret
              exact ⟨ret_i64 (by rw [HZ.out, if_pos (.inr h9)]), HB.out⟩
            · go_wp2
              go_ret
              exact ⟨ret_i64 (by rw [HZ.out, if_neg (by omega)]), HB.out⟩
end Go.Proofs.Ytjnlkemdaffgbaa
/- The memory with which a configuration begins: plainly, and what package layout makes. -/
namespace Go.Proofs.Ytjnlkemdaffgbaa
open Go.ChangeShapes Go.WideShapes Go.ChangeAt Go.RowKit
set_option maxRecDepth 100000

theorem results_cell_tmp {fn : Func} {P : Program} {p u : Tmp} {t1 : TypeId} (h : fn.results = #[.cell p t1, .tmp u]) (tmps : Array Value) (w : World) (g1 : Nat) (u1 : TypeId) (c1 : Array Value) (f1 : Nat × Nat) (d1 : TypeDesc)
    (hp : tmps.getD p undef = .pointer (some ⟨g1, 0, none⟩)) (hg1 : w.heap[g1]? = some (.cells c1 u1 f1))
    (hu1 : P.underlying t1 = some d1) (hd1 : (match d1 with | .struct _ | .array _ _ => true | _ => false) = true) (hi1 : (P.info? t1).map (·.size) = some c1.size) (x : Value) (hx : tmps.getD u undef = x) :
    (results fn tmps).run P w = .ok (.tuple #[.agg c1, x]) w := by
  have hp' : tmps[p]?.getD undef = .pointer (some ⟨g1, 0, none⟩) := by simpa using hp
  have hx' : tmps[u]?.getD undef = x := by simpa using hx
  simp [results, h, hp', hx', asAddr, run_loadVar_row w g1 u1 t1 c1 f1 d1 hg1 hu1 hd1 hi1]
def zeroMem5 : Array Value := #[.slice none 0 0, .slice none 0 0, .int .i64 0]
/-- the start of channel k -/
def ConfM.st (c : ConfM) (k : Nat) : Int := c.starts.getD k 0
/-- the words behind the first j slots of channel k -/
def slotsE (c : ConfM) (k : Nat) (ws : List Int) : Nat → List Int
  | 0 => ws
  | j + 1 => (slotsE c k ws j).set (c.slotW k (nextI (c.st k) j)).toNat (nextI (c.st k) j)
/-- the words behind the first two of channel k -/
def headE (c : ConfM) (k : Nat) (ws : List Int) : List Int := (ws.set (c.base k).toNat (packI (c.st k) false)).set (c.base k + 1).toNat (c.st k)
/-- the words behind k channels -/
def chansE (c : ConfM) : Nat → List Int
  | 0 => List.replicate (c.thrW c.threads).toNat 0
  | k + 1 => slotsE c k (headE c k (chansE c k)) (c.size k).toNat
def newE (c : ConfM) : MemM := if checkC c = 0 then ⟨chansE c c.caps.length, List.replicate (2 * c.caps.length) [], 0⟩ else ⟨[], [], 0⟩
theorem slotsE_len (c : ConfM) (k : Nat) (ws : List Int) (j : Nat) : (slotsE c k ws j).length = ws.length := by
  induction j with
  | zero => rfl
  | succ j ih => show (List.set _ _ _).length = _; rw [List.length_set, ih]
theorem headE_len (c : ConfM) (k : Nat) (ws : List Int) : (headE c k ws).length = ws.length := by simp [headE]
theorem chansE_len (c : ConfM) (k : Nat) : (chansE c k).length = (c.thrW c.threads).toNat := by
  induction k with
  | zero => exact List.length_replicate
  | succ k ih => show (slotsE _ _ _ _).length = _; rw [slotsE_len, headE_len, ih]
def Wf (l : List Int) : Prop := ∀ x ∈ l, x = IntKind.u64.wrap x
theorem Wf.set {l : List Int} (h : Wf l) (i : Nat) (x : Int) (hx : x = IntKind.u64.wrap x) : Wf (l.set i x) := by
  intro y hy
  rcases List.mem_or_eq_of_mem_set hy with hy | rfl
  · exact h y hy
  · exact hx
theorem next_wf (a n : Int) : nextI a n = IntKind.u64.wrap (nextI a n) := by rw [IntKind.wrap_u64]; unfold nextI; omega
theorem next_lt (a n : Int) : 0 ≤ nextI a n ∧ nextI a n < 9223372036854775808 := by unfold nextI; omega
theorem ConfM.good.st {c : ConfM} (h : c.good) (k : Nat) (hk : k < c.caps.length) : 0 ≤ c.st k ∧ c.st k < 9223372036854775808 := by
  have hk2 : k < c.starts.length := by rw [h.same]; exact hk
  show 0 ≤ c.starts.getD k 0 ∧ c.starts.getD k 0 < 9223372036854775808
  rw [List.getD_eq_getElem?_getD, List.getElem?_eq_getElem hk2]
  exact h.starts _ (List.getElem_mem hk2)
theorem slotsE_wf (c : ConfM) (k : Nat) {ws : List Int} (h : Wf ws) (j : Nat) : Wf (slotsE c k ws j) := by
  induction j with
  | zero => exact h
  | succ j ih => exact Wf.set ih _ _ (next_wf _ _)
theorem headE_wf {c : ConfM} {k : Nat} (hs : 0 ≤ c.st k ∧ c.st k < 9223372036854775808) {ws : List Int} (h : Wf ws) : Wf (headE c k ws) := by
  refine Wf.set (Wf.set h _ _ ?_) _ _ ?_
  · rw [IntKind.wrap_u64]; unfold packI; simp <;> omega
  · rw [IntKind.wrap_u64]; omega
theorem chansE_wf {c : ConfM} (hg : c.good) (k : Nat) (hk : k ≤ c.caps.length) : Wf (chansE c k) := by
  induction k with
  | zero => intro x hx; rw [(List.mem_replicate.1 hx).2]; decide
  | succ k ih => exact slotsE_wf _ _ (headE_wf (hg.st k (by omega)) (ih (by omega))) _
/-- where the words end -/
theorem ConfM.good.mono {c : ConfM} (h : c.good) (k : Nat) (hk : k < c.caps.length) : c.base k + (5 + c.size k * 2) ≤ c.base c.caps.length := by
  have key : ∀ d, k + 1 + d ≤ c.caps.length → c.base (k + 1) ≤ c.base (k + 1 + d) := by
    intro d
    induction d with
    | zero => intro _; exact Int.le_refl _
    | succ d ih =>
      intro hd
      have h1 := ih (by omega)
      have h2 := h.size (k + 1 + d) (by omega)
      have e : c.base (k + 1 + (d + 1)) = c.base (k + 1 + d) + (5 + c.size (k + 1 + d) * 2) := rfl
      omega
  have h1 := key (c.caps.length - (k + 1)) (by omega)
  rw [show k + 1 + (c.caps.length - (k + 1)) = c.caps.length by omega] at h1
  exact h1
theorem ConfM.good.slot_in {c : ConfM} (h : c.good) (k : Nat) (s : Int) (hk : k < c.caps.length) (hs : 0 ≤ s) : 0 ≤ c.slotW k s ∧ c.slotW k s + 1 < c.thrW c.threads := by
  have h1 := h.mono k hk
  have h2 := h.base8 k (Nat.le_of_lt hk)
  have h3 := h.size k hk
  have h4 := slotI_lt s (c.size k) hs h3.1
  have h5 := h.thr
  show 0 ≤ c.base k + 5 + slotI s (c.size k) * 2 ∧ c.base k + 5 + slotI s (c.size k) * 2 + 1 < c.base c.caps.length + c.threads * 11
  omega
theorem ConfM.good.base_in {c : ConfM} (h : c.good) (k : Nat) (hk : k < c.caps.length) : 0 ≤ c.base k ∧ c.base k + 1 < c.thrW c.threads := by
  have h1 := h.mono k hk
  have h2 := h.base8 k (Nat.le_of_lt hk)
  have h3 := h.size k hk
  have h5 := h.thr
  show 0 ≤ c.base k ∧ c.base k + 1 < c.base c.caps.length + c.threads * 11
  omega
theorem Try.info_lists : (Try.prog.info? 33).map (fun i => (i.zero, i.size, i.bytes)) = some (some (.slice none 0 0), 1, 24) := by kernel_rfl
theorem wp_make_lists (w : World) {ops : Array Oper} {rest : List Oper} {o : Oper} {a : Act} {Q : Exit → Act → World → Prop}
    (hg : o.guard = none) (l c : Operand) (hop : o.op = Op.makeSlice 37 l c) (n : Nat) (L C : Int) (hl : a.eval l = .int .i64 L) (hc : a.eval c = .int .i64 C) (hL : L = n) (hC : C = n) (hn : n ≤ 1000000)
    (hK : ∀ w', w'.ownsRow w.heap.size 33 1 (.slice (some ⟨w.heap.size, 0, none⟩) n n) n (List.replicate n (.slice none 0 0)) → Below w.heap.size w w' → wpList Try.prog ops Q rest (a.put o.dst (.slice (some ⟨w.heap.size, 0, none⟩) n n)) w') :
    wpList Try.prog ops Q (o :: rest) a w := by
  obtain ⟨i0, hi, hz0, hz1, hz2⟩ := info_parts Try.info_lists
  refine wpList_make_full w hg l c _ hop w.heap.size 33 i0 (.slice none 0 0) 1 Try.underlying37 hi hz0 hz1 _ _ _ _ n hl hc hL hC (by rw [hz2]; omega) (by unfold maxLen; omega) (Nat.le_refl _) fun w' h1 h2 => ?_
  refine hK w' ?_ ((Below.refl _ _).grown h2 (Nat.le_refl _) (fun k hk => by cases hk))
  rw [show (Value.slice none 0 0).cells = #[.slice none 0 0] from rfl, toList_madeCells_one'] at h1
  simpa using h1
theorem nils_read {w : World} {base n : Nat} {v : Value} (h : w.ownsRow base 33 1 v n (List.replicate n (.slice none 0 0))) (hn : n ≤ 1000000) : SlL w v (List.replicate n (.slice none 0 0)) (List.replicate n []) := by
  have hl : (List.replicate n ([] : List Int)).length = n := List.length_replicate
  refine row_read (by rw [hl]; exact h) (fun t ht => ?_) (by rw [hl]; omega)
  rw [hl] at ht
  rw [show (List.replicate n (Value.slice none 0 0)).getD t (.slice none 0 0) = .slice none 0 0 by simp [List.getD_eq_getElem?_getD, ht], show (List.replicate n ([] : List Int)).getD t [] = [] by simp [List.getD_eq_getElem?_getD, ht]]
  exact SlI.nil _ _
/-- while the words are made: their row in block X, all else below it as it was -/
structure NewI (w0 wr : World) (X t : Nat) (ws : List Int) : Prop where
  row : OwnI wr X 27 .u64 (.slice (some ⟨X, 0, none⟩) t t) ws
  len : ws.length = t
  below : Below X w0 wr
theorem NewI.next {w0 wr w2 : World} {X t : Nat} {ws : List Int} (h : NewI w0 wr X t ws) (hb : Below wr.heap.size wr w2) : NewI w0 w2 X t ws := by
  have hX : X ≤ wr.heap.size := by
    rcases h.row.shape with ⟨h1, _⟩ | ⟨g, cap, h1, _, h2, _⟩
    · simp at h1
    · simp only [Value.slice.injEq, Option.some.injEq, Addr.mk.injEq] at h1; omega
  exact ⟨h.row.below hb, h.len, h.below.trans (hb.mono hX)⟩
theorem NewI.set {w0 wr : World} {X t : Nat} {ws : List Int} (h : NewI w0 wr X t ws) (i : Nat) (x : Int) : NewI w0 (wr.setCell ⟨X, i, none⟩ (.int .u64 x)) X t (ws.set i x) :=
  ⟨h.row.store i x h.len.symm, by rw [List.length_set]; exact h.len, h.below.setCell (p := ⟨X, i, none⟩) (Nat.le_refl _) _⟩
/-- a memory and an error are handed back -/
def NewR (w : World) (c : ConfM) (e : Ending) (w' : World) : Prop :=
  ∃ v', e = .returned (.tuple #[v', .int .i64 (checkC c)]) ∧ MemV w' v' (newE c) ∧ Below w.heap.size w w'
end Go.Proofs.Ytjnlkemdaffgbaa
/- The document's small machines: New, access, and Next of one that has ended. -/
namespace Go.Proofs.Ytjnlkemdaffgbaa
open Go.ChangeShapes Go.WideShapes Go.ChangeAt Go.RowKit
set_option maxRecDepth 100000

theorem rowc14 {w : World} {g : Nat} {T : TypeId} {v0 v1 v2 v3 v4 v5 v6 v7 v8 v9 v10 v11 v12 v13 : Value} (h : w.heap[g]? = some (.cells #[v0, v1, v2, v3, v4, v5, v6, v7, v8, v9, v10, v11, v12, v13] T (0, 0))) :
    w.cell? ⟨g, 0, none⟩ = some v0 ∧ w.cell? ⟨g, 1, none⟩ = some v1 ∧ w.cell? ⟨g, 2, none⟩ = some v2 ∧ w.cell? ⟨g, 3, none⟩ = some v3 ∧ w.cell? ⟨g, 4, none⟩ = some v4 ∧ w.cell? ⟨g, 5, none⟩ = some v5 ∧ w.cell? ⟨g, 6, none⟩ = some v6 ∧ w.cell? ⟨g, 7, none⟩ = some v7 ∧ w.cell? ⟨g, 8, none⟩ = some v8 ∧ w.cell? ⟨g, 9, none⟩ = some v9 ∧ w.cell? ⟨g, 10, none⟩ = some v10 ∧ w.cell? ⟨g, 11, none⟩ = some v11 ∧ w.cell? ⟨g, 12, none⟩ = some v12 ∧ w.cell? ⟨g, 13, none⟩ = some v13 :=
  ⟨cell_of_row _ _ 0 _ _ _ h, cell_of_row _ _ 1 _ _ _ h, cell_of_row _ _ 2 _ _ _ h, cell_of_row _ _ 3 _ _ _ h, cell_of_row _ _ 4 _ _ _ h, cell_of_row _ _ 5 _ _ _ h, cell_of_row _ _ 6 _ _ _ h, cell_of_row _ _ 7 _ _ _ h, cell_of_row _ _ 8 _ _ _ h, cell_of_row _ _ 9 _ _ _ h, cell_of_row _ _ 10 _ _ _ h, cell_of_row _ _ 11 _ _ _ h, cell_of_row _ _ 12 _ _ _ h, cell_of_row _ _ 13 _ _ _ h⟩
theorem two_new (w : World) (a b : Obj) : ∃ W, (w.alloc a).alloc b = W ∧ Hid (Below w.heap.size w W) ∧ Hid (W.heap[w.heap.size]? = some a) ∧ Hid (W.heap[w.heap.size + 1]? = some b) ∧ w.heap.size + 2 = W.heap.size :=
  ⟨_, rfl, below_new (below_new (Below.refl w.heap.size w) _) _, heap_alloc2_old _ _ _, heap_alloc2_new _ _ _, by simp⟩
theorem three_new (w : World) (a b c : Obj) : ∃ W, ((w.alloc a).alloc b).alloc c = W ∧ Hid (Below w.heap.size w W) ∧ Hid (W.heap[w.heap.size]? = some a) ∧ Hid (W.heap[w.heap.size + 1]? = some b) ∧ Hid (W.heap[w.heap.size + 2]? = some c) ∧ w.heap.size + 3 = W.heap.size := by
  refine ⟨_, rfl, below_new (below_new (below_new (Below.refl w.heap.size w) _) _) _, Lib.hid ?_, Lib.hid ?_, Lib.hid ?_, by simp⟩
  · rw [heap_alloc_old _ _ (by simp <;> omega), heap_alloc_old _ _ (by simp <;> omega), heap_alloc_new]
  · rw [heap_alloc_old _ _ (by simp <;> omega)]
    have := heap_alloc_new (w.alloc a) b
    simpa using this
  · have := heap_alloc_new ((w.alloc a).alloc b) c
    simpa using this
set_option maxHeartbeats 4000000 in
theorem access_any (k ad o n : Int) (w : World) : Calls Try.prog 54 #[.int .i64 k, .int .i64 ad, .int .u64 o, .int .u64 n] w fun e w' => e = .returned (accV ⟨k, ad, o, n, 0⟩) ∧ Below w.heap.size w w' := by
  obtain ⟨W, hW⟩ : ∃ W, w.alloc (.cells #[.int .i64 0, .int .i64 0, .int .u64 0, .int .u64 0, .int .i64 0] 69) = W := ⟨_, rfl⟩
  have HB : Hid (Below w.heap.size w W) := hW ▸ below_new (Below.refl w.heap.size w) _
  have R0 : Hid (W.heap[w.heap.size]? = some (.cells #[.int .i64 0, .int .i64 0, .int .u64 0, .int .u64 0, .int .i64 0] 69 (0, 0))) := hW ▸ heap_alloc_new _ _
  have HW := Lib.hid hW
  clear hW
  go_enter Try.func54, Try.ntmps54
  go_upto_region 1 with fail
  rw [HW.out]
  clear HW
  go_wp2_with (refine wpList_store_row rfl 69 _ _ rfl (w.heap.size) _ rfl rfl 69 #[.int .i64 0, .int .i64 0, .int .u64 0, .int .u64 0, .int .i64 0] R0.out (by kernel_rfl) rfl (by simp [Value.oneCell']) ?_)
  refine bodyPost_ret (v := accV ⟨k, ad, o, n, 0⟩) (results_cell_row Try.results54 _ _ (w.heap.size) 69 _ (0, 0) _ rfl (setRow_heap _ _ _ _ 69 (0, 0) R0.out) Try.underlying69 rfl (by kernel_rfl)) rfl ?_
  exact ⟨rfl, row_below HB.out (Nat.le_refl _) _⟩
set_option maxHeartbeats 4000000 in
theorem machNew_any (a a2 : Option Addr) (cap cap2 : Nat) (c : ConfM) (what ch th : Int) (w : World) : Calls Try.prog 23 #[.agg #[.slice a c.caps.length cap, .slice a2 c.starts.length cap2, .int .i64 c.threads], .int .i64 what, .int .i64 ch, .int .i64 th] w fun e w' => e = .returned (.agg (machL (.slice a c.caps.length cap) (.slice a2 c.starts.length cap2) c.threads ⟨what, 1, ch, th, 0, 0, 0, 0, 0, 0, 0⟩).toArray) ∧ Below w.heap.size w w' := by
  obtain ⟨W, hW, HB, R0, R1, hz⟩ := two_new w (.cells #[.slice a c.caps.length cap, .slice a2 c.starts.length cap2, .int .i64 c.threads] 36) (.cells #[.int .i64 0, .int .i64 0, .slice none 0 0, .slice none 0 0, .int .i64 0, .int .i64 0, .int .i64 0, .int .i64 0, .int .i64 0, .int .u64 0, .int .u64 0, .int .u64 0, .int .i64 0, .int .u64 0] 58)
  have HW := Lib.hid hW
  clear hW
  go_enter Try.func23, Try.ntmps23
  go_upto_region 1 with fail
  rw [HW.out]
  clear HW
  obtain ⟨x0, x1, x2⟩ := rowc3 R0.out
  go_wp2_with (refine wpList_store_row rfl 58 _ _ rfl (w.heap.size + 1) _ rfl rfl 58 #[.int .i64 0, .int .i64 0, .slice none 0 0, .slice none 0 0, .int .i64 0, .int .i64 0, .int .i64 0, .int .i64 0, .int .i64 0, .int .u64 0, .int .u64 0, .int .u64 0, .int .i64 0, .int .u64 0] R1.out (by kernel_rfl) rfl (by simp [Value.oneCell']) ?_)
  refine bodyPost_ret (v := .agg (machL (.slice a c.caps.length cap) (.slice a2 c.starts.length cap2) c.threads ⟨what, 1, ch, th, 0, 0, 0, 0, 0, 0, 0⟩).toArray) (results_cell_row Try.results23 _ _ (w.heap.size + 1) 58 _ (0, 0) _ rfl (setRow_heap _ _ _ _ 58 (0, 0) R1.out) Try.underlying58 rfl (by kernel_rfl)) rfl ?_
  exact ⟨rfl, row_below HB.out (by omega) _⟩
set_option maxHeartbeats 4000000 in
theorem machNext_end (a a2 : Option Addr) (cap cap2 : Nat) (c : ConfM) (m : MachM) (hp : m.pl = 0) (w : World) : Calls Try.prog 28 #[(.agg (machL (.slice a c.caps.length cap) (.slice a2 c.starts.length cap2) c.threads m).toArray)] w fun e w' => e = .returned (accV ⟨0, 0, 0, 0, 0⟩) ∧ Below w.heap.size w w' := by
  obtain ⟨W, hW, HB, R0, R1, hz⟩ := two_new w (.cells #[.int .i64 m.what, .int .i64 0, .slice a c.caps.length cap, .slice a2 c.starts.length cap2, .int .i64 c.threads, .int .i64 m.chan, .int .i64 m.thr, .int .i64 m.idx, .int .i64 m.kind, .int .u64 m.val, .int .u64 m.t, .int .u64 m.h, .int .i64 m.ok, .int .u64 m.ov] 58) (.cells #[.int .i64 0, .int .i64 0, .int .u64 0, .int .u64 0, .int .i64 0] 69)
  have HW := Lib.hid hW
  clear hW
  unfold machL
  rw [hp]
  clear hp
  go_enter Try.func28, Try.ntmps28
  go_upto_region 1 with fail
  rw [HW.out]
  clear HW
  obtain ⟨x0, x1, x2, x3, x4, x5, x6, x7, x8, x9, x10, x11, x12, x13⟩ := rowc14 R0.out
  go_wp2_with (refine wpList_store_row rfl 69 _ _ rfl (w.heap.size + 1) _ rfl rfl 69 #[.int .i64 0, .int .i64 0, .int .u64 0, .int .u64 0, .int .i64 0] R1.out (by kernel_rfl) rfl (by simp [Value.oneCell']) ?_)
  refine bodyPost_ret (v := accV ⟨0, 0, 0, 0, 0⟩) (results_cell_row Try.results28 _ _ (w.heap.size + 1) 69 _ (0, 0) _ rfl (setRow_heap _ _ _ _ 69 (0, 0) R1.out) Try.underlying69 rfl (by kernel_rfl)) rfl ?_
  exact ⟨rfl, row_below HB.out (by omega) _⟩
end Go.Proofs.Ytjnlkemdaffgbaa
