import Derived.LoopTactic
import Derived.Test.YtmkngpjjimalhaaB06
import Derived.Test.YtmkngpjjimalhaaB03
import Derived.Test.YtmkngpjjimalhaaB02
set_option linter.unusedVariables false
set_option linter.unusedSimpArgs false
/- Where everything lies: what package layout and the document's answers for chapter 5 return. -/
namespace Go.Proofs.Ytmkngpjjimalhaa
open Go.ChangeShapes Go.WideShapes Go.ChangeAt Go.RowKit
set_option maxRecDepth 100000

theorem SlI.cellAt {w : World} {k : IntKind} {a : Option Addr} {n cap : Nat} {l : List Int} (h : SlI w k (.slice a n cap) l) (t : Nat) (ht : t < l.length) :
    ∃ b off, a = some ⟨b, off, none⟩ ∧ b < w.heap.size ∧ w.cell? ⟨b, off + t, none⟩ = some (.int k (l.getD t 0)) := by
  obtain ⟨_, _, a', cap', e, _, h5⟩ := h
  simp only [Value.slice.injEq] at e
  obtain ⟨rfl, _, _⟩ := e
  exact h5 t ht
theorem slots_any (v : Value) (c : ConfM) (k : Nat) (w : World) (h : ConfV w v c) (hk : k < c.caps.length) (hg : c.good) :
    Calls Try.prog 87 #[v, .int .i64 k] w fun e w' => e = .returned (.int .i64 (c.size k)) ∧ Below w.heap.size w w' := by
  have HV := Lib.hid h
  obtain ⟨vc, vs, rfl, h1, h2⟩ := h
  obtain ⟨a, cap, rfl, -⟩ := h1.len
  obtain ⟨a2, cap2, rfl, -⟩ := h2.len
  have hl := hg.len
  have HB := Lib.hid (below_new (Below.refl w.heap.size w) (.cells #[.slice a c.caps.length cap, .slice a2 c.starts.length cap2, .int .i64 c.threads] 36))
  have T := Lib.hid fun w' => size_any (c.caps.getD k 0) w' (by have := hg.cap k hk; omega) (by have := hg.cap k hk; omega)
  obtain ⟨b, off, rfl, hb, hcell⟩ := h1.cellAt k hk
  have hcell : (w.alloc (.cells #[.slice (some ⟨b, off, none⟩) c.caps.length cap, .slice a2 c.starts.length cap2, .int .i64 c.threads] 36)).cell? ⟨b, off + k, none⟩ = some (.int .i64 (c.caps.getD k 0)) := (HB.out.cell (p := ⟨b, off + k, none⟩) hb).trans hcell
  have hsz : Hid (c.size k = sizeI (c.caps.getD k 0)) := rfl
  clear h1 h2
  generalize c.caps.length = n at *
  generalize c.caps.getD k 0 = x at *
  go_enter Try.func87, Try.ntmps87
  go_wp2_with fail
  refine (T.out _).mono ?_; rintro e w1 ⟨rfl, rfl⟩
  go_wp2
  go_ret
  exact ⟨ret_i64 hsz.out.symm, HB.out⟩
theorem rsize4_any (v : Value) (c : ConfM) (k : Nat) (w : World) (h : ConfV w v c) (hk : k < c.caps.length) (hg : c.good) :
    Calls Try.prog 47 #[v, .int .i64 k] w fun e w' => e = .returned (.int .i64 (c.size k)) ∧ Below w.heap.size w w' := by
  have HV := Lib.hid h
  obtain ⟨vc, vs, rfl, h1, h2⟩ := h
  obtain ⟨a, cap, rfl, -⟩ := h1.len
  obtain ⟨a2, cap2, rfl, -⟩ := h2.len
  have hl := hg.len
  have HB := Lib.hid (below_new (Below.refl w.heap.size w) (.cells #[.slice a c.caps.length cap, .slice a2 c.starts.length cap2, .int .i64 c.threads] 36))
  have T := Lib.hid fun w' => rsize_any (c.caps.getD k 0) w' (by have := hg.cap k hk; omega) (by have := hg.cap k hk; omega)
  obtain ⟨b, off, rfl, hb, hcell⟩ := h1.cellAt k hk
  have hcell : (w.alloc (.cells #[.slice (some ⟨b, off, none⟩) c.caps.length cap, .slice a2 c.starts.length cap2, .int .i64 c.threads] 36)).cell? ⟨b, off + k, none⟩ = some (.int .i64 (c.caps.getD k 0)) := (HB.out.cell (p := ⟨b, off + k, none⟩) hb).trans hcell
  have hsz : Hid (c.size k = sizeI (c.caps.getD k 0)) := rfl
  clear h1 h2
  generalize c.caps.length = n at *
  generalize c.caps.getD k 0 = x at *
  go_enter Try.func47, Try.ntmps47
  go_wp2_with fail
  refine (T.out _).mono ?_; rintro e w1 ⟨rfl, rfl⟩
  go_wp2
  go_ret
  exact ⟨ret_i64 hsz.out.symm, HB.out⟩
set_option maxHeartbeats 1000000 in
theorem base_any (v : Value) (c : ConfM) (k : Nat) (w : World) (h : ConfV w v c) (hk : k ≤ c.caps.length) (hg : c.good) :
    Calls Try.prog 85 #[v, .int .i64 k] w fun e w' => e = .returned (.int .i64 (c.base k)) ∧ Below w.heap.size w w' := by
  have HV := Lib.hid h
  obtain ⟨vc, vs, rfl, h1, h2⟩ := h
  obtain ⟨a, cap, rfl, -⟩ := h1.len
  obtain ⟨a2, cap2, rfl, -⟩ := h2.len
  have hl := hg.len
  have HB := Lib.hid (below_new (Below.refl w.heap.size w) (.cells #[.slice a c.caps.length cap, .slice a2 c.starts.length cap2, .int .i64 c.threads] 36))
  have T := Lib.hid fun j (w' : World) h hj => slots_any (.agg #[.slice a c.caps.length cap, .slice a2 c.starts.length cap2, .int .i64 c.threads]) c j w' h hj hg
  have HN := Lib.hid fun j hj => hg.base8 j hj
  have HZ := Lib.hid fun j hj => hg.size j hj
  have HK := Lib.hid hk
  have hk8 : k ≤ 8 := by omega
  obtain ⟨W, hW⟩ : ∃ W, w.alloc (.cells #[.slice a c.caps.length cap, .slice a2 c.starts.length cap2, .int .i64 c.threads] 36) = W := ⟨_, rfl⟩
  rw [hW] at HB
  have R0 : Hid (W.heap[w.heap.size]? = some (.cells #[.slice a c.caps.length cap, .slice a2 c.starts.length cap2, .int .i64 c.threads] 36 (0, 0))) := hW ▸ heap_alloc_new _ _
  have hzW : w.heap.size + 1 = W.heap.size := by rw [← hW]; simp
  have HW := Lib.hid hW
  have hcl : (c.caps.length : Int) ≤ 8 := by omega
  clear h1 h2 hg hW
  go_enter Try.func85, Try.ntmps85
  go_upto_region 1 with fail
  rw [HW.out]
  clear HW
  obtain ⟨x0, x1, x2⟩ := rowc3 R0.out
  go_wp2_with fail
  go_loopw [5, 12] (fun s i wr => ∃ j : Nat, j ≤ k ∧ s = .int .i64 (c.base j) ∧ i = .int .i64 j ∧ Hid (Below W.heap.size W wr)) (fun _ i _ => 9 - (intOf i).toNat)
  case atStart => exact ⟨0, by omega, rfl, rfl, Below.refl _ _⟩
  case round =>
    obtain ⟨j, hj, rfl, rfl, hb⟩ := hrel
    obtain ⟨wo, rfl⟩ : ∃ wo : World, wo = wr := ⟨_, rfl⟩
    have SB := Lib.hid ((hb.out.block w.heap.size (by omega)).trans R0.out)
    have hn := HN.out j (by have := HK.out; omega)
    clear x0 x1 x2
    obtain ⟨x0, x1, x2⟩ := rowc3 SB.out
    by_cases hlt : j < k
    · have hz := HZ.out j (by have := HK.out; omega)
      have hjn := Lib.hid (show j < c.caps.length by have := HK.out; omega)
      have HBS : Hid (c.base (j + 1) = c.base j + (5 + c.size j * 2)) := rfl
      go_wp2_with fail
      refine (T.out j _ ((HV.out.below HB.out).below hb.out) hjn.out).mono ?_; rintro e w1 ⟨rfl, hb1⟩
      have hb2 := Lib.hid (below_then hb.out hb1)
      clear hb1 hb
      go_wp2
      go_roundw
      case rel => exact ⟨j + 1, by omega, by (first | (rw [HBS.out]; done) | (rw [HBS.out]; exact congrArg (Value.int .i64) (by omega))), by go_num, hb2⟩
      case measure => simp [intOf]; omega
    · obtain rfl : j = k := by omega
      go_wp2
      go_ret
      exact ⟨rfl, below_then HB.out hb.out⟩
set_option maxHeartbeats 1000000 in
theorem rtail_any (v : Value) (c : ConfM) (k : Nat) (w : World) (h : ConfV w v c) (hk : k ≤ c.caps.length) (hg : c.good) :
    Calls Try.prog 45 #[v, .int .i64 k] w fun e w' => e = .returned (.int .i64 (c.base k)) ∧ Below w.heap.size w w' := by
  have HV := Lib.hid h
  obtain ⟨vc, vs, rfl, h1, h2⟩ := h
  obtain ⟨a, cap, rfl, -⟩ := h1.len
  obtain ⟨a2, cap2, rfl, -⟩ := h2.len
  have hl := hg.len
  have HB := Lib.hid (below_new (Below.refl w.heap.size w) (.cells #[.slice a c.caps.length cap, .slice a2 c.starts.length cap2, .int .i64 c.threads] 36))
  have T := Lib.hid fun j (w' : World) h hj => rsize4_any (.agg #[.slice a c.caps.length cap, .slice a2 c.starts.length cap2, .int .i64 c.threads]) c j w' h hj hg
  have HN := Lib.hid fun j hj => hg.base8 j hj
  have HZ := Lib.hid fun j hj => hg.size j hj
  have HK := Lib.hid hk
  have hk8 : k ≤ 8 := by omega
  obtain ⟨W, hW⟩ : ∃ W, w.alloc (.cells #[.slice a c.caps.length cap, .slice a2 c.starts.length cap2, .int .i64 c.threads] 36) = W := ⟨_, rfl⟩
  rw [hW] at HB
  have R0 : Hid (W.heap[w.heap.size]? = some (.cells #[.slice a c.caps.length cap, .slice a2 c.starts.length cap2, .int .i64 c.threads] 36 (0, 0))) := hW ▸ heap_alloc_new _ _
  have hzW : w.heap.size + 1 = W.heap.size := by rw [← hW]; simp
  have HW := Lib.hid hW
  have hcl : (c.caps.length : Int) ≤ 8 := by omega
  clear h1 h2 hg hW
  go_enter Try.func45, Try.ntmps45
  go_upto_region 1 with fail
  rw [HW.out]
  clear HW
  obtain ⟨x0, x1, x2⟩ := rowc3 R0.out
  go_wp2_with fail
  go_loopw [5, 6] (fun s i wr => ∃ j : Nat, j ≤ k ∧ s = .int .i64 (c.base j) ∧ i = .int .i64 j ∧ Hid (Below W.heap.size W wr)) (fun _ i _ => 9 - (intOf i).toNat)
  case atStart => exact ⟨0, by omega, rfl, rfl, Below.refl _ _⟩
  case round =>
    obtain ⟨j, hj, rfl, rfl, hb⟩ := hrel
    obtain ⟨wo, rfl⟩ : ∃ wo : World, wo = wr := ⟨_, rfl⟩
    have SB := Lib.hid ((hb.out.block w.heap.size (by omega)).trans R0.out)
    have hn := HN.out j (by have := HK.out; omega)
    clear x0 x1 x2
    obtain ⟨x0, x1, x2⟩ := rowc3 SB.out
    by_cases hlt : j < k
    · have hz := HZ.out j (by have := HK.out; omega)
      have hjn := Lib.hid (show j < c.caps.length by have := HK.out; omega)
      have HBS : Hid (c.base (j + 1) = c.base j + (5 + c.size j * 2)) := rfl
      go_wp2_with fail
      refine (T.out j _ ((HV.out.below HB.out).below hb.out) hjn.out).mono ?_; rintro e w1 ⟨rfl, hb1⟩
      have hb2 := Lib.hid (below_then hb.out hb1)
      clear hb1 hb
      go_wp2
      go_roundw
      case rel => exact ⟨j + 1, by omega, by (first | (rw [HBS.out]; done) | (rw [HBS.out]; exact congrArg (Value.int .i64) (by omega))), by go_num, hb2⟩
      case measure => simp [intOf]; omega
    · obtain rfl : j = k := by omega
      go_wp2
      go_ret
      exact ⟨rfl, below_then HB.out hb.out⟩
end Go.Proofs.Ytmkngpjjimalhaa
/- Where everything lies: the numbers of all words and lists. -/
namespace Go.Proofs.Ytmkngpjjimalhaa
open Go.ChangeShapes Go.WideShapes Go.ChangeAt Go.RowKit
set_option maxRecDepth 100000

theorem slotW_eq (c : ConfM) (k : Nat) (s : Int) : c.slotW k s = c.base k + 5 + slotI s (c.size k) * 2 := rfl
set_option maxHeartbeats 1000000 in
theorem tailW_any (v : Value) (c : ConfM) (k : Nat) (hk : k < c.caps.length) (w : World) (h : ConfV w v c) (hg : c.good) :
    Calls Try.prog 81 #[v, .int .i64 k] w fun e w' => e = .returned (.int .i64 (c.base k + 0)) ∧ Below w.heap.size w w' := by
  have HV := Lib.hid h
  obtain ⟨vc, vs, rfl, h1, h2⟩ := h
  obtain ⟨a, cap, rfl, -⟩ := h1.len
  obtain ⟨a2, cap2, rfl, -⟩ := h2.len
  have HB := Lib.hid (below_new (Below.refl w.heap.size w) (.cells #[.slice a c.caps.length cap, .slice a2 c.starts.length cap2, .int .i64 c.threads] 36))
  have hl := hg.len
  clear h1 h2
  have hn := hg.base8 k (Nat.le_of_lt hk)
  go_enter Try.func81, Try.ntmps81
  go_wp2_with fail
  refine (base_any _ c k _ (HV.out.below HB.out) (Nat.le_of_lt hk) hg).mono ?_; rintro e w1 ⟨rfl, hb1⟩
  have HB1 := Lib.hid (below_then HB.out hb1)
  clear hb1
  go_wp2
  go_ret
  exact ⟨ret_i64 (by omega), HB1.out⟩
set_option maxHeartbeats 1000000 in
theorem headW_any (v : Value) (c : ConfM) (k : Nat) (hk : k < c.caps.length) (w : World) (h : ConfV w v c) (hg : c.good) :
    Calls Try.prog 80 #[v, .int .i64 k] w fun e w' => e = .returned (.int .i64 (c.base k + 1)) ∧ Below w.heap.size w w' := by
  have HV := Lib.hid h
  obtain ⟨vc, vs, rfl, h1, h2⟩ := h
  obtain ⟨a, cap, rfl, -⟩ := h1.len
  obtain ⟨a2, cap2, rfl, -⟩ := h2.len
  have HB := Lib.hid (below_new (Below.refl w.heap.size w) (.cells #[.slice a c.caps.length cap, .slice a2 c.starts.length cap2, .int .i64 c.threads] 36))
  have hl := hg.len
  clear h1 h2
  have hn := hg.base8 k (Nat.le_of_lt hk)
  go_enter Try.func80, Try.ntmps80
  go_wp2_with fail
  refine (base_any _ c k _ (HV.out.below HB.out) (Nat.le_of_lt hk) hg).mono ?_; rintro e w1 ⟨rfl, hb1⟩
  have HB1 := Lib.hid (below_then HB.out hb1)
  clear hb1
  go_wp2
  go_ret
  exact ⟨ret_i64 (by omega), HB1.out⟩
set_option maxHeartbeats 1000000 in
theorem rheadW_any (v : Value) (c : ConfM) (k : Nat) (hk : k < c.caps.length) (w : World) (h : ConfV w v c) (hg : c.good) :
    Calls Try.prog 46 #[v, .int .i64 k] w fun e w' => e = .returned (.int .i64 (c.base k + 1)) ∧ Below w.heap.size w w' := by
  have HV := Lib.hid h
  obtain ⟨vc, vs, rfl, h1, h2⟩ := h
  obtain ⟨a, cap, rfl, -⟩ := h1.len
  obtain ⟨a2, cap2, rfl, -⟩ := h2.len
  have HB := Lib.hid (below_new (Below.refl w.heap.size w) (.cells #[.slice a c.caps.length cap, .slice a2 c.starts.length cap2, .int .i64 c.threads] 36))
  have hl := hg.len
  clear h1 h2
  have hn := hg.base8 k (Nat.le_of_lt hk)
  go_enter Try.func46, Try.ntmps46
  go_wp2_with fail
  refine (rtail_any _ c k _ (HV.out.below HB.out) (Nat.le_of_lt hk) hg).mono ?_; rintro e w1 ⟨rfl, hb1⟩
  have HB1 := Lib.hid (below_then HB.out hb1)
  clear hb1
  go_wp2
  go_ret
  exact ⟨ret_i64 (by omega), HB1.out⟩
set_option maxHeartbeats 1000000 in
theorem rlockW_any (v : Value) (c : ConfM) (k : Nat) (hk : k < c.caps.length) (w : World) (h : ConfV w v c) (hg : c.good) :
    Calls Try.prog 53 #[v, .int .i64 k] w fun e w' => e = .returned (.int .i64 (c.base k + 2)) ∧ Below w.heap.size w w' := by
  have HV := Lib.hid h
  obtain ⟨vc, vs, rfl, h1, h2⟩ := h
  obtain ⟨a, cap, rfl, -⟩ := h1.len
  obtain ⟨a2, cap2, rfl, -⟩ := h2.len
  have HB := Lib.hid (below_new (Below.refl w.heap.size w) (.cells #[.slice a c.caps.length cap, .slice a2 c.starts.length cap2, .int .i64 c.threads] 36))
  have hl := hg.len
  clear h1 h2
  have hn := hg.base8 k (Nat.le_of_lt hk)
  go_enter Try.func53, Try.ntmps53
  go_wp2_with fail
  refine (rtail_any _ c k _ (HV.out.below HB.out) (Nat.le_of_lt hk) hg).mono ?_; rintro e w1 ⟨rfl, hb1⟩
  have HB1 := Lib.hid (below_then HB.out hb1)
  clear hb1
  go_wp2
  go_ret
  exact ⟨ret_i64 (by omega), HB1.out⟩
set_option maxHeartbeats 1000000 in
theorem rclaimW_any (v : Value) (c : ConfM) (t : Int) (h0 : 0 ≤ t) (h8 : t ≤ 8) (w : World) (h : ConfV w v c) (hg : c.good) :
    Calls Try.prog 56 #[v, .int .i64 t] w fun e w' => e = .returned (.int .i64 (c.thrW t)) ∧ Below w.heap.size w w' := by
  have HV := Lib.hid h
  obtain ⟨vc, vs, rfl, h1, h2⟩ := h
  obtain ⟨a, cap, rfl, -⟩ := h1.len
  obtain ⟨a2, cap2, rfl, -⟩ := h2.len
  have HB := Lib.hid (below_new (Below.refl w.heap.size w) (.cells #[.slice a c.caps.length cap, .slice a2 c.starts.length cap2, .int .i64 c.threads] 36))
  have hl := hg.len
  clear h1 h2
  have hn := hg.base8 c.caps.length (Nat.le_refl _)
  have HE : Hid (c.thrW t = c.base c.caps.length + t * 11) := rfl
  have hcl : (c.caps.length : Int) ≤ 8 := by omega
  go_enter Try.func56, Try.ntmps56
  go_wp2_with fail
  refine (rtail_any _ c c.caps.length _ (HV.out.below HB.out) (Nat.le_refl _) hg).mono ?_; rintro e w1 ⟨rfl, hb1⟩
  have HB1 := Lib.hid (below_then HB.out hb1)
  clear hb1
  go_wp2
  go_ret
  exact ⟨ret_i64 (by first | (rw [HE.out]; done) | (rw [HE.out]; omega)), HB1.out⟩
theorem ConfM.good.thr8 {c : ConfM} (h : c.good) (t : Int) (h0 : 0 ≤ t) (h8 : t ≤ 8) : 0 ≤ c.thrW t ∧ c.thrW t ≤ 384 := by
  have h1 := h.base8 c.caps.length (Nat.le_refl _)
  show 0 ≤ c.base c.caps.length + t * 11 ∧ c.base c.caps.length + t * 11 ≤ 384
  omega
set_option maxHeartbeats 1000000 in
theorem rflagW_any (v : Value) (c : ConfM) (t : Int) (h0 : 0 ≤ t) (h8 : t ≤ 8) (w : World) (h : ConfV w v c) (hg : c.good) :
    Calls Try.prog 60 #[v, .int .i64 t] w fun e w' => e = .returned (.int .i64 (c.thrW t + 1)) ∧ Below w.heap.size w w' := by
  have HV := Lib.hid h
  obtain ⟨vc, vs, rfl, h1, h2⟩ := h
  obtain ⟨a, cap, rfl, -⟩ := h1.len
  obtain ⟨a2, cap2, rfl, -⟩ := h2.len
  have HB := Lib.hid (below_new (Below.refl w.heap.size w) (.cells #[.slice a c.caps.length cap, .slice a2 c.starts.length cap2, .int .i64 c.threads] 36))
  have hl := hg.len
  clear h1 h2
  have hn := hg.thr8 t h0 h8
  go_enter Try.func60, Try.ntmps60
  go_wp2_with fail
  refine (rclaimW_any _ c t h0 h8 _ (HV.out.below HB.out) hg).mono ?_; rintro e w1 ⟨rfl, hb1⟩
  have HB1 := Lib.hid (below_then HB.out hb1)
  clear hb1
  go_wp2
  go_ret
  exact ⟨ret_i64 (by omega), HB1.out⟩
set_option maxHeartbeats 1000000 in
theorem rkindW_any (v : Value) (c : ConfM) (t : Int) (h0 : 0 ≤ t) (h8 : t ≤ 8) (w : World) (h : ConfV w v c) (hg : c.good) :
    Calls Try.prog 58 #[v, .int .i64 t] w fun e w' => e = .returned (.int .i64 (c.thrW t + 2)) ∧ Below w.heap.size w w' := by
  have HV := Lib.hid h
  obtain ⟨vc, vs, rfl, h1, h2⟩ := h
  obtain ⟨a, cap, rfl, -⟩ := h1.len
  obtain ⟨a2, cap2, rfl, -⟩ := h2.len
  have HB := Lib.hid (below_new (Below.refl w.heap.size w) (.cells #[.slice a c.caps.length cap, .slice a2 c.starts.length cap2, .int .i64 c.threads] 36))
  have hl := hg.len
  clear h1 h2
  have hn := hg.thr8 t h0 h8
  go_enter Try.func58, Try.ntmps58
  go_wp2_with fail
  refine (rclaimW_any _ c t h0 h8 _ (HV.out.below HB.out) hg).mono ?_; rintro e w1 ⟨rfl, hb1⟩
  have HB1 := Lib.hid (below_then HB.out hb1)
  clear hb1
  go_wp2
  go_ret
  exact ⟨ret_i64 (by omega), HB1.out⟩
set_option maxHeartbeats 1000000 in
theorem rcaseW_any (v : Value) (c : ConfM) (t : Int) (h0 : 0 ≤ t) (h8 : t ≤ 8) (w : World) (h : ConfV w v c) (hg : c.good) :
    Calls Try.prog 57 #[v, .int .i64 t] w fun e w' => e = .returned (.int .i64 (c.thrW t + 3)) ∧ Below w.heap.size w w' := by
  have HV := Lib.hid h
  obtain ⟨vc, vs, rfl, h1, h2⟩ := h
  obtain ⟨a, cap, rfl, -⟩ := h1.len
  obtain ⟨a2, cap2, rfl, -⟩ := h2.len
  have HB := Lib.hid (below_new (Below.refl w.heap.size w) (.cells #[.slice a c.caps.length cap, .slice a2 c.starts.length cap2, .int .i64 c.threads] 36))
  have hl := hg.len
  clear h1 h2
  have hn := hg.thr8 t h0 h8
  go_enter Try.func57, Try.ntmps57
  go_wp2_with fail
  refine (rclaimW_any _ c t h0 h8 _ (HV.out.below HB.out) hg).mono ?_; rintro e w1 ⟨rfl, hb1⟩
  have HB1 := Lib.hid (below_then HB.out hb1)
  clear hb1
  go_wp2
  go_ret
  exact ⟨ret_i64 (by omega), HB1.out⟩
set_option maxHeartbeats 1000000 in
theorem rvalueW_any (v : Value) (c : ConfM) (t : Int) (h0 : 0 ≤ t) (h8 : t ≤ 8) (w : World) (h : ConfV w v c) (hg : c.good) :
    Calls Try.prog 59 #[v, .int .i64 t] w fun e w' => e = .returned (.int .i64 (c.thrW t + 4)) ∧ Below w.heap.size w w' := by
  have HV := Lib.hid h
  obtain ⟨vc, vs, rfl, h1, h2⟩ := h
  obtain ⟨a, cap, rfl, -⟩ := h1.len
  obtain ⟨a2, cap2, rfl, -⟩ := h2.len
  have HB := Lib.hid (below_new (Below.refl w.heap.size w) (.cells #[.slice a c.caps.length cap, .slice a2 c.starts.length cap2, .int .i64 c.threads] 36))
  have hl := hg.len
  clear h1 h2
  have hn := hg.thr8 t h0 h8
  go_enter Try.func59, Try.ntmps59
  go_wp2_with fail
  refine (rclaimW_any _ c t h0 h8 _ (HV.out.below HB.out) hg).mono ?_; rintro e w1 ⟨rfl, hb1⟩
  have HB1 := Lib.hid (below_then HB.out hb1)
  clear hb1
  go_wp2
  go_ret
  exact ⟨ret_i64 (by omega), HB1.out⟩
set_option maxHeartbeats 1000000 in
theorem rwords_any (v : Value) (c : ConfM) (w : World) (h : ConfV w v c) (hg : c.good) :
    Calls Try.prog 43 #[v] w fun e w' => e = .returned (.int .i64 (c.thrW c.threads)) ∧ Below w.heap.size w w' := by
  have HV := Lib.hid h
  obtain ⟨vc, vs, rfl, h1, h2⟩ := h
  obtain ⟨a, cap, rfl, -⟩ := h1.len
  obtain ⟨a2, cap2, rfl, -⟩ := h2.len
  have HB := Lib.hid (below_new (Below.refl w.heap.size w) (.cells #[.slice a c.caps.length cap, .slice a2 c.starts.length cap2, .int .i64 c.threads] 36))
  have hl := hg.len
  clear h1 h2
  have hn := hg.thr8 c.threads (by have := hg.thr; omega) hg.thr.2
  go_enter Try.func43, Try.ntmps43
  go_wp2_with fail
  refine (rclaimW_any _ c c.threads (by have := hg.thr; omega) hg.thr.2 _ (HV.out.below HB.out) hg).mono ?_; rintro e w1 ⟨rfl, hb1⟩
  have HB1 := Lib.hid (below_then HB.out hb1)
  clear hb1
  go_wp2
  go_ret
  exact ⟨rfl, HB1.out⟩
set_option maxHeartbeats 1000000 in
theorem slotBase_any (v : Value) (c : ConfM) (k : Nat) (s : Int) (hk : k < c.caps.length) (hs0 : 0 ≤ s) (hs1 : s < 18446744073709551616) (w : World) (h : ConfV w v c) (hg : c.good) :
    Calls Try.prog 86 #[v, .int .i64 k, .int .u64 s] w fun e w' => e = .returned (.int .i64 (c.slotW k s)) ∧ Below w.heap.size w w' := by
  have HV := Lib.hid h
  obtain ⟨vc, vs, rfl, h1, h2⟩ := h
  obtain ⟨a, cap, rfl, -⟩ := h1.len
  obtain ⟨a2, cap2, rfl, -⟩ := h2.len
  have HB := Lib.hid (below_new (Below.refl w.heap.size w) (.cells #[.slice a c.caps.length cap, .slice a2 c.starts.length cap2, .int .i64 c.threads] 36))
  have hl := hg.len
  clear h1 h2
  have hn := hg.base8 k (Nat.le_of_lt hk)
  have hz := hg.size k hk
  have hq := slotI_lt s (c.size k) hs0 hz.1
  have HE : Hid (c.slotW k s = c.base k + 5 + slotI s (c.size k) * 2) := rfl
  have S := Lib.hid fun w' h => slots_any (.agg #[.slice a c.caps.length cap, .slice a2 c.starts.length cap2, .int .i64 c.threads]) c k w' h hk hg
  have SL := Lib.hid fun w' => slot_any s (c.size k) w' hs0 hs1 (by omega) (by omega)
  have BA := Lib.hid fun w' h => base_any (.agg #[.slice a c.caps.length cap, .slice a2 c.starts.length cap2, .int .i64 c.threads]) c k w' h (Nat.le_of_lt hk) hg
  obtain ⟨W, hW⟩ : ∃ W, w.alloc (.cells #[.slice a c.caps.length cap, .slice a2 c.starts.length cap2, .int .i64 c.threads] 36) = W := ⟨_, rfl⟩
  rw [hW] at HB
  have R0 : Hid (W.heap[w.heap.size]? = some (.cells #[.slice a c.caps.length cap, .slice a2 c.starts.length cap2, .int .i64 c.threads] 36 (0, 0))) := hW ▸ heap_alloc_new _ _
  have hzW : w.heap.size < W.heap.size := by rw [← hW]; simp
  have HW := Lib.hid hW
  clear hW
  generalize slotI s (c.size k) = q at *
  clear hs0 hs1 hk hg
  go_enter Try.func86, Try.ntmps86
  go_upto_region 1 with fail
  rw [HW.out]
  clear HW
  obtain ⟨x0, x1, x2⟩ := rowc3 R0.out
  go_wp2_with fail
  refine (S.out _ (HV.out.below HB.out)).mono ?_; rintro e w1 ⟨rfl, hb1⟩
  have HB1 := Lib.hid (below_then HB.out hb1)
  have R1 := Lib.hid ((hb1.block w.heap.size (by omega)).trans R0.out)
  clear hb1 x0 x1 x2
  obtain ⟨x0, x1, x2⟩ := rowc3 R1.out
  go_wp2_with fail
  refine (SL.out _).mono ?_; rintro e w2 ⟨rfl, rfl⟩
  go_wp2_with fail
  refine (BA.out _ (HV.out.below HB1.out)).mono ?_; rintro e w1 ⟨rfl, hb1⟩
  have HB2 := Lib.hid (below_then HB1.out hb1)
  clear hb1
  go_wp2
  go_ret
  exact ⟨ret_i64 (by first | (rw [HE.out]; done) | (rw [HE.out]; omega)), HB2.out⟩
theorem ConfM.good.slot8 {c : ConfM} (h : c.good) (k : Nat) (s : Int) (hk : k < c.caps.length) (hs0 : 0 ≤ s) : 0 ≤ c.slotW k s ∧ c.slotW k s ≤ 400 := by
  have h1 := h.base8 k (Nat.le_of_lt hk)
  have h2 := h.size k hk
  have h3 := slotI_lt s (c.size k) hs0 h2.1
  show 0 ≤ c.base k + 5 + slotI s (c.size k) * 2 ∧ c.base k + 5 + slotI s (c.size k) * 2 ≤ 400
  omega
set_option maxHeartbeats 1000000 in
theorem slotSeqW_any (v : Value) (c : ConfM) (k : Nat) (s : Int) (hk : k < c.caps.length) (hs0 : 0 ≤ s) (hs1 : s < 18446744073709551616) (w : World) (h : ConfV w v c) (hg : c.good) :
    Calls Try.prog 83 #[v, .int .i64 k, .int .u64 s] w fun e w' => e = .returned (.int .i64 (c.slotW k s)) ∧ Below w.heap.size w w' := by
  have HV := Lib.hid h
  obtain ⟨vc, vs, rfl, h1, h2⟩ := h
  obtain ⟨a, cap, rfl, -⟩ := h1.len
  obtain ⟨a2, cap2, rfl, -⟩ := h2.len
  have HB := Lib.hid (below_new (Below.refl w.heap.size w) (.cells #[.slice a c.caps.length cap, .slice a2 c.starts.length cap2, .int .i64 c.threads] 36))
  have hl := hg.len
  clear h1 h2
  have hn := hg.slot8 k s hk hs0
  go_enter Try.func83, Try.ntmps83
  go_wp2_with fail
  refine (slotBase_any _ c k s hk hs0 hs1 _ (HV.out.below HB.out) hg).mono ?_; rintro e w1 ⟨rfl, hb1⟩
  have HB1 := Lib.hid (below_then HB.out hb1)
  clear hb1
  go_wp2
  go_ret
  exact ⟨ret_i64 (by omega), HB1.out⟩
set_option maxHeartbeats 1000000 in
theorem slotValueW_any (v : Value) (c : ConfM) (k : Nat) (s : Int) (hk : k < c.caps.length) (hs0 : 0 ≤ s) (hs1 : s < 18446744073709551616) (w : World) (h : ConfV w v c) (hg : c.good) :
    Calls Try.prog 84 #[v, .int .i64 k, .int .u64 s] w fun e w' => e = .returned (.int .i64 (c.slotW k s + 1)) ∧ Below w.heap.size w w' := by
  have HV := Lib.hid h
  obtain ⟨vc, vs, rfl, h1, h2⟩ := h
  obtain ⟨a, cap, rfl, -⟩ := h1.len
  obtain ⟨a2, cap2, rfl, -⟩ := h2.len
  have HB := Lib.hid (below_new (Below.refl w.heap.size w) (.cells #[.slice a c.caps.length cap, .slice a2 c.starts.length cap2, .int .i64 c.threads] 36))
  have hl := hg.len
  clear h1 h2
  have hn := hg.slot8 k s hk hs0
  go_enter Try.func84, Try.ntmps84
  go_wp2_with fail
  refine (slotBase_any _ c k s hk hs0 hs1 _ (HV.out.below HB.out) hg).mono ?_; rintro e w1 ⟨rfl, hb1⟩
  have HB1 := Lib.hid (below_then HB.out hb1)
  clear hb1
  go_wp2
  go_ret
  exact ⟨ret_i64 (by omega), HB1.out⟩
set_option maxHeartbeats 1000000 in
theorem rslotSeqW_any (v : Value) (c : ConfM) (k : Nat) (s : Int) (hk : k < c.caps.length) (hs0 : 0 ≤ s) (hs1 : s < 18446744073709551616) (w : World) (h : ConfV w v c) (hg : c.good) :
    Calls Try.prog 49 #[v, .int .i64 k, .int .u64 s] w fun e w' => e = .returned (.int .i64 (c.slotW k s)) ∧ Below w.heap.size w w' := by
  have HV := Lib.hid h
  obtain ⟨vc, vs, rfl, h1, h2⟩ := h
  obtain ⟨a, cap, rfl, -⟩ := h1.len
  obtain ⟨a2, cap2, rfl, -⟩ := h2.len
  have HB := Lib.hid (below_new (Below.refl w.heap.size w) (.cells #[.slice a c.caps.length cap, .slice a2 c.starts.length cap2, .int .i64 c.threads] 36))
  have hl := hg.len
  clear h1 h2
  have hn := hg.base8 k (Nat.le_of_lt hk)
  have hz := hg.size k hk
  have hq := slotI_lt s (c.size k) hs0 hz.1
  have HE : Hid (c.slotW k s = c.base k + 5 + slotI s (c.size k) * 2) := rfl
  have S := Lib.hid fun w' h => rsize4_any (.agg #[.slice a c.caps.length cap, .slice a2 c.starts.length cap2, .int .i64 c.threads]) c k w' h hk hg
  have SL := Lib.hid fun w' => rslot_any s (c.size k) w' hs0 hs1 (by omega) (by omega)
  have BA := Lib.hid fun w' h => rtail_any (.agg #[.slice a c.caps.length cap, .slice a2 c.starts.length cap2, .int .i64 c.threads]) c k w' h (Nat.le_of_lt hk) hg
  obtain ⟨W, hW⟩ : ∃ W, w.alloc (.cells #[.slice a c.caps.length cap, .slice a2 c.starts.length cap2, .int .i64 c.threads] 36) = W := ⟨_, rfl⟩
  rw [hW] at HB
  have R0 : Hid (W.heap[w.heap.size]? = some (.cells #[.slice a c.caps.length cap, .slice a2 c.starts.length cap2, .int .i64 c.threads] 36 (0, 0))) := hW ▸ heap_alloc_new _ _
  have hzW : w.heap.size < W.heap.size := by rw [← hW]; simp
  have HW := Lib.hid hW
  clear hW
  generalize hqq : slotI s (c.size k) = q at *
  clear hs0 hs1 hk hg hqq
  go_enter Try.func49, Try.ntmps49
  go_upto_region 1 with fail
  rw [HW.out]
  clear HW
  obtain ⟨x0, x1, x2⟩ := rowc3 R0.out
  have X0 := ext_cell _ 0 hzW _ x0
  have X1 := ext_cell _ 1 hzW _ x1
  have X2 := ext_cell _ 2 hzW _ x2
  have CX0 := Lib.hid X0
  clear x0 x1 x2
  refine wp_region_ext W (by kernel_rfl) (by kernel_rfl) (Below.refl _ _) ?_
  repeat (go_big_quiet_step (first
    | (go_at_call 45; with_reducible exact calls_ext (BA.out _ (HV.out.below (HB.out.trans (Below.mono (Ext.below _) (Nat.le_of_lt hzW))))))
    | (go_at_call 47; with_reducible exact calls_ext (S.out _ (HV.out.below (HB.out.trans (Below.mono (Ext.below _) (Nat.le_of_lt hzW))))))
    | (go_at_call 70; with_reducible exact calls_ext ((SL.out _).mono fun _ _ h => ⟨h.1, h.2 ▸ Below.refl _ _⟩))))
  refine wpQuiet_nil ?_
  intro _ hw'
  obtain ⟨w2, rfl⟩ := hw'
  have HB2 := Lib.hid (HB.out.trans (w2.below.mono (Nat.le_of_lt hzW)))
  generalize w2.wd = w3 at *
  go_wp2
  go_ret
  exact ⟨ret_i64 (by first | (rw [HE.out]; done) | (rw [HE.out]; omega)), HB2.out⟩
set_option maxHeartbeats 1000000 in
theorem rslotValueW_any (v : Value) (c : ConfM) (k : Nat) (s : Int) (hk : k < c.caps.length) (hs0 : 0 ≤ s) (hs1 : s < 18446744073709551616) (w : World) (h : ConfV w v c) (hg : c.good) :
    Calls Try.prog 55 #[v, .int .i64 k, .int .u64 s] w fun e w' => e = .returned (.int .i64 (c.slotW k s + 1)) ∧ Below w.heap.size w w' := by
  have HV := Lib.hid h
  obtain ⟨vc, vs, rfl, h1, h2⟩ := h
  obtain ⟨a, cap, rfl, -⟩ := h1.len
  obtain ⟨a2, cap2, rfl, -⟩ := h2.len
  have HB := Lib.hid (below_new (Below.refl w.heap.size w) (.cells #[.slice a c.caps.length cap, .slice a2 c.starts.length cap2, .int .i64 c.threads] 36))
  have hl := hg.len
  clear h1 h2
  have hn := hg.slot8 k s hk hs0
  go_enter Try.func55, Try.ntmps55
  go_wp2_with fail
  refine (rslotSeqW_any _ c k s hk hs0 hs1 _ (HV.out.below HB.out) hg).mono ?_; rintro e w1 ⟨rfl, hb1⟩
  have HB1 := Lib.hid (below_then HB.out hb1)
  clear hb1
  go_wp2
  go_ret
  exact ⟨ret_i64 (by omega), HB1.out⟩
end Go.Proofs.Ytmkngpjjimalhaa
