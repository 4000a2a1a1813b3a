/- Begin: a world without machines. -/
import Derived.Test.YtipjfcjdefdoeaaMachR
import Derived.Test.YtipjfcjdefdoeaaLyR
namespace Go.Proofs.Ytipjfcjdefdoeaa
open Go.ChangeShapes Go.WideShapes Go.ChangeAt Go.RowKit
set_option maxRecDepth 100000

set_option maxRecDepth 100000 in
set_option maxHeartbeats 16000000 in
theorem begin_any (a a2 : Option Addr) (cap cap2 : Nat) (c : ConfM) (w : World) (hv : ConfV w (.agg #[.slice a c.caps.length cap, .slice a2 c.starts.length cap2, .int .i64 c.threads]) c) (hg : c.good) : Calls Try.prog 19 #[.agg #[.slice a c.caps.length cap, .slice a2 c.starts.length cap2, .int .i64 c.threads]] w fun e w' => ∃ (m1 : Option Addr) (n1 : Nat) (m2 : Option Addr) (n2 : Nat), e = .returned (.agg #[.slice a c.caps.length cap, .slice a2 c.starts.length cap2, .int .i64 c.threads, .slice m1 (newE c).words.length n1, .slice m2 (newE c).lists.length n2, .int .i64 (newE c).tick, .slice none 0 0, .slice none 0 0, .slice none 0 0]) ∧ Hid (StM (NewPart w w') (.agg #[.slice m1 (newE c).words.length n1, .slice m2 (newE c).lists.length n2, .int .i64 (newE c).tick]) (newE c)) ∧ Hid (Below w.heap.size w w') := by
  have HV := Lib.hid hv
  obtain ⟨W, hW, HB, R0, R1, hz⟩ := two_new w (.cells #[.slice a c.caps.length cap, .slice a2 c.starts.length cap2, .int .i64 c.threads] 52) (.cells #[.slice none 0 0, .slice none 0 0, .int .i64 0, .slice none 0 0, .slice none 0 0, .int .i64 0, .slice none 0 0, .slice none 0 0, .slice none 0 0] 56)
  have HW := Lib.hid hW
  clear hW hv
  go_enter Try.func19, Try.ntmps19
  go_upto_region 1 with fail
  rw [HW.out]
  clear HW
  obtain ⟨x0, x1, x2⟩ := rowc3 R0.out
  go_wp2_with fail
  refine (newR_st _ c _ (HV.out.below HB.out) (fun x hx => (hg.starts x hx).1)).mono ?_; rintro e w1 ⟨v1, rfl, hm, hb1⟩
  have HM := Lib.hid hm
  have HB1 := Lib.hid hb1
  obtain ⟨m1, n1, m2, n2, rfl⟩ : ∃ A k A2 k2, v1 = .agg #[.slice A (newE c).words.length k, .slice A2 (newE c).lists.length k2, .int .i64 (newE c).tick] := hm.open w1 ⟨Nat.le_refl _, fun _ _ _ => rfl⟩
  clear hm hb1 x0 x1 x2
  obtain ⟨W2, hW2⟩ : ∃ W2, (w1.alloc (.cells #[.slice none 0 0, .slice none 0 0, .int .i64 0] 29)).setRow w1.heap.size #[.slice m1 (newE c).words.length n1, .slice m2 (newE c).lists.length n2, .int .i64 (newE c).tick] = W2 := ⟨_, rfl⟩
  have N2 : Hid ((w1.alloc (.cells #[.slice none 0 0, .slice none 0 0, .int .i64 0] 29)).heap[w1.heap.size]? = some (.cells #[.slice none 0 0, .slice none 0 0, .int .i64 0] 29 (0, 0))) := heap_alloc_new _ _
  have HB2 : Hid (Below w1.heap.size w1 W2) := hW2 ▸ row_below (below_new (Below.refl _ _) _) (Nat.le_refl _) _
  have R2 : Hid (W2.heap[w1.heap.size]? = some (.cells #[.slice m1 (newE c).words.length n1, .slice m2 (newE c).lists.length n2, .int .i64 (newE c).tick] 29 (0, 0))) := hW2 ▸ setRow_heap _ _ _ _ _ (0, 0) N2.out
  have HW2 := Lib.hid hW2
  clear hW2
  go_upto_region 2 with (refine wpList_store_row rfl 29 _ _ rfl (w1.heap.size) _ rfl rfl 29 #[.slice none 0 0, .slice none 0 0, .int .i64 0] N2.out (by kernel_rfl) rfl (by simp [Value.oneCell']) ?_)
  rw [HW2.out]
  try simp only [Act.put]
  clear HW2 N2
  obtain ⟨P, hP⟩ : ∃ P, w1.heap.size = P := ⟨_, rfl⟩
  rw [hP] at R2
  rw [hP]
  clear hP

  have HB12 := Lib.hid (below_then HB1.out HB2.out)
  have R0' := Lib.hid ((HB12.out.block w.heap.size (by omega)).trans R0.out)
  have R1' := Lib.hid ((HB12.out.block (w.heap.size + 1) (by omega)).trans R1.out)
  have hW2 := HB12.out.size
  have h12 := HB2.out.size
  have h01 := HB1.out.size
  obtain ⟨x0, x1, x2⟩ := rowc3 R0'.out
  obtain ⟨y0, y1, y2⟩ := rowc3 R2.out
  go_wp2_with (refine wpList_store_row rfl 56 _ _ rfl (w.heap.size + 1) _ rfl rfl 56 #[.slice none 0 0, .slice none 0 0, .int .i64 0, .slice none 0 0, .slice none 0 0, .int .i64 0, .slice none 0 0, .slice none 0 0, .slice none 0 0] R1'.out (by kernel_rfl) rfl (by simp [Value.oneCell']) ?_)
  refine bodyPost_ret (v := .agg #[.slice a c.caps.length cap, .slice a2 c.starts.length cap2, .int .i64 c.threads, .slice m1 (newE c).words.length n1, .slice m2 (newE c).lists.length n2, .int .i64 (newE c).tick, .slice none 0 0, .slice none 0 0, .slice none 0 0]) (results_cell_row Try.results19 _ _ (w.heap.size + 1) 56 _ (0, 0) _ rfl (setRow_heap _ _ _ _ 56 (0, 0) R1'.out) Try.underlying56 rfl (by kernel_rfl)) rfl ?_
  exact ⟨m1, n1, m2, n2, rfl, Lib.hid (HM.out.sub fun w9 h9 => ⟨Nat.le_trans (by simp [World.setRow]; omega) h9.size, fun j hj hj2 => (h9.same j (by omega) (by simp [World.setRow]; omega)).trans ((setRow_other _ _ _ _ (by omega)).trans (HB2.out.block j hj2))⟩), Lib.hid (row_below (below_then HB.out HB12.out) (by omega) _)⟩
end Go.Proofs.Ytipjfcjdefdoeaa
