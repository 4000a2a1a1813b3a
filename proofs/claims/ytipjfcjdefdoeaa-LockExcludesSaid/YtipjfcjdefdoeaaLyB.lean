/- Where everything lies: what package layout and the document's answers for chapter 5 return. -/
import Derived.Test.YtipjfcjdefdoeaaLyP
import Derived.Test.YtipjfcjdefdoeaaStill
import Derived.Test.YtipjfcjdefdoeaaMm
import Derived.LoopTactic
namespace Go.Proofs.Ytipjfcjdefdoeaa
open Go.ChangeShapes Go.WideShapes Go.ChangeAt Go.RowKit
set_option maxRecDepth 100000

theorem SlI.cellAt {w : World} {k : IntKind} {a : Option Addr} {n cap : Nat} {l : List Int} (h : SlI w k (.slice a n cap) l) (t : Nat) (ht : t < l.length) :
    ∃ b off, a = some ⟨b, off, none⟩ ∧ b < w.heap.size ∧ w.cell? ⟨b, off + t, none⟩ = some (.int k (l.getD t 0)) := by
  obtain ⟨_, _, a', cap', e, _, h5⟩ := h
  simp only [Value.slice.injEq] at e
  obtain ⟨rfl, _, _⟩ := e
  exact h5 t ht
theorem slots_any (v : Value) (c : ConfM) (k : Nat) (w : World) (h : ConfV w v c) (hk : k < c.caps.length) (hg : c.good) :
    Calls Try.prog 76 #[v, .int .i64 k] w fun e w' => e = .returned (.int .i64 (c.size k)) ∧ Below w.heap.size w w' := by
  have HV := Lib.hid h
  obtain ⟨vc, vs, rfl, h1, h2⟩ := h
  obtain ⟨a, cap, rfl, -⟩ := h1.len
  obtain ⟨a2, cap2, rfl, -⟩ := h2.len
  have hl := hg.len
  have HB := Lib.hid (below_new (Below.refl w.heap.size w) (.cells #[.slice a c.caps.length cap, .slice a2 c.starts.length cap2, .int .i64 c.threads] 52))
  have T := Lib.hid fun w' => size_any (c.caps.getD k 0) w' (by have := hg.cap k hk; omega) (by have := hg.cap k hk; omega)
  obtain ⟨b, off, rfl, hb, hcell⟩ := h1.cellAt k hk
  have hcell : (w.alloc (.cells #[.slice (some ⟨b, off, none⟩) c.caps.length cap, .slice a2 c.starts.length cap2, .int .i64 c.threads] 52)).cell? ⟨b, off + k, none⟩ = some (.int .i64 (c.caps.getD k 0)) := (HB.out.cell (p := ⟨b, off + k, none⟩) hb).trans hcell
  have hsz : Hid (c.size k = sizeI (c.caps.getD k 0)) := rfl
  clear h1 h2
  generalize c.caps.length = n at *
  generalize c.caps.getD k 0 = x at *
  go_enter Try.func76, Try.ntmps76
  go_wp2_with fail
  refine (T.out _).mono ?_; rintro e w1 ⟨rfl, rfl⟩
  go_wp2
  go_ret
  exact ⟨ret_i64 hsz.out.symm, HB.out⟩
theorem rsize4_any (v : Value) (c : ConfM) (k : Nat) (w : World) (h : ConfV w v c) (hk : k < c.caps.length) (hg : c.good) :
    Calls Try.prog 59 #[v, .int .i64 k] w fun e w' => e = .returned (.int .i64 (c.size k)) ∧ Below w.heap.size w w' := by
  have HV := Lib.hid h
  obtain ⟨vc, vs, rfl, h1, h2⟩ := h
  obtain ⟨a, cap, rfl, -⟩ := h1.len
  obtain ⟨a2, cap2, rfl, -⟩ := h2.len
  have hl := hg.len
  have HB := Lib.hid (below_new (Below.refl w.heap.size w) (.cells #[.slice a c.caps.length cap, .slice a2 c.starts.length cap2, .int .i64 c.threads] 52))
  have T := Lib.hid fun w' => rsize_any (c.caps.getD k 0) w' (by have := hg.cap k hk; omega) (by have := hg.cap k hk; omega)
  obtain ⟨b, off, rfl, hb, hcell⟩ := h1.cellAt k hk
  have hcell : (w.alloc (.cells #[.slice (some ⟨b, off, none⟩) c.caps.length cap, .slice a2 c.starts.length cap2, .int .i64 c.threads] 52)).cell? ⟨b, off + k, none⟩ = some (.int .i64 (c.caps.getD k 0)) := (HB.out.cell (p := ⟨b, off + k, none⟩) hb).trans hcell
  have hsz : Hid (c.size k = sizeI (c.caps.getD k 0)) := rfl
  clear h1 h2
  generalize c.caps.length = n at *
  generalize c.caps.getD k 0 = x at *
  go_enter Try.func59, Try.ntmps59
  go_wp2_with fail
  refine (T.out _).mono ?_; rintro e w1 ⟨rfl, rfl⟩
  go_wp2
  go_ret
  exact ⟨ret_i64 hsz.out.symm, HB.out⟩
set_option maxHeartbeats 1000000 in
theorem base_any (v : Value) (c : ConfM) (k : Nat) (w : World) (h : ConfV w v c) (hk : k ≤ c.caps.length) (hg : c.good) :
    Calls Try.prog 62 #[v, .int .i64 k] w fun e w' => e = .returned (.int .i64 (c.base k)) ∧ Below w.heap.size w w' := by
  have HV := Lib.hid h
  obtain ⟨vc, vs, rfl, h1, h2⟩ := h
  obtain ⟨a, cap, rfl, -⟩ := h1.len
  obtain ⟨a2, cap2, rfl, -⟩ := h2.len
  have hl := hg.len
  have HB := Lib.hid (below_new (Below.refl w.heap.size w) (.cells #[.slice a c.caps.length cap, .slice a2 c.starts.length cap2, .int .i64 c.threads] 52))
  have T := Lib.hid fun j (w' : World) h hj => slots_any (.agg #[.slice a c.caps.length cap, .slice a2 c.starts.length cap2, .int .i64 c.threads]) c j w' h hj hg
  have HN := Lib.hid fun j hj => hg.base8 j hj
  have HZ := Lib.hid fun j hj => hg.size j hj
  have HK := Lib.hid hk
  have hk8 : k ≤ 8 := by omega
  obtain ⟨W, hW⟩ : ∃ W, w.alloc (.cells #[.slice a c.caps.length cap, .slice a2 c.starts.length cap2, .int .i64 c.threads] 52) = W := ⟨_, rfl⟩
  rw [hW] at HB
  have R0 : Hid (W.heap[w.heap.size]? = some (.cells #[.slice a c.caps.length cap, .slice a2 c.starts.length cap2, .int .i64 c.threads] 52 (0, 0))) := hW ▸ heap_alloc_new _ _
  have hzW : w.heap.size + 1 = W.heap.size := by rw [← hW]; simp
  have HW := Lib.hid hW
  have hcl : (c.caps.length : Int) ≤ 8 := by omega
  clear h1 h2 hg hW
  go_enter Try.func62, Try.ntmps62
  go_upto_region 1 with fail
  rw [HW.out]
  clear HW
  obtain ⟨x0, x1, x2⟩ := rowc3 R0.out
  go_wp2_with fail
  go_loopw [5, 12] (fun s i wr => ∃ j : Nat, j ≤ k ∧ s = .int .i64 (c.base j) ∧ i = .int .i64 j ∧ Hid (Below W.heap.size W wr)) (fun _ i _ => 9 - (intOf i).toNat)
  case atStart => exact ⟨0, by omega, rfl, rfl, Below.refl _ _⟩
  case round =>
    obtain ⟨j, hj, rfl, rfl, hb⟩ := hrel
    obtain ⟨wo, rfl⟩ : ∃ wo : World, wo = wr := ⟨_, rfl⟩
    have SB := Lib.hid ((hb.out.block w.heap.size (by omega)).trans R0.out)
    have hn := HN.out j (by have := HK.out; omega)
    clear x0 x1 x2
    obtain ⟨x0, x1, x2⟩ := rowc3 SB.out
    by_cases hlt : j < k
    · have hz := HZ.out j (by have := HK.out; omega)
      have hjn := Lib.hid (show j < c.caps.length by have := HK.out; omega)
      have HBS : Hid (c.base (j + 1) = c.base j + (5 + c.size j * 2)) := rfl
      go_wp2_with fail
      refine (T.out j _ ((HV.out.below HB.out).below hb.out) hjn.out).mono ?_; rintro e w1 ⟨rfl, hb1⟩
      have hb2 := Lib.hid (below_then hb.out hb1)
      clear hb1 hb
      go_wp2
      go_roundw
      case rel => exact ⟨j + 1, by omega, by (first | (rw [HBS.out]; done) | (rw [HBS.out]; exact congrArg (Value.int .i64) (by omega))), by go_num, hb2⟩
      case measure => simp [intOf]; omega
    · obtain rfl : j = k := by omega
      go_wp2
      go_ret
      exact ⟨rfl, below_then HB.out hb.out⟩
set_option maxHeartbeats 1000000 in
theorem rtail_any (v : Value) (c : ConfM) (k : Nat) (w : World) (h : ConfV w v c) (hk : k ≤ c.caps.length) (hg : c.good) :
    Calls Try.prog 57 #[v, .int .i64 k] w fun e w' => e = .returned (.int .i64 (c.base k)) ∧ Below w.heap.size w w' := by
  have HV := Lib.hid h
  obtain ⟨vc, vs, rfl, h1, h2⟩ := h
  obtain ⟨a, cap, rfl, -⟩ := h1.len
  obtain ⟨a2, cap2, rfl, -⟩ := h2.len
  have hl := hg.len
  have HB := Lib.hid (below_new (Below.refl w.heap.size w) (.cells #[.slice a c.caps.length cap, .slice a2 c.starts.length cap2, .int .i64 c.threads] 52))
  have T := Lib.hid fun j (w' : World) h hj => rsize4_any (.agg #[.slice a c.caps.length cap, .slice a2 c.starts.length cap2, .int .i64 c.threads]) c j w' h hj hg
  have HN := Lib.hid fun j hj => hg.base8 j hj
  have HZ := Lib.hid fun j hj => hg.size j hj
  have HK := Lib.hid hk
  have hk8 : k ≤ 8 := by omega
  obtain ⟨W, hW⟩ : ∃ W, w.alloc (.cells #[.slice a c.caps.length cap, .slice a2 c.starts.length cap2, .int .i64 c.threads] 52) = W := ⟨_, rfl⟩
  rw [hW] at HB
  have R0 : Hid (W.heap[w.heap.size]? = some (.cells #[.slice a c.caps.length cap, .slice a2 c.starts.length cap2, .int .i64 c.threads] 52 (0, 0))) := hW ▸ heap_alloc_new _ _
  have hzW : w.heap.size + 1 = W.heap.size := by rw [← hW]; simp
  have HW := Lib.hid hW
  have hcl : (c.caps.length : Int) ≤ 8 := by omega
  clear h1 h2 hg hW
  go_enter Try.func57, Try.ntmps57
  go_upto_region 1 with fail
  rw [HW.out]
  clear HW
  obtain ⟨x0, x1, x2⟩ := rowc3 R0.out
  go_wp2_with fail
  go_loopw [5, 6] (fun s i wr => ∃ j : Nat, j ≤ k ∧ s = .int .i64 (c.base j) ∧ i = .int .i64 j ∧ Hid (Below W.heap.size W wr)) (fun _ i _ => 9 - (intOf i).toNat)
  case atStart => exact ⟨0, by omega, rfl, rfl, Below.refl _ _⟩
  case round =>
    obtain ⟨j, hj, rfl, rfl, hb⟩ := hrel
    obtain ⟨wo, rfl⟩ : ∃ wo : World, wo = wr := ⟨_, rfl⟩
    have SB := Lib.hid ((hb.out.block w.heap.size (by omega)).trans R0.out)
    have hn := HN.out j (by have := HK.out; omega)
    clear x0 x1 x2
    obtain ⟨x0, x1, x2⟩ := rowc3 SB.out
    by_cases hlt : j < k
    · have hz := HZ.out j (by have := HK.out; omega)
      have hjn := Lib.hid (show j < c.caps.length by have := HK.out; omega)
      have HBS : Hid (c.base (j + 1) = c.base j + (5 + c.size j * 2)) := rfl
      go_wp2_with fail
      refine (T.out j _ ((HV.out.below HB.out).below hb.out) hjn.out).mono ?_; rintro e w1 ⟨rfl, hb1⟩
      have hb2 := Lib.hid (below_then hb.out hb1)
      clear hb1 hb
      go_wp2
      go_roundw
      case rel => exact ⟨j + 1, by omega, by (first | (rw [HBS.out]; done) | (rw [HBS.out]; exact congrArg (Value.int .i64) (by omega))), by go_num, hb2⟩
      case measure => simp [intOf]; omega
    · obtain rfl : j = k := by omega
      go_wp2
      go_ret
      exact ⟨rfl, below_then HB.out hb.out⟩
end Go.Proofs.Ytipjfcjdefdoeaa
