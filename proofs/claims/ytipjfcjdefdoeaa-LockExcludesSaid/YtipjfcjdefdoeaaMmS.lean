/- Two memories, two answers that read the same are the same by the document. -/
import Derived.Test.YtipjfcjdefdoeaaMmA
import Derived.Test.YtipjfcjdefdoeaaReads
namespace Go.Proofs.Ytipjfcjdefdoeaa
open Go.ChangeShapes Go.WideShapes Go.ChangeAt Go.RowKit
set_option maxRecDepth 100000

theorem sameWords_any (u v : Value) (l m : List Int) (w : World) (hl : SlI w .u64 u l) (hm : SlI w .u64 v m) :
    Calls Try.prog 41 #[u, v] w fun e w' => ∃ n, e = .returned (.bool (decide (l = m))) ∧ w.drewN n = w' := by
  have hmx := hl.1
  have hmx2 := hm.1
  obtain ⟨_, _, a, cap, rfl, h4, h5⟩ := hl
  obtain ⟨_, _, a', cap', rfl, h4', h5'⟩ := hm
  clear h4 h4'
  by_cases hll : l.length = m.length
  · have hq : ((l.length : Int) != (m.length : Int)) = false := by simp [hll]
    have HL := Lib.hid hll
    have HS := Lib.hid (ext_same l m hll)
    clear hll
    go_enter Try.func41, Try.ntmps41
    go_wp2
    go_loopw [5] (fun c wr => ∃ k n : Nat, k ≤ l.length ∧ c = .int .i64 k ∧ wr = w.drewN n ∧ Hid (∀ j, j < k → l.getD j 0 = m.getD j 0)) (fun c _ => l.length - (intOf c).toNat)
    case atStart => exact ⟨0, 0, by omega, rfl, rfl, fun j hj => by omega⟩
    case round =>
      obtain ⟨k, n, hk, rfl, rfl, hno⟩ := hrel
      by_cases hlt : k < l.length
      · obtain ⟨b, off, rfl, _, hc⟩ := h5 k hlt
        obtain ⟨b', off', rfl, _, hc'⟩ := h5' k (by rw [← HL.out]; exact hlt)
        have hlt' : k < m.length := by rw [← HL.out]; exact hlt
        have H5 := Lib.hid h5
        have H5' := Lib.hid h5'
        clear h5 h5'
        generalize hy : l.getD k 0 = y at hc
        generalize hz : m.getD k 0 = z at hc'
        have Hy := Lib.hid hy
        have Hz := Lib.hid hz
        clear hy hz
        by_cases hyx : y = z
        · subst hyx
          go_wp2
          go_quiet (fail)
          go_wp2
          go_roundw
          case rel => exact ⟨k + 1, n + nq, by omega, by go_num, rfl, fun j hj => by
            by_cases e : j = k
            · rw [e, Hy.out, Hz.out]
            · exact hno.out j (by omega)⟩
          case measure => simp [intOf]; omega
        · have hq2 : (y == z) = false := by simpa using hyx
          go_wp2
          go_quiet (fail)
          go_wp2
          go_ret
          exact ⟨n + nq, ret_bool (by symm; apply decide_eq_false; intro e; apply hyx; rw [← Hy.out, ← Hz.out, e]), (World.drewN_drewN w n nq).symm⟩
      · have e : k = l.length := by omega
        have E := Lib.hid e
        clear e
        go_wp2
        go_ret
        exact ⟨n, ret_bool (by symm; exact decide_eq_true (HS.out fun j hj => hno.out j (by rw [E.out]; exact hj))), rfl⟩
  · have hq : ((l.length : Int) != (m.length : Int)) = true := by simpa using fun h => hll (by omega)
    have hr := Lib.hid (show decide (l = m) = false from decide_eq_false (by rintro rfl; exact hll rfl))
    clear hll
    go_enter Try.func41, Try.ntmps41
    go_wp2
    go_ret
    exact ⟨0, by rw [hr.out]; rfl, rfl⟩
theorem same_quiet (u v : Value) (l : List Int) (w : World) (n : Nat) (hl : SlI w .i64 u l) (hm : SlI w .i64 v l) :
    Calls Try.prog 42 #[u, v] (w.drewN n) fun e w' => e = .returned (.bool true) ∧ ∃ m, w' = w.drewN m := by
  refine Calls.quiet_of ?_
  refine (same_any u v l l _ (hl.drew n) (hm.drew n)).mono ?_
  rintro e w' ⟨m, rfl, rfl⟩
  exact ⟨by rw [show decide (l = l) = true from decide_eq_true rfl], m, rfl⟩
set_option maxHeartbeats 2000000 in
theorem sameMem_true (v u : Value) (m : MemM) (w : World) (h : MemV w v m) (h' : MemV w u m) :
    Calls Try.prog 15 #[v, u] w fun e w' => e = .returned (.bool true) ∧ Below w.heap.size w w' := by
  obtain ⟨vw, vl, us, rfl, h1, h2⟩ := h
  obtain ⟨vw', vl', us', rfl, h1', h2'⟩ := h'
  have hl1 := h1.1
  have hl2 := h2.1
  obtain ⟨a, cap, rfl, -⟩ := h1.len
  obtain ⟨a2, cap2, rfl, -⟩ := h2.len
  obtain ⟨a', cap', rfl, -⟩ := h1'.len
  obtain ⟨a2', cap2', rfl, -⟩ := h2'.len
  obtain ⟨W, hW⟩ : ∃ W, (w.alloc (.cells #[.slice a m.words.length cap, .slice a2 m.lists.length cap2, .int .i64 m.tick] 29)).alloc (.cells #[.slice a' m.words.length cap', .slice a2' m.lists.length cap2', .int .i64 m.tick] 29) = W := ⟨_, rfl⟩
  have HB : Hid (Below w.heap.size w W) := hW ▸ below_new (below_new (Below.refl w.heap.size w) _) _
  have R0 : Hid (W.heap[w.heap.size]? = some (.cells #[.slice a m.words.length cap, .slice a2 m.lists.length cap2, .int .i64 m.tick] 29 (0, 0))) := hW ▸ heap_alloc2_old _ _ _
  have R1 : Hid (W.heap[w.heap.size + 1]? = some (.cells #[.slice a' m.words.length cap', .slice a2' m.lists.length cap2', .int .i64 m.tick] 29 (0, 0))) := hW ▸ heap_alloc2_new _ _ _
  have H1 := Lib.hid (h1.below HB.out)
  have H1' := Lib.hid (h1'.below HB.out)
  have H2 := Lib.hid (h2.below HB.out)
  have H2' := Lib.hid (h2'.below HB.out)
  have HW := Lib.hid hW
  clear h1 h1' h2 h2' hW
  obtain ⟨x0, x1, x2⟩ := rowc3 R0.out
  obtain ⟨y0, y1, y2⟩ := rowc3 R1.out
  have SW := Lib.hid (sameWords_any _ _ m.words m.words _ H1.out H1'.out)
  rw [show decide (m.words = m.words) = true from decide_eq_true rfl] at SW
  generalize hn1 : m.words.length = n1 at *
  generalize hn2 : m.lists.length = n2 at *
  have HN2 := Lib.hid hn2
  clear hn1 hn2
  go_enter Try.func15, Try.ntmps15
  go_upto_region 1 with fail
  rw [HW.out]
  clear HW
  go_wp2_with fail
  refine SW.out.mono ?_; rintro e w2 ⟨q1, rfl, rfl⟩
  clear SW
  go_wp2_with fail
  go_loopw [5] (fun c wr => ∃ k : Nat, k ≤ n2 ∧ c = .int .i64 k ∧ Hid (∃ n, wr = W.drewN n)) (fun c _ => n2 - (intOf c).toNat)
  case atStart => exact ⟨0, by omega, rfl, ⟨q1, rfl⟩⟩
  case round =>
    obtain ⟨k, hk, rfl, hw⟩ := hrel
    obtain ⟨wo, rfl⟩ : ∃ wo : World, wo = wr := ⟨_, rfl⟩
    obtain ⟨n, hn⟩ := hw.out
    have X1 : wo.cell? ⟨w.heap.size, 1, none⟩ = some (.slice a2 n2 cap2) := by rw [hn]; exact x1
    have Y1 : wo.cell? ⟨w.heap.size + 1, 1, none⟩ = some (.slice a2' n2 cap2') := by rw [hn]; exact y1
    by_cases hlt : k < n2
    · obtain ⟨_, _, b, c, e, _, h5⟩ := H2.out
      obtain ⟨b0, o0, rfl, _, z0, hu0⟩ := h5 k (by rw [HN2.out]; exact hlt)
      simp only [Value.slice.injEq] at e
      obtain ⟨rfl, -, rfl⟩ := e
      obtain ⟨_, _, b, c, e, _, h6⟩ := H2'.out
      obtain ⟨b1, o1, rfl, _, z1, hu1⟩ := h6 k (by rw [HN2.out]; exact hlt)
      simp only [Value.slice.injEq] at e
      obtain ⟨rfl, -, rfl⟩ := e
      have Z0 : wo.cell? ⟨b0, o0 + k, none⟩ = some (us.getD k (.slice none 0 0)) := by rw [hn]; exact z0
      have Z1 : wo.cell? ⟨b1, o1 + k, none⟩ = some (us'.getD k (.slice none 0 0)) := by rw [hn]; exact z1
      have SQ : Hid (∀ q, Calls Try.prog 42 #[us.getD k (.slice none 0 0), us'.getD k (.slice none 0 0)] (wo.drewN q) fun e w' => e = .returned (.bool true) ∧ ∃ m, w' = wo.drewN m) := fun q => same_quiet _ _ _ wo q (by rw [hn]; exact hu0.drew n) (by rw [hn]; exact hu1.drew n)
      clear h5 h6 hu0 hu1 z0 z1 x0 x1 x2 y0 y1 y2 hn
      have hltI : (k : Int) < n2 := by omega
      generalize us.getD k (.slice none 0 0) = g0 at *
      generalize us'.getD k (.slice none 0 0) = g1 at *
      go_upto_region 6 with fail
      go_quiet ((go_at_call 42; exact SQ.out _))
      go_wp2
      go_roundw
      case rel => exact ⟨k + 1, by omega, by go_num, by obtain ⟨n, rfl⟩ := hw.out; exact ⟨n + nq, World.drewN_drewN W n nq⟩⟩
      case measure => simp [intOf]; omega
    · have HE : Hid (Below w.heap.size w wo) := hn ▸ below_drewN HB.out n
      clear hn
      go_wp2
      go_ret
      exact ⟨rfl, HE.out⟩
end Go.Proofs.Ytipjfcjdefdoeaa
