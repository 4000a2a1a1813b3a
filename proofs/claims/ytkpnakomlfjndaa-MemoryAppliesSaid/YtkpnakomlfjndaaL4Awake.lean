/- Layer 4: the chapter's example. -/
import Derived.Test.YtkpnakomlfjndaaMmP
namespace Go.Proofs.Ytkpnakomlfjndaa
open Go.ChangeShapes Go.WideShapes Go.ChangeAt Go.RowKit
set_option maxRecDepth 100000

def zeroAcc : Array Value := #[.int .i64 0, .int .i64 0, .int .u64 0, .int .u64 0, .int .i64 0]
def casAcc : Array Value := #[.int .i64 3, .int .i64 0, .int .u64 0, .int .u64 1, .int .i64 0]
/-- the worlds in which block b holds the word 0 -/
def HasZero (b : Nat) : World → Prop := fun w => w.heap[b]? = some (.cells #[.int .u64 0] 26 (0, 0))
theorem HasZero.wide (b : Nat) : Wide (HasZero b) := fun w1 w2 h hb => (hb.block b (Array.getElem?_eq_some_iff.1 h).1).trans h
theorem zero_mem (b : Nat) : StM (HasZero b) (.agg #[.slice (some ⟨b, 0, none⟩) 1 1, .slice none 0 0, .int .i64 0]) ⟨[0], [], 0⟩ :=
  ⟨_, _, [], rfl, fun w h => ⟨⟨by simp, by intro x hx; simp at hx; subst hx; decide, _, 1, rfl, Nat.le_refl _, fun t ht => ⟨b, 0, rfl, (Array.getElem?_eq_some_iff.1 h).1, by
    obtain rfl : t = 0 := by simp at ht; omega
    exact cell_of_row _ _ 0 _ _ _ h⟩⟩, SlL.nil w⟩⟩
theorem cas_one : applyE ⟨[0], [], 0⟩ ⟨3, 0, 0, 1, 0⟩ = (⟨[1], [], 0⟩, ⟨0, true, false, []⟩, true) := by simp [applyE, grantB, wordE, hasB]
theorem cas_two : applyE ⟨[1], [], 0⟩ ⟨3, 0, 0, 1, 0⟩ = (⟨[1], [], 0⟩, ⟨1, false, false, []⟩, true) := by simp [applyE, grantB, wordE, hasB]
theorem fits_small (x : Int) (h : x = IntKind.u64.wrap x) : MemM.fits ⟨[x], [], 0⟩ := ⟨by simp, by simp, by simp, by intro y hy; simp at hy; subst hy; exact h, (by decide : (0 : Int) = IntKind.i64.wrap 0)⟩
theorem cas_ok : AccM.ok ⟨3, 0, 0, 1, 0⟩ := ⟨by decide, by decide, by decide, by decide, by decide⟩
theorem box_new {w : World} {o : Obj} {n : Nat} (h : w.heap.size = n) : (w.alloc o).heap[n]? = some o := by subst h; exact heap_alloc_new _ _
set_option maxHeartbeats 4000000 in
theorem awake4_any (w : World) : Calls Try.prog 10 #[] w fun e w' => e = .returned (.bool true) ∧ Below w.heap.size w w' := by
  have H1 : Hid (((w.alloc (.cells #[.int .u64 0] 26)).alloc (.cells zeroMem 25)).heap[w.heap.size + 1]? = some (.cells zeroMem 25 (0, 0))) := heap_alloc2_new _ _ _
  have H2 : Hid (∀ X : World, X.heap.size = w.heap.size + 2 → (X.alloc (.cells zeroAcc 28)).heap[w.heap.size + 2]? = some (.cells zeroAcc 28 (0, 0))) := fun X h => box_new h
  obtain ⟨Wc, hWc⟩ : ∃ Wc, ((((w.alloc (.cells #[.int .u64 0] 26)).alloc (.cells zeroMem 25)).setRow (w.heap.size + 1) #[.slice (some ⟨w.heap.size, 0, none⟩) 1 1, .slice none 0 0, .int .i64 0]).alloc (.cells zeroAcc 28)).setRow (w.heap.size + 2) casAcc = Wc := ⟨_, rfl⟩
  have HWc := Lib.hid hWc
  have q1 := setRow_heap _ _ _ #[.slice (some ⟨w.heap.size, 0, none⟩) 1 1, .slice none 0 0, .int .i64 0] _ (0, 0) H1.out
  have q2 := H2.out ((((w.alloc (.cells #[.int .u64 0] 26)).alloc (.cells zeroMem 25)).setRow (w.heap.size + 1) #[.slice (some ⟨w.heap.size, 0, none⟩) 1 1, .slice none 0 0, .int .i64 0])) (by simp)
  have b1 := below_new (Below.refl _ ((((w.alloc (.cells #[.int .u64 0] 26)).alloc (.cells zeroMem 25)).setRow (w.heap.size + 1) #[.slice (some ⟨w.heap.size, 0, none⟩) 1 1, .slice none 0 0, .int .i64 0]))) (.cells zeroAcc 28)
  have RM : Hid (Wc.heap[w.heap.size + 1]? = some (.cells #[.slice (some ⟨w.heap.size, 0, none⟩) 1 1, .slice none 0 0, .int .i64 0] 25 (0, 0))) := hWc ▸ (setRow_other _ _ _ _ (by omega)).trans ((b1.block _ (by simp)).trans q1)
  have RA : Hid (Wc.heap[w.heap.size + 2]? = some (.cells casAcc 28 (0, 0))) := hWc ▸ setRow_heap _ _ _ _ _ (0, 0) q2
  have RB : Hid (HasZero w.heap.size Wc) := hWc ▸ (setRow_other _ _ _ _ (by omega)).trans ((b1.block _ (by simp; omega)).trans ((setRow_other _ _ _ _ (by omega)).trans (heap_alloc2_old _ _ _)))
  have hz : Wc.heap.size = w.heap.size + 3 := by rw [← hWc]; simp
  have HB : Hid (Below w.heap.size w Wc) := hWc ▸ row_below (below_new (row_below (below_new (below_new (Below.refl _ _) _) _) (Nat.le_succ _) _) _) (by omega) _
  have AP := Lib.hid (apply_any _ _ _ ⟨3, 0, 0, 1, 0⟩ Wc RB.out (HasZero.wide _) (zero_mem w.heap.size) (fits_small 0 (by decide)) cas_ok)
  rw [cas_one] at AP
  clear q1 q2 b1 hWc
  go_enter Try.func10, Try.ntmps10
  go_upto_region 3 with (first
    | (refine wpList_store_row rfl 25 _ _ rfl (w.heap.size + 1) _ rfl rfl 25 zeroMem H1.out (by kernel_rfl) rfl (by simp [Value.oneCell']) ?_)
    | (refine wpList_store_row rfl 28 _ _ rfl (w.heap.size + 2) _ rfl rfl 28 zeroAcc (H2.out _ (by simp)) (by kernel_rfl) rfl (by simp [Value.oneCell']) ?_))
  rw [show (#[.slice none 0 0, .slice none 0 0, .int .i64 0] : Array Value) = zeroMem from rfl, show (#[.int .i64 0, .int .i64 0, .int .u64 0, .int .u64 0, .int .i64 0] : Array Value) = zeroAcc from rfl, show (#[.int .i64 3, .int .i64 0, .int .u64 0, .int .u64 1, .int .i64 0] : Array Value) = casAcc from rfl, HWc.out]
  clear HWc H1 H2
  obtain ⟨x0, x1, x2⟩ := rowc3 RM.out
  obtain ⟨y0, y1, y2, y3, y4⟩ := rowc5 RA.out
  go_wp2_with fail
  refine AP.out.mono ?_; rintro e w1 ⟨v1, b1, rfl, hs1, ha1, hb1⟩
  obtain ⟨A5, n5, c5, A6, n6, c6, t5, rfl⟩ := hs1.shape w1 (Nx.at RB.out (HasZero.wide _) hb1)
  obtain ⟨A7, rfl, hA7⟩ := ha1
  obtain ⟨a7, c7, rfl, -⟩ := (hA7 w1 (Nx.at RB.out (HasZero.wide _) hb1)).len
  have HS1 := Lib.hid hs1
  have HB1 := Lib.hid hb1
  have hz1 := hb1.size
  have SM := Lib.hid ((hb1.block (w.heap.size + 1) (by omega)).trans RM.out)
  have SA := Lib.hid ((hb1.block (w.heap.size + 2) (by omega)).trans RA.out)
  have hw1 := below_new (Below.refl w1.heap.size w1) (.cells zeroAns 38)
  have TM := Lib.hid ((hw1.block (w.heap.size + 1) (by omega)).trans SM.out)
  have TN : Hid (∀ cs, ((w1.alloc (.cells zeroAns 38)).setRow (w.heap.size + 1) cs).heap[w1.heap.size]? = some (.cells zeroAns 38 (0, 0))) := fun cs => (setRow_other _ _ _ _ (by omega)).trans (heap_alloc_new _ _)
  obtain ⟨W2, hW2⟩ : ∃ W2, ((w1.alloc (.cells zeroAns 38)).setRow (w.heap.size + 1) #[.slice A5 n5 c5, .slice A6 n6 c6, .int .i64 t5]).setRow w1.heap.size #[.int .u64 0, .bool true, .bool false, .slice a7 0 c7] = W2 := ⟨_, rfl⟩
  have UM : Hid (W2.heap[w.heap.size + 1]? = some (.cells #[.slice A5 n5 c5, .slice A6 n6 c6, .int .i64 t5] 25 (0, 0))) := hW2 ▸ (setRow_other _ _ _ _ (by omega)).trans (setRow_heap _ _ _ _ _ (0, 0) TM.out)
  have UN : Hid (W2.heap[w1.heap.size]? = some (.cells #[.int .u64 0, .bool true, .bool false, .slice a7 0 c7] 38 (0, 0))) := hW2 ▸ setRow_heap _ _ _ _ _ (0, 0) (TN.out _)
  have UA : Hid (W2.heap[w.heap.size + 2]? = some (.cells casAcc 28 (0, 0))) := hW2 ▸ (setRow_other _ _ _ _ (by omega)).trans ((setRow_other _ _ _ _ (by omega)).trans ((hw1.block (w.heap.size + 2) (by omega)).trans SA.out))
  have hzW2 : W2.heap.size = w1.heap.size + 1 := by rw [← hW2]; simp
  have UG : Hid (Nx (HasZero w.heap.size) Wc w1 W2) := by
    refine ⟨?_, ⟨by omega, fun j hj hj2 => ?_⟩⟩
    · refine hW2 ▸ (setRow_other _ _ _ _ (by omega)).trans ((setRow_other _ _ _ _ (by omega)).trans ((hw1.block _ (by omega)).trans ?_))
      exact HasZero.wide _ _ _ RB.out hb1
    · rw [← hW2, setRow_other _ _ _ _ (by omega), setRow_other _ _ _ _ (by omega)]
      exact hw1.block j hj2
  have UB : Hid (Below w.heap.size w W2) := hW2 ▸ row_below (row_below (below_new (below_then HB.out hb1) _) (Nat.le_succ _) _) (by omega) _
  have AP2 := Lib.hid (apply_any _ _ _ ⟨3, 0, 0, 1, 0⟩ W2 UG.out (Nx.wide (HasZero.wide _) _ _) HS1.out (fits_small 1 (by decide)) cas_ok)
  rw [cas_two] at AP2
  have HW2 := Lib.hid hW2
  clear hs1 hb1 hA7 hw1 hW2 x0 x1 x2 y0 y1 y2 y3 y4 AP HB1 SM SA
  obtain ⟨x0, x1, x2⟩ := rowc3 UM.out
  obtain ⟨y0, y1, y2, y3, y4⟩ := rowc5 UA.out
  go_upto_region 4 with (first
    | (refine wpList_store_row rfl 25 _ _ rfl (w.heap.size + 1) _ rfl rfl 25 _ TM.out (by kernel_rfl) rfl (by simp [Value.oneCell']) ?_)
    | (refine wpList_store_row rfl 38 _ _ rfl (w1.heap.size) _ rfl rfl 38 zeroAns (TN.out _) (by kernel_rfl) rfl (by simp [Value.oneCell']) ?_))
  rw [show (#[.int .u64 0, .bool false, .bool false, .slice none 0 0] : Array Value) = zeroAns from rfl]
  rw [HW2.out]
  clear HW2 TM TN
  go_wp2_with fail
  refine AP2.out.mono ?_; rintro e w3 ⟨v3, b3, rfl, hs3, ha3, hb3⟩
  obtain ⟨B5, m5, d5, B6, m6, d6, s5, rfl⟩ := hs3.shape w3 (Nx.at UG.out (Nx.wide (HasZero.wide _) _ _) hb3)
  obtain ⟨B7, rfl, hB7⟩ := ha3
  obtain ⟨e7, d7, rfl, -⟩ := (hB7 w3 (Nx.at UG.out (Nx.wide (HasZero.wide _) _ _) hb3)).len
  have hz3 := hb3.size
  have hw3 := below_new (below_new (Below.refl w3.heap.size w3) (.cells zeroMem 25)) (.cells zeroAns 38)
  have V0 : Hid (((w3.alloc (.cells zeroMem 25)).alloc (.cells zeroAns 38)).heap[w3.heap.size]? = some (.cells zeroMem 25 (0, 0))) := heap_alloc2_old _ _ _
  have V1 : Hid (∀ cs, (((w3.alloc (.cells zeroMem 25)).alloc (.cells zeroAns 38)).setRow w3.heap.size cs).heap[w3.heap.size + 1]? = some (.cells zeroAns 38 (0, 0))) := fun cs => (setRow_other _ _ _ _ (by omega)).trans (heap_alloc2_new _ _ _)
  obtain ⟨W4, hW4⟩ : ∃ W4, (((w3.alloc (.cells zeroMem 25)).alloc (.cells zeroAns 38)).setRow w3.heap.size #[.slice B5 m5 d5, .slice B6 m6 d6, .int .i64 s5]).setRow (w3.heap.size + 1) #[.int .u64 1, .bool false, .bool false, .slice e7 0 d7] = W4 := ⟨_, rfl⟩
  have XN := Lib.hid (show W4.heap[w1.heap.size]? = _ from hW4 ▸ (setRow_other _ _ _ _ (by omega)).trans ((setRow_other _ _ _ _ (by omega)).trans ((hw3.block _ (by omega)).trans ((hb3.block _ (by omega)).trans UN.out))))
  have XA : Hid (W4.heap[w3.heap.size + 1]? = some (.cells #[.int .u64 1, .bool false, .bool false, .slice e7 0 d7] 38 (0, 0))) := hW4 ▸ setRow_heap _ _ _ _ _ (0, 0) (V1.out _)
  have XB : Hid (Below w.heap.size w W4) := hW4 ▸ row_below (row_below (below_new (below_new (below_then UB.out hb3) _) _) (by omega) _) (by omega) _
  have HW4 := Lib.hid hW4
  clear hs3 hb3 hB7 hw3 hW4 x0 x1 x2 y0 y1 y2 y3 y4 AP2 UM UN UA UB UG
  go_upto_region 5 with (first
    | (refine wpList_store_row rfl 25 _ _ rfl (w3.heap.size) _ rfl rfl 25 zeroMem V0.out (by kernel_rfl) rfl (by simp [Value.oneCell']) ?_)
    | (refine wpList_store_row rfl 38 _ _ rfl (w3.heap.size + 1) _ rfl rfl 38 zeroAns (V1.out _) (by kernel_rfl) rfl (by simp [Value.oneCell']) ?_))
  rw [show (#[.slice none 0 0, .slice none 0 0, .int .i64 0] : Array Value) = zeroMem from rfl, show (#[.int .u64 0, .bool false, .bool false, .slice none 0 0] : Array Value) = zeroAns from rfl, HW4.out]
  clear HW4 V0 V1
  obtain ⟨x0, x1, x2, x3⟩ := rowc4 XN.out
  obtain ⟨y0, y1, y2, y3⟩ := rowc4 XA.out
  go_wp2
  go_ret
  exact ⟨rfl, XB.out⟩
end Go.Proofs.Ytkpnakomlfjndaa
