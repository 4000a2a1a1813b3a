
import Derived.Test.YtcgcefoceefleaaB16
import Derived.Test.YtcgcefoceefleaaB05
import Derived.Test.YtcgcefoceefleaaB02
import Derived.Test.YtcgcefoceefleaaB04
import Derived.Test.YtcgcefoceefleaaB07
set_option linter.unusedVariables false
set_option linter.unusedSimpArgs false
/- Layer 8: the program's machine that pushes: its small functions. -/
namespace Go.Proofs.Ytcgcefoceefleaa
open Go.ChangeShapes Go.WideShapes Go.ChangeAt Go.RowKit
set_option maxRecDepth 100000

theorem one_new (w : World) (a : Obj) : ∃ W, w.alloc a = W ∧ Hid (Below w.heap.size w W) ∧ Hid (W.heap[w.heap.size]? = some a) ∧ w.heap.size + 1 = W.heap.size :=
  ⟨_, rfl, below_new (Below.refl w.heap.size w) _, heap_alloc_new _ _, by simp⟩
/-- the numbers in the List of a machine: Tail, Head, the capacity, and those of the slots -/
def ringL (c : ConfM) (k : Nat) : List Int := [c.base k, c.base k + 1, c.caps.getD k 0] ++ (List.range (2 * (c.size k).toNat)).map fun (i : Nat) => c.base k + 5 + (i : Int)
theorem ringL_length (c : ConfM) (k : Nat) : (ringL c k).length = 3 + 2 * (c.size k).toNat := by simp [ringL]; omega
theorem ringL_slot (c : ConfM) (k i : Nat) (h : i < 2 * (c.size k).toNat) : (ringL c k).getD (3 + i) 0 = c.base k + 5 + (i : Int) := by
  have e : 3 + i = i + 1 + 1 + 1 := by omega
  simp [ringL, e, h]
def puL (code pc : Int) (W L : Value) : List Value := [.int .i64 code, .int .i64 pc, W, L, .slice none 0 0]
def nilS : Value := .slice none 0 0
/-- the slices of a machine that is on its way -/
structure PuV (w : World) (c : ConfM) (k : Nat) (val t : Int) (W L : Value) : Prop where
  W : SlI w .u64 W [val, t]
  L : SlI w .i64 L (ringL c k)
theorem PuV.below {w w' : World} {c : ConfM} {k : Nat} {val t : Int} {W L : Value} (h : PuV w c k val t W L) (hb : Below w.heap.size w w') : PuV w' c k val t W L := ⟨h.W.below hb, h.L.below hb⟩
/-- its cells -/
theorem PuV.open {w : World} {c : ConfM} {k : Nat} {val t : Int} {W L : Value} (h : PuV w c k val t W L) :
    ∃ wb wo wc lb lo lc, W = .slice (some ⟨wb, wo, none⟩) 2 wc ∧ L = .slice (some ⟨lb, lo, none⟩) (ringL c k).length lc ∧ wb < w.heap.size ∧ lb < w.heap.size ∧ w.cell? ⟨wb, wo, none⟩ = some (.int .u64 val) ∧ w.cell? ⟨wb, wo + 1, none⟩ = some (.int .u64 t)
      ∧ w.cell? ⟨lb, lo, none⟩ = some (.int .i64 (c.base k)) ∧ w.cell? ⟨lb, lo + 1, none⟩ = some (.int .i64 (c.base k + 1)) ∧ w.cell? ⟨lb, lo + 2, none⟩ = some (.int .i64 (c.caps.getD k 0)) ∧ ∀ i, i < 2 * (c.size k).toNat → w.cell? ⟨lb, lo + (3 + i), none⟩ = some (.int .i64 (c.base k + 5 + (i : Int))) := by
  obtain ⟨wb, wo, wc, e1, -, h1, h2⟩ := h.W.open (by simp)
  obtain ⟨lb, lo, lc, e2, -, h3, h4⟩ := h.L.open (by simp [ringL])
  have hl := ringL_length c k
  refine ⟨wb, wo, wc, lb, lo, lc, e1, e2, h1, h3, h2 0 (by simp), h2 1 (by simp), h4 0 (by omega), h4 1 (by omega), h4 2 (by omega), fun i hi => ?_⟩
  rw [h4 (3 + i) (by omega), ringL_slot c k i hi]
set_option maxRecDepth 100000 in
set_option maxHeartbeats 16000000 in
theorem complete_run (code pc : Int) (wb wo wc lb lo ln lc : Nat) (hn : 5 ≤ ln) (w : World) : Calls Try.prog 33 #[.agg #[.int .i64 code, .int .i64 pc, .slice (some ⟨wb, wo, none⟩) 2 wc, .slice (some ⟨lb, lo, none⟩) ln lc, .slice none 0 0]] w fun e w' => e = .returned (.bool true) ∧ Below w.heap.size w w' := by
  have hnI : (5 : Int) ≤ (ln : Int) := by omega
  obtain ⟨W, hW, HB, R0, hz⟩ := one_new w (.cells #[.int .i64 code, .int .i64 pc, .slice (some ⟨wb, wo, none⟩) 2 wc, .slice (some ⟨lb, lo, none⟩) ln lc, .slice none 0 0] 60)
  have HW := Lib.hid hW
  clear hW
  go_enter Try.func33, Try.ntmps33
  go_upto_region 1 with fail
  rw [HW.out]
  clear HW
  obtain ⟨x0_0, x0_1, x0_2, x0_3, x0_4⟩ := rowc5 R0.out
  go_wp2
  go_ret
  exact ⟨rfl, HB.out⟩
set_option maxRecDepth 100000 in
set_option maxHeartbeats 16000000 in
theorem complete_not (code pc : Int) (L U : Value) (hL : ∃ a n c, L = .slice a n c) (hU : ∃ a n c, U = .slice a n c) (w : World) : Calls Try.prog 33 #[.agg #[.int .i64 code, .int .i64 pc, .slice none 0 0, L, U]] w fun e w' => e = .returned (.bool false) ∧ Below w.heap.size w w' := by
  obtain ⟨a, n, c, rfl⟩ := hL
  obtain ⟨a2, n2, c2, rfl⟩ := hU
  obtain ⟨W, hW, HB, R0, hz⟩ := one_new w (.cells #[.int .i64 code, .int .i64 pc, .slice none 0 0, .slice a n c, .slice a2 n2 c2] 60)
  have HW := Lib.hid hW
  clear hW
  go_enter Try.func33, Try.ntmps33
  go_upto_region 1 with fail
  rw [HW.out]
  clear HW
  obtain ⟨x0_0, x0_1, x0_2, x0_3, x0_4⟩ := rowc5 R0.out
  go_wp2
  go_ret
  exact ⟨rfl, HB.out⟩
set_option maxRecDepth 100000 in
set_option maxHeartbeats 16000000 in
theorem end_any (k : Int) (w : World) : Calls Try.prog 34 #[.int .i64 k] w fun e w' => e = .returned (.agg #[.int .i64 k, .int .i64 8, .slice none 0 0, .slice none 0 0, .slice none 0 0]) ∧ Below w.heap.size w w' := by
  obtain ⟨W, hW, HB, R0, hz⟩ := one_new w (.cells #[.int .i64 0, .int .i64 0, .slice none 0 0, .slice none 0 0, .slice none 0 0] 60)
  have HW := Lib.hid hW
  clear hW
  go_enter Try.func34, Try.ntmps34
  go_upto_region 1 with fail
  rw [HW.out]
  clear HW
  go_wp2_with (refine wpList_store_row rfl 60 _ _ rfl (w.heap.size) _ rfl rfl 60 #[.int .i64 0, .int .i64 0, .slice none 0 0, .slice none 0 0, .slice none 0 0] R0.out (by kernel_rfl) rfl (by simp [Value.oneCell']) ?_)
  refine bodyPost_ret (v := .agg #[.int .i64 k, .int .i64 8, .slice none 0 0, .slice none 0 0, .slice none 0 0]) (results_cell_row Try.results34 _ _ (w.heap.size) 60 _ (0, 0) _ rfl (setRow_heap _ _ _ _ 60 (0, 0) R0.out) Try.underlying60 rfl (by kernel_rfl)) rfl ?_
  exact ⟨rfl, row_below HB.out (by omega) _⟩
set_option maxRecDepth 100000 in
set_option maxHeartbeats 16000000 in
theorem End_run (code pc : Int) (hpc : ¬ pc = 8) (W L U : Value) (hW : ∃ a n c, W = .slice a n c) (hL : ∃ a n c, L = .slice a n c) (hU : ∃ a n c, U = .slice a n c) (w : World) : Calls Try.prog 18 #[.agg #[.int .i64 code, .int .i64 pc, W, L, U]] w fun e w' => e = .returned (.tuple #[.agg #[.int .i64 0, .int .u64 0], .bool false]) ∧ Below w.heap.size w w' := by
  obtain ⟨a, n, c, rfl⟩ := hW
  obtain ⟨a2, n2, c2, rfl⟩ := hL
  obtain ⟨a3, n3, c3, rfl⟩ := hU
  obtain ⟨W, hW, HB, R0, R1, hz⟩ := two_new w (.cells #[.int .i64 code, .int .i64 pc, .slice a n c, .slice a2 n2 c2, .slice a3 n3 c3] 60) (.cells #[.int .i64 0, .int .u64 0] 54)
  have HW := Lib.hid hW
  clear hW
  go_enter Try.func18, Try.ntmps18
  go_upto_region 1 with fail
  rw [HW.out]
  clear HW
  obtain ⟨x0_0, x0_1, x0_2, x0_3, x0_4⟩ := rowc5 R0.out
  go_wp2_with (refine wpList_store_row rfl 54 _ _ rfl (w.heap.size + 1) _ rfl rfl 54 #[.int .i64 0, .int .u64 0] R1.out (by kernel_rfl) rfl (by simp [Value.oneCell']) ?_)
  clear x0_0 x0_1 x0_2 x0_3 x0_4
  refine bodyPost_ret (v := .tuple #[.agg #[.int .i64 0, .int .u64 0], .bool false]) (results_cell_tmp Try.results18 _ _ (w.heap.size + 1) 54 _ (0, 0) _ rfl (setRow_heap _ _ _ _ 54 (0, 0) R1.out) Try.underlying54 rfl (by kernel_rfl) _ rfl) rfl ?_
  exact ⟨rfl, row_below HB.out (by omega) _⟩
set_option maxRecDepth 100000 in
set_option maxHeartbeats 16000000 in
theorem End_end (code : Int) (W L U : Value) (hW : ∃ a n c, W = .slice a n c) (hL : ∃ a n c, L = .slice a n c) (hU : ∃ a n c, U = .slice a n c) (w : World) : Calls Try.prog 18 #[.agg #[.int .i64 code, .int .i64 8, W, L, U]] w fun e w' => e = .returned (.tuple #[.agg #[.int .i64 code, .int .u64 0], .bool true]) ∧ Below w.heap.size w w' := by
  obtain ⟨a, n, c, rfl⟩ := hW
  obtain ⟨a2, n2, c2, rfl⟩ := hL
  obtain ⟨a3, n3, c3, rfl⟩ := hU
  obtain ⟨W, hW, HB, R0, R1, hz⟩ := two_new w (.cells #[.int .i64 code, .int .i64 8, .slice a n c, .slice a2 n2 c2, .slice a3 n3 c3] 60) (.cells #[.int .i64 0, .int .u64 0] 54)
  have HW := Lib.hid hW
  clear hW
  go_enter Try.func18, Try.ntmps18
  go_upto_region 1 with fail
  rw [HW.out]
  clear HW
  obtain ⟨x0_0, x0_1, x0_2, x0_3, x0_4⟩ := rowc5 R0.out
  go_wp2_with (refine wpList_store_row rfl 54 _ _ rfl (w.heap.size + 1) _ rfl rfl 54 #[.int .i64 0, .int .u64 0] R1.out (by kernel_rfl) rfl (by simp [Value.oneCell']) ?_)
  clear x0_0 x0_1 x0_2 x0_3 x0_4
  refine bodyPost_ret (v := .tuple #[.agg #[.int .i64 code, .int .u64 0], .bool true]) (results_cell_tmp Try.results18 _ _ (w.heap.size + 1) 54 _ (0, 0) _ rfl (setRow_heap _ _ _ _ 54 (0, 0) R1.out) Try.underlying54 rfl (by kernel_rfl) _ rfl) rfl ?_
  exact ⟨rfl, row_below HB.out (by omega) _⟩
set_option maxRecDepth 100000 in
set_option maxHeartbeats 16000000 in
theorem behind_any (code pc : Int) (wb wo wc lb lo ln lc : Nat) (t x : Int) (w : World) (hwb : wb < w.heap.size) (hw1 : w.cell? ⟨wb, wo + 1, none⟩ = some (.int .u64 t)) : Calls Try.prog 36 #[.agg #[.int .i64 code, .int .i64 pc, .slice (some ⟨wb, wo, none⟩) 2 wc, .slice (some ⟨lb, lo, none⟩) ln lc, .slice none 0 0], .int .u64 x] w fun e w' => e = .returned (.int .u64 (restI (t / 2) x)) ∧ Below w.heap.size w w' := by
  have TS := Lib.hid fun w' => seq_any t w'
  obtain ⟨n, hn⟩ : ∃ n, restI (t / 2) x = n := ⟨_, rfl⟩
  obtain ⟨q, hq⟩ : ∃ q, t / 2 = q := ⟨_, rfl⟩
  rw [hq] at TS hn ⊢
  rw [hn]
  have hm : (IntKind.u64.wrap (q - x)).tmod 9223372036854775808 = n := by rw [← hn, Int.tmod_eq_emod_of_nonneg (by rw [IntKind.wrap_u64]; omega), IntKind.wrap_u64]; unfold restI; omega
  clear hn hq
  have HK0 := Lib.hid (hw1)
  have hbk0 : wb < w.heap.size := hwb
  obtain ⟨W, hW, HB, R0, hz⟩ := one_new w (.cells #[.int .i64 code, .int .i64 pc, .slice (some ⟨wb, wo, none⟩) 2 wc, .slice (some ⟨lb, lo, none⟩) ln lc, .slice none 0 0] 60)
  have HW := Lib.hid hW
  clear hW
  go_enter Try.func36, Try.ntmps36
  go_upto_region 1 with fail
  rw [HW.out]
  clear HW
  obtain ⟨x0_0, x0_1, x0_2, x0_3, x0_4⟩ := rowc5 R0.out
  have ck0 := (HB.out.cell (p := ⟨wb, wo + 1, none⟩) hbk0).trans HK0.out
  go_wp2_with fail
  refine (TS.out _).mono ?_; rintro e w' ⟨rfl, rfl⟩
  go_wp2_with fail
  go_ret
  exact ⟨by first | rfl | rw [hm], HB.out⟩
set_option maxRecDepth 100000 in
set_option maxHeartbeats 16000000 in
theorem slotNumber0 (code pc : Int) (wb wo wc lb lo ln lc : Nat) (t : Int) (ht : U64 t) (c : ConfM) (k : Nat) (hk : k < c.caps.length) (hg : c.good) (hln : ln = (ringL c k).length) (w : World) (hwb : wb < w.heap.size) (hlb : lb < w.heap.size) (hw1 : w.cell? ⟨wb, wo + 1, none⟩ = some (.int .u64 t)) (hsl : ∀ i, i < 2 * (c.size k).toNat → w.cell? ⟨lb, lo + (3 + i), none⟩ = some (.int .i64 (c.base k + 5 + (i : Int)))) : Calls Try.prog 49 #[.agg #[.int .i64 code, .int .i64 pc, .slice (some ⟨wb, wo, none⟩) 2 wc, .slice (some ⟨lb, lo, none⟩) ln lc, .slice none 0 0], .int .i64 0] w fun e w' => e = .returned (.int .i64 (c.slotW k (t / 2))) ∧ Below w.heap.size w w' := by
  have hsz := hg.size k hk
  have hs := slotI_lt (t / 2) (c.size k) (by have := ht.1; omega) hsz.1
  obtain ⟨sn, hsn⟩ : ∃ sn : Nat, slotI (t / 2) (c.size k) = (sn : Int) := ⟨(slotI (t / 2) (c.size k)).toNat, by omega⟩
  have TL := Lib.hid fun w' => slot_any (t / 2) (c.size k) w' (by have := ht.1; omega) (by have := ht.2; omega) (by omega) (by omega)
  have TS := Lib.hid fun w' => seq_any t w'
  rw [ringL_length] at hln
  rw [hsn] at TL hs
  obtain ⟨sz, hsz2⟩ : ∃ sz, c.size k = sz := ⟨_, rfl⟩
  have hsv : c.slotW k (t / 2) = c.base k + 5 + (sn : Int) * 2 := by rw [slotW_eq, hsn]
  rw [hsz2] at hsz hs hsl hln TL
  obtain ⟨i1, hi1⟩ : ∃ i1 : Nat, IntKind.i64.wrap ((sn : Int) * 2) = (i1 : Int) := ⟨2 * sn, by rw [IntKind.wrap_i64]; omega⟩
  have hi1' : i1 = 2 * sn := by rw [IntKind.wrap_i64] at hi1; omega
  obtain ⟨i2, hi2⟩ : ∃ i2 : Nat, IntKind.i64.wrap (3 + (i1 : Int)) = (i2 : Int) := ⟨3 + i1, by rw [IntKind.wrap_i64]; omega⟩
  have hi2' : i2 = 3 + i1 := by rw [IntKind.wrap_i64] at hi2; omega
  obtain ⟨i3, hi3⟩ : ∃ i3 : Nat, IntKind.i64.wrap (i2 : Int) = (i3 : Int) := ⟨i2 + 0, by rw [IntKind.wrap_i64]; omega⟩
  have hi3' : i3 = i2 + 0 := by rw [IntKind.wrap_i64] at hi3; omega
  have hcell := hsl (2 * sn + 0) (by omega)
  rw [show lo + (3 + (2 * sn + 0)) = lo + i3 by omega] at hcell
  have hval : c.base k + 5 + ((2 * sn + 0 : Nat) : Int) = c.slotW k (t / 2) := by rw [hsv]; omega
  rw [hval] at hcell
  obtain ⟨rv, hrv⟩ : ∃ rv, c.slotW k (t / 2) = rv := ⟨_, rfl⟩
  rw [hrv] at hcell
  rw [hrv]
  obtain ⟨q, hq⟩ : ∃ q, t / 2 = q := ⟨_, rfl⟩
  rw [hq] at TS TL
  have hl1 : IntKind.i64.wrap ((ln : Int) - 3) = sz * 2 := by rw [IntKind.wrap_i64]; omega
  have hl2 : (sz * 2).tdiv 2 = sz := Int.mul_tdiv_cancel _ (by decide)
  have hl3 : IntKind.i64.wrap sz = sz := by rw [IntKind.wrap_i64]; omega
  have hi3b : (i3 : Int) < (ln : Int) := by omega
  clear hsl hsv hval hrv hq hsn hs hi1' hi2' hi3' hsz hsz2 hln ht hk hg
  have HK0 := Lib.hid (hw1)
  have hbk0 : wb < w.heap.size := hwb
  have HK1 := Lib.hid (hcell)
  have hbk1 : lb < w.heap.size := hlb
  obtain ⟨W, hW, HB, R0, hz⟩ := one_new w (.cells #[.int .i64 code, .int .i64 pc, .slice (some ⟨wb, wo, none⟩) 2 wc, .slice (some ⟨lb, lo, none⟩) ln lc, .slice none 0 0] 60)
  have HW := Lib.hid hW
  clear hW
  go_enter Try.func49, Try.ntmps49
  go_upto_region 1 with fail
  rw [HW.out]
  clear HW
  obtain ⟨x0_0, x0_1, x0_2, x0_3, x0_4⟩ := rowc5 R0.out
  have ck0 := (HB.out.cell (p := ⟨wb, wo + 1, none⟩) hbk0).trans HK0.out
  have ck1 := (HB.out.cell (p := ⟨lb, lo + i3, none⟩) hbk1).trans HK1.out
  go_wp2_with fail
  refine (TS.out _).mono ?_; rintro e w' ⟨rfl, rfl⟩
  go_wp2_with fail
  refine (TL.out _).mono ?_; rintro e w' ⟨rfl, rfl⟩
  go_wp2_with fail
  go_ret
  exact ⟨rfl, HB.out⟩
set_option maxRecDepth 100000 in
set_option maxHeartbeats 16000000 in
theorem slotNumber1 (code pc : Int) (wb wo wc lb lo ln lc : Nat) (t : Int) (ht : U64 t) (c : ConfM) (k : Nat) (hk : k < c.caps.length) (hg : c.good) (hln : ln = (ringL c k).length) (w : World) (hwb : wb < w.heap.size) (hlb : lb < w.heap.size) (hw1 : w.cell? ⟨wb, wo + 1, none⟩ = some (.int .u64 t)) (hsl : ∀ i, i < 2 * (c.size k).toNat → w.cell? ⟨lb, lo + (3 + i), none⟩ = some (.int .i64 (c.base k + 5 + (i : Int)))) : Calls Try.prog 49 #[.agg #[.int .i64 code, .int .i64 pc, .slice (some ⟨wb, wo, none⟩) 2 wc, .slice (some ⟨lb, lo, none⟩) ln lc, .slice none 0 0], .int .i64 1] w fun e w' => e = .returned (.int .i64 (c.slotW k (t / 2) + 1)) ∧ Below w.heap.size w w' := by
  have hsz := hg.size k hk
  have hs := slotI_lt (t / 2) (c.size k) (by have := ht.1; omega) hsz.1
  obtain ⟨sn, hsn⟩ : ∃ sn : Nat, slotI (t / 2) (c.size k) = (sn : Int) := ⟨(slotI (t / 2) (c.size k)).toNat, by omega⟩
  have TL := Lib.hid fun w' => slot_any (t / 2) (c.size k) w' (by have := ht.1; omega) (by have := ht.2; omega) (by omega) (by omega)
  have TS := Lib.hid fun w' => seq_any t w'
  rw [ringL_length] at hln
  rw [hsn] at TL hs
  obtain ⟨sz, hsz2⟩ : ∃ sz, c.size k = sz := ⟨_, rfl⟩
  have hsv : c.slotW k (t / 2) = c.base k + 5 + (sn : Int) * 2 := by rw [slotW_eq, hsn]
  rw [hsz2] at hsz hs hsl hln TL
  obtain ⟨i1, hi1⟩ : ∃ i1 : Nat, IntKind.i64.wrap ((sn : Int) * 2) = (i1 : Int) := ⟨2 * sn, by rw [IntKind.wrap_i64]; omega⟩
  have hi1' : i1 = 2 * sn := by rw [IntKind.wrap_i64] at hi1; omega
  obtain ⟨i2, hi2⟩ : ∃ i2 : Nat, IntKind.i64.wrap (3 + (i1 : Int)) = (i2 : Int) := ⟨3 + i1, by rw [IntKind.wrap_i64]; omega⟩
  have hi2' : i2 = 3 + i1 := by rw [IntKind.wrap_i64] at hi2; omega
  obtain ⟨i3, hi3⟩ : ∃ i3 : Nat, IntKind.i64.wrap ((i2 : Int) + 1) = (i3 : Int) := ⟨i2 + 1, by rw [IntKind.wrap_i64]; omega⟩
  have hi3' : i3 = i2 + 1 := by rw [IntKind.wrap_i64] at hi3; omega
  have hcell := hsl (2 * sn + 1) (by omega)
  rw [show lo + (3 + (2 * sn + 1)) = lo + i3 by omega] at hcell
  have hval : c.base k + 5 + ((2 * sn + 1 : Nat) : Int) = c.slotW k (t / 2) + 1 := by rw [hsv]; omega
  rw [hval] at hcell
  obtain ⟨rv, hrv⟩ : ∃ rv, c.slotW k (t / 2) + 1 = rv := ⟨_, rfl⟩
  rw [hrv] at hcell
  rw [hrv]
  obtain ⟨q, hq⟩ : ∃ q, t / 2 = q := ⟨_, rfl⟩
  rw [hq] at TS TL
  have hl1 : IntKind.i64.wrap ((ln : Int) - 3) = sz * 2 := by rw [IntKind.wrap_i64]; omega
  have hl2 : (sz * 2).tdiv 2 = sz := Int.mul_tdiv_cancel _ (by decide)
  have hl3 : IntKind.i64.wrap sz = sz := by rw [IntKind.wrap_i64]; omega
  have hi3b : (i3 : Int) < (ln : Int) := by omega
  clear hsl hsv hval hrv hq hsn hs hi1' hi2' hi3' hsz hsz2 hln ht hk hg
  have HK0 := Lib.hid (hw1)
  have hbk0 : wb < w.heap.size := hwb
  have HK1 := Lib.hid (hcell)
  have hbk1 : lb < w.heap.size := hlb
  obtain ⟨W, hW, HB, R0, hz⟩ := one_new w (.cells #[.int .i64 code, .int .i64 pc, .slice (some ⟨wb, wo, none⟩) 2 wc, .slice (some ⟨lb, lo, none⟩) ln lc, .slice none 0 0] 60)
  have HW := Lib.hid hW
  clear hW
  go_enter Try.func49, Try.ntmps49
  go_upto_region 1 with fail
  rw [HW.out]
  clear HW
  obtain ⟨x0_0, x0_1, x0_2, x0_3, x0_4⟩ := rowc5 R0.out
  have ck0 := (HB.out.cell (p := ⟨wb, wo + 1, none⟩) hbk0).trans HK0.out
  have ck1 := (HB.out.cell (p := ⟨lb, lo + i3, none⟩) hbk1).trans HK1.out
  go_wp2_with fail
  refine (TS.out _).mono ?_; rintro e w' ⟨rfl, rfl⟩
  go_wp2_with fail
  refine (TL.out _).mono ?_; rintro e w' ⟨rfl, rfl⟩
  go_wp2_with fail
  go_ret
  exact ⟨rfl, HB.out⟩
end Go.Proofs.Ytcgcefoceefleaa
