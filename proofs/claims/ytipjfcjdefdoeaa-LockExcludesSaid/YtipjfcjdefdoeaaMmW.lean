/- What the program makes of a memory: words, lists, time. -/
import Derived.Test.YtipjfcjdefdoeaaMmC
import Derived.RegionTactic
import Derived.Deep.DeepCutAuto
namespace Go.Proofs.Ytipjfcjdefdoeaa
open Go.ChangeShapes Go.WideShapes Go.ChangeAt Go.RowKit
set_option maxRecDepth 100000

theorem hasWord_any (v : Value) (m : MemM) (x : Int) (w : World) (h : MemV w v m) :
    Calls Try.prog 66 #[v, .int .i64 x] w fun e w' => e = .returned (.bool (hasB m.words.length x)) ∧ Below w.heap.size w w' := by
  obtain ⟨vw, vl, us, rfl, h1, h2⟩ := h
  have hl := h1.1
  have hl2 := h2.1
  obtain ⟨a, cap, rfl, -⟩ := h1.len
  obtain ⟨a2, cap2, rfl, -⟩ := h2.len
  clear h1 h2
  generalize m.words.length = n at *
  generalize m.lists.length = n2 at *
  by_cases h0 : 0 ≤ x
  · have hd : decide (0 ≤ x) = true := by simpa using h0
    go_enter Try.func66, Try.ntmps66
    go_wp2
    go_ret
    exact ⟨ret_bool (by simp [hasB, h0]), below_new (Below.refl _ _) _⟩
  · have hd : decide (0 ≤ x) = false := by simpa using h0
    go_enter Try.func66, Try.ntmps66
    go_wp2
    go_ret
    exact ⟨ret_bool (by simp only [hasB, hd, Bool.false_and]), below_new (Below.refl _ _) _⟩
theorem hasList_any (v : Value) (m : MemM) (x : Int) (w : World) (h : MemV w v m) :
    Calls Try.prog 68 #[v, .int .i64 x] w fun e w' => e = .returned (.bool (hasB m.lists.length x)) ∧ Below w.heap.size w w' := by
  obtain ⟨vw, vl, us, rfl, h1, h2⟩ := h
  have hl := h1.1
  have hl2 := h2.1
  obtain ⟨a, cap, rfl, -⟩ := h1.len
  obtain ⟨a2, cap2, rfl, -⟩ := h2.len
  clear h1 h2
  generalize m.words.length = n at *
  generalize m.lists.length = n2 at *
  by_cases h0 : 0 ≤ x
  · have hd : decide (0 ≤ x) = true := by simpa using h0
    go_enter Try.func68, Try.ntmps68
    go_wp2
    go_ret
    exact ⟨ret_bool (by simp [hasB, h0]), below_new (Below.refl _ _) _⟩
  · have hd : decide (0 ≤ x) = false := by simpa using h0
    go_enter Try.func68, Try.ntmps68
    go_wp2
    go_ret
    exact ⟨ret_bool (by simp only [hasB, hd, Bool.false_and]), below_new (Below.refl _ _) _⟩
theorem rword_any (v : Value) (m : MemM) (x : Int) (w : World) (h : MemV w v m) :
    Calls Try.prog 37 #[v, .int .i64 x] w fun e w' => e = .returned (.bool (hasB m.words.length x)) ∧ Below w.heap.size w w' := by
  obtain ⟨vw, vl, us, rfl, h1, h2⟩ := h
  have hl := h1.1
  have hl2 := h2.1
  obtain ⟨a, cap, rfl, -⟩ := h1.len
  obtain ⟨a2, cap2, rfl, -⟩ := h2.len
  clear h1 h2
  generalize m.words.length = n at *
  generalize m.lists.length = n2 at *
  by_cases h0 : 0 ≤ x
  · have hd : decide (0 ≤ x) = true := by simpa using h0
    go_enter Try.func37, Try.ntmps37
    go_wp2
    go_ret
    exact ⟨ret_bool (by simp [hasB, h0]), below_new (Below.refl _ _) _⟩
  · have hd : decide (0 ≤ x) = false := by simpa using h0
    go_enter Try.func37, Try.ntmps37
    go_wp2
    go_ret
    exact ⟨ret_bool (by simp only [hasB, hd, Bool.false_and]), below_new (Below.refl _ _) _⟩
theorem rlist_any (v : Value) (m : MemM) (x : Int) (w : World) (h : MemV w v m) :
    Calls Try.prog 34 #[v, .int .i64 x] w fun e w' => e = .returned (.bool (hasB m.lists.length x)) ∧ Below w.heap.size w w' := by
  obtain ⟨vw, vl, us, rfl, h1, h2⟩ := h
  have hl := h1.1
  have hl2 := h2.1
  obtain ⟨a, cap, rfl, -⟩ := h1.len
  obtain ⟨a2, cap2, rfl, -⟩ := h2.len
  clear h1 h2
  generalize m.words.length = n at *
  generalize m.lists.length = n2 at *
  by_cases h0 : 0 ≤ x
  · have hd : decide (0 ≤ x) = true := by simpa using h0
    go_enter Try.func34, Try.ntmps34
    go_wp2
    go_ret
    exact ⟨ret_bool (by simp [hasB, h0]), below_new (Below.refl _ _) _⟩
  · have hd : decide (0 ≤ x) = false := by simpa using h0
    go_enter Try.func34, Try.ntmps34
    go_wp2
    go_ret
    exact ⟨ret_bool (by simp only [hasB, hd, Bool.false_and]), below_new (Below.refl _ _) _⟩
theorem hasCome_any (v : Value) (m : MemM) (x : Int) (w : World) (h : MemV w v m) (hx : x = IntKind.i64.wrap x) :
    Calls Try.prog 67 #[v, .int .i64 x] w fun e w' => e = .returned (.bool (comeB m.tick x)) ∧ Below w.heap.size w w' := by
  obtain ⟨vw, vl, us, rfl, h1, h2⟩ := h
  obtain ⟨a, cap, rfl, -⟩ := h1.len
  obtain ⟨a2, cap2, rfl, -⟩ := h2.len
  clear h1 h2
  generalize m.words.length = n at *
  generalize m.lists.length = n2 at *
  generalize m.tick = t at *
  by_cases h0 : 0 < x
  · have hd : decide (0 < x) = true := by simpa using h0
    have hwr : wrap64 (x - 1) = x - 1 := by rw [IntKind.wrap_i64] at hx; unfold wrap64; omega
    have hwi : IntKind.i64.wrap (x - 1) = x - 1 := by rw [IntKind.wrap_i64] at hx ⊢; omega
    clear hx
    go_enter Try.func67, Try.ntmps67
    go_wp2
    go_ret
    exact ⟨ret_bool (by simp [comeB, h0]), below_new (Below.refl _ _) _⟩
  · have hd : decide (0 < x) = false := by simpa using h0
    clear hx
    go_enter Try.func67, Try.ntmps67
    go_wp2
    go_ret
    exact ⟨ret_bool (by simp only [comeB, hd, Bool.false_and]), below_new (Below.refl _ _) _⟩
def zeroMem : Array Value := #[.slice none 0 0, .slice none 0 0, .int .i64 0]
set_option maxHeartbeats 1000000 in
theorem withWord_any (G : World → Prop) (v : Value) (m : MemM) (i : Nat) (u : Int) (w : World) (hG : G w) (hcl : Wide G) (h : StM G v m) (hi : i < m.words.length) (hm : m.fits) (hu : u = IntKind.u64.wrap u) :
    Calls Try.prog 72 #[v, .int .i64 i, .int .u64 u] w fun e w' => ∃ v', e = .returned v' ∧ StM (Nx G w w') v' ⟨m.words.set i u, m.lists, m.tick⟩ ∧ Below w.heap.size w w' := by
  obtain ⟨vw, vl, us, rfl, hall⟩ := h
  obtain ⟨h1, h2⟩ := hall w hG
  have HW0 := Lib.hid h1
  have hw1 := hm.words
  obtain ⟨a, cap, rfl, -⟩ := h1.len
  obtain ⟨a2, cap2, rfl, -⟩ := h2.len
  have HM := Lib.hid hm
  have HU := Lib.hid hu
  have HALL := Lib.hid hall
  clear h1 h2 hm hu hall hG hcl
  obtain ⟨W, hW⟩ : ∃ W, (w.alloc (.cells #[.slice a m.words.length cap, .slice a2 m.lists.length cap2, .int .i64 m.tick] 29)).alloc (.cells zeroMem 29) = W := ⟨_, rfl⟩
  have HB : Hid (Below w.heap.size w W) := hW ▸ below_new (below_new (Below.refl w.heap.size w) _) _
  have hz : w.heap.size + 2 ≤ W.heap.size := by rw [← hW]; simp
  have R0 : Hid (W.heap[w.heap.size]? = some (.cells #[.slice a m.words.length cap, .slice a2 m.lists.length cap2, .int .i64 m.tick] 29 (0, 0))) := hW ▸ heap_alloc2_old _ _ _
  have R1 : Hid (W.heap[w.heap.size + 1]? = some (.cells zeroMem 29 (0, 0))) := hW ▸ heap_alloc2_new _ _ _
  have HW := Lib.hid hW
  clear hW
  have c0 := cell_of_row _ _ 0 _ _ _ R0.out
  simp at c0
  go_enter Try.func72, Try.ntmps72
  go_wp2_with fail
  rw [show (#[.slice none 0 0, .slice none 0 0, .int .i64 0] : Array Value) = zeroMem from rfl, HW.out]
  refine (cloneU_any _ m.words _ (HW0.out.below HB.out) (by omega)).mono ?_; rintro e w1 ⟨v1, rfl, ho, hb1⟩
  obtain ⟨g, cg, e1⟩ : ∃ g c, v1 = .slice (some ⟨g, 0, none⟩) m.words.length c := by
    rcases ho.shape with ⟨_, h⟩ | ⟨g, c, h, _⟩
    · rw [h] at hi; simp at hi
    · exact ⟨g, c, h⟩
  subst e1
  have hgW : W.heap.size ≤ g := ho.own_ge g rfl
  have HO := Lib.hid ho
  have S0 := Lib.hid ((hb1.block w.heap.size (by omega)).trans R0.out)
  have S1 := Lib.hid ((hb1.block (w.heap.size + 1) (by omega)).trans R1.out)
  have HB1 := Lib.hid (HB.out.trans (hb1.mono (by omega)))
  have hz1 : w.heap.size + 2 ≤ w1.heap.size := Nat.le_trans hz hb1.size
  clear ho hb1
  generalize hn : m.words.length = n at *
  have HN := Lib.hid hn
  clear hn
  obtain ⟨d0, d1, d2⟩ := rowc3 S0.out
  have f0 := frozen_of_row _ _ 0 _ _ S0.out
  have T0 := Lib.hid (heap_setCell_same w1 w.heap.size 0 _ _ (.slice (some ⟨g, 0, none⟩) n cg) S0.out)
  simp at T0
  obtain ⟨t0, t1, t2⟩ := rowc3 T0.out
  have HO2 := Lib.hid (HO.out.setOther ⟨w.heap.size, 0, none⟩ (by show g ≠ w.heap.size; omega) (.slice (some ⟨g, 0, none⟩) n cg))
  obtain ⟨k0, k1⟩ := HO2.out.cell i (by rw [HN.out]; exact hi)
  have HO3 := Lib.hid (HO2.out.store i u HN.out.symm)
  have TROW := Lib.hid ((heap_setCell_other (w1.setCell ⟨w.heap.size, 0, none⟩ (.slice (some ⟨g, 0, none⟩) n cg)) ⟨g, i, none⟩ (w.heap.size + 1) (.int .u64 u) (by show w.heap.size + 1 ≠ g; omega)).trans ((heap_setCell_other w1 ⟨w.heap.size, 0, none⟩ (w.heap.size + 1) (.slice (some ⟨g, 0, none⟩) n cg) (by simp)).trans S1.out))
  go_wp2_with (first | (refine wpList_store_row rfl 29 _ _ rfl (w.heap.size + 1) _ rfl rfl 29 zeroMem TROW.out (by kernel_rfl) rfl (by simp [Value.oneCell']) ?_))
  refine bodyPost_ret (v := .agg #[.slice (some ⟨g, 0, none⟩) n cg, .slice a2 m.lists.length cap2, .int .i64 m.tick]) (results_cell_row Try.results72 _ _ (w.heap.size + 1) 29 _ (0, 0) _ rfl (setRow_heap _ _ _ _ 29 (0, 0) TROW.out) Try.underlying29 rfl (by kernel_rfl)) rfl ?_
  have hbe := row_below (((HB1.out.setCell (p := ⟨w.heap.size, 0, none⟩) (Nat.le_refl _) (.slice (some ⟨g, 0, none⟩) n cg)).setCell (p := ⟨g, i, none⟩) (by show w.heap.size ≤ g; omega) (.int .u64 u))) (Nat.le_succ _) #[.slice (some ⟨g, 0, none⟩) n cg, .slice a2 m.lists.length cap2, .int .i64 m.tick]
  have hfi := fits_put HM.out i u HU.out
  refine ⟨_, rfl, ⟨_, _, us, rfl, fun w2 hw2 => ⟨((HO3.out.kept (row_grown _ _ _) (HO3.out.ne (by omega))).newPart (by omega) hw2.2).read ?_ hfi.wf, (HALL.out w2 hw2.1).2⟩⟩, hbe⟩
  have := hfi.words
  simp only at this ⊢
  omega
set_option maxHeartbeats 1000000 in
theorem rset_any (G : World → Prop) (v : Value) (m : MemM) (i : Nat) (u : Int) (w : World) (hG : G w) (hcl : Wide G) (h : StM G v m) (hi : i < m.words.length) (hm : m.fits) (hu : u = IntKind.u64.wrap u) :
    Calls Try.prog 38 #[v, .int .i64 i, .int .u64 u] w fun e w' => ∃ v', e = .returned v' ∧ StM (Nx G w w') v' ⟨m.words.set i u, m.lists, m.tick⟩ ∧ Below w.heap.size w w' := by
  obtain ⟨vw, vl, us, rfl, hall⟩ := h
  obtain ⟨h1, h2⟩ := hall w hG
  have HW0 := Lib.hid h1
  have hw1 := hm.words
  obtain ⟨a, cap, rfl, -⟩ := h1.len
  obtain ⟨a2, cap2, rfl, -⟩ := h2.len
  have HM := Lib.hid hm
  have HU := Lib.hid hu
  have HALL := Lib.hid hall
  clear h1 h2 hm hu hall hG hcl
  obtain ⟨W, hW⟩ : ∃ W, (w.alloc (.cells #[.slice a m.words.length cap, .slice a2 m.lists.length cap2, .int .i64 m.tick] 29)).alloc (.cells zeroMem 29) = W := ⟨_, rfl⟩
  have HB : Hid (Below w.heap.size w W) := hW ▸ below_new (below_new (Below.refl w.heap.size w) _) _
  have hz : w.heap.size + 2 ≤ W.heap.size := by rw [← hW]; simp
  have R0 : Hid (W.heap[w.heap.size]? = some (.cells #[.slice a m.words.length cap, .slice a2 m.lists.length cap2, .int .i64 m.tick] 29 (0, 0))) := hW ▸ heap_alloc2_old _ _ _
  have R1 : Hid (W.heap[w.heap.size + 1]? = some (.cells zeroMem 29 (0, 0))) := hW ▸ heap_alloc2_new _ _ _
  have HW := Lib.hid hW
  clear hW
  have c0 := cell_of_row _ _ 0 _ _ _ R0.out
  simp at c0
  go_enter Try.func38, Try.ntmps38
  go_upto_region 1 with fail
  rw [show (#[.slice none 0 0, .slice none 0 0, .int .i64 0] : Array Value) = zeroMem from rfl, HW.out]
  obtain ⟨v1, w1, hr, ho, hg1⟩ := run_copy_u64 W 26 W.heap.size (Nat.le_refl _) (.slice none 0 0) (World.ownsRow_nil _ _ _ _) _ m.words (HW0.out.below HB.out) (by omega)
  have hb1 : Below W.heap.size W w1 := (Below.refl _ _).grown hg1 (Nat.le_refl _) (fun j hj => by cases hj)
  clear hg1
  obtain ⟨g, cg, e1⟩ : ∃ g c, v1 = .slice (some ⟨g, 0, none⟩) m.words.length c := by
    rcases ho.shape with ⟨_, h⟩ | ⟨g, c, h, _⟩
    · rw [h] at hi; simp at hi
    · exact ⟨g, c, h⟩
  subst e1
  have hgW : W.heap.size ≤ g := ho.own_ge g rfl
  have HO := Lib.hid ho
  have S0 := Lib.hid ((hb1.block w.heap.size (by omega)).trans R0.out)
  have S1 := Lib.hid ((hb1.block (w.heap.size + 1) (by omega)).trans R1.out)
  have HB1 := Lib.hid (HB.out.trans (hb1.mono (by omega)))
  have hz1 : w.heap.size + 2 ≤ w1.heap.size := Nat.le_trans hz hb1.size
  clear ho hb1
  generalize hn : m.words.length = n at *
  have HN := Lib.hid hn
  clear hn
  obtain ⟨d0, d1, d2⟩ := rowc3 S0.out
  have f0 := frozen_of_row _ _ 0 _ _ S0.out
  have T0 := Lib.hid (heap_setCell_same w1 w.heap.size 0 _ _ (.slice (some ⟨g, 0, none⟩) n cg) S0.out)
  simp at T0
  obtain ⟨t0, t1, t2⟩ := rowc3 T0.out
  have HO2 := Lib.hid (HO.out.setOther ⟨w.heap.size, 0, none⟩ (by show g ≠ w.heap.size; omega) (.slice (some ⟨g, 0, none⟩) n cg))
  obtain ⟨k0, k1⟩ := HO2.out.cell i (by rw [HN.out]; exact hi)
  have HO3 := Lib.hid (HO2.out.store i u HN.out.symm)
  have TROW := Lib.hid ((heap_setCell_other (w1.setCell ⟨w.heap.size, 0, none⟩ (.slice (some ⟨g, 0, none⟩) n cg)) ⟨g, i, none⟩ (w.heap.size + 1) (.int .u64 u) (by show w.heap.size + 1 ≠ g; omega)).trans ((heap_setCell_other w1 ⟨w.heap.size, 0, none⟩ (w.heap.size + 1) (.slice (some ⟨g, 0, none⟩) n cg) (by simp)).trans S1.out))
  go_wp2_with (first | (at_builtin; refine Lib.wpList_append_run _ rfl _ _ _ _ rfl _ _ rfl rfl _ _ hr ?_) | (refine wpList_store_row rfl 29 _ _ rfl (w.heap.size + 1) _ rfl rfl 29 zeroMem TROW.out (by kernel_rfl) rfl (by simp [Value.oneCell']) ?_))
  refine bodyPost_ret (v := .agg #[.slice (some ⟨g, 0, none⟩) n cg, .slice a2 m.lists.length cap2, .int .i64 m.tick]) (results_cell_row Try.results38 _ _ (w.heap.size + 1) 29 _ (0, 0) _ rfl (setRow_heap _ _ _ _ 29 (0, 0) TROW.out) Try.underlying29 rfl (by kernel_rfl)) rfl ?_
  have hbe := row_below (((HB1.out.setCell (p := ⟨w.heap.size, 0, none⟩) (Nat.le_refl _) (.slice (some ⟨g, 0, none⟩) n cg)).setCell (p := ⟨g, i, none⟩) (by show w.heap.size ≤ g; omega) (.int .u64 u))) (Nat.le_succ _) #[.slice (some ⟨g, 0, none⟩) n cg, .slice a2 m.lists.length cap2, .int .i64 m.tick]
  have hfi := fits_put HM.out i u HU.out
  refine ⟨_, rfl, ⟨_, _, us, rfl, fun w2 hw2 => ⟨((HO3.out.kept (row_grown _ _ _) (HO3.out.ne (by omega))).newPart (by omega) hw2.2).read ?_ hfi.wf, (HALL.out w2 hw2.1).2⟩⟩, hbe⟩
  have := hfi.words
  simp only at this ⊢
  omega
set_option maxHeartbeats 1000000 in
theorem withList_any (G : World → Prop) (v : Value) (m : MemM) (i : Nat) (u : Value) (l : List Int) (w : World) (hG : G w) (hcl : Wide G) (h : StM G v m) (hi : i < m.lists.length) (hm : m.fits) (hu : StI G .i64 u l) :
    Calls Try.prog 70 #[v, .int .i64 i, u] w fun e w' => ∃ v', e = .returned v' ∧ StM (Nx G w w') v' ⟨m.words, m.lists.set i l, m.tick⟩ ∧ Below w.heap.size w w' := by
  obtain ⟨vw, vl, us, rfl, hall⟩ := h
  obtain ⟨h1, h2⟩ := hall w hG
  have hu0 := hu w hG
  have hus := h2.2.1
  have HL := Lib.hid h2
  have hw1 := hm.lists
  obtain ⟨a, cap, rfl, -⟩ := h1.len
  obtain ⟨a2, cap2, rfl, -⟩ := h2.len
  obtain ⟨ua, uc, rfl, -⟩ := hu0.len
  have HALL := Lib.hid hall
  have HU := Lib.hid hu
  clear h1 h2 hm hu0 hall hG hcl hu
  obtain ⟨W, hW⟩ : ∃ W, (w.alloc (.cells #[.slice a m.words.length cap, .slice a2 m.lists.length cap2, .int .i64 m.tick] 29)).alloc (.cells zeroMem 29) = W := ⟨_, rfl⟩
  have HB : Hid (Below w.heap.size w W) := hW ▸ below_new (below_new (Below.refl w.heap.size w) _) _
  have hz : w.heap.size + 2 ≤ W.heap.size := by rw [← hW]; simp
  have R0 : Hid (W.heap[w.heap.size]? = some (.cells #[.slice a m.words.length cap, .slice a2 m.lists.length cap2, .int .i64 m.tick] 29 (0, 0))) := hW ▸ heap_alloc2_old _ _ _
  have R1 : Hid (W.heap[w.heap.size + 1]? = some (.cells zeroMem 29 (0, 0))) := hW ▸ heap_alloc2_new _ _ _
  have HW := Lib.hid hW
  clear hW
  have c1 := cell_of_row _ _ 1 _ _ _ R0.out
  simp at c1
  go_enter Try.func70, Try.ntmps70
  go_wp2_with fail
  rw [show (#[.slice none 0 0, .slice none 0 0, .int .i64 0] : Array Value) = zeroMem from rfl, HW.out]
  refine (cloneL_any _ us m.lists _ (HL.out.below HB.out) (by omega)).mono ?_; rintro e w1 ⟨v1, rfl, ho, hb1⟩
  obtain ⟨g, cg, e1, hgW, hg1⟩ : ∃ g c, v1 = .slice (some ⟨g, 0, none⟩) m.lists.length c ∧ W.heap.size ≤ g ∧ g < w1.heap.size := by
    rcases ho.2 with ⟨_, h⟩ | ⟨g, c, cur, h, h2, h3, _⟩
    · omega
    · exact ⟨g, c, h, h2, (Array.getElem?_eq_some_iff.1 h3).1⟩
  subst e1
  have HO := Lib.hid ho
  have S0 := Lib.hid ((hb1.block w.heap.size (by omega)).trans R0.out)
  have S1 := Lib.hid ((hb1.block (w.heap.size + 1) (by omega)).trans R1.out)
  have HB1 := Lib.hid (HB.out.trans (hb1.mono (by omega)))
  have hz1 : w.heap.size + 2 ≤ w1.heap.size := Nat.le_trans hz hb1.size
  clear ho hb1
  generalize hn : m.lists.length = n at *
  have HN := Lib.hid hn
  clear hn
  obtain ⟨d0, d1, d2⟩ := rowc3 S0.out
  have f1 := frozen_of_row _ _ 1 _ _ S0.out
  have T0 := Lib.hid (heap_setCell_same w1 w.heap.size 1 _ _ (.slice (some ⟨g, 0, none⟩) n cg) S0.out)
  simp at T0
  obtain ⟨t0, t1, t2⟩ := rowc3 T0.out
  have hne : g ≠ w.heap.size := by omega
  have gr1 := grownBy_setCell w1 ⟨w.heap.size, 1, none⟩ (.slice (some ⟨g, 0, none⟩) n cg)
  have hrow2 := HO.out.kept gr1 (.inr (by simpa [Value.ownBlock] using hne))
  have k0 : (w1.setCell ⟨w.heap.size, 1, none⟩ (.slice (some ⟨g, 0, none⟩) n cg)).cell? ⟨g, i, none⟩ = some (us.getD i (.slice none 0 0)) := by
    rw [World.ownsRow.cellAt hrow2 i (by omega)]
    simp [List.getD_eq_getElem?_getD, show i < us.length by omega]
  have k1 := hrow2.frozenAt i
  have HR2 := Lib.hid hrow2
  obtain ⟨uo, huo⟩ : ∃ uo, us.getD i (.slice none 0 0) = uo := ⟨_, rfl⟩
  rw [huo] at k0
  clear hrow2 gr1 huo
  have TROW := Lib.hid ((heap_setCell_other (w1.setCell ⟨w.heap.size, 1, none⟩ (.slice (some ⟨g, 0, none⟩) n cg)) ⟨g, i, none⟩ (w.heap.size + 1) (.slice ua l.length uc) (by show w.heap.size + 1 ≠ g; omega)).trans ((heap_setCell_other w1 ⟨w.heap.size, 1, none⟩ (w.heap.size + 1) (.slice (some ⟨g, 0, none⟩) n cg) (by simp)).trans S1.out))
  go_wp2_with (first | (refine wpList_store_row rfl 29 _ _ rfl (w.heap.size + 1) _ rfl rfl 29 zeroMem TROW.out (by kernel_rfl) rfl (by simp [Value.oneCell']) ?_))
  refine bodyPost_ret (v := .agg #[.slice a m.words.length cap, .slice (some ⟨g, 0, none⟩) n cg, .int .i64 m.tick]) (results_cell_row Try.results70 _ _ (w.heap.size + 1) 29 _ (0, 0) _ rfl (setRow_heap _ _ _ _ 29 (0, 0) TROW.out) Try.underlying29 rfl (by kernel_rfl)) rfl ?_
  have hb2 := ((HB1.out.setCell (p := ⟨w.heap.size, 1, none⟩) (Nat.le_refl _) (.slice (some ⟨g, 0, none⟩) n cg)).setCell (p := ⟨g, i, none⟩) (by show w.heap.size ≤ g; omega) (.slice ua l.length uc))
  have hbe := row_below hb2 (Nat.le_succ _) #[.slice a m.words.length cap, .slice (some ⟨g, 0, none⟩) n cg, .int .i64 m.tick]
  have r3 := (World.ownsRow.stored HR2.out i (.slice ua l.length uc)).1.kept (row_grown _ (w.heap.size + 1) #[.slice a m.words.length cap, .slice (some ⟨g, 0, none⟩) n cg, .int .i64 m.tick]) (.inr (by simp [Value.ownBlock]; omega))
  refine ⟨_, rfl, ⟨_, _, us.set i (.slice ua l.length uc), rfl, fun w2 hw2 => ⟨(HALL.out w2 hw2.1).1, ?_⟩⟩, hbe⟩
  refine row_read (base := W.heap.size) ?_ (each_set (by rw [hus, HN.out]) i (HU.out w2 hw2.1) (HALL.out w2 hw2.1).2.each) (by rw [List.length_set, HN.out]; omega)
  rw [List.length_set, HN.out]
  exact row_newPart r3 (by omega) hw2.2
set_option maxHeartbeats 1000000 in
theorem rput_any (G : World → Prop) (v : Value) (m : MemM) (i : Nat) (u : Value) (l : List Int) (w : World) (hG : G w) (hcl : Wide G) (h : StM G v m) (hi : i < m.lists.length) (hm : m.fits) (hu : StI G .i64 u l) :
    Calls Try.prog 36 #[v, .int .i64 i, u] w fun e w' => ∃ v', e = .returned v' ∧ StM (Nx G w w') v' ⟨m.words, m.lists.set i l, m.tick⟩ ∧ Below w.heap.size w w' := by
  obtain ⟨vw, vl, us, rfl, hall⟩ := h
  obtain ⟨h1, h2⟩ := hall w hG
  have hu0 := hu w hG
  have hus := h2.2.1
  have HL := Lib.hid h2
  have hw1 := hm.lists
  obtain ⟨a, cap, rfl, -⟩ := h1.len
  obtain ⟨a2, cap2, rfl, -⟩ := h2.len
  obtain ⟨ua, uc, rfl, -⟩ := hu0.len
  have HALL := Lib.hid hall
  have HU := Lib.hid hu
  clear h1 h2 hm hu0 hall hG hcl hu
  obtain ⟨W, hW⟩ : ∃ W, (w.alloc (.cells #[.slice a m.words.length cap, .slice a2 m.lists.length cap2, .int .i64 m.tick] 29)).alloc (.cells zeroMem 29) = W := ⟨_, rfl⟩
  have HB : Hid (Below w.heap.size w W) := hW ▸ below_new (below_new (Below.refl w.heap.size w) _) _
  have hz : w.heap.size + 2 ≤ W.heap.size := by rw [← hW]; simp
  have R0 : Hid (W.heap[w.heap.size]? = some (.cells #[.slice a m.words.length cap, .slice a2 m.lists.length cap2, .int .i64 m.tick] 29 (0, 0))) := hW ▸ heap_alloc2_old _ _ _
  have R1 : Hid (W.heap[w.heap.size + 1]? = some (.cells zeroMem 29 (0, 0))) := hW ▸ heap_alloc2_new _ _ _
  have HW := Lib.hid hW
  clear hW
  have c1 := cell_of_row _ _ 1 _ _ _ R0.out
  simp at c1
  go_enter Try.func36, Try.ntmps36
  go_upto_region 1 with fail
  rw [show (#[.slice none 0 0, .slice none 0 0, .int .i64 0] : Array Value) = zeroMem from rfl, HW.out]
  obtain ⟨v1, w1, hr, ho, hg1⟩ := run_copy_li W 27 W.heap.size (Nat.le_refl _) (.slice none 0 0) (World.ownsRow_nil _ _ _ _) _ us m.lists (HL.out.below HB.out) (by omega)
  have hb1 : Below W.heap.size W w1 := (Below.refl _ _).grown hg1 (Nat.le_refl _) (fun j hj => by cases hj)
  clear hg1
  obtain ⟨g, cg, e1, hgW, hg1⟩ : ∃ g c, v1 = .slice (some ⟨g, 0, none⟩) m.lists.length c ∧ W.heap.size ≤ g ∧ g < w1.heap.size := by
    rcases ho.2 with ⟨_, h⟩ | ⟨g, c, cur, h, h2, h3, _⟩
    · omega
    · exact ⟨g, c, h, h2, (Array.getElem?_eq_some_iff.1 h3).1⟩
  subst e1
  have HO := Lib.hid ho
  have S0 := Lib.hid ((hb1.block w.heap.size (by omega)).trans R0.out)
  have S1 := Lib.hid ((hb1.block (w.heap.size + 1) (by omega)).trans R1.out)
  have HB1 := Lib.hid (HB.out.trans (hb1.mono (by omega)))
  have hz1 : w.heap.size + 2 ≤ w1.heap.size := Nat.le_trans hz hb1.size
  clear ho hb1
  generalize hn : m.lists.length = n at *
  have HN := Lib.hid hn
  clear hn
  obtain ⟨d0, d1, d2⟩ := rowc3 S0.out
  have f1 := frozen_of_row _ _ 1 _ _ S0.out
  have T0 := Lib.hid (heap_setCell_same w1 w.heap.size 1 _ _ (.slice (some ⟨g, 0, none⟩) n cg) S0.out)
  simp at T0
  obtain ⟨t0, t1, t2⟩ := rowc3 T0.out
  have hne : g ≠ w.heap.size := by omega
  have gr1 := grownBy_setCell w1 ⟨w.heap.size, 1, none⟩ (.slice (some ⟨g, 0, none⟩) n cg)
  have hrow2 := HO.out.kept gr1 (.inr (by simpa [Value.ownBlock] using hne))
  have k0 : (w1.setCell ⟨w.heap.size, 1, none⟩ (.slice (some ⟨g, 0, none⟩) n cg)).cell? ⟨g, i, none⟩ = some (us.getD i (.slice none 0 0)) := by
    rw [World.ownsRow.cellAt hrow2 i (by omega)]
    simp [List.getD_eq_getElem?_getD, show i < us.length by omega]
  have k1 := hrow2.frozenAt i
  have HR2 := Lib.hid hrow2
  obtain ⟨uo, huo⟩ : ∃ uo, us.getD i (.slice none 0 0) = uo := ⟨_, rfl⟩
  rw [huo] at k0
  clear hrow2 gr1 huo
  have TROW := Lib.hid ((heap_setCell_other (w1.setCell ⟨w.heap.size, 1, none⟩ (.slice (some ⟨g, 0, none⟩) n cg)) ⟨g, i, none⟩ (w.heap.size + 1) (.slice ua l.length uc) (by show w.heap.size + 1 ≠ g; omega)).trans ((heap_setCell_other w1 ⟨w.heap.size, 1, none⟩ (w.heap.size + 1) (.slice (some ⟨g, 0, none⟩) n cg) (by simp)).trans S1.out))
  go_wp2_with (first | (at_builtin; refine Lib.wpList_append_run _ rfl _ _ _ _ rfl _ _ rfl rfl _ _ hr ?_) | (refine wpList_store_row rfl 29 _ _ rfl (w.heap.size + 1) _ rfl rfl 29 zeroMem TROW.out (by kernel_rfl) rfl (by simp [Value.oneCell']) ?_))
  refine bodyPost_ret (v := .agg #[.slice a m.words.length cap, .slice (some ⟨g, 0, none⟩) n cg, .int .i64 m.tick]) (results_cell_row Try.results36 _ _ (w.heap.size + 1) 29 _ (0, 0) _ rfl (setRow_heap _ _ _ _ 29 (0, 0) TROW.out) Try.underlying29 rfl (by kernel_rfl)) rfl ?_
  have hb2 := ((HB1.out.setCell (p := ⟨w.heap.size, 1, none⟩) (Nat.le_refl _) (.slice (some ⟨g, 0, none⟩) n cg)).setCell (p := ⟨g, i, none⟩) (by show w.heap.size ≤ g; omega) (.slice ua l.length uc))
  have hbe := row_below hb2 (Nat.le_succ _) #[.slice a m.words.length cap, .slice (some ⟨g, 0, none⟩) n cg, .int .i64 m.tick]
  have r3 := (World.ownsRow.stored HR2.out i (.slice ua l.length uc)).1.kept (row_grown _ (w.heap.size + 1) #[.slice a m.words.length cap, .slice (some ⟨g, 0, none⟩) n cg, .int .i64 m.tick]) (.inr (by simp [Value.ownBlock]; omega))
  refine ⟨_, rfl, ⟨_, _, us.set i (.slice ua l.length uc), rfl, fun w2 hw2 => ⟨(HALL.out w2 hw2.1).1, ?_⟩⟩, hbe⟩
  refine row_read (base := W.heap.size) ?_ (each_set (by rw [hus, HN.out]) i (HU.out w2 hw2.1) (HALL.out w2 hw2.1).2.each) (by rw [List.length_set, HN.out]; omega)
  rw [List.length_set, HN.out]
  exact row_newPart r3 (by omega) hw2.2
end Go.Proofs.Ytipjfcjdefdoeaa
