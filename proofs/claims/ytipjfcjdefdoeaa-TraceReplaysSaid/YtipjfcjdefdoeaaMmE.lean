/- The reader of choices makes accesses. -/
import Derived.Test.YtipjfcjdefdoeaaMmD
namespace Go.Proofs.Ytipjfcjdefdoeaa
open Go.ChangeShapes Go.WideShapes Go.ChangeAt Go.RowKit
set_option maxRecDepth 100000

@[reducible] def zeroAccess : Array Value := #[.int .i64 0, .int .i64 0, .int .u64 0, .int .u64 0, .int .i64 0]
structure AInv (w0 w : World) (g : Nat) (bx : Array Value) : Prop where
  lt : g < w0.heap.size
  size : w0.heap.size + 2 ≤ w.heap.size
  codes : CodesE w g
  grown : w0.grownBy w (some g)
  box : w.heap[w0.heap.size]? = some (.cells bx 29 (0, 0))
  res : w.heap[w0.heap.size + 1]? = some (.cells zeroAccess 34 (0, 0))
theorem AInv.next {w0 w w' : World} {g : Nat} {bx : Array Value} (h : AInv w0 w g bx) (hc : CodesE w' g) (hg : w.grownBy w' (some g)) : AInv w0 w' g bx := by
  have hl := h.lt
  have hs := h.size
  exact ⟨hl, Nat.le_trans hs hg.size, hc, grownBy_trans h.grown hg, (hg.block _ (by omega) (by simp; omega)).trans h.box, (hg.block _ (by omega) (by simp; omega)).trans h.res⟩
theorem AInv.below {w0 w w' : World} {g : Nat} {bx : Array Value} (h : AInv w0 w g bx) (hb : Below w.heap.size w w') : AInv w0 w' g bx := h.next (h.codes.kept h.codes.lt hb) (grown_below hb)
structure AY (w0 w : World) (g : Nat) (bx : Array Value) (Y : Nat) (cells : Array Value) : Prop where
  inv : AInv w0 w g bx
  row : w.heap[Y]? = some (.cells cells 34 (0, 0))
  ge : w0.heap.size + 2 ≤ Y
theorem AY.lit {w0 w : World} {g : Nat} {bx : Array Value} (h : AInv w0 w g bx) (cells : Array Value) : AY w0 (w.alloc (.cells cells 34)) g bx w.heap.size cells := ⟨h.below (below_new (Below.refl _ _) _), heap_alloc_new _ _, h.size⟩
theorem AY.new {w0 w : World} {g : Nat} {bx : Array Value} (h : AInv w0 w g bx) : AY w0 (w.alloc (.cells zeroAccess 34)) g bx w.heap.size zeroAccess := AY.lit h _
theorem AY.next {w0 w w' : World} {g Y : Nat} {bx cells : Array Value} (h : AY w0 w g bx Y cells) (hc : CodesE w' g) (hg : w.grownBy w' (some g)) : AY w0 w' g bx Y cells := by
  have hl := h.inv.lt
  have hge := h.ge
  exact ⟨h.inv.next hc hg, (hg.block Y (Array.getElem?_eq_some_iff.1 h.row).1 (by simp; omega)).trans h.row, h.ge⟩
theorem AY.frozen {w0 w : World} {g Y : Nat} {bx cells : Array Value} (h : AY w0 w g bx Y cells) : w.frozen? ⟨Y, 0, none⟩ = false ∧ w.frozen? ⟨Y, 1, none⟩ = false ∧ w.frozen? ⟨Y, 2, none⟩ = false ∧ w.frozen? ⟨Y, 3, none⟩ = false ∧ w.frozen? ⟨Y, 4, none⟩ = false :=
  ⟨frozen_of_row _ _ 0 _ _ h.row, frozen_of_row _ _ 1 _ _ h.row, frozen_of_row _ _ 2 _ _ h.row, frozen_of_row _ _ 3 _ _ h.row, frozen_of_row _ _ 4 _ _ h.row⟩
theorem AY.set {w0 w : World} {g Y : Nat} {bx cells : Array Value} (h : AY w0 w g bx Y cells) (o : Nat) (u : Value) : AY w0 (w.setCell ⟨Y, o, none⟩ u) g bx Y (cells.setIfInBounds o u) := by
  have hi := h.inv
  have hl := hi.lt
  have hs := hi.size
  have hge := h.ge
  have hb : Below (w0.heap.size + 2) w (w.setCell ⟨Y, o, none⟩ u) := ((Below.refl w.heap.size w).mono hs).setCell (p := ⟨Y, o, none⟩) hge u
  exact ⟨⟨hl, by simpa using hs, hi.codes.kept (by omega) hb, grownBy_of_new hi.grown (grownBy_setCell w ⟨Y, o, none⟩ u) (fun k hk => by cases hk; simp; omega), (hb.block _ (by omega)).trans hi.box, (hb.block _ (by omega)).trans hi.res⟩, heap_setCell_same w Y o _ _ u h.row, hge⟩
theorem AY.set5 {w0 w : World} {g Y : Nat} {bx : Array Value} (h : AY w0 w g bx Y zeroAccess) (a b c d e : Value) : AY w0 (((((w.setCell ⟨Y, 0, none⟩ a).setCell ⟨Y, 1, none⟩ b).setCell ⟨Y, 2, none⟩ c).setCell ⟨Y, 3, none⟩ d).setCell ⟨Y, 4, none⟩ e) g bx Y #[a, b, c, d, e] := by
  have := ((((h.set 0 a).set 1 b).set 2 c).set 3 d).set 4 e
  simpa [zeroAccess] using this
theorem AInv.drewn {w0 w : World} {g : Nat} {bx : Array Value} (h : AInv w0 w g bx) : AInv w0 w.drew g bx :=
  h.next (show CodesE w g from h.codes) ⟨rfl, rfl, rfl, Nat.le_refl _, fun _ _ _ => rfl⟩
theorem AY.newD {w0 w : World} {g : Nat} {bx : Array Value} (h : AInv w0 w g bx) : AY w0 (w.alloc (.cells zeroAccess 34)).drew g bx w.heap.size zeroAccess :=
  (AY.new h).next (show CodesE _ g from (AY.new h).inv.codes) ⟨rfl, rfl, rfl, Nat.le_refl _, fun _ _ _ => rfl⟩
theorem AInv.boxAt {w0 w : World} {g : Nat} {b0 b1 b2 : Value} (h : AInv w0 w g #[b0, b1, b2]) : w.cell? ⟨w0.heap.size, 0, none⟩ = some b0 ∧ w.cell? ⟨w0.heap.size, 1, none⟩ = some b1 ∧ w.cell? ⟨w0.heap.size, 2, none⟩ = some b2 := rowc3 h.box
set_option maxHeartbeats 8000000 in
theorem accessE (g : Nat) (A A2 : Option Addr) (n c n2 c2 : Nat) (t : Int) (w : World) (h : CodesE w g) (hn : n ≤ 200) (hn2 : n2 ≤ 200) :
    Calls Try.prog 10 #[.pointer (some ⟨g, 0, none⟩), .agg #[.slice A n c, .slice A2 n2 c2, .int .i64 t]] w fun e w' => ∃ a, e = .returned (accV a) ∧ a.ok ∧ CodesE w' g ∧ w.grownBy w' (some g) := by
  obtain ⟨W, hW⟩ : ∃ W, (w.alloc (.cells #[.slice A n c, .slice A2 n2 c2, .int .i64 t] 29)).alloc (.cells zeroAccess 34) = W := ⟨_, rfl⟩
  have hb := hW ▸ below_new (below_new (Below.refl w.heap.size w) (.cells #[.slice A n c, .slice A2 n2 c2, .int .i64 t] 29)) (.cells zeroAccess 34)
  have HI : Hid (AInv w W g #[.slice A n c, .slice A2 n2 c2, .int .i64 t]) := ⟨h.lt, by rw [← hW]; simp, h.kept h.lt hb, grown_below hb, hW ▸ heap_alloc2_old _ _ _, hW ▸ heap_alloc2_new _ _ _⟩
  have HW := Lib.hid hW
  clear hb hW h
  go_enter Try.func10, Try.ntmps10
  go_upto_region 1 with fail
  rw [show (#[.int .i64 0, .int .i64 0, .int .u64 0, .int .u64 0, .int .i64 0] : Array Value) = zeroAccess from rfl, HW.out]
  clear HW
  have hn0 : (0 : Int) ≤ (n : Int) + 2 := by omega
  have hnw : IntKind.i64.wrap ((n : Int) + 2) = (n : Int) + 2 := by rw [IntKind.wrap_i64]; omega
  go_cut [5] (fun s5 wx => ∃ (Y : Nat) (k a o p : Int), s5 = .pointer (some ⟨Y, 0, none⟩) ∧ Hid (0 ≤ k ∧ k < 11 ∧ -1 ≤ a ∧ a ≤ 300 ∧ 0 ≤ o ∧ o < 4 ∧ 0 ≤ p ∧ p < 4) ∧ Hid (AY w wx g #[.slice A n c, .slice A2 n2 c2, .int .i64 t] Y #[.int .i64 k, .int .i64 a, .int .u64 o, .int .u64 p, .int .i64 0]))
  case first =>
    obtain ⟨b0, b1, b2⟩ := HI.out.boxAt
    have q0 : w.heap.size < W.heap.size := by have := HI.out.size; omega
    have hb1 : (1 : Int) ≤ (n : Int) + 2 := by omega
    have hb2 : (n : Int) + 2 ≤ 256 := by omega
    have T1 := Lib.hid (nextE g 11 W.drew HI.out.drewn.codes (by decide) (by decide))
    have TA1 := Lib.hid (nextE g 11 ((W.alloc (.cells zeroAccess 34)).drew) (AY.newD HI.out).inv.codes (by decide) (by decide))
    go_region_law (go_simp; go_at_call 13; first
      | (with_reducible refine TY4.out.mono ?_; rintro e w4 ⟨x4, rfl, h40, h41, hc4, hg4⟩; have hY4 := Lib.hid (hY3.out.next hc4 hg4); clear hc4 hg4 TY4; obtain ⟨y0, y1, y2, y3, y4⟩ := rowc5 hY4.out.row; obtain ⟨z0, z1, z2, z3, z4⟩ := hY4.out.frozen)
      | (with_reducible refine TA4.out.mono ?_; rintro e w4 ⟨x4, rfl, h40, h41, hc4, hg4⟩; have hY4 := Lib.hid ((AY.new hI3.out).next hc4 hg4); clear hc4 hg4 T4 TA4; obtain ⟨y0, y1, y2, y3, y4⟩ := rowc5 hY4.out.row; obtain ⟨z0, z1, z2, z3, z4⟩ := hY4.out.frozen)
      | (with_reducible refine T4.out.mono ?_; rintro e w4 ⟨x4, rfl, h40, h41, hc4, hg4⟩; have hI4 := Lib.hid (hI3.out.next hc4 hg4); clear hc4 hg4 T4 TA4)
      | (with_reducible refine TY3.out.mono ?_; rintro e w3 ⟨x3, rfl, h30, h31, hc3, hg3⟩; have hY3 := Lib.hid (hY2.out.next hc3 hg3); clear hc3 hg3 TY3; have TY4 := Lib.hid (nextE g 4 w3 hY3.out.inv.codes (by decide) (by decide)))
      | (with_reducible refine TA3.out.mono ?_; rintro e w3 ⟨x3, rfl, h30, h31, hc3, hg3⟩; have hY3 := Lib.hid ((AY.new hI2.out).next hc3 hg3); clear hc3 hg3 T3 TA3; have TY4 := Lib.hid (nextE g 4 w3 hY3.out.inv.codes (by decide) (by decide)))
      | (with_reducible refine T3.out.mono ?_; rintro e w3 ⟨x3, rfl, h30, h31, hc3, hg3⟩; have hI3 := Lib.hid (hI2.out.next hc3 hg3); clear hc3 hg3 T3 TA3; have T4 := Lib.hid (nextE g 4 w3 hI3.out.codes (by decide) (by decide)); have TA4 := Lib.hid (nextE g 4 (w3.alloc (.cells zeroAccess 34)) (AY.new hI3.out).inv.codes (by decide) (by decide)))
      | (with_reducible refine TY2.out.mono ?_; rintro e w2 ⟨x2, rfl, h20, h21, hc2, hg2⟩; have hY2 := Lib.hid (hY1.out.next hc2 hg2); clear hc2 hg2 TY2; have TY3 := Lib.hid (nextE g 4 w2 hY2.out.inv.codes (by decide) (by decide)))
      | (with_reducible refine TA2.out.mono ?_; rintro e w2 ⟨x2, rfl, h20, h21, hc2, hg2⟩; have hY2 := Lib.hid ((AY.new hI1.out).next hc2 hg2); clear hc2 hg2 T2 TA2; have TY3 := Lib.hid (nextE g 4 w2 hY2.out.inv.codes (by decide) (by decide)))
      | (with_reducible refine T2.out.mono ?_; rintro e w2 ⟨x2, rfl, h20, h21, hc2, hg2⟩; have hI2 := Lib.hid (hI1.out.next hc2 hg2); clear hc2 hg2 T2 TA2; have T3 := Lib.hid (nextE g 4 w2 hI2.out.codes (by decide) (by decide)); have TA3 := Lib.hid (nextE g 4 (w2.alloc (.cells zeroAccess 34)) (AY.new hI2.out).inv.codes (by decide) (by decide)))
      | (with_reducible refine TA1.out.mono ?_; rintro e w1 ⟨x1, rfl, h10, h11, hc1, hg1⟩; have hY1 := Lib.hid ((AY.newD HI.out).next hc1 hg1); clear hc1 hg1 T1 TA1; obtain ⟨b0, b1, b2⟩ := hY1.out.inv.boxAt; have TY2 := Lib.hid (nextE g ((n : Int) + 2) w1 hY1.out.inv.codes hb1 hb2))
      | (with_reducible refine T1.out.mono ?_; rintro e w1 ⟨x1, rfl, h10, h11, hc1, hg1⟩; have hI1 := Lib.hid (HI.out.drewn.next hc1 hg1); clear hc1 hg1 T1 TA1; obtain ⟨b0, b1, b2⟩ := hI1.out.boxAt; have q1 : w.heap.size < w1.heap.size := Nat.lt_of_lt_of_le (Nat.lt_add_of_pos_right Nat.zero_lt_two) hI1.out.size; have T2 := Lib.hid (nextE g ((n : Int) + 2) w1 hI1.out.codes hb1 hb2); have TA2 := Lib.hid (nextE g ((n : Int) + 2) (w1.alloc (.cells zeroAccess 34)) (AY.new hI1.out).inv.codes hb1 hb2)))
    all_goals
      go_wp2_with fail
      go_meet
      refine ⟨_, _, _, _, _, rfl, ?_, by first | exact hY4.out.set5 _ _ _ _ _ | exact AY.lit hI4.out _⟩
      show 0 ≤ _ ∧ _ < 11 ∧ -1 ≤ _ ∧ _ ≤ 300 ∧ 0 ≤ _ ∧ _ < 4 ∧ 0 ≤ _ ∧ _ < 4
      refine ⟨?_, ?_, ?_, ?_, ?_, ?_, ?_, ?_⟩ <;> first | omega | (rw [IntKind.wrap_i64]; omega) | (rw [IntKind.wrap_u64]; omega)
  case rest =>
    obtain ⟨Y, k, ad, o, p, rfl, HBD, HY⟩ := hcut
    obtain ⟨wd, rfl⟩ : ∃ wd : World, wd = wc := ⟨_, rfl⟩
    clear HI hn0 hnw
    obtain ⟨y0, y1, y2, y3, y4⟩ := rowc5 HY.out.row
    obtain ⟨b0, b1, b2⟩ := HY.out.inv.boxAt
    go_upto_if 24 with (fail)
    go_cut [5] (fun s5 wx => s5 = .pointer (some ⟨Y, 0, none⟩) ∧ ∃ a : Int, Hid (-1 ≤ a ∧ a ≤ 300) ∧ Hid (AY w wx g #[.slice A n c, .slice A2 n2 c2, .int .i64 t] Y #[.int .i64 k, .int .i64 a, .int .u64 o, .int .u64 p, .int .i64 0]))
    case first =>
      by_cases hk : 7 ≤ k
      · have hkB : decide (7 ≤ k) = true := decide_eq_true hk
        have hb1 : (1 : Int) ≤ (n2 : Int) + 2 := by omega
        have hb2 : (n2 : Int) + 2 ≤ 256 := by omega
        have T := Lib.hid (nextE g ((n2 : Int) + 2) wd HY.out.inv.codes hb1 hb2)
        go_wp2_with fail
        with_reducible refine T.out.mono ?_; rintro e w2 ⟨x, rfl, hx0, hx1, hc2, hg2⟩
        have hY2 := Lib.hid (HY.out.next hc2 hg2)
        have hS := hY2.out.set 1 (.int .i64 (x - 1))
        simp at hS
        have HS := Lib.hid hS
        obtain ⟨z0, z1, z2, z3, z4⟩ := hY2.out.frozen
        clear y0 y1 y2 y3 y4 hS hc2 hg2
        obtain ⟨y0, y1, y2, y3, y4⟩ := rowc5 hY2.out.row
        have hxb : -1 ≤ x - 1 ∧ x - 1 ≤ 300 := by omega
        go_wp2_with fail
        go_meet
        exact ⟨rfl, x - 1, hxb, HS.out⟩
      · have hkB : decide (7 ≤ k) = false := decide_eq_false hk
        go_wp2_with fail
        go_meet
        exact ⟨rfl, ad, ⟨HBD.out.2.2.1, HBD.out.2.2.2.1⟩, HY.out⟩
    case rest =>
      obtain ⟨rfl, a, HA, HY2⟩ := hcut
      obtain ⟨wd2, rfl⟩ : ∃ wd2 : World, wd2 = wc := ⟨_, rfl⟩
      clear y0 y1 y2 y3 y4 b0 b1 b2 HY
      obtain ⟨y0, y1, y2, y3, y4⟩ := rowc5 HY2.out.row
      go_upto_if 35 with (fail)
      go_cut [5] (fun s5 wx => s5 = .pointer (some ⟨Y, 0, none⟩) ∧ ∃ u : Int, Hid (0 ≤ u ∧ u < 6) ∧ Hid (AY w wx g #[.slice A n c, .slice A2 n2 c2, .int .i64 t] Y #[.int .i64 k, .int .i64 a, .int .u64 o, .int .u64 p, .int .i64 u]))
      case first =>
        by_cases hk : k = 4
        · have hkB : (k == 4) = true := by simpa using hk
          have T := Lib.hid (nextE g 6 wd2 HY2.out.inv.codes (by decide) (by decide))
          go_wp2_with fail
          with_reducible refine T.out.mono ?_; rintro e w2 ⟨x, rfl, hx0, hx1, hc2, hg2⟩
          have hY2 := Lib.hid (HY2.out.next hc2 hg2)
          have hS := hY2.out.set 4 (.int .i64 x)
          simp at hS
          have HS := Lib.hid hS
          obtain ⟨z0, z1, z2, z3, z4⟩ := hY2.out.frozen
          clear y0 y1 y2 y3 y4 hS hc2 hg2
          obtain ⟨y0, y1, y2, y3, y4⟩ := rowc5 hY2.out.row
          go_wp2_with fail
          go_meet
          exact ⟨rfl, x, ⟨hx0, hx1⟩, HS.out⟩
        · have hkB : (k == 4) = false := by simpa using hk
          go_wp2_with fail
          go_meet
          exact ⟨rfl, 0, ⟨Int.le_refl _, by decide⟩, HY2.out⟩
      case rest =>
        obtain ⟨rfl, u, HU, HY3⟩ := hcut
        obtain ⟨wd3, rfl⟩ : ∃ wd3 : World, wd3 = wc := ⟨_, rfl⟩
        clear y0 y1 y2 y3 y4 HY2
        obtain ⟨y0, y1, y2, y3, y4⟩ := rowc5 HY3.out.row
        have HBB : Hid (Below w.heap.size wd3 (wd3.setRow (w.heap.size + 1) #[.int .i64 k, .int .i64 a, .int .u64 o, .int .u64 p, .int .i64 u])) := row_below (Below.refl w.heap.size wd3) (Nat.le_succ _) _
        have HOK : Hid (AccM.ok ⟨k, a, o, p, u⟩) := by
          obtain ⟨h1, h2, h3, h4, h5, h6, h7, h8⟩ := HBD.out
          have h9 := HA.out
          have h10 := HU.out
          refine ⟨?_, ?_, ?_, ?_, ?_⟩
          · show k = IntKind.i64.wrap k; rw [IntKind.wrap_i64]; omega
          · show a = IntKind.i64.wrap a; rw [IntKind.wrap_i64]; omega
          · show o = IntKind.u64.wrap o; rw [IntKind.wrap_u64]; omega
          · show p = IntKind.u64.wrap p; rw [IntKind.wrap_u64]; omega
          · show u = IntKind.i64.wrap u; rw [IntKind.wrap_i64]; omega
        go_wp2_with (refine wpList_store_row rfl 34 _ _ rfl (w.heap.size + 1) _ rfl rfl 34 zeroAccess HY3.out.inv.res (by kernel_rfl) rfl (by simp [Value.oneCell']) ?_)
        refine bodyPost_ret (v := .agg #[.int .i64 k, .int .i64 a, .int .u64 o, .int .u64 p, .int .i64 u]) (results_cell_row Try.results10 _ _ (w.heap.size + 1) 34 _ (0, 0) _ rfl (setRow_heap _ _ _ _ 34 (0, 0) HY3.out.inv.res) Try.underlying34 rfl (by kernel_rfl)) rfl ?_
        exact ⟨⟨k, a, o, p, u⟩, rfl, HOK.out, HY3.out.inv.codes.kept HY3.out.inv.lt HBB.out, grownBy_of_below HY3.out.inv.grown HBB.out⟩
end Go.Proofs.Ytipjfcjdefdoeaa
