import Derived.Deep.DeepCutAuto
import Derived.Deep.CutBlock
import Derived.Test.YtialclohhemkiaaB20
import Derived.Test.YtialclohhemkiaaB19
set_option linter.unusedVariables false
set_option linter.unusedSimpArgs false
/- Layer 14: the law's result. -/
namespace Go.Proofs.Ytialclohhemkiaa
open Go.ChangeShapes Go.WideShapes Go.ChangeAt Go.RowKit
set_option maxRecDepth 100000

/-- while a result is drawn: the box X holds some result -/
structure ResI (w wx : World) (g X : Nat) (nc : Nat) (rowO : Array Value) (k c v : Int) (o : Bool) (n : Int) : Prop where
  row : wx.heap[X]? = some (.cells #[.int .i64 k, .int .i64 c, .int .u64 v, .bool o, .int .i64 n] 25 (0, 0))
  case : c = -1 ∨ ∃ i : Nat, c = i ∧ i < nc
  code : CodesE wx g
  grown : w.grownBy wx (some g)
  op : wx.heap[w.heap.size]? = some (.cells rowO 38 (0, 0))
  res : wx.heap[w.heap.size + 1]? = some (.cells #[.int .i64 0, .int .i64 0, .int .u64 0, .bool false, .int .i64 0] 25 (0, 0))
  gw : g < w.heap.size
  Xw : w.heap.size + 2 ≤ X
theorem ResI.draw {w wx w2 : World} {g X nc : Nat} {rowO : Array Value} {k c v : Int} {o : Bool} {n : Int} (h : ResI w wx g X nc rowO k c v o n) (hg : wx.grownBy w2 (some g)) (hc : CodesE w2 g) : ResI w w2 g X nc rowO k c v o n := by
  have hgw := h.gw
  have hX := h.Xw
  have hb : ∀ j, w.heap.size ≤ j → ∀ ob, wx.heap[j]? = some ob → w2.heap[j]? = some ob := fun j hj ob h1 => (hg.block j (Array.getElem?_eq_some_iff.1 h1).1 (fun e => by cases e; omega)).trans h1
  exact ⟨hb X (by omega) _ h.row, h.case, hc, grownBy_trans h.grown hg, hb _ (Nat.le_refl _) _ h.op, hb _ (by omega) _ h.res, h.gw, h.Xw⟩
/-- a cell of the result is stored -/
theorem ResI.poke {w wx : World} {g X nc : Nat} {rowO : Array Value} {k c v : Int} {o : Bool} {n : Int} (h : ResI w wx g X nc rowO k c v o n) (j : Nat) (u : Value) {k2 c2 v2 : Int} {o2 : Bool} {n2 : Int} (hr : (#[.int .i64 k, .int .i64 c, .int .u64 v, .bool o, .int .i64 n] : Array Value).setIfInBounds j u = #[.int .i64 k2, .int .i64 c2, .int .u64 v2, .bool o2, .int .i64 n2]) (hc2 : c2 = -1 ∨ ∃ i : Nat, c2 = i ∧ i < nc) : ResI w (wx.setCell ⟨X, j, none⟩ u) g X nc rowO k2 c2 v2 o2 n2 := by
  have hgw := h.gw
  have hX := h.Xw
  have r1 := heap_setCell_same wx X j _ _ u h.row
  rw [hr] at r1
  refine ⟨r1, hc2, codes_grown h.code (grownBy_setCell wx ⟨X, j, none⟩ u) (B := w.heap.size) (fun q hq => by cases hq; show w.heap.size ≤ X; omega) h.gw, grownBy_of_new h.grown (grownBy_setCell wx ⟨X, j, none⟩ u) (fun q hq => by cases hq; show w.heap.size ≤ X; omega), ?_, ?_, h.gw, h.Xw⟩
  · exact (heap_setCell_other wx ⟨X, j, none⟩ w.heap.size u (by show w.heap.size ≠ X; omega)).trans h.op
  · exact (heap_setCell_other wx ⟨X, j, none⟩ (w.heap.size + 1) u (by show w.heap.size + 1 ≠ X; omega)).trans h.res
theorem ResI.fin {w wx : World} {g X nc : Nat} {rowO : Array Value} {k c v : Int} {o : Bool} {n : Int} (h : ResI w wx g X nc rowO k c v o n) (cs : Array Value) : CodesE (wx.setRow (w.heap.size + 1) cs) g ∧ w.grownBy (wx.setRow (w.heap.size + 1) cs) (some g) :=
  ⟨codes_grown h.code (row_grown wx (w.heap.size + 1) cs) (B := w.heap.size) (fun q hq => by cases hq; omega) h.gw, grownBy_of_new h.grown (row_grown wx (w.heap.size + 1) cs) (fun q hq => by cases hq; omega)⟩
set_option maxRecDepth 100000 in
set_option maxHeartbeats 16000000 in
theorem result_any (g : Nat) (vl vo : Value) (l : List ChanM) (op : OpM) (w : World) (hC : CodesE w g) (hv : SlH w vl l) (ho : OpX w g vo op) (hcl : op.cases.length ≤ 200) : Calls Try.prog 19 #[.pointer (some ⟨g, 0, none⟩), vl, vo] w fun e w' => ∃ r, e = .returned (resW r) ∧ CodesE w' g ∧ w.grownBy w' (some g) := by
  have HFIN := Lib.hid fun k c v o n w' (h1 : CodesE w' g) (h2 : w.grownBy w' (some g)) => (show ∃ r, Ending.returned (.agg #[.int .i64 k, .int .i64 c, .int .u64 v, .bool o, .int .i64 n]) = .returned (resW r) ∧ CodesE w' g ∧ w.grownBy w' (some g) from ⟨⟨k, c, v, o, n⟩, rfl, h1, h2⟩)
  have HV := Lib.hid hv
  have hgl := hC.lt
  have HC := Lib.hid hC
  obtain ⟨vc, vd, rfl, hc, hd, hoc, -⟩ := ho
  obtain ⟨kd, md, ch, val, dl, cs, ds⟩ := op
  dsimp only at *
  obtain ⟨a3, cap3, rfl⟩ := hc.len
  obtain ⟨a4, cap4, rfl, -⟩ := hd.len
  have HCS := Lib.hid (And.intro hc hoc)
  obtain ⟨al, cpl, hve, -⟩ := hv.len
  subst hve
  have HCIS := Lib.hid (codes_is hC)
  clear hv hc hd hC hoc
  obtain ⟨W, hW, HB, R0, R1, hz⟩ := two_new w (.cells #[.int .i64 kd, .int .i64 md, .int .i64 ch, .int .u64 val, .int .i64 dl, .slice a3 cs.length cap3, .slice a4 ds.length cap4] 38) (.cells #[.int .i64 0, .int .i64 0, .int .u64 0, .bool false, .int .i64 0] 25)
  have HW := Lib.hid hW
  clear hW
  go_enter Try.func19, Try.ntmps19
  go_upto_region 1 with fail
  rw [HW.out]
  clear HW
  obtain ⟨x0_0, x0_1, x0_2, x0_3, x0_4, x0_5, x0_6⟩ := rowc7 R0.out
  clear x0_0 x0_1 x0_2 x0_3 x0_4 x0_5 x0_6
  have HGB : Hid (w.grownBy W (some g)) := grown_below HB.out
  have T1 := Lib.hid (nextE g 7 W (HC.out.kept hgl HB.out) (by omega) (by omega))
  go_wp2_with fail
  refine T1.out.mono ?_; rintro e w1 ⟨x, rfl, hx0, hx1, hc1, hg1⟩
  have hw1 : IntKind.i64.wrap (1 + x) = 1 + x := (i64_small _ (by omega) (by omega)).symm
  have hbk : ∀ j, w.heap.size ≤ j → ∀ ob, W.heap[j]? = some ob → w1.heap[j]? = some ob := fun j hj ob h1 => (hg1.block j (Array.getElem?_eq_some_iff.1 h1).1 (fun e => by cases e; omega)).trans h1
  have R01 := Lib.hid (hbk _ (Nat.le_refl _) _ R0.out)
  have R11 := Lib.hid (hbk _ (by omega) _ R1.out)
  have HG1 := Lib.hid (grownBy_trans HGB.out hg1)
  have HC1 := Lib.hid hc1
  have hs1 : w.heap.size + 2 ≤ w1.heap.size := by have := hg1.size; omega
  clear hc1 hg1 T1 hbk HC HGB
  obtain ⟨Wx, hWx⟩ : ∃ Wx, (w1.alloc (.cells #[.int .i64 0, .int .i64 0, .int .u64 0, .bool false, .int .i64 0] 25)).setRow w1.heap.size #[.int .i64 (1 + x), .int .i64 (-1), .int .u64 0, .bool false, .int .i64 0] = Wx := ⟨_, rfl⟩
  have Nx : Hid ((w1.alloc (.cells #[.int .i64 0, .int .i64 0, .int .u64 0, .bool false, .int .i64 0] 25)).heap[w1.heap.size]? = some (.cells #[.int .i64 0, .int .i64 0, .int .u64 0, .bool false, .int .i64 0] 25 (0, 0))) := heap_alloc_new _ _
  have HBx : Hid (Below w1.heap.size w1 Wx) := hWx ▸ row_below (below_new (Below.refl _ _) _) (Nat.le_refl _) _
  have Rx : Hid (Wx.heap[w1.heap.size]? = some (.cells #[.int .i64 (1 + x), .int .i64 (-1), .int .u64 0, .bool false, .int .i64 0] 25 (0, 0))) := hWx ▸ setRow_heap _ _ _ _ _ (0, 0) Nx.out
  have HWx := Lib.hid hWx
  clear hWx
  go_upto_region 2 with (refine wpList_store_row rfl 25 _ _ rfl (w1.heap.size) _ rfl rfl 25 #[.int .i64 0, .int .i64 0, .int .u64 0, .bool false, .int .i64 0] Nx.out (by kernel_rfl) rfl (by simp [Value.oneCell']) ?_)
  rw [HWx.out]
  try simp only [Act.put]
  clear HWx Nx
  obtain ⟨X, hX⟩ : ∃ X, w1.heap.size = X := ⟨_, rfl⟩
  rw [hX] at Rx
  rw [hX]
  have hX2 : w.heap.size + 2 ≤ X := by omega
  clear hX
  have HI : Hid (ResI w Wx g X cs.length #[.int .i64 kd, .int .i64 md, .int .i64 ch, .int .u64 val, .int .i64 dl, .slice a3 cs.length cap3, .slice a4 ds.length cap4] (1 + x) (-1) 0 false 0) := ⟨Rx.out, .inl rfl, HC1.out.kept HC1.out.lt HBx.out, grownBy_of_below HG1.out (HBx.out.mono HG1.out.size), (HBx.out.block w.heap.size (Array.getElem?_eq_some_iff.1 R01.out).1).trans R01.out, (HBx.out.block (w.heap.size + 1) (Array.getElem?_eq_some_iff.1 R11.out).1).trans R11.out, hgl, hX2⟩
  clear HBx Rx R01 R11 HG1 HC1 hs1 hw1 HB R0 R1 hz
  obtain ⟨kk, hkk⟩ : ∃ k, 1 + x = k := ⟨_, rfl⟩
  rw [hkk] at HI
  clear hkk hx0 hx1
  obtain ⟨x0, x1, x2, x3, x4⟩ := rowc5 HI.out.row
  obtain ⟨y0, y1, y2, y3, y4, y5, y6⟩ := rowc7 HI.out.op
  go_cut [26] (fun s26 wx => ∃ (b : Bool), s26 = .bool b ∧ (b = true → 0 < cs.length) ∧ Hid (ResI w wx g X cs.length #[.int .i64 kd, .int .i64 md, .int .i64 ch, .int .u64 val, .int .i64 dl, .slice a3 cs.length cap3, .slice a4 ds.length cap4] kk (-1) 0 false 0))
  case first =>
    by_cases h4 : kd = 4
    · subst h4
      by_cases hn : 0 < cs.length
      · have hnI : (0 : Int) < (cs.length : Int) := by omega
        have T2 := Lib.hid (nextE g 4 Wx HI.out.code (by omega) (by omega))
        go_wp2_with fail
        refine T2.out.mono ?_; rintro e w2 ⟨q2, rfl, hq02, hq12, hc2, hg2⟩
        have HI2 := Lib.hid (HI.out.draw hg2 hc2)
        clear x0 x1 x2 x3 x4 y0 y1 y2 y3 y4 y5 y6 hc2 hg2 T2
        obtain ⟨x0, x1, x2, x3, x4⟩ := rowc5 HI2.out.row
        obtain ⟨y0, y1, y2, y3, y4, y5, y6⟩ := rowc7 HI2.out.op
        go_wp2_with fail
        go_meet
        exact ⟨_, rfl, fun _ => hn, HI2⟩
      · have hnI : ¬ (0 : Int) < (cs.length : Int) := by omega
        go_wp2_with fail
        go_meet
        exact ⟨_, rfl, (fun h => by cases h), HI⟩
    · have h4b : (kd == 4) = false := by simpa using h4
      go_wp2_with fail
      go_meet
      exact ⟨_, rfl, (fun h => by cases h), HI⟩
  case rest =>
    obtain ⟨b, rfl, hb26, HI2⟩ := hcut
    obtain ⟨wy2, rfl⟩ : ∃ wy : World, wy = wc := ⟨_, rfl⟩
    clear HI
    clear x0 x1 x2 x3 x4 y0 y1 y2 y3 y4 y5 y6
    obtain ⟨x0, x1, x2, x3, x4⟩ := rowc5 HI2.out.row
    obtain ⟨y0, y1, y2, y3, y4, y5, y6⟩ := rowc7 HI2.out.op
    go_upto_if 26 with (fail)
    go_cut [] (fun wx => ∃ (k c v : Int) (o : Bool) (n : Int), Hid (ResI w wx g X cs.length #[.int .i64 kd, .int .i64 md, .int .i64 ch, .int .u64 val, .int .i64 dl, .slice a3 cs.length cap3, .slice a4 ds.length cap4] k c v o n))
    case first =>
      cases b with
      | false =>
        go_wp2_with fail
        go_meet
        exact ⟨_, _, _, _, _, HI2⟩
      | true =>
        have hn := hb26 rfl
        have T3 := Lib.hid (nextE g (cs.length : Int) wy2 HI2.out.code (by omega) (by omega))
        go_wp2_with fail
        refine T3.out.mono ?_; rintro e w3 ⟨q3, rfl, hq03, hq13, hc3, hg3⟩
        have HI3 := Lib.hid (HI2.out.draw hg3 hc3)
        clear x0 x1 x2 x3 x4 y0 y1 y2 y3 y4 y5 y6 hc3 hg3 T3
        obtain ⟨x0, x1, x2, x3, x4⟩ := rowc5 HI3.out.row
        obtain ⟨y0, y1, y2, y3, y4, y5, y6⟩ := rowc7 HI3.out.op
        have HP := Lib.hid (HI3.out.poke 1 (.int .i64 q3) (c2 := q3) rfl (.inr ⟨q3.toNat, by omega, by omega⟩))
        have fz := frozen_of_row w3 X 1 _ _ HI3.out.row
        go_wp2_with fail
        go_meet
        exact ⟨_, _, _, _, _, HP⟩
    case rest =>
      obtain ⟨k, c, v, o, n, HI4⟩ := hcut
      obtain ⟨wy4, rfl⟩ : ∃ wy : World, wy = wc := ⟨_, rfl⟩
      clear HI2 hb26
      clear x0 x1 x2 x3 x4 y0 y1 y2 y3 y4 y5 y6
      obtain ⟨x0, x1, x2, x3, x4⟩ := rowc5 HI4.out.row
      obtain ⟨y0, y1, y2, y3, y4, y5, y6⟩ := rowc7 HI4.out.op
      go_upto_if 37 with (fail)
      go_cut [8] (fun s8 wx => ∃ m : Int, s8 = .int .i64 m ∧ Hid (ResI w wx g X cs.length #[.int .i64 kd, .int .i64 md, .int .i64 ch, .int .u64 val, .int .i64 dl, .slice a3 cs.length cap3, .slice a4 ds.length cap4] k c v o n))
      case first =>
        rcases HI4.out.case with hc | ⟨i, hc, hil⟩
        · subst hc
          go_wp2_with fail
          go_meet
          exact ⟨_, rfl, HI4⟩
        · subst hc
          have hiI : (i : Int) < (cs.length : Int) := by omega
          have hi0 : (i : Int) ≥ 0 := by omega
          obtain ⟨-, -, a', cap', hve, -, hcell⟩ := HCS.out.1.grown HI4.out.grown HCS.out.2
          simp only [Value.slice.injEq, true_and] at hve
          obtain ⟨rfl, rfl⟩ := hve
          obtain ⟨b9, off9, rfl, hbb, hca⟩ := hcell i hil
          obtain ⟨⟨s1, s2, s3⟩, hx⟩ : ∃ x, cs.getD i noCase = x := ⟨_, rfl⟩
          rw [hx] at hca
          obtain ⟨c0, c1, c2⟩ := hca
          dsimp only at c0 c1 c2
          clear hcell hx
          go_wp2_with fail
          go_meet
          exact ⟨_, rfl, HI4⟩
      case rest =>
        obtain ⟨m, rfl, HI5⟩ := hcut
        obtain ⟨wy5, rfl⟩ : ∃ wy : World, wy = wc := ⟨_, rfl⟩
        clear HI4
        clear x0 x1 x2 x3 x4 y0 y1 y2 y3 y4 y5 y6
        obtain ⟨x0, x1, x2, x3, x4⟩ := rowc5 HI5.out.row
        obtain ⟨y0, y1, y2, y3, y4, y5, y6⟩ := rowc7 HI5.out.op
        go_upto_region 7 with fail
        have HVY := Lib.hid (HV.out.grown HI5.out.grown HCIS.out)
        go_cut [71] (fun s71 wx => ∃ (b : Bool), s71 = .bool b ∧ (b = true → ∃ i : Nat, m = i ∧ i < l.length ∧ 0 < (l.getD i noChan).buf.length) ∧ ∃ (k c v : Int) (o : Bool) (n : Int), Hid (ResI w wx g X cs.length #[.int .i64 kd, .int .i64 md, .int .i64 ch, .int .u64 val, .int .i64 dl, .slice a3 cs.length cap3, .slice a4 ds.length cap4] k c v o n))
        case first =>
          by_cases k2 : k = 2
          case neg =>
            have k2b : (k == 2) = false := by simpa using k2
            go_wp2_with fail
            go_meet
            exact ⟨_, rfl, (fun h => by cases h), _, _, _, _, _, HI5⟩
          subst k2
          by_cases m0 : m ≥ 0
          case neg =>
            have m0b : ¬ m ≥ 0 := m0
            go_wp2_with fail
            go_meet
            exact ⟨_, rfl, (fun h => by cases h), _, _, _, _, _, HI5⟩
          by_cases m1 : m < (l.length : Int)
          case neg =>
            go_wp2_with fail
            go_meet
            exact ⟨_, rfl, (fun h => by cases h), _, _, _, _, _, HI5⟩
          obtain ⟨i, hi⟩ : ∃ i : Nat, m = i := ⟨m.toNat, by omega⟩
          subst hi
          have hil : i < l.length := by omega
          obtain ⟨b9, off9, cap9, u9, hve, hb9, e0, e1, e2, hu9⟩ := HVY.out.at i hil
          simp only [Value.slice.injEq] at hve
          obtain ⟨rfl, -, rfl⟩ := hve
          obtain ⟨⟨cc, bf, cl⟩, hcc⟩ : ∃ c, l.getD i noChan = c := ⟨_, rfl⟩
          rw [hcc] at e0 e2 hu9
          dsimp only at e0 e2 hu9
          have hbl := hu9.1
          obtain ⟨ua9, uc9, rfl, -⟩ := hu9.len
          by_cases hbf : 0 < bf.length
          case neg =>
            have hbfI : ¬ (0 : Int) < (bf.length : Int) := by omega
            clear hu9 hcc
            go_wp2_with fail
            go_meet
            exact ⟨_, rfl, (fun h => by cases h), _, _, _, _, _, HI5⟩
          have hbfI : (0 : Int) < (bf.length : Int) := by omega
          have HBN : Hid (0 < (l.getD i noChan).buf.length) := by rw [hcc]; exact hbf
          clear hu9 hcc
          have T6 := Lib.hid (nextE g 3 wy5 HI5.out.code (by omega) (by omega))
          go_wp2_with fail
          refine T6.out.mono ?_; rintro e w6 ⟨q6, rfl, hq06, hq16, hc6, hg6⟩
          have HI6 := Lib.hid (HI5.out.draw hg6 hc6)
          clear x0 x1 x2 x3 x4 y0 y1 y2 y3 y4 y5 y6 hc6 hg6 T6
          obtain ⟨x0, x1, x2, x3, x4⟩ := rowc5 HI6.out.row
          obtain ⟨y0, y1, y2, y3, y4, y5, y6⟩ := rowc7 HI6.out.op
          go_wp2_with fail
          go_meet
          exact ⟨_, rfl, fun _ => ⟨i, rfl, hil, HBN.out⟩, _, _, _, _, _, HI6⟩
        case rest =>
          obtain ⟨b, rfl, hb71, k, c, v, o, n, HI7⟩ := hcut
          obtain ⟨wy7, rfl⟩ : ∃ wy : World, wy = wc := ⟨_, rfl⟩
          clear HI5 HVY
          clear x0 x1 x2 x3 x4 y0 y1 y2 y3 y4 y5 y6
          obtain ⟨x0, x1, x2, x3, x4⟩ := rowc5 HI7.out.row
          obtain ⟨y0, y1, y2, y3, y4, y5, y6⟩ := rowc7 HI7.out.op
          have HVY := Lib.hid (HV.out.grown HI7.out.grown HCIS.out)
          go_upto_if 71 with (fail)
          go_cut [] (fun wx => ∃ (k c v : Int) (o : Bool) (n : Int), Hid (ResI w wx g X cs.length #[.int .i64 kd, .int .i64 md, .int .i64 ch, .int .u64 val, .int .i64 dl, .slice a3 cs.length cap3, .slice a4 ds.length cap4] k c v o n))
          case first =>
            cases b with
            | false =>
              go_wp2_with fail
              go_meet
              exact ⟨_, _, _, _, _, HI7⟩
            | true =>
              obtain ⟨i, rfl, hil, hbp⟩ := hb71 rfl
              have hiI : (i : Int) < (l.length : Int) := by omega
              obtain ⟨b9, off9, cap9, u9, hve, hb9, e0, e1, e2, hu9⟩ := HVY.out.at i hil
              simp only [Value.slice.injEq] at hve
              obtain ⟨rfl, -, rfl⟩ := hve
              obtain ⟨⟨cc, bf, cl⟩, hcc⟩ : ∃ c, l.getD i noChan = c := ⟨_, rfl⟩
              rw [hcc] at e0 e2 hu9 hbp
              dsimp only at e0 e2 hu9 hbp
              cases bf with
              | nil => simp at hbp
              | cons yb bt =>
                have hbl9 := hu9.1
                obtain ⟨b2, off2, cap2, e9, hcp, hb2, hcc2⟩ := hu9.open (by simp)
                have q0 := hcc2 0 (by simp)
                simp only [Nat.add_zero, List.getD_cons_zero] at q0
                subst e9
                simp only [List.length_cons] at e1 hbl9
                have h03 : (0 : Int) < (bt.length : Int) + 1 := by omega
                have h04 : (0 : Int) < ((bt.length + 1 : Nat) : Int) := by omega
                have HP1 := HI7.out.poke 2 (.int .u64 yb) rfl HI7.out.case
                obtain ⟨W8, hW8⟩ : ∃ W8, wy7.setCell ⟨X, 2, none⟩ (.int .u64 yb) = W8 := ⟨_, rfl⟩
                have HP2 := Lib.hid (HP1.poke 3 (.bool true) rfl HP1.case)
                have fz := frozen_of_row wy7 X 2 _ _ HI7.out.row
                have fz3 := frozen_of_row _ X 3 _ _ HP1.row
                clear hcc2 hcc hu9 hW8
                go_wp2_with fail
                go_meet
                exact ⟨_, _, _, _, _, HP2⟩
          case rest =>
            obtain ⟨k, c, v, o, n, HI8⟩ := hcut
            obtain ⟨wy8, rfl⟩ : ∃ wy : World, wy = wc := ⟨_, rfl⟩
            clear HI7 HVY hb71
            clear x0 x1 x2 x3 x4 y0 y1 y2 y3 y4 y5 y6
            obtain ⟨x0, x1, x2, x3, x4⟩ := rowc5 HI8.out.row
            obtain ⟨y0, y1, y2, y3, y4, y5, y6⟩ := rowc7 HI8.out.op
            go_upto_if 83 with (fail)
            go_cut [] (fun wx => ∃ (k c v : Int) (o : Bool) (n : Int), Hid (ResI w wx g X cs.length #[.int .i64 kd, .int .i64 md, .int .i64 ch, .int .u64 val, .int .i64 dl, .slice a3 cs.length cap3, .slice a4 ds.length cap4] k c v o n))
            case first =>
              by_cases k7 : k = 7
              · subst k7
                have T9 := Lib.hid (nextE g 4 wy8 HI8.out.code (by omega) (by omega))
                go_wp2_with fail
                refine T9.out.mono ?_; rintro e w9 ⟨q9, rfl, hq09, hq19, hc9, hg9⟩
                have HI9 := Lib.hid (HI8.out.draw hg9 hc9)
                clear x0 x1 x2 x3 x4 y0 y1 y2 y3 y4 y5 y6 hc9 hg9 T9
                obtain ⟨x0, x1, x2, x3, x4⟩ := rowc5 HI9.out.row
                obtain ⟨y0, y1, y2, y3, y4, y5, y6⟩ := rowc7 HI9.out.op
                have HP := Lib.hid (HI9.out.poke 4 (.int .i64 q9) rfl HI9.out.case)
                have fz := frozen_of_row w9 X 4 _ _ HI9.out.row
                go_wp2_with fail
                go_meet
                exact ⟨_, _, _, _, _, HP⟩
              · have k7b : (k == 7) = false := by simpa using k7
                go_wp2_with fail
                go_meet
                exact ⟨_, _, _, _, _, HI8⟩
            case rest =>
              obtain ⟨k, c, v, o, n, HI9⟩ := hcut
              obtain ⟨wy9, rfl⟩ : ∃ wy : World, wy = wc := ⟨_, rfl⟩
              clear HI8
              clear x0 x1 x2 x3 x4 y0 y1 y2 y3 y4 y5 y6
              obtain ⟨x0, x1, x2, x3, x4⟩ := rowc5 HI9.out.row
              obtain ⟨y0, y1, y2, y3, y4, y5, y6⟩ := rowc7 HI9.out.op
              have T10 := Lib.hid (nextE g 12 wy9 HI9.out.code (by omega) (by omega))
              go_wp2_with fail
              refine T10.out.mono ?_; rintro e w10 ⟨q10, rfl, hq010, hq110, hc10, hg10⟩
              have HI10 := Lib.hid (HI9.out.draw hg10 hc10)
              clear x0 x1 x2 x3 x4 y0 y1 y2 y3 y4 y5 y6 hc10 hg10 T10
              obtain ⟨x0, x1, x2, x3, x4⟩ := rowc5 HI10.out.row
              obtain ⟨y0, y1, y2, y3, y4, y5, y6⟩ := rowc7 HI10.out.op
              by_cases h1 : q10 = 1
              · subst h1
                obtain ⟨vv, hvv⟩ : ∃ z, IntKind.u64.wrap (v + 1) = z := ⟨_, rfl⟩
                have HVV := Lib.hid hvv
                clear hvv
                have HP := Lib.hid (HI10.out.poke 2 (.int .u64 vv) rfl HI10.out.case)
                have fz := frozen_of_row w10 X 2 _ _ HI10.out.row
                obtain ⟨WP, hWP⟩ : ∃ W, w10.setCell ⟨X, 2, none⟩ (.int .u64 vv) = W := ⟨_, rfl⟩
                rw [hWP] at HP
                have HWP := Lib.hid hWP
                clear hWP
                go_upto_region 20 with fail
                rw [HVV.out, HWP.out]
                clear HWP fz HVV x0 x1 x2 x3 x4
                obtain ⟨x0, x1, x2, x3, x4⟩ := rowc5 HP.out.row
                go_wp2_with (refine wpList_store_row rfl 25 _ _ rfl (w.heap.size + 1) _ rfl rfl 25 #[.int .i64 0, .int .i64 0, .int .u64 0, .bool false, .int .i64 0] HP.out.res (by kernel_rfl) rfl (by simp [Value.oneCell']) ?_)
                refine bodyPost_ret (v := .agg #[.int .i64 k, .int .i64 c, .int .u64 vv, .bool o, .int .i64 n]) (results_cell_row Try.results19 _ _ (w.heap.size + 1) 25 _ (0, 0) _ rfl (setRow_heap _ _ _ _ 25 (0, 0) HP.out.res) Try.underlying25 rfl (by kernel_rfl)) rfl ?_
                exact HFIN.out _ _ _ _ _ _ (HP.out.fin _).1 (HP.out.fin _).2
              have h1b : (q10 == 1) = false := by simpa using h1
              by_cases h2 : q10 = 2
              · subst h2
                have HP := Lib.hid (HI10.out.poke 3 (.bool (!o)) rfl HI10.out.case)
                have fz := frozen_of_row w10 X 3 _ _ HI10.out.row
                obtain ⟨WP, hWP⟩ : ∃ W, w10.setCell ⟨X, 3, none⟩ (.bool (!o)) = W := ⟨_, rfl⟩
                rw [hWP] at HP
                have HWP := Lib.hid hWP
                clear hWP
                go_upto_region 20 with fail
                rw [HWP.out]
                clear HWP fz x0 x1 x2 x3 x4
                obtain ⟨x0, x1, x2, x3, x4⟩ := rowc5 HP.out.row
                go_wp2_with (refine wpList_store_row rfl 25 _ _ rfl (w.heap.size + 1) _ rfl rfl 25 #[.int .i64 0, .int .i64 0, .int .u64 0, .bool false, .int .i64 0] HP.out.res (by kernel_rfl) rfl (by simp [Value.oneCell']) ?_)
                refine bodyPost_ret (v := .agg #[.int .i64 k, .int .i64 c, .int .u64 v, .bool (!o), .int .i64 n]) (results_cell_row Try.results19 _ _ (w.heap.size + 1) 25 _ (0, 0) _ rfl (setRow_heap _ _ _ _ 25 (0, 0) HP.out.res) Try.underlying25 rfl (by kernel_rfl)) rfl ?_
                exact HFIN.out _ _ _ _ _ _ (HP.out.fin _).1 (HP.out.fin _).2
              have h2b : (q10 == 2) = false := by simpa using h2
              by_cases h3 : q10 = 3
              · subst h3
                obtain ⟨vv, hvv⟩ : ∃ z, wrap64 (n + 1) = z := ⟨_, rfl⟩
                have HVV := Lib.hid hvv
                clear hvv
                have HP := Lib.hid (HI10.out.poke 4 (.int .i64 vv) rfl HI10.out.case)
                have fz := frozen_of_row w10 X 4 _ _ HI10.out.row
                obtain ⟨WP, hWP⟩ : ∃ W, w10.setCell ⟨X, 4, none⟩ (.int .i64 vv) = W := ⟨_, rfl⟩
                rw [hWP] at HP
                have HWP := Lib.hid hWP
                clear hWP
                go_upto_region 20 with fail
                rw [HVV.out, HWP.out]
                clear HWP fz HVV x0 x1 x2 x3 x4
                obtain ⟨x0, x1, x2, x3, x4⟩ := rowc5 HP.out.row
                go_wp2_with (refine wpList_store_row rfl 25 _ _ rfl (w.heap.size + 1) _ rfl rfl 25 #[.int .i64 0, .int .i64 0, .int .u64 0, .bool false, .int .i64 0] HP.out.res (by kernel_rfl) rfl (by simp [Value.oneCell']) ?_)
                refine bodyPost_ret (v := .agg #[.int .i64 k, .int .i64 c, .int .u64 v, .bool o, .int .i64 vv]) (results_cell_row Try.results19 _ _ (w.heap.size + 1) 25 _ (0, 0) _ rfl (setRow_heap _ _ _ _ 25 (0, 0) HP.out.res) Try.underlying25 rfl (by kernel_rfl)) rfl ?_
                exact HFIN.out _ _ _ _ _ _ (HP.out.fin _).1 (HP.out.fin _).2
              have h3b : (q10 == 3) = false := by simpa using h3
              by_cases h4 : q10 = 4
              · subst h4
                have T11 := Lib.hid (nextE g 4 w10 HI10.out.code (by omega) (by omega))
                go_wp2_with fail
                refine T11.out.mono ?_; rintro e w11 ⟨q11, rfl, hq011, hq111, hc11, hg11⟩
                have HI11 := Lib.hid (HI10.out.draw hg11 hc11)
                clear x0 x1 x2 x3 x4 y0 y1 y2 y3 y4 y5 y6 hc11 hg11 T11
                obtain ⟨x0, x1, x2, x3, x4⟩ := rowc5 HI11.out.row
                obtain ⟨y0, y1, y2, y3, y4, y5, y6⟩ := rowc7 HI11.out.op
                have hw11 : IntKind.i64.wrap (q11 - 1) = q11 - 1 := (i64_small _ (by omega) (by omega)).symm
                obtain ⟨row2, hrow2⟩ : ∃ vv, q11 - 1 = vv := ⟨_, rfl⟩
                have r1 := heap_setCell_same w11 X 1 _ _ (.int .i64 (q11 - 1)) HI11.out.row
                simp at r1
                have fz := frozen_of_row w11 X 1 _ _ HI11.out.row
                have HC9 : Hid (CodesE (w11.setCell ⟨X, 1, none⟩ (.int .i64 (q11 - 1))) g ∧ w.grownBy (w11.setCell ⟨X, 1, none⟩ (.int .i64 (q11 - 1))) (some g) ∧ (w11.setCell ⟨X, 1, none⟩ (.int .i64 (q11 - 1))).heap[w.heap.size + 1]? = some (.cells #[.int .i64 0, .int .i64 0, .int .u64 0, .bool false, .int .i64 0] 25 (0, 0))) := by
                  have hX := HI11.out.Xw
                  exact ⟨codes_grown HI11.out.code (grownBy_setCell w11 ⟨X, 1, none⟩ (.int .i64 (q11 - 1))) (B := w.heap.size) (fun q hq => by cases hq; show w.heap.size ≤ X; omega) HI11.out.gw, grownBy_of_new HI11.out.grown (grownBy_setCell w11 ⟨X, 1, none⟩ (.int .i64 (q11 - 1))) (fun q hq => by cases hq; show w.heap.size ≤ X; omega), (heap_setCell_other w11 ⟨X, 1, none⟩ (w.heap.size + 1) (.int .i64 (q11 - 1)) (by show w.heap.size + 1 ≠ X; omega)).trans HI11.out.res⟩
                clear hrow2 row2
                obtain ⟨WP, hWP⟩ : ∃ W, w11.setCell ⟨X, 1, none⟩ (.int .i64 (q11 - 1)) = W := ⟨_, rfl⟩
                rw [hWP] at HC9 r1
                have HWP := Lib.hid hWP
                clear hWP
                go_upto_region 20 with fail
                rw [HWP.out]
                clear HWP fz x0 x1 x2 x3 x4
                obtain ⟨x0, x1, x2, x3, x4⟩ := rowc5 r1
                go_wp2_with (refine wpList_store_row rfl 25 _ _ rfl (w.heap.size + 1) _ rfl rfl 25 #[.int .i64 0, .int .i64 0, .int .u64 0, .bool false, .int .i64 0] HC9.out.2.2 (by kernel_rfl) rfl (by simp [Value.oneCell']) ?_)
                refine bodyPost_ret (v := .agg #[.int .i64 k, .int .i64 (q11 - 1), .int .u64 v, .bool o, .int .i64 n]) (results_cell_row Try.results19 _ _ (w.heap.size + 1) 25 _ (0, 0) _ rfl (setRow_heap _ _ _ _ 25 (0, 0) HC9.out.2.2) Try.underlying25 rfl (by kernel_rfl)) rfl ?_
                exact HFIN.out _ _ _ _ _ _ (codes_grown HC9.out.1 (row_grown WP (w.heap.size + 1) _) (B := w.heap.size) (fun q hq => by cases hq; omega) HI11.out.gw) (grownBy_of_new HC9.out.2.1 (row_grown WP (w.heap.size + 1) _) (fun q hq => by cases hq; omega))
              have h4b : (q10 == 4) = false := by simpa using h4
              go_wp2_with (refine wpList_store_row rfl 25 _ _ rfl (w.heap.size + 1) _ rfl rfl 25 #[.int .i64 0, .int .i64 0, .int .u64 0, .bool false, .int .i64 0] HI10.out.res (by kernel_rfl) rfl (by simp [Value.oneCell']) ?_)
              refine bodyPost_ret (v := .agg #[.int .i64 k, .int .i64 c, .int .u64 v, .bool o, .int .i64 n]) (results_cell_row Try.results19 _ _ (w.heap.size + 1) 25 _ (0, 0) _ rfl (setRow_heap _ _ _ _ 25 (0, 0) HI10.out.res) Try.underlying25 rfl (by kernel_rfl)) rfl ?_
              exact HFIN.out _ _ _ _ _ _ (HI10.out.fin _).1 (HI10.out.fin _).2
end Go.Proofs.Ytialclohhemkiaa
