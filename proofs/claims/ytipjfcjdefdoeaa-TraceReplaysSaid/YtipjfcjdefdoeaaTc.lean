/- Which records are in conflict. -/
import Derived.Test.YtipjfcjdefdoeaaTr
import Derived.Deep.DeepCutAuto
namespace Go.Proofs.Ytipjfcjdefdoeaa
open Go.ChangeShapes Go.WideShapes Go.ChangeAt Go.RowKit
set_option maxRecDepth 100000

theorem conf_same {x y : ItemM} (h : x.thr = y.thr) : conflictE x y = false := by simp [conflictE, h]
theorem conf_place {x y : ItemM} (h : placeE x ≠ placeE y) : conflictE x y = false := by simp [conflictE, h]
theorem conf_of {x y : ItemM} (ht : x.thr ≠ y.thr) (hp : placeE x = placeE y) : conflictE x y = (plainB x.acc.kind && plainB y.acc.kind && (changesE x || changesE y)) := by
  have h1 : (x.thr == y.thr) = false := by simpa using ht
  simp [conflictE, h1, hp]
theorem conf_plain {x y : ItemM} (h : (plainB x.acc.kind && plainB y.acc.kind) = false) : conflictE x y = false := by simp only [conflictE, h, Bool.false_and]
set_option maxHeartbeats 16000000 in
theorem conflict_any (x y : ItemM) (w : World) (hx : x.good) (hy : y.good) : Calls Try.prog 31 #[itemV x, itemV y] w fun e w' => e = .returned (.bool (conflictE x y)) ∧ Below w.heap.size w w' := by
  have TPx := Lib.hid fun w' => place_any x w' hx
  have TPy := Lib.hid fun w' => place_any y w' hy
  have TCx := Lib.hid fun w' => changes_any x w'
  have TCy := Lib.hid fun w' => changes_any y w'
  have TLx := Lib.hid fun w' => plain_any x w'
  have TLy := Lib.hid fun w' => plain_any y w'
  have HSAME := Lib.hid (conf_same (x := x) (y := y))
  have HPLACE := Lib.hid (conf_place (x := x) (y := y))
  have HOF := Lib.hid (conf_of (x := x) (y := y))
  have HPLAIN := Lib.hid (conf_plain (x := x) (y := y))
  obtain ⟨px, hpx⟩ : ∃ px, placeE x = px := ⟨_, rfl⟩
  obtain ⟨py, hpy⟩ : ∃ py, placeE y = py := ⟨_, rfl⟩
  obtain ⟨cx, hcx⟩ : ∃ cx, changesE x = cx := ⟨_, rfl⟩
  obtain ⟨cy, hcy⟩ : ∃ cy, changesE y = cy := ⟨_, rfl⟩
  obtain ⟨cf, hcf⟩ : ∃ cf, conflictE x y = cf := ⟨_, rfl⟩
  rw [hcf] at HSAME HPLACE HOF HPLAIN ⊢
  rw [hpx] at TPx HPLACE HOF
  rw [hpy] at TPy HPLACE HOF
  rw [hcx] at TCx HOF
  rw [hcy] at TCy HOF
  clear hx hy hpx hpy hcx hcy hcf
  obtain ⟨th, ⟨k, ad, o, nw, ti⟩, vl, ok⟩ := x
  obtain ⟨qth, ⟨qk, qad, qo, qnw, qti⟩, qvl, qok⟩ := y
  unfold itemV at *
  dsimp only at *
  obtain ⟨W, hW⟩ : ∃ W, (w.alloc (.cells #[.int .i64 th, .int .i64 k, .int .i64 ad, .int .u64 o, .int .u64 nw, .int .i64 ti, .int .u64 vl, .bool ok] 42)).alloc (.cells #[.int .i64 qth, .int .i64 qk, .int .i64 qad, .int .u64 qo, .int .u64 qnw, .int .i64 qti, .int .u64 qvl, .bool qok] 42) = W := ⟨_, rfl⟩
  have HB : Hid (Below w.heap.size w W) := hW ▸ below_new (below_new (Below.refl w.heap.size w) _) _
  have R0 : Hid (W.heap[w.heap.size]? = some (.cells #[.int .i64 th, .int .i64 k, .int .i64 ad, .int .u64 o, .int .u64 nw, .int .i64 ti, .int .u64 vl, .bool ok] 42 (0, 0))) := hW ▸ heap_alloc2_old _ _ _
  have R1 : Hid (W.heap[w.heap.size + 1]? = some (.cells #[.int .i64 qth, .int .i64 qk, .int .i64 qad, .int .u64 qo, .int .u64 qnw, .int .i64 qti, .int .u64 qvl, .bool qok] 42 (0, 0))) := hW ▸ heap_alloc2_new _ _ _
  have hz : w.heap.size + 2 = W.heap.size := by rw [← hW]; simp
  have HW := Lib.hid hW
  clear hW
  have hl0 : w.heap.size < W.heap.size := by omega
  have hl1 : w.heap.size + 1 < W.heap.size := by omega
  go_enter Try.func31, Try.ntmps31
  go_upto_region 1 with fail
  rw [HW.out]
  clear HW
  obtain ⟨x0, x1, x2, x3, x4, x5, x6, x7⟩ := rowc8 R0.out
  obtain ⟨y0, y1, y2, y3, y4, y5, y6, y7⟩ := rowc8 R1.out
  by_cases ht : th = qth
  · have hcf := HSAME.out ht
    have htb : (th == qth) = true := by simpa using ht
    have HCF := Lib.hid hcf
    subst hcf
    clear ht
    have X0 := ext_cell _ 0 hl0 _ x0
    have Y0 := ext_cell _ 0 hl1 _ y0
    have X1 := ext_cell _ 1 hl0 _ x1
    have Y1 := ext_cell _ 1 hl1 _ y1
    have X2 := ext_cell _ 2 hl0 _ x2
    have Y2 := ext_cell _ 2 hl1 _ y2
    have X3 := ext_cell _ 3 hl0 _ x3
    have Y3 := ext_cell _ 3 hl1 _ y3
    have X4 := ext_cell _ 4 hl0 _ x4
    have Y4 := ext_cell _ 4 hl1 _ y4
    have X5 := ext_cell _ 5 hl0 _ x5
    have Y5 := ext_cell _ 5 hl1 _ y5
    have X6 := ext_cell _ 6 hl0 _ x6
    have Y6 := ext_cell _ 6 hl1 _ y6
    have X7 := ext_cell _ 7 hl0 _ x7
    have Y7 := ext_cell _ 7 hl1 _ y7
    clear x0 y0 x1 y1 x2 y2 x3 y3 x4 y4 x5 y5 x6 y6 x7 y7
    refine wp_region_ext W (by kernel_rfl) (by kernel_rfl) (Below.refl _ _) ?_
    repeat (go_big_quiet_step (first
      | (go_at_call 32; with_reducible exact calls_ext (TPx.out _))
      | (go_at_call 32; with_reducible exact calls_ext (TPy.out _))))
    refine wpQuiet_nil ?_
    intro _ hw'
    obtain ⟨w2, rfl⟩ := hw'
    have HB2 := Lib.hid (below_then HB.out w2.below)
    have S0 := Lib.hid ((w2.below.block w.heap.size hl0).trans R0.out)
    have S1 := Lib.hid ((w2.below.block (w.heap.size + 1) hl1).trans R1.out)
    generalize w2.wd = w9 at *
    clear X0 Y0 X1 Y1 X2 Y2 X3 Y3 X4 Y4 X5 Y5 X6 Y6 X7 Y7
    go_wp2
    go_ret
    exact ⟨rfl, HB2.out⟩
  · have htb : (th == qth) = false := by simpa using ht
    have HT := Lib.hid ht
    clear ht
    by_cases hp : px = py
    · have hof := HOF.out HT.out hp
      have hpb : (px != py) = false := by simpa using hp
      have hpb2 : (px == py) = true := by simpa using hp
      have HOF2 := Lib.hid hof
      clear hp hof
      have X0 := ext_cell _ 0 hl0 _ x0
      have Y0 := ext_cell _ 0 hl1 _ y0
      have X1 := ext_cell _ 1 hl0 _ x1
      have Y1 := ext_cell _ 1 hl1 _ y1
      have X2 := ext_cell _ 2 hl0 _ x2
      have Y2 := ext_cell _ 2 hl1 _ y2
      have X3 := ext_cell _ 3 hl0 _ x3
      have Y3 := ext_cell _ 3 hl1 _ y3
      have X4 := ext_cell _ 4 hl0 _ x4
      have Y4 := ext_cell _ 4 hl1 _ y4
      have X5 := ext_cell _ 5 hl0 _ x5
      have Y5 := ext_cell _ 5 hl1 _ y5
      have X6 := ext_cell _ 6 hl0 _ x6
      have Y6 := ext_cell _ 6 hl1 _ y6
      have X7 := ext_cell _ 7 hl0 _ x7
      have Y7 := ext_cell _ 7 hl1 _ y7
      clear x0 y0 x1 y1 x2 y2 x3 y3 x4 y4 x5 y5 x6 y6 x7 y7
      refine wp_region_ext W (by kernel_rfl) (by kernel_rfl) (Below.refl _ _) ?_
      repeat (go_big_quiet_step (first
        | (go_at_call 32; with_reducible exact calls_ext (TPx.out _))
        | (go_at_call 32; with_reducible exact calls_ext (TPy.out _))))
      refine wpQuiet_nil ?_
      intro _ hw'
      obtain ⟨w2, rfl⟩ := hw'
      have HB2 := Lib.hid (below_then HB.out w2.below)
      have S0 := Lib.hid ((w2.below.block w.heap.size hl0).trans R0.out)
      have S1 := Lib.hid ((w2.below.block (w.heap.size + 1) hl1).trans R1.out)
      generalize w2.wd = w9 at *
      clear X0 Y0 X1 Y1 X2 Y2 X3 Y3 X4 Y4 X5 Y5 X6 Y6 X7 Y7
      have HBc0 := HB2
      have SX0 := S0
      have SY0 := S1
      have hc00 : w.heap.size < w9.heap.size := (Array.getElem?_eq_some_iff.1 S0.out).1
      have hc01 : w.heap.size + 1 < w9.heap.size := (Array.getElem?_eq_some_iff.1 S1.out).1
      clear HB2 S0 S1
      obtain ⟨x0, x1, x2, x3, x4, x5, x6, x7⟩ := rowc8 SX0.out
      obtain ⟨y0, y1, y2, y3, y4, y5, y6, y7⟩ := rowc8 SY0.out
      generalize plainB k = p1 at *
      generalize plainB qk = p2 at *
      go_wp2_with fail
      refine (TLx.out _).mono ?_; rintro e v1 ⟨rfl, hbc1⟩
      have HBc1 := Lib.hid (below_then HBc0.out hbc1)
      have SX1 := Lib.hid ((hbc1.block w.heap.size hc00).trans SX0.out)
      have SY1 := Lib.hid ((hbc1.block (w.heap.size + 1) hc01).trans SY0.out)
      have hc10 : w.heap.size < v1.heap.size := (Array.getElem?_eq_some_iff.1 SX1.out).1
      have hc11 : w.heap.size + 1 < v1.heap.size := (Array.getElem?_eq_some_iff.1 SY1.out).1
      clear hbc1 x0 x1 x2 x3 x4 x5 x6 x7 y0 y1 y2 y3 y4 y5 y6 y7
      obtain ⟨x0, x1, x2, x3, x4, x5, x6, x7⟩ := rowc8 SX1.out
      obtain ⟨y0, y1, y2, y3, y4, y5, y6, y7⟩ := rowc8 SY1.out
      cases p1
      · go_wp2
        go_ret
        exact ⟨ret_bool (by rw [HOF2.out]; rfl), HBc1.out⟩
      go_wp2_with fail
      refine (TLy.out _).mono ?_; rintro e v2 ⟨rfl, hbc2⟩
      have HBc2 := Lib.hid (below_then HBc1.out hbc2)
      have SX2 := Lib.hid ((hbc2.block w.heap.size hc10).trans SX1.out)
      have SY2 := Lib.hid ((hbc2.block (w.heap.size + 1) hc11).trans SY1.out)
      have hc20 : w.heap.size < v2.heap.size := (Array.getElem?_eq_some_iff.1 SX2.out).1
      have hc21 : w.heap.size + 1 < v2.heap.size := (Array.getElem?_eq_some_iff.1 SY2.out).1
      clear hbc2 x0 x1 x2 x3 x4 x5 x6 x7 y0 y1 y2 y3 y4 y5 y6 y7
      obtain ⟨x0, x1, x2, x3, x4, x5, x6, x7⟩ := rowc8 SX2.out
      obtain ⟨y0, y1, y2, y3, y4, y5, y6, y7⟩ := rowc8 SY2.out
      cases p2
      · go_wp2
        go_ret
        exact ⟨ret_bool (by rw [HOF2.out]; rfl), HBc2.out⟩
      go_wp2_with fail
      refine (TCx.out _).mono ?_; rintro e v3 ⟨rfl, hbc3⟩
      have HBc3 := Lib.hid (below_then HBc2.out hbc3)
      have SX3 := Lib.hid ((hbc3.block w.heap.size hc20).trans SX2.out)
      have SY3 := Lib.hid ((hbc3.block (w.heap.size + 1) hc21).trans SY2.out)
      have hc30 : w.heap.size < v3.heap.size := (Array.getElem?_eq_some_iff.1 SX3.out).1
      have hc31 : w.heap.size + 1 < v3.heap.size := (Array.getElem?_eq_some_iff.1 SY3.out).1
      clear hbc3 x0 x1 x2 x3 x4 x5 x6 x7 y0 y1 y2 y3 y4 y5 y6 y7
      obtain ⟨x0, x1, x2, x3, x4, x5, x6, x7⟩ := rowc8 SX3.out
      obtain ⟨y0, y1, y2, y3, y4, y5, y6, y7⟩ := rowc8 SY3.out
      cases cx
      case true =>
        go_wp2
        go_ret
        exact ⟨ret_bool (by rw [HOF2.out]; rfl), HBc3.out⟩
      go_wp2_with fail
      refine (TCy.out _).mono ?_; rintro e v4 ⟨rfl, hbc4⟩
      have HBc4 := Lib.hid (below_then HBc3.out hbc4)
      have SX4 := Lib.hid ((hbc4.block w.heap.size hc30).trans SX3.out)
      have SY4 := Lib.hid ((hbc4.block (w.heap.size + 1) hc31).trans SY3.out)
      have hc40 : w.heap.size < v4.heap.size := (Array.getElem?_eq_some_iff.1 SX4.out).1
      have hc41 : w.heap.size + 1 < v4.heap.size := (Array.getElem?_eq_some_iff.1 SY4.out).1
      clear hbc4 x0 x1 x2 x3 x4 x5 x6 x7 y0 y1 y2 y3 y4 y5 y6 y7
      obtain ⟨x0, x1, x2, x3, x4, x5, x6, x7⟩ := rowc8 SX4.out
      obtain ⟨y0, y1, y2, y3, y4, y5, y6, y7⟩ := rowc8 SY4.out
      go_wp2
      go_ret
      exact ⟨ret_bool (by rw [HOF2.out]; rfl), HBc4.out⟩
    · have hcf := HPLACE.out hp
      have hpb : (px != py) = true := by simpa using hp
      subst hcf
      clear hp
      have X0 := ext_cell _ 0 hl0 _ x0
      have Y0 := ext_cell _ 0 hl1 _ y0
      have X1 := ext_cell _ 1 hl0 _ x1
      have Y1 := ext_cell _ 1 hl1 _ y1
      have X2 := ext_cell _ 2 hl0 _ x2
      have Y2 := ext_cell _ 2 hl1 _ y2
      have X3 := ext_cell _ 3 hl0 _ x3
      have Y3 := ext_cell _ 3 hl1 _ y3
      have X4 := ext_cell _ 4 hl0 _ x4
      have Y4 := ext_cell _ 4 hl1 _ y4
      have X5 := ext_cell _ 5 hl0 _ x5
      have Y5 := ext_cell _ 5 hl1 _ y5
      have X6 := ext_cell _ 6 hl0 _ x6
      have Y6 := ext_cell _ 6 hl1 _ y6
      have X7 := ext_cell _ 7 hl0 _ x7
      have Y7 := ext_cell _ 7 hl1 _ y7
      clear x0 y0 x1 y1 x2 y2 x3 y3 x4 y4 x5 y5 x6 y6 x7 y7
      refine wp_region_ext W (by kernel_rfl) (by kernel_rfl) (Below.refl _ _) ?_
      repeat (go_big_quiet_step (first
        | (go_at_call 32; with_reducible exact calls_ext (TPx.out _))
        | (go_at_call 32; with_reducible exact calls_ext (TPy.out _))))
      refine wpQuiet_nil ?_
      intro _ hw'
      obtain ⟨w2, rfl⟩ := hw'
      have HB2 := Lib.hid (below_then HB.out w2.below)
      have S0 := Lib.hid ((w2.below.block w.heap.size hl0).trans R0.out)
      have S1 := Lib.hid ((w2.below.block (w.heap.size + 1) hl1).trans R1.out)
      generalize w2.wd = w9 at *
      clear X0 Y0 X1 Y1 X2 Y2 X3 Y3 X4 Y4 X5 Y5 X6 Y6 X7 Y7
      go_wp2
      go_ret
      exact ⟨rfl, HB2.out⟩
end Go.Proofs.Ytipjfcjdefdoeaa
