/- Proved: MemoryTicks returns true, and its argument reads afterwards as before, for every list of codes, every n and every far; no condition. -/
import Derived.Test.YtkciejealeinoaaLaw
import Derived.Test.YtkciejealeinoaaL4Awake
import Derived.Test.YtkciejealeinoaaMmS
import Derived.Test.YtkciejealeinoaaMmT
import Derived.Test.YtkciejealeinoaaMmD
import Derived.Test.YtkciejealeinoaaStill
import Derived.LoopTactic
import Derived.WalkKit
import Derived.ProofKit
import Derived.OpenShut
import Derived.SizedLaws
namespace Go.Proofs.Ytkciejealeinoaa.memoryTicks
open Go.ChangeShapes Go.WideShapes Go.ChangeAt Go.RowKit
set_option linter.unusedVariables false
theorem retick {G : World → Prop} {A A2 : Option Addr} {n1 c n2 c2 : Nat} {t : Int} {m : MemM} (h : StM G (.agg #[.slice A n1 c, .slice A2 n2 c2, .int .i64 t]) m) (t' : Int) : StM G (.agg #[.slice A n1 c, .slice A2 n2 c2, .int .i64 t']) ⟨m.words, m.lists, t'⟩ := by
  obtain ⟨us, hl⟩ := h.listsOf
  exact ⟨_, _, us, rfl, fun w hw => ⟨h.words w hw, hl w hw⟩⟩
theorem agg_tick {A A2 : Option Addr} {n1 c n2 c2 : Nat} {t : Int} {G : World → Prop} {m : MemM} (h : StM G (.agg #[.slice A n1 c, .slice A2 n2 c2, .int .i64 t]) m) : t = m.tick := by
  obtain ⟨vw, vl, us, e, -⟩ := h
  simp only [Value.agg.injEq, Array.mk.injEq, List.cons.injEq, Value.int.injEq, and_true, true_and] at e
  exact e.2.2
set_option maxRecDepth 100000 in
set_option maxHeartbeats 8000000 in
theorem walk (w : World) (v0 : Value) (l0 : List Int) (s0 : SlI w .u8 v0 l0) (a1 : Int) (w1 : (Lit.int .i64 a1).wf = true) (a2 : Int) (w2 : (Lit.int .i64 a2).wf = true) :
    Calls Try.prog 6 #[v0, .int .i64 a1, .int .i64 a2] w fun e w' => e = .returned (.bool true) ∧ Below w.heap.size w w' := by
  have AW := Lib.hid fun w' => awake4_any w'
  have HS0 := Lib.hid s0
  have HN1 : Hid (a1 = IntKind.i64.wrap a1) := wrap_of_wf w1
  obtain ⟨z, hz⟩ : ∃ z, a2 % 4 = z := ⟨_, rfl⟩
  have hz01 : 0 ≤ z ∧ z < 4 := by omega
  have HZ := Lib.hid hz
  obtain ⟨y, hy⟩ : ∃ y, a1 % 5 = y := ⟨_, rfl⟩
  have hy01 : 0 ≤ y ∧ y < 5 := by omega
  have HY := Lib.hid hy
  clear hz hy w1 w2 s0
  obtain ⟨hz0, hz1⟩ := hz01
  obtain ⟨hy0, hy1⟩ := hy01
  go_enter Try.func6, Try.ntmps6
  go_wp2_with fail
  refine (AW.out _).mono ?_; rintro e wa ⟨rfl, hba⟩
  have HBA := Lib.hid hba
  clear hba AW
  go_wp2_with fail
  refine (new_any _ l0 60 _ (HS0.out.below HBA.out) (by omega)).mono ?_; rintro e wb ⟨rfl, hcb, hbb⟩
  have HBB := Lib.hid (below_then HBA.out hbb)
  have hgz := HBA.out.size
  have HCB : Hid (CodesE wb wa.heap.size) := ⟨_, _, hcb⟩
  clear hcb hbb HS0
  generalize wa.heap.size = g at *
  go_wp2_with fail
  refine (memoryE g _ HCB.out).mono ?_; rintro e w3 ⟨v, m, rfl, hst, hfits, ht, hwn, hln, hc3, hg3⟩
  obtain ⟨A, n1, c, A2, n2, c2, t, rfl⟩ := hst.shape w3 (grownBy_refl _ _)
  have htm := agg_tick hst
  have HST := Lib.hid hst
  have HB3 : Hid (Below w.heap.size w w3) := (HBB.out).grown hg3 HBB.out.size (fun k hk => by cases hk; exact hgz)
  obtain ⟨ht0, ht1⟩ := ht
  rw [← htm] at ht0 ht1
  have h30 := HB3.out.size
  clear hst hfits hwn hln hc3 hg3 HCB HBB HBA htm
  -- the two boxes
  have N7 : Hid ((w3.alloc (.cells zeroMem 48)).heap[w3.heap.size]? = some (.cells zeroMem 48 (0, 0))) := heap_alloc_new _ _
  obtain ⟨w4, hw4⟩ : ∃ w4, (w3.alloc (.cells zeroMem 48)).setRow w3.heap.size #[.slice A n1 c, .slice A2 n2 c2, .int .i64 t] = w4 := ⟨_, rfl⟩
  have HB34 : Hid (Below w3.heap.size w3 w4) := hw4 ▸ row_below (below_new (Below.refl _ _) _) (Nat.le_refl _) _
  have R7 : Hid (w4.heap[w3.heap.size]? = some (.cells #[.slice A n1 c, .slice A2 n2 c2, .int .i64 t] 48 (0, 0))) := hw4 ▸ setRow_heap _ _ _ _ _ (0, 0) N7.out
  have hz4 : w3.heap.size + 1 = w4.heap.size := by rw [← hw4]; simp
  have HW4 := Lib.hid hw4
  clear hw4
  go_upto_region 4 with (refine wpList_store_row rfl 48 _ _ rfl (w3.heap.size) _ rfl rfl 48 zeroMem N7.out (by kernel_rfl) rfl (by simp [Value.oneCell']) ?_)
  rw [show (#[.slice none 0 0, .slice none 0 0, .int .i64 0] : Array Value) = zeroMem from rfl, HW4.out]
  clear HW4 N7
  have N8 : Hid ((w4.alloc (.cells zeroMem 48)).heap[w4.heap.size]? = some (.cells zeroMem 48 (0, 0))) := heap_alloc_new _ _
  obtain ⟨w5, hw5⟩ : ∃ w5, (w4.alloc (.cells zeroMem 48)).setRow w4.heap.size #[.slice A n1 c, .slice A2 n2 c2, .int .i64 t] = w5 := ⟨_, rfl⟩
  have HB45 : Hid (Below w4.heap.size w4 w5) := hw5 ▸ row_below (below_new (Below.refl _ _) _) (Nat.le_refl _) _
  have R8 : Hid (w5.heap[w4.heap.size]? = some (.cells #[.slice A n1 c, .slice A2 n2 c2, .int .i64 t] 48 (0, 0))) := hw5 ▸ setRow_heap _ _ _ _ _ (0, 0) N8.out
  have hz5 : w4.heap.size + 1 = w5.heap.size := by rw [← hw5]; simp
  have HW5 := Lib.hid hw5
  clear hw5
  obtain ⟨x0, x1, x2⟩ := rowc3 R7.out
  go_upto_region 5 with (refine wpList_store_row rfl 48 _ _ rfl (w4.heap.size) _ rfl rfl 48 zeroMem N8.out (by kernel_rfl) rfl (by simp [Value.oneCell']) ?_)
  rw [show (#[.slice none 0 0, .slice none 0 0, .int .i64 0] : Array Value) = zeroMem from rfl, HW5.out]
  clear HW5 N8 x0 x1 x2
  obtain ⟨y0, y1, y2⟩ := rowc3 R8.out
  have f2 := frozen_of_row _ _ 2 _ _ R8.out
  have T8 := Lib.hid (heap_setCell_same w5 w4.heap.size 2 _ _ (.int .i64 (1099511627776 - z)) R8.out)
  simp at T8
  obtain ⟨w6, hw6⟩ : ∃ w6, w5.setCell ⟨w4.heap.size, 2, none⟩ (.int .i64 (1099511627776 - z)) = w6 := ⟨_, rfl⟩
  have HW6 := Lib.hid hw6
  have HB46 : Hid (Below w4.heap.size w4 w6) := hw6 ▸ HB45.out.setCell (p := ⟨w4.heap.size, 2, none⟩) (Nat.le_refl _) _
  have hz6 : w6.heap.size = w5.heap.size := by rw [← hw6]; simp
  have S8 : Hid (w6.heap[w4.heap.size]? = some (.cells #[.slice A n1 c, .slice A2 n2 c2, .int .i64 (1099511627776 - z)] 48 (0, 0))) := hw6 ▸ T8.out
  have S7 := Lib.hid ((HB46.out.block w3.heap.size (by omega)).trans R7.out)
  clear hw6 T8
  go_wp2_with fail
  refine (mod_any a2 4 _ (by omega) (by omega)).mono ?_; rintro e wm ⟨rfl, rfl⟩
  rw [HZ.out]
  go_upto_region 6 with fail
  rw [HW6.out]
  clear HW6 f2 y0 y1 y2 R8 R7
  obtain ⟨W, hW⟩ : ∃ W, w6.alloc (.cells #[.int .i64 a1, .int .i64 y, .int .i64 (-1)] 3) = W := ⟨_, rfl⟩
  have HB6W : Hid (Below w6.heap.size w6 W) := hW ▸ below_new (Below.refl _ _) _
  have RL : Hid (W.heap[w6.heap.size]? = some (.cells #[.int .i64 a1, .int .i64 y, .int .i64 (-1)] 3 (0, 0))) := hW ▸ heap_alloc_new _ _
  have hzW : w6.heap.size + 1 = W.heap.size := by rw [← hW]; simp
  have Q7 := Lib.hid ((HB6W.out.block w3.heap.size (by omega)).trans S7.out)
  have Q8 := Lib.hid ((HB6W.out.block w4.heap.size (by omega)).trans S8.out)
  have HB4W : Hid (Below w3.heap.size w3 W) := (HB34.out.trans ((HB46.out.trans (HB6W.out.mono (by omega))).mono (by omega)))
  have HBW : Hid (Below w.heap.size w W) := below_then HB3.out HB4W.out
  have HSW : Hid (∀ w', Below W.heap.size W w' → w3.grownBy w' (some g)) := fun w' hb => grown_below (HB4W.out.trans (hb.mono (by omega)))
  have HW := Lib.hid hW
  clear hW
  go_wp2_with fail
  refine (mod_any a1 5 _ (by omega) (by omega)).mono ?_; rintro e wm ⟨rfl, rfl⟩
  rw [HY.out]
  go_upto_region 7 with fail
  rw [HW.out]
  clear HW HB34 HB45 HB46 HB6W S7 S8 HB3 HB4W
  generalize w6.heap.size = L at *
  generalize w3.heap.size = B7 at *
  generalize w4.heap.size = B8 at *
  have HTL := Lib.hid (show 0 ≤ 1099511627776 - z ∧ 1099511627776 - z ≤ 1099511627776 by omega)
  generalize 1099511627776 - z = tl at *
  have HZZ := Lib.hid (And.intro hz4 (And.intro hz5 (And.intro hz6 hzW)))
  have hB7 : B7 < W.heap.size := by omega
  have hB8 : B8 < W.heap.size := by omega
  have hL : L < W.heap.size := by omega
  clear hz4 hz5 hz6 hzW h30
  obtain ⟨q0, q1, q2⟩ := rowc3 Q7.out
  obtain ⟨p0, p1, p2⟩ := rowc3 Q8.out
  have X0 := ext_cell B7 0 hB7 _ q0
  have X1 := ext_cell B7 1 hB7 _ q1
  have X2 := ext_cell B7 2 hB7 _ q2
  have Y0 := ext_cell B8 0 hB8 _ p0
  have Y1 := ext_cell B8 1 hB8 _ p1
  have Y2 := ext_cell B8 2 hB8 _ p2
  clear q0 q1 q2 p0 p1 p2
  have HX0 := Lib.hid X0
  have HX1 := Lib.hid X1
  have HX2 := Lib.hid X2
  have HY0 := Lib.hid Y0
  have HY1 := Lib.hid Y1
  have HY2 := Lib.hid Y2
  clear X0 X1 X2 Y0 Y1 Y2
  go_loopw [26] (fun c wr => ∃ k : Nat, k ≤ 3 ∧ c = .int .i64 k ∧ Hid (Below W.heap.size W wr)) (fun c _ => 3 - (intOf c).toNat)
  case atStart => exact ⟨0, by omega, rfl, Below.refl _ _⟩
  case round =>
    obtain ⟨k, hk, rfl, hb⟩ := hrel
    obtain ⟨wo, rfl⟩ : ∃ wo : World, wo = wr := ⟨_, rfl⟩
    by_cases hlt : k < 3
    · have hc : ∃ x : Int, Hid (x = IntKind.i64.wrap x) ∧ wo.cell? ⟨w5.heap.size, k, none⟩ = some (.int .i64 x) := by
        have hr := cell_of_row _ _ k _ _ _ ((hb.out.block L hL).trans RL.out)
        rw [HZZ.out.2.2.1] at hr
        obtain rfl | rfl | rfl : k = 0 ∨ k = 1 ∨ k = 2 := by omega
        · exact ⟨_, HN1, hr⟩
        · exact ⟨_, i64_ok4 _ (by omega) (by omega), hr⟩
        · exact ⟨_, (by decide : (-1 : Int) = IntKind.i64.wrap (-1)), hr⟩
      obtain ⟨x, HXW, hcell⟩ := hc
      have hltB : decide ((k : Int) < 3) = true := decide_eq_true (by omega)
      have TA := Lib.hid fun w' => tick_any A A2 n1 c n2 c2 t x w' ht0 (by omega) HXW.out
      have TB := Lib.hid fun w' => tick_any A A2 n1 c n2 c2 tl x w' HTL.out.1 HTL.out.2 HXW.out
      have UA := Lib.hid fun w' => rtick_any A A2 n1 c n2 c2 t x w' ht0 (by omega) HXW.out
      have UB := Lib.hid fun w' => rtick_any A A2 n1 c n2 c2 tl x w' HTL.out.1 HTL.out.2 HXW.out
      have SA : Hid (∀ n : Ext W, Calls Try.prog 35 #[.agg #[.slice A n1 c, .slice A2 n2 c2, .int .i64 (tickI t x)], .agg #[.slice A n1 c, .slice A2 n2 c2, .int .i64 (tickI t x)]] n.wd fun e w' => e = .returned (.bool true) ∧ Below n.wd.heap.size n.wd w') := fun n => sameMem_true _ _ _ _ ((retick HST.out _).at (HSW.out _ n.below)) ((retick HST.out _).at (HSW.out _ n.below))
      have SB : Hid (∀ n : Ext W, Calls Try.prog 35 #[.agg #[.slice A n1 c, .slice A2 n2 c2, .int .i64 (tickI (tl) x)], .agg #[.slice A n1 c, .slice A2 n2 c2, .int .i64 (tickI (tl) x)]] n.wd fun e w' => e = .returned (.bool true) ∧ Below n.wd.heap.size n.wd w') := fun n => sameMem_true _ _ _ _ ((retick HST.out _).at (HSW.out _ n.below)) ((retick HST.out _).at (HSW.out _ n.below))
      generalize tickI t x = ta at *
      generalize tickI (tl) x = tb at *
      go_upto_region 9 with fail
      clear hcell
      have X0 := HX0.out
      have X1 := HX1.out
      have X2 := HX2.out
      have Y0 := HY0.out
      have Y1 := HY1.out
      have Y2 := HY2.out
      refine wp_region_ext W (by kernel_rfl) (by kernel_rfl) hb.out ?_
      repeat (go_big_quiet_step (first
        | (go_at_call 37; first | with_reducible exact calls_ext (TA.out _) | with_reducible exact calls_ext (TB.out _))
        | (go_at_call 38; first | with_reducible exact calls_ext (UA.out _) | with_reducible exact calls_ext (UB.out _))
        | (go_at_call 35; first | with_reducible exact calls_ext (SA.out _) | with_reducible exact calls_ext (SB.out _))))
      refine wpQuiet_nil ?_
      intro _ hw'
      obtain ⟨⟨w8, hw8⟩, hw''⟩ := hw'
      subst hw''
      have HB8 := Lib.hid hw8
      clear hw8 X0 X1 X2 Y0 Y1 Y2
      go_wp2
      go_roundw
      case rel => exact ⟨k + 1, by omega, by go_num, HB8⟩
      case measure => simp [intOf]; omega
    · go_wp2
      go_ret
      exact ⟨rfl, below_then HBW.out (hb.out)⟩
set_option maxRecDepth 100000 in
theorem lifted (os : Os) (started : os.Started) (H : Type) (enc : TypeId × Value → H) :
    ReturnsInHanded {} Try.checked os 6 .any (Rows.memoryTicksSpec.pre6 enc Try.prog Try.f6 Rows.memoryTicksRow.domain false) (Rows.memoryTicksSpec.post enc Try.prog Try.f6 false true false false) := by
  refine returnsInHanded_of_change_sized (C := Try.checked) own started (by kernel_rfl) Try.func6
    (ChangeSpec.witness6 (enc := enc) (C := Try.checked) false ⟨#[], #[.slice none 0 0, .int .i64 0, .int .i64 0], []⟩ 8 (by kernel_rfl) (by kernel_rfl) (by kernel_rfl) (by kernel_rfl)) ?_
  intro W base args ds gs before hval0 hW _ hsz0 _
  have hsz : (DataW.weightsEach Try.prog (Try.f6.params.toList ++ Rows.memoryTicksSpec.plain.varTypes Try.prog) (ds ++ gs)).all (· ≤ reachBytes) = true := hsz0
  clear hsz0
  have hval : ∀ (j : Nat) t v, Try.f6.params[j]? = some t → args[j]? = some v → Value.okWide Try.prog W .any base t v := hval0
  have hW' := hW
  obtain ⟨p, q, hA0, hV, rfl, _, _⟩ := hW
  have hA : DataW.TrodAll enc Try.prog W 0 (fun _ => true) true Try.f6.params.toList args.toList ds p := hA0
  rw [Try.params6] at hA hval hsz
  obtain ⟨v0, vs0, d0, ds0, p0, q0, hargs, rfl, rfl, h0, r0⟩ := trodAll_cons hA
  obtain ⟨v1, vs1, d1, ds1, p1, q1, rfl, rfl, rfl, h1, r1⟩ := trodAll_cons r0
  obtain ⟨v2, vs2, d2, ds2, p2, q2, rfl, rfl, rfl, h2, r2⟩ := trodAll_cons r1
  obtain ⟨rfl, rfl, rfl⟩ := trodAll_nil r2
  obtain rfl : args = #[v0, v1, v2] := by cases args; simp_all
  obtain ⟨rfl, rfl⟩ := trodVars_none hV
  have k0 := h0
  have k1 := h1
  have k2 := h2
  obtain ⟨l0, s0⟩ := view_sl (k := .u8) Try.underlying27 Try.underlying5 (by kernel_rfl) (fun elems sp hd => sized_slice hsz (j := 0) (t := 27) (e := 5) rfl (by rw [hd]; rfl) Try.underlying27) (of_decide_eq_true (by kernel_rfl)) (hval 0 27 v0 rfl rfl) h0
  obtain ⟨a1, rfl, -, -, w1⟩ := open_int Try.underlying3 (hval 1 3 v1 rfl rfl) h1
  obtain ⟨a2, rfl, -, -, w2⟩ := open_int Try.underlying3 (hval 2 3 v2 rfl rfl) h2
  clear hA0 hval0
  simp only [List.append_nil] at hW'
  have hlt := hW'.lt
  refine (walk W v0 l0 s0 a1 w1 a2 w2).mono fun e W' ⟨he, hb⟩ => ?_
  subst he
  exact ⟨_, rfl, _, _, _, [], _, [], hW', trodAll_cons_mk (shut_bool Try.underlying4 _) trodAll_mk0, (trodAll_cons_mk (Below.trod Try.laidOut (by kernel_rfl) (of_decide_eq_true (by kernel_rfl)) k0 hb (fun x hx => by simpa using hlt x (by simp [hx]))) (trodAll_cons_mk (Below.trod Try.laidOut (by kernel_rfl) (of_decide_eq_true (by kernel_rfl)) k1 hb (fun x hx => by simpa using hlt x (by simp [hx]))) (trodAll_cons_mk (Below.trod Try.laidOut (by kernel_rfl) (of_decide_eq_true (by kernel_rfl)) k2 hb (fun x hx => by simpa using hlt x (by simp [hx]))) trodAll_mk0))), rfl, hb.frame _, fun h => by cases h⟩
theorem over : Rows.memoryTicksRow.holds Try.pinned (OpenSpec.ofChange Rows.memoryTicksSpec) :=
  OpenClaim.holds_of_wide 6 Try.f6 rfl rfl rfl rfl rfl rfl rfl ⟨rfl, rfl, rfl, rfl, rfl⟩ rfl rfl rfl rfl rfl (by kernel_rfl) Try.func6 (by kernel_rfl)
    (of_decide_eq_true (by kernel_rfl)) (by unfold Func.isWrapper; first | (rw [if_pos (by decide +kernel)]; kernel_rfl) | (rw [if_neg (by decide +kernel)]; exact ⟨rfl, rfl⟩))
    (fun os started H enc _ => lifted os started H enc)
/-- THE STATEMENT -/
theorem proved : Rows.MemoryTicksSaid :=
  over
end Go.Proofs.Ytkciejealeinoaa.memoryTicks
