/- Proved: LayoutChecks returns true, and its arguments read afterwards as before, for every configuration raw and every list of codes; no condition. -/
import Derived.Test.YtkpnakomlfjndaaLaw
import Derived.Test.YtkpnakomlfjndaaLawCf
import Derived.Test.YtkpnakomlfjndaaL5Chk
import Derived.Test.YtkpnakomlfjndaaLawCf
import Derived.Test.YtkpnakomlfjndaaStill
import Derived.Test.YtkpnakomlfjndaaRu
import Derived.Deep.RegionHeld
import Derived.Deep.DeepCutAuto
import Derived.Deep.CutBlock
import Derived.Deep.LoopGhost
import Derived.Deep.RegionLaw
import Derived.LoopTactic
import Derived.WalkKit
import Derived.ProofKit
import Derived.OpenShut
import Derived.SizedLaws
namespace Go.Proofs.Ytkpnakomlfjndaa.layoutChecks
open Go.ChangeShapes Go.WideShapes Go.ChangeAt Go.RowKit
set_option linter.unusedVariables false
theorem own_shape {w : World} {base : Nat} {e : TypeId} {k : IntKind} {v : Value} {l : List Int} (h : OwnI w base e k v l) : ∃ p n q, v = .slice p n q := by
  rcases h.shape with ⟨rfl, rfl⟩ | ⟨g, cap, rfl, -⟩
  · exact ⟨_, _, _, rfl⟩
  · exact ⟨_, _, _, rfl⟩
/-- the literal in block b stays where a row of another type grows -/
theorem lit_kept {w w2 : World} {base b : Nat} {e T : TypeId} {k : IntKind} {v : Value} {l : List Int} {cs : Array Value} {f : Nat × Nat} (h : w.heap[b]? = some (.cells cs T f)) (ho : OwnI w base e k v l) (hT : T ≠ e) (hg : w.grownBy w2 v.ownBlock) : w2.heap[b]? = some (.cells cs T f) := by
  refine (hg.block b (Array.getElem?_eq_some_iff.1 h).1 ?_).trans h
  intro hb
  rcases ho.2 with ⟨rfl, _⟩ | ⟨g, cap, cur, rfl, h1, h2, _⟩
  · simp [Value.ownBlock] at hb
  · simp only [Value.ownBlock, Option.some.injEq] at hb
    rw [hb, h2] at h
    simp at h
    exact hT h.2.1.symm
theorem lit_old {w : World} {b : Nat} {o : Obj} {cs : Array Value} {T : TypeId} (h : w.heap[b]? = some (.cells cs T (0, 0))) : (w.alloc o).heap[b]? = some (.cells cs T (0, 0)) := ((below_new (Below.refl w.heap.size w) o).block b (Array.getElem?_eq_some_iff.1 h).1).trans h
theorem wrap8 {y : Int} (h0 : 0 ≤ y) (h1 : y < 2) : IntKind.i64.wrap (8 + y) = 8 + y := by rw [IntKind.wrap_i64]; omega
theorem eq_zero_of {y : Int} (h0 : 0 ≤ y) (h1 : y < 1) : y = 0 := by omega
theorem le_of_next {m l q : Nat} (h : (m : Int) < (l : Int) + 1) (hc : l ≤ q) : m ≤ q ∧ (m : Int) ≤ (q : Int) ∧ (0 : Int) ≤ (m : Int) ∧ m ≤ l := by omega
structure ListOk (caps starts : List Int) (n : Nat) : Prop where
  lc : caps.length ≤ n
  ls : starts.length ≤ n
  wc : ∀ x ∈ caps, x = IntKind.i64.wrap x
  ws : ∀ x ∈ starts, x = IntKind.u64.wrap x
theorem ListOk.addC {caps starts : List Int} {n : Nat} (h : ListOk caps starts n) (x : Int) (hx : x = IntKind.i64.wrap x) : ListOk (caps ++ [x]) starts (n + 1) :=
  ⟨by have := h.lc; simp; omega, by have := h.ls; omega, fun y hy => by
    rw [List.mem_append, List.mem_singleton] at hy
    rcases hy with hy | rfl
    · exact h.wc y hy
    · exact hx, h.ws⟩
theorem ListOk.addS {caps starts : List Int} {n : Nat} (h : ListOk caps starts n) (x : Int) (hx : x = IntKind.u64.wrap x) : ListOk caps (starts ++ [x]) (n + 1) :=
  ⟨by have := h.lc; omega, by have := h.ls; simp; omega, h.wc, fun y hy => by
    rw [List.mem_append, List.mem_singleton] at hy
    rcases hy with hy | rfl
    · exact h.ws y hy
    · exact hx⟩
theorem own_len {w : World} {base : Nat} {e : TypeId} {k : IntKind} {p : Option Addr} {n q : Nat} {l : List Int} (h : OwnI w base e k (.slice p n q) l) : n = l.length := by
  rcases h.shape with ⟨h1, rfl⟩ | ⟨g, cap, h1, -⟩
  · simp only [Value.slice.injEq] at h1; simpa using h1.2.1
  · simp only [Value.slice.injEq] at h1; exact h1.2.1
theorem OwnI.capLe {w : World} {base : Nat} {e : TypeId} {k : IntKind} {b n q : Nat} {l : List Int} (h : OwnI w base e k (.slice (some ⟨b, 0, none⟩) n q) l) : l.length ≤ q := by
  rcases h.shape with ⟨h1, -⟩ | ⟨g, cap, h1, -, -, h2, -⟩
  · simp at h1
  · simp only [Value.slice.injEq] at h1; omega
theorem ChkS.cut {w0 wD wr : World} {g Y b n q nn : Nat} {yc : Value} {caps starts : List Int} {thr : Int} (h : ChkS w0 wD wr g Y yc (.slice (some ⟨b, 0, none⟩) n q) yc (.slice (some ⟨b, 0, none⟩) n q) caps starts thr) (hl : ListOk caps starts nn) (m : Nat) (hm : m ≤ starts.length) (hn : nn ≤ 1000 := by omega) :
    ChkE w0 wD (wr.setCell ⟨Y, 1, none⟩ (.slice (some ⟨b, 0, none⟩) m q)) g Y yc (.slice (some ⟨b, 0, none⟩) m q) ⟨caps, starts.take m, thr⟩ := by
  have h1 := h.set (o := 1) (u := .slice (some ⟨b, 0, none⟩) m q) (rc' := yc) (rs' := .slice (some ⟨b, 0, none⟩) m q) (thr' := thr) (by simp)
  have hlc := hl.lc
  have hls := hl.ls
  exact ⟨h1.row, ⟨yc, _, rfl, h1.oc.read (by omega) hl.wc, h1.os.readTake m hm (by omega) hl.ws⟩, h1.keep, h1.below⟩
theorem ChkS.fin' {w0 wD wr : World} {g Y n : Nat} {yc ys : Value} {caps starts : List Int} {thr : Int} (h : ChkS w0 wD wr g Y yc ys yc ys caps starts thr) (hl : ListOk caps starts n) (hn : n ≤ 1000) : ChkE w0 wD wr g Y yc ys ⟨caps, starts, thr⟩ :=
  h.fin (Nat.le_trans hl.lc hn) (Nat.le_trans hl.ls hn) hl.wc hl.ws
set_option maxRecDepth 100000 in
set_option maxHeartbeats 16000000 in
theorem walk (w : World) (v0 : Value) (c0 : ConfM) (s0 : ConfV w v0 c0) (o0 : c0.threads = IntKind.i64.wrap c0.threads) (v1 : Value) (l1 : List Int) (s1 : SlI w .u8 v1 l1) :
    Calls Try.prog 4 #[v0, v1] w fun e w' => e = .returned (.bool true) ∧ Below w.heap.size w w' := by
  have AW := Lib.hid fun w' => awake5_any w'
  have HS0 := Lib.hid s0
  have HS1 := Lib.hid s1
  have hw0 := s0
  obtain ⟨rc0, rs0, rfl, hr1, hr2⟩ := s0
  have hrl1 := hr1.1
  have hrl2 := hr2.1
  obtain ⟨pr, cr, rfl, -⟩ := hr1.len
  obtain ⟨ps, csr, rfl, -⟩ := hr2.len
  clear s1 o0 hr1 hr2
  obtain ⟨W, hW⟩ : ∃ W, w.alloc (.cells #[.slice pr c0.caps.length cr, .slice ps c0.starts.length csr, .int .i64 c0.threads] 46) = W := ⟨_, rfl⟩
  have HB : Hid (Below w.heap.size w W) := hW ▸ below_new (Below.refl w.heap.size w) _
  have R0 : Hid (W.heap[w.heap.size]? = some (.cells #[.slice pr c0.caps.length cr, .slice ps c0.starts.length csr, .int .i64 c0.threads] 46 (0, 0))) := hW ▸ heap_alloc_new _ _
  have hzW : w.heap.size < W.heap.size := by rw [← hW]; simp
  have HW := Lib.hid hW
  clear hW hw0
  go_enter Try.func4, Try.ntmps4
  go_upto_region 1 with fail
  rw [HW.out]
  clear HW
  go_wp2_with fail
  refine (AW.out _).mono ?_; rintro e wa ⟨rfl, hba⟩
  have HBA := Lib.hid (HB.out.trans (hba.mono (Nat.le_of_lt hzW)))
  have RA := Lib.hid ((hba.block w.heap.size hzW).trans R0.out)
  have hza : w.heap.size < wa.heap.size := Nat.lt_of_lt_of_le hzW hba.size
  clear hba AW HB R0 hzW
  obtain ⟨x0, x1, x2⟩ := rowc3 RA.out
  by_cases hn : 20 < c0.caps.length
  · go_wp2
    go_ret
    exact ⟨rfl, HBA.out⟩
  by_cases hm : 20 < c0.starts.length
  · go_wp2
    go_ret
    exact ⟨rfl, HBA.out⟩
  go_wp2_with fail
  refine (new_any _ l1 60 _ (HS1.out.below HBA.out) (by omega)).mono ?_; rintro e wb ⟨rfl, hcb, hbb⟩
  have HBB := Lib.hid (below_then HBA.out hbb)
  have hgz : w.heap.size < wa.heap.size := hza
  have HCB : Hid (CodesE wb wa.heap.size) := ⟨_, _, hcb⟩
  have HXR : Hid (ConfX wa wa.heap.size (.agg #[.slice pr c0.caps.length cr, .slice ps c0.starts.length csr, .int .i64 c0.threads]) c0) := by
    obtain ⟨vc, vs, e, h1, h2⟩ := HS0.out.below HBA.out
    exact ⟨vc, vs, e, h1, h2, h1.offOf (Nat.le_refl _), h2.offOf (Nat.le_refl _)⟩
  have HOB : Hid (Below wa.heap.size wa wb) := hbb
  have RB := Lib.hid ((hbb.block w.heap.size hza).trans RA.out)
  have hgb := hcb.lt
  clear hcb hbb HS1 HBA RA x0 x1 x2 hza
  go_wp2_with fail
  refine (wideE2 _ _ HCB.out).mono ?_; rintro e w3 ⟨u3, cx, rfl, hcx, hgood, hc3, hg3⟩
  have HG := Lib.hid hgood
  have HB3 : Hid (Below w.heap.size w w3) := (HBB.out).grown hg3 HBB.out.size (fun k hk => by cases hk; omega)
  have hz3 := hg3.size
  have HSR : Hid (∀ Y, wa.heap.size ≤ Y → StC (Off wa.heap.size Y w3) (.agg #[.slice pr c0.caps.length cr, .slice ps c0.starts.length csr, .int .i64 c0.threads]) c0) := fun Y hY => (HXR.out.stay hY).sub fun w5 h5 => (Off.below HOB.out).trans ((Off.grown hg3).trans h5)
  have HSX : Hid (∀ Y, w3.heap.size ≤ Y → StC (Off wa.heap.size Y w3) u3 cx) := fun Y hY => hcx.stay hY
  have HC3 := Lib.hid hc3
  have R3 := Lib.hid ((hg3.block w.heap.size (by omega) (by simp; omega)).trans RB.out)
  obtain ⟨vc3, vs3, rfl, hs31, hs32, -, -⟩ := hcx
  obtain ⟨px, cpx, rfl, -⟩ := hs31.len
  obtain ⟨qx, cqx, rfl, -⟩ := hs32.len
  have hxl := hgood.len
  clear hgood hc3 hg3 HCB HBB HXR HOB RB hs31 hs32
  generalize wa.heap.size = g at *
  obtain ⟨W4, hW4⟩ : ∃ W4, (w3.alloc (.cells zeroConf 46)).setRow w3.heap.size #[.slice px cx.caps.length cpx, .slice qx cx.starts.length cqx, .int .i64 cx.threads] = W4 := ⟨_, rfl⟩
  have N4 : Hid ((w3.alloc (.cells zeroConf 46)).heap[w3.heap.size]? = some (.cells zeroConf 46 (0, 0))) := heap_alloc_new _ _
  have HB4 : Hid (Below w3.heap.size w3 W4) := hW4 ▸ row_below (below_new (Below.refl _ _) _) (Nat.le_refl _) _
  have R4 : Hid (W4.heap[w3.heap.size]? = some (.cells #[.slice px cx.caps.length cpx, .slice qx cx.starts.length cqx, .int .i64 cx.threads] 46 (0, 0))) := hW4 ▸ setRow_heap _ _ _ _ _ (0, 0) N4.out
  have hz4 : w3.heap.size + 1 = W4.heap.size := by rw [← hW4]; simp
  have HW4 := Lib.hid hW4
  clear hW4
  go_upto_region 7 with (refine wpList_store_row rfl 46 _ _ rfl (w3.heap.size) _ rfl rfl 46 zeroConf N4.out (by kernel_rfl) rfl (by simp [Value.oneCell']) ?_)
  rw [show (#[.slice none 0 0, .slice none 0 0, .int .i64 0] : Array Value) = zeroConf from rfl, HW4.out]
  clear HW4 N4
  obtain ⟨x0, x1, x2⟩ := rowc3 R4.out
  obtain ⟨WD, hWD⟩ : ∃ WD, (W4.alloc (.cells zeroConf 46)).setRow W4.heap.size #[.slice px cx.caps.length cpx, .slice qx cx.starts.length cqx, .int .i64 cx.threads] = WD := ⟨_, rfl⟩
  have N5 : Hid ((W4.alloc (.cells zeroConf 46)).heap[W4.heap.size]? = some (.cells zeroConf 46 (0, 0))) := heap_alloc_new _ _
  have HB5 : Hid (Below W4.heap.size W4 WD) := hWD ▸ row_below (below_new (Below.refl _ _) _) (Nat.le_refl _) _
  have R5 : Hid (WD.heap[W4.heap.size]? = some (.cells #[.slice px cx.caps.length cpx, .slice qx cx.starts.length cqx, .int .i64 cx.threads] 46 (0, 0))) := hWD ▸ setRow_heap _ _ _ _ _ (0, 0) N5.out
  have hz5 : W4.heap.size + 1 = WD.heap.size := by rw [← hWD]; simp
  have HWD := Lib.hid hWD
  clear hWD
  go_upto_region 8 with (refine wpList_store_row rfl 46 _ _ rfl (W4.heap.size) _ rfl rfl 46 zeroConf N5.out (by kernel_rfl) rfl (by simp [Value.oneCell']) ?_)
  rw [show (#[.slice none 0 0, .slice none 0 0, .int .i64 0] : Array Value) = zeroConf from rfl, HWD.out]
  clear HWD N5 x0 x1 x2
  have HB35 : Hid (Below w3.heap.size w3 WD) := below_then HB4.out HB5.out
  have HSRD : Hid (StC (Off g W4.heap.size WD) (.agg #[.slice pr c0.caps.length cr, .slice ps c0.starts.length csr, .int .i64 c0.threads]) c0) := (HSR.out W4.heap.size (by omega)).sub fun w5 h5 => (Off.below HB35.out).trans h5
  have HSXD : Hid (StC (Off g W4.heap.size WD) (.agg #[.slice px cx.caps.length cpx, .slice qx cx.starts.length cqx, .int .i64 cx.threads]) cx) := (HSX.out W4.heap.size (by omega)).sub fun w5 h5 => (Off.below HB35.out).trans h5
  have RXD := Lib.hid ((HB5.out.block w3.heap.size (by omega)).trans R4.out)
  have RRD := Lib.hid ((HB35.out.block w.heap.size (by omega)).trans R3.out)
  have HI0 : Hid (ChkS w WD WD g W4.heap.size (.slice px cx.caps.length cpx) (.slice qx cx.starts.length cqx) (.slice none 0 0) (.slice none 0 0) [] [] cx.threads) :=
    ⟨by omega, by omega, by omega, HC3.out.kept HC3.out.lt HB35.out, R5.out, OwnI.nil _ _ _ _, OwnI.nil _ _ _ _, Off.self _ _ _, below_then HB3.out HB35.out⟩
  have HLK : Hid (ListOk cx.caps cx.starts 8) := ⟨hxl, by rw [HG.out.same]; exact hxl, fun x hx => i64_ok x (by have := HG.out.caps x hx; omega) (by have := HG.out.caps x hx; omega), fun x hx => u64_ok x (by have := HG.out.starts x hx; omega) (by have := HG.out.starts x hx; omega)⟩
  have hsl : cx.starts.length ≤ 8 := by rw [HG.out.same]; exact hxl
  have HSM := Lib.hid HG.out.same
  clear HSR HSX R3 R4 R5 HB4 HB5 HB35 HB3 HC3
  have hYx : w3.heap.size ≠ W4.heap.size := by omega
  have hgx : w3.heap.size ≠ g := by omega
  have hRg : w.heap.size ≠ g := by omega
  have hRY : w.heap.size ≠ W4.heap.size := by omega
  have hXD : w3.heap.size < WD.heap.size := by omega
  have hRD : w.heap.size < WD.heap.size := by omega
  clear hz3 hz4 hz5 hgb hgz
  generalize W4.heap.size = Y at *
  generalize w3.heap.size = X at *
  obtain ⟨x0, x1, x2⟩ := rowc3 RXD.out
  have SX := (HSXD.out WD (Off.self _ _ _))
  obtain ⟨vc', vs', ev, hsc, hss⟩ := SX
  simp only [Value.agg.injEq, Array.mk.injEq, List.cons.injEq, and_true] at ev
  obtain ⟨rfl, rfl⟩ := ev
  have HSC := Lib.hid hsc
  have HSS := Lib.hid hss
  clear hsc hss
  go_upto_region 9 with (refine wp_app_i64 WD rfl _ _ rfl WD.heap.size _ [] rfl (OwnI.nil _ _ _ _) _ cx.caps rfl HSC.out (by simp) (by omega) (Nat.le_refl _) ?_; intro v6 w6 ho6 hg6; simp only [List.nil_append] at ho6; obtain ⟨p6, n6, q6, e6⟩ := own_shape ho6; subst e6; have hI6 := Lib.hid (HI0.out.appC ho6 hg6); obtain ⟨z0, z1, z2⟩ := rowc3 hI6.out.row; have f0 := frozen_of_row _ _ 0 _ _ hI6.out.row)
  have HI7 := Lib.hid hI6.out.setC
  have HSS7 := Lib.hid (HSXD.out _ HI7.out.keep)
  have RX7 := Lib.hid ((HI7.out.keep.2 X hXD hgx hYx).trans RXD.out)
  clear ho6 hg6 z0 z1 z2 f0 hI6 HI0 x0 x1 x2
  generalize w6.setCell ⟨Y, 0, none⟩ (.slice p6 n6 q6) = W7 at *
  obtain ⟨x0, x1, x2⟩ := rowc3 RX7.out
  obtain ⟨vc', vs', ev, hsc, hss⟩ := HSS7.out
  simp only [Value.agg.injEq, Array.mk.injEq, List.cons.injEq, and_true] at ev
  obtain ⟨rfl, rfl⟩ := ev
  have HSS8 := Lib.hid hss
  clear hsc hss HSS7 HSC HSS
  go_upto_region 10 with (refine wp_app_u64 W7 rfl _ _ rfl WD.heap.size _ [] rfl (OwnI.nil _ _ _ _) _ cx.starts rfl HSS8.out (by simp) (by omega) HI7.out.size ?_; intro v8 w8 ho8 hg8; simp only [List.nil_append] at ho8; obtain ⟨p8, n8, q8, e8⟩ := own_shape ho8; subst e8; have hI8 := Lib.hid (HI7.out.appS ho8 hg8); obtain ⟨z0, z1, z2⟩ := rowc3 hI8.out.row; have f1 := frozen_of_row _ _ 1 _ _ hI8.out.row)
  have HI9 := Lib.hid hI8.out.setS
  clear ho8 hg8 z0 z1 z2 f1 hI8 HI7 x0 x1 x2 RX7 HSS8
  generalize w8.setCell ⟨Y, 1, none⟩ (.slice p8 n8 q8) = W9 at *
  go_wp2_with fail
  refine (nextE g 6 _ HI9.out.codes (by omega) (by omega)).mono ?_; rintro e w5 ⟨z, rfl, hz0, hz1, hc5, hg5⟩
  have HI := Lib.hid (HI9.out.next hc5 hg5)
  clear hc5 hg5 HI9
  go_upto_block 0 with fail
  go_cut [] (fun wx => ∃ rc rs c, Hid (ChkE w WD wx g Y rc rs c))
  case first =>
    generalize cx.threads = thr at *
    generalize cx.caps = caps at *
    generalize cx.starts = starts at *
    obtain ⟨y0, y1, y2⟩ := rowc3 HI.out.row
    have f0 := frozen_of_row _ _ 0 _ _ HI.out.row
    have f1 := frozen_of_row _ _ 1 _ _ HI.out.row
    have f2 := frozen_of_row _ _ 2 _ _ HI.out.row
    have hYw := HI.out.size
    have hYD := HI.out.yd
    have hY5 : Y < w5.heap.size := by omega
    rcases (show z = 0 ∨ z = 1 ∨ z = 2 ∨ z = 3 ∨ z = 4 ∨ z = 5 by omega) with rfl | rfl | rfl | rfl | rfl | rfl
    · clear y0 y1 y2 f0 f1 f2
      go_wp2_with fail
      refine (numberE g _ HI.out.codes).mono ?_; rintro e w6 ⟨n, rfl, hn0, hn1, hc6, hg6⟩
      have hI6 := Lib.hid (HI.out.next hc6 hg6)
      clear hc6 hg6
      obtain ⟨y0, y1, y2⟩ := rowc3 hI6.out.row
      have f2 := frozen_of_row _ _ 2 _ _ hI6.out.row
      have hE := Lib.hid (ChkS.fin' (hI6.out.setT n) HLK.out (by omega))
      go_wp2_with fail
      go_meet
      exact ⟨_, _, _, hE⟩
    · go_wp2_with (refine wp_append_i64 (w5.alloc (.cells #[.int .i64 1] 3)) rfl _ _ rfl WD.heap.size _ caps rfl (HI.out.oc.alloc _) 1 w5.heap.size rfl (World.cell?_alloc_at _ _ _ _ rfl) (by omega) (by simp; omega) ?_; intro v6 w6 ho6 hg6; obtain ⟨p7, n7, q7, e7⟩ := own_shape ho6; subst e7; have hI6 := Lib.hid ((HI.out.more (below_new (Below.refl _ _) _)).appC ho6 hg6); obtain ⟨z0, z1, z2⟩ := rowc3 hI6.out.row; have ff0 := frozen_of_row _ _ 0 _ _ hI6.out.row)
      have hE := Lib.hid (ChkS.fin' hI6.out.setC (HLK.out.addC 1 (by decide)) (by omega))
      go_meet
      exact ⟨_, _, _, hE⟩
    · skip
      have T1 := Lib.hid (numberE g w5.drew (show CodesE w5.drew g from HI.out.codes))
      have hIB := Lib.hid (HI.out.more (below_new (Below.refl _ _) (.cells #[.int .u64 0] 26)))
      have TB1 := Lib.hid (numberE g ((w5.alloc (.cells #[.int .u64 0] 26)).drew) (show CodesE _ g from hIB.out.codes))
      have hLB : Hid ((w5.alloc (.cells #[.int .u64 0] 26)).heap[w5.heap.size]? = some (.cells #[.int .u64 0] 26 (0, 0))) := heap_alloc_new _ _
      have hgw : w5.heap.size ≠ g := by have := HI.out.gy; omega
      have K6 : Hid (∀ w6 : World, ((w5.alloc (.cells #[.int .u64 0] 26)).drew).grownBy w6 (some g) → w6.heap[w5.heap.size]? = some (.cells #[.int .u64 0] 26 (0, 0))) := fun w6 h6 => ((undrewG h6).block w5.heap.size (by simp) (fun e => hgw (Option.some.inj e))).trans hLB.out
      have SA0 : ∀ (w : World) (o : Obj), (w.cell? ⟨Y, 0, none⟩ = some (.slice p6 n6 q6) ∧ w.cell? ⟨Y, 1, none⟩ = some (.slice p8 n8 q8)) → (w.alloc o).cell? ⟨Y, 0, none⟩ = some (.slice p6 n6 q6) ∧ (w.alloc o).cell? ⟨Y, 1, none⟩ = some (.slice p8 n8 q8) := fun w o h => ⟨by rw [World.cell?_alloc_some _ _ _ (by rw [h.1]; rfl)]; exact h.1, by rw [World.cell?_alloc_some _ _ _ (by rw [h.2]; rfl)]; exact h.2⟩
      have SAh := Lib.hid SA0
      clear SA0
      go_upto_region 16 with fail
      refine wp_region_until (fun w' : World => w'.cell? ⟨Y, 0, none⟩ = some (.slice p6 n6 q6) ∧ w'.cell? ⟨Y, 1, none⟩ = some (.slice p8 n8 q8)) 11 14 (by kernel_rfl) rfl ?_
      have hSU0 : (fun w' : World => w'.cell? ⟨Y, 0, none⟩ = some (.slice p6 n6 q6) ∧ w'.cell? ⟨Y, 1, none⟩ = some (.slice p8 n8 q8)) (w5.drew) := ⟨y0, y1⟩
      refine wpAnyU_take (v := ?_) 0 ListAt.zero (by kernel_rfl) (by kernel_rfl) (by kernel_rfl) (by kernel_rfl) (by kernel_rfl) (fun _ _ _ h => h) hSU0 rfl ?_ ?_
      rotate_left
      · (intro w hSw; (try dsimp only at hSw); go_simp <;> with_reducible rfl)
      simp only [Act.put, List.setIfInBounds_toArray, List.set_cons_zero, List.set_cons_succ]
      refine wpAnyU_take (v := ?_) 1 (ListAt.succ ListAt.zero) (by kernel_rfl) (by kernel_rfl) (by kernel_rfl) (by kernel_rfl) (by kernel_rfl) (fun _ _ _ h => h) hSU0 rfl ?_ ?_
      rotate_left
      · (intro w hSw; (try dsimp only at hSw); go_simp <;> with_reducible rfl)
      simp only [Act.put, List.setIfInBounds_toArray, List.set_cons_zero, List.set_cons_succ]
      refine wpAnyU_take (v := ?_) 2 (ListAt.succ (ListAt.succ ListAt.zero)) (by kernel_rfl) (by kernel_rfl) (by kernel_rfl) (by kernel_rfl) (by kernel_rfl) (fun _ _ _ h => h) hSU0 rfl ?_ ?_
      rotate_left
      · (intro w hSw; (try dsimp only at hSw); go_simp <;> with_reducible rfl)
      simp only [Act.put, List.setIfInBounds_toArray, List.set_cons_zero, List.set_cons_succ]
      refine wpAnyU_take (v := ?_) 6 (ListAt.succ (ListAt.succ (ListAt.succ (ListAt.succ (ListAt.succ (ListAt.succ ListAt.zero)))))) (by kernel_rfl) (by kernel_rfl) (by kernel_rfl) (by kernel_rfl) (by kernel_rfl) (fun _ _ _ h => h) hSU0 rfl ?_ ?_
      rotate_left
      · (intro w hSw; (try dsimp only at hSw); go_simp <;> with_reducible rfl)
      simp only [Act.put, List.setIfInBounds_toArray, List.set_cons_zero, List.set_cons_succ]
      refine wpAnyU_take (v := ?_) 7 (ListAt.succ (ListAt.succ (ListAt.succ (ListAt.succ (ListAt.succ (ListAt.succ (ListAt.succ ListAt.zero))))))) (by kernel_rfl) (by kernel_rfl) (by kernel_rfl) (by kernel_rfl) (by kernel_rfl) (fun _ _ _ h => h) hSU0 rfl ?_ ?_
      rotate_left
      · (intro w hSw; (try dsimp only at hSw); go_simp <;> with_reducible rfl)
      simp only [Act.put, List.setIfInBounds_toArray, List.set_cons_zero, List.set_cons_succ]
      refine wpAnyU_ready (rs := [3, 8]) (by kernel_rfl) rfl ?_
      refine AllReadyU.cons (ListAt.succ (ListAt.succ (ListAt.succ ListAt.zero))) rfl (fun K hK => ?_) ?_
      · go_simp
        go_at_call 24
        with_reducible refine T1.out.mono ?_
        rintro e w6 ⟨n, rfl, hn0, hn1, hc6, hg6⟩
        have hI6 := Lib.hid (HI.out.next hc6 (undrewG hg6))
        clear hc6 hg6 T1 TB1
        obtain ⟨y0, y1, y2⟩ := rowc3 hI6.out.row
        have qY6 : Y < w6.heap.size := (Array.getElem?_eq_some_iff.1 hI6.out.row).1
        refine hK.out _ _ ?_ (fun hSU1 => ?_)
        · exact ⟨y0, y1⟩
        clear hK K hSU0
        try simp only [Act.put, List.setIfInBounds_toArray, List.set_cons_zero, List.set_cons_succ]
        refine wpAnyU_ready (rs := [4, 8]) (by kernel_rfl) rfl ?_
        refine AllReadyU.cons (ListAt.succ (ListAt.succ (ListAt.succ (ListAt.succ ListAt.zero)))) rfl (fun K hK => ?_) ?_
        · go_simp
          refine hK.out _ _ ?_ (fun hSU2 => ?_)
          · exact SAh.out _ _ hSU1
          clear hK K hSU1
          try simp only [Act.put, List.setIfInBounds_toArray, List.set_cons_zero, List.set_cons_succ]
          refine wpAnyU_ready (rs := [5, 8]) (by kernel_rfl) rfl ?_
          refine AllReadyU.cons (ListAt.succ (ListAt.succ (ListAt.succ (ListAt.succ (ListAt.succ ListAt.zero))))) rfl (fun K hK => ?_) ?_
          · refine step_append_i64 (w := w6.alloc (.cells #[.int .i64 n] 3)) (by rfl) _ _ (by rfl) WD.heap.size (.slice p6 n6 q6) caps (by rfl) (hI6.out.oc.alloc _) n _ (by rfl) (by exact World.cell?_alloc_at _ _ _ _ rfl) (by omega) (by have := hI6.out.size; simp; omega) ?_; intro v7 w7 ho7 hg7; obtain ⟨p7, n7, q7, e7⟩ := own_shape ho7; subst e7; have hI7 := Lib.hid ((hI6.out.more (below_new (Below.refl _ _) _)).appC ho7 hg7); obtain ⟨y0, y1, y2⟩ := rowc3 hI7.out.row; have qY7 : Y < w7.heap.size := (Array.getElem?_eq_some_iff.1 hI7.out.row).1
            refine hK.out _ _ ?_ (fun hSU3 => ?_)
            · exact ⟨y0, y1⟩
            clear hK K hSU2
            try simp only [Act.put, List.setIfInBounds_toArray, List.set_cons_zero, List.set_cons_succ]
            refine wpAnyU_take (v := ?_) 10 (ListAt.succ (ListAt.succ (ListAt.succ (ListAt.succ (ListAt.succ (ListAt.succ (ListAt.succ (ListAt.succ (ListAt.succ (ListAt.succ ListAt.zero)))))))))) (by kernel_rfl) (by kernel_rfl) (by kernel_rfl) (by kernel_rfl) (by kernel_rfl) (fun _ _ _ h => h) hSU3 rfl ?_ ?_
            rotate_left
            · (intro w hSw; (try dsimp only at hSw); go_simp <;> with_reducible rfl)
            simp only [Act.put, List.setIfInBounds_toArray, List.set_cons_zero, List.set_cons_succ]
            refine wpAnyU_ready (rs := [8]) (by kernel_rfl) rfl ?_
            refine AllReadyU.cons (ListAt.succ (ListAt.succ (ListAt.succ (ListAt.succ (ListAt.succ (ListAt.succ (ListAt.succ (ListAt.succ ListAt.zero)))))))) rfl (fun K hK => ?_) ?_
            · go_simp
              refine hK.out _ _ ?_ (fun hSU4 => ?_)
              · exact SAh.out _ _ hSU3
              clear hK K hSU3
              try simp only [Act.put, List.setIfInBounds_toArray, List.set_cons_zero, List.set_cons_succ]
              refine wpAnyU_ready (rs := [9]) (by kernel_rfl) rfl ?_
              refine AllReadyU.cons (ListAt.succ (ListAt.succ (ListAt.succ (ListAt.succ (ListAt.succ (ListAt.succ (ListAt.succ (ListAt.succ (ListAt.succ ListAt.zero))))))))) rfl (fun K hK => ?_) ?_
              · refine step_append_u64 (w := w7.alloc (.cells #[.int .u64 0] 26)) (by rfl) _ _ (by rfl) WD.heap.size (.slice p8 n8 q8) starts (by rfl) (hI7.out.os.alloc _) 0 w7.heap.size (by rfl) (by exact World.cell?_alloc_at _ _ _ _ rfl) (by omega) (by have := hI7.out.size; simp; omega) ?_; intro v9 w9 ho9 hg9; obtain ⟨p9, n9, q9, e9⟩ := own_shape ho9; subst e9; have hI9 := Lib.hid ((hI7.out.more (below_new (Below.refl _ _) _)).appS ho9 hg9); have rr := hI9.out.row; obtain ⟨y0, y1, y2⟩ := rowc3 rr; have ff0 := frozen_of_row _ _ 0 _ _ rr; have rr1 := heap_setCell_same w9 Y 0 _ _ (.slice p7 n7 q7) rr; simp at rr1; have ff1 := frozen_of_row _ _ 1 _ _ rr1; have yy1 := cell_of_row _ _ 1 _ _ _ rr1; clear rr rr1
                refine hK.out _ _ ?_ (fun hSU5 => ?_)
                · exact ⟨y0, y1⟩
                clear hK K hSU4
                try simp only [Act.put, List.setIfInBounds_toArray, List.set_cons_zero, List.set_cons_succ]
                refine wpAnyU_ready (rs := [11]) (by kernel_rfl) rfl ?_
                refine AllReadyU.free (ListAt.succ (ListAt.succ (ListAt.succ (ListAt.succ (ListAt.succ (ListAt.succ (ListAt.succ (ListAt.succ (ListAt.succ (ListAt.succ (ListAt.succ ListAt.zero))))))))))) rfl (by kernel_rfl) (fun K hK => ?_) ?_
                · go_simp
                  refine hK.out _ _ ?_
                  clear hK K hSU5
                  try simp only [Act.put, List.setIfInBounds_toArray, List.set_cons_zero, List.set_cons_succ]
                  refine wpAnyU_ready (rs := [12]) (by kernel_rfl) rfl ?_
                  refine AllReadyU.free (ListAt.succ (ListAt.succ (ListAt.succ (ListAt.succ (ListAt.succ (ListAt.succ (ListAt.succ (ListAt.succ (ListAt.succ (ListAt.succ (ListAt.succ (ListAt.succ ListAt.zero)))))))))))) rfl (by kernel_rfl) (fun K hK => ?_) ?_
                  · go_simp
                    refine hK.out _ _ ?_
                    clear hK K
                    try simp only [Act.put, List.setIfInBounds_toArray, List.set_cons_zero, List.set_cons_succ]
                    refine wpAnyU_ready (rs := [13]) (by kernel_rfl) rfl ?_
                    refine AllReadyU.free (ListAt.succ (ListAt.succ (ListAt.succ (ListAt.succ (ListAt.succ (ListAt.succ (ListAt.succ (ListAt.succ (ListAt.succ (ListAt.succ (ListAt.succ (ListAt.succ (ListAt.succ ListAt.zero))))))))))))) rfl (by kernel_rfl) (fun K hK => ?_) ?_
                    · go_simp
                      refine hK.out _ _ ?_
                      clear hK K
                      try simp only [Act.put, List.setIfInBounds_toArray, List.set_cons_zero, List.set_cons_succ]
                      refine wpAnyU_done (by kernel_rfl) ?_ _
                      have hE := Lib.hid (ChkS.fin' hI9.out.setC.setS ((HLK.out.addC n (by rw [IntKind.wrap_i64]; omega)).addS 0 (by decide)) (by omega))
                      clear y0 y1 y2 f0 f1 f2
                      go_wp2_with fail
                      go_meet
                      exact ⟨_, _, _, hE⟩
                    exact AllReadyU.nil
                  exact AllReadyU.nil
                exact AllReadyU.nil
              exact AllReadyU.nil
            exact AllReadyU.nil
          refine AllReadyU.cons (ListAt.succ (ListAt.succ (ListAt.succ (ListAt.succ (ListAt.succ (ListAt.succ (ListAt.succ (ListAt.succ ListAt.zero)))))))) rfl (fun K hK => ?_) ?_
          · go_simp
            refine hK.out _ _ ?_ (fun hSU6 => ?_)
            · exact SAh.out _ _ hSU2
            clear hK K hSU2
            try simp only [Act.put, List.setIfInBounds_toArray, List.set_cons_zero, List.set_cons_succ]
            refine wpAnyU_ready (rs := [5]) (by kernel_rfl) rfl ?_
            refine AllReadyU.cons (ListAt.succ (ListAt.succ (ListAt.succ (ListAt.succ (ListAt.succ ListAt.zero))))) rfl (fun K hK => ?_) ?_
            · refine step_append_i64 (w := (w6.alloc (.cells #[.int .i64 n] 3)).alloc (.cells #[.int .u64 0] 26)) (by rfl) _ _ (by rfl) WD.heap.size (.slice p6 n6 q6) caps (by rfl) ((hI6.out.oc.alloc _).alloc _) n w6.heap.size (by rfl) (by exact cell_of_row _ _ 0 _ _ _ (lit_old (heap_alloc_new _ _))) (by omega) (by have := hI6.out.size; simp; omega) ?_; intro v7 w7 ho7 hg7; obtain ⟨p7, n7, q7, e7⟩ := own_shape ho7; subst e7; have hI7 := Lib.hid ((hI6.out.more (below_new (below_new (Below.refl _ _) _) _)).appC ho7 hg7); have hL7 := Lib.hid (lit_kept (b := w6.heap.size + 1) (cs := #[.int .u64 0]) (T := 26) (f := (0, 0)) (box_at (by simp)) ((hI6.out.oc.alloc _).alloc _) (by decide) hg7); obtain ⟨y0, y1, y2⟩ := rowc3 hI7.out.row; have qY7 : Y < w7.heap.size := (Array.getElem?_eq_some_iff.1 hI7.out.row).1
              refine hK.out _ _ ?_ (fun hSU7 => ?_)
              · exact ⟨y0, y1⟩
              clear hK K hSU6
              try simp only [Act.put, List.setIfInBounds_toArray, List.set_cons_zero, List.set_cons_succ]
              refine wpAnyU_take (v := ?_) 10 (ListAt.succ (ListAt.succ (ListAt.succ (ListAt.succ (ListAt.succ (ListAt.succ (ListAt.succ (ListAt.succ (ListAt.succ (ListAt.succ ListAt.zero)))))))))) (by kernel_rfl) (by kernel_rfl) (by kernel_rfl) (by kernel_rfl) (by kernel_rfl) (fun _ _ _ h => h) hSU7 rfl ?_ ?_
              rotate_left
              · (intro w hSw; (try dsimp only at hSw); go_simp <;> with_reducible rfl)
              simp only [Act.put, List.setIfInBounds_toArray, List.set_cons_zero, List.set_cons_succ]
              refine wpAnyU_ready (rs := [9]) (by kernel_rfl) rfl ?_
              refine AllReadyU.cons (ListAt.succ (ListAt.succ (ListAt.succ (ListAt.succ (ListAt.succ (ListAt.succ (ListAt.succ (ListAt.succ (ListAt.succ ListAt.zero))))))))) rfl (fun K hK => ?_) ?_
              · refine step_append_u64 (w := w7) (by rfl) _ _ (by rfl) WD.heap.size (.slice p8 n8 q8) starts (by rfl) hI7.out.os 0 _ (by rfl) (by exact cell_of_row _ _ 0 _ _ _ hL7.out) (by omega) hI7.out.size ?_; intro v9 w9 ho9 hg9; obtain ⟨p9, n9, q9, e9⟩ := own_shape ho9; subst e9; have hI9 := Lib.hid (hI7.out.appS ho9 hg9); have rr := hI9.out.row; obtain ⟨y0, y1, y2⟩ := rowc3 rr; have ff0 := frozen_of_row _ _ 0 _ _ rr; have rr1 := heap_setCell_same w9 Y 0 _ _ (.slice p7 n7 q7) rr; simp at rr1; have ff1 := frozen_of_row _ _ 1 _ _ rr1; have yy1 := cell_of_row _ _ 1 _ _ _ rr1; clear rr rr1
                refine hK.out _ _ ?_ (fun hSU8 => ?_)
                · exact ⟨y0, y1⟩
                clear hK K hSU7
                try simp only [Act.put, List.setIfInBounds_toArray, List.set_cons_zero, List.set_cons_succ]
                refine wpAnyU_ready (rs := [11]) (by kernel_rfl) rfl ?_
                refine AllReadyU.free (ListAt.succ (ListAt.succ (ListAt.succ (ListAt.succ (ListAt.succ (ListAt.succ (ListAt.succ (ListAt.succ (ListAt.succ (ListAt.succ (ListAt.succ ListAt.zero))))))))))) rfl (by kernel_rfl) (fun K hK => ?_) ?_
                · go_simp
                  refine hK.out _ _ ?_
                  clear hK K hSU8
                  try simp only [Act.put, List.setIfInBounds_toArray, List.set_cons_zero, List.set_cons_succ]
                  refine wpAnyU_ready (rs := [12]) (by kernel_rfl) rfl ?_
                  refine AllReadyU.free (ListAt.succ (ListAt.succ (ListAt.succ (ListAt.succ (ListAt.succ (ListAt.succ (ListAt.succ (ListAt.succ (ListAt.succ (ListAt.succ (ListAt.succ (ListAt.succ ListAt.zero)))))))))))) rfl (by kernel_rfl) (fun K hK => ?_) ?_
                  · go_simp
                    refine hK.out _ _ ?_
                    clear hK K
                    try simp only [Act.put, List.setIfInBounds_toArray, List.set_cons_zero, List.set_cons_succ]
                    refine wpAnyU_ready (rs := [13]) (by kernel_rfl) rfl ?_
                    refine AllReadyU.free (ListAt.succ (ListAt.succ (ListAt.succ (ListAt.succ (ListAt.succ (ListAt.succ (ListAt.succ (ListAt.succ (ListAt.succ (ListAt.succ (ListAt.succ (ListAt.succ (ListAt.succ ListAt.zero))))))))))))) rfl (by kernel_rfl) (fun K hK => ?_) ?_
                    · go_simp
                      refine hK.out _ _ ?_
                      clear hK K
                      try simp only [Act.put, List.setIfInBounds_toArray, List.set_cons_zero, List.set_cons_succ]
                      refine wpAnyU_done (by kernel_rfl) ?_ _
                      have hE := Lib.hid (ChkS.fin' hI9.out.setC.setS ((HLK.out.addC n (by rw [IntKind.wrap_i64]; omega)).addS 0 (by decide)) (by omega))
                      clear y0 y1 y2 f0 f1 f2
                      go_wp2_with fail
                      go_meet
                      exact ⟨_, _, _, hE⟩
                    exact AllReadyU.nil
                  exact AllReadyU.nil
                exact AllReadyU.nil
              exact AllReadyU.nil
            exact AllReadyU.nil
          exact AllReadyU.nil
        refine AllReadyU.cons (ListAt.succ (ListAt.succ (ListAt.succ (ListAt.succ (ListAt.succ (ListAt.succ (ListAt.succ (ListAt.succ ListAt.zero)))))))) rfl (fun K hK => ?_) ?_
        · go_simp
          refine hK.out _ _ ?_ (fun hSU9 => ?_)
          · exact SAh.out _ _ hSU1
          clear hK K hSU1
          try simp only [Act.put, List.setIfInBounds_toArray, List.set_cons_zero, List.set_cons_succ]
          refine wpAnyU_ready (rs := [4]) (by kernel_rfl) rfl ?_
          refine AllReadyU.cons (ListAt.succ (ListAt.succ (ListAt.succ (ListAt.succ ListAt.zero)))) rfl (fun K hK => ?_) ?_
          · go_simp
            refine hK.out _ _ ?_ (fun hSU10 => ?_)
            · exact SAh.out _ _ hSU9
            clear hK K hSU9
            try simp only [Act.put, List.setIfInBounds_toArray, List.set_cons_zero, List.set_cons_succ]
            refine wpAnyU_ready (rs := [5]) (by kernel_rfl) rfl ?_
            refine AllReadyU.cons (ListAt.succ (ListAt.succ (ListAt.succ (ListAt.succ (ListAt.succ ListAt.zero))))) rfl (fun K hK => ?_) ?_
            · refine step_append_i64 (w := (w6.alloc (.cells #[.int .u64 0] 26)).alloc (.cells #[.int .i64 n] 3)) (by rfl) _ _ (by rfl) WD.heap.size (.slice p6 n6 q6) caps (by rfl) ((hI6.out.oc.alloc _).alloc _) n _ (by rfl) (by exact World.cell?_alloc_at _ _ _ _ (by simp)) (by omega) (by have := hI6.out.size; simp; omega) ?_; intro v7 w7 ho7 hg7; obtain ⟨p7, n7, q7, e7⟩ := own_shape ho7; subst e7; have hI7 := Lib.hid ((hI6.out.more (below_new (below_new (Below.refl _ _) _) _)).appC ho7 hg7); have hL7 := Lib.hid (lit_kept (lit_old (heap_alloc_new w6 (.cells #[.int .u64 0] 26))) ((hI6.out.oc.alloc _).alloc _) (by decide) hg7); obtain ⟨y0, y1, y2⟩ := rowc3 hI7.out.row; have qY7 : Y < w7.heap.size := (Array.getElem?_eq_some_iff.1 hI7.out.row).1
              refine hK.out _ _ ?_ (fun hSU11 => ?_)
              · exact ⟨y0, y1⟩
              clear hK K hSU10
              try simp only [Act.put, List.setIfInBounds_toArray, List.set_cons_zero, List.set_cons_succ]
              refine wpAnyU_take (v := ?_) 10 (ListAt.succ (ListAt.succ (ListAt.succ (ListAt.succ (ListAt.succ (ListAt.succ (ListAt.succ (ListAt.succ (ListAt.succ (ListAt.succ ListAt.zero)))))))))) (by kernel_rfl) (by kernel_rfl) (by kernel_rfl) (by kernel_rfl) (by kernel_rfl) (fun _ _ _ h => h) hSU11 rfl ?_ ?_
              rotate_left
              · (intro w hSw; (try dsimp only at hSw); go_simp <;> with_reducible rfl)
              simp only [Act.put, List.setIfInBounds_toArray, List.set_cons_zero, List.set_cons_succ]
              refine wpAnyU_ready (rs := [9]) (by kernel_rfl) rfl ?_
              refine AllReadyU.cons (ListAt.succ (ListAt.succ (ListAt.succ (ListAt.succ (ListAt.succ (ListAt.succ (ListAt.succ (ListAt.succ (ListAt.succ ListAt.zero))))))))) rfl (fun K hK => ?_) ?_
              · refine step_append_u64 (w := w7) (by rfl) _ _ (by rfl) WD.heap.size (.slice p8 n8 q8) starts (by rfl) hI7.out.os 0 _ (by rfl) (by exact cell_of_row _ _ 0 _ _ _ hL7.out) (by omega) hI7.out.size ?_; intro v9 w9 ho9 hg9; obtain ⟨p9, n9, q9, e9⟩ := own_shape ho9; subst e9; have hI9 := Lib.hid (hI7.out.appS ho9 hg9); have rr := hI9.out.row; obtain ⟨y0, y1, y2⟩ := rowc3 rr; have ff0 := frozen_of_row _ _ 0 _ _ rr; have rr1 := heap_setCell_same w9 Y 0 _ _ (.slice p7 n7 q7) rr; simp at rr1; have ff1 := frozen_of_row _ _ 1 _ _ rr1; have yy1 := cell_of_row _ _ 1 _ _ _ rr1; clear rr rr1
                refine hK.out _ _ ?_ (fun hSU12 => ?_)
                · exact ⟨y0, y1⟩
                clear hK K hSU11
                try simp only [Act.put, List.setIfInBounds_toArray, List.set_cons_zero, List.set_cons_succ]
                refine wpAnyU_ready (rs := [11]) (by kernel_rfl) rfl ?_
                refine AllReadyU.free (ListAt.succ (ListAt.succ (ListAt.succ (ListAt.succ (ListAt.succ (ListAt.succ (ListAt.succ (ListAt.succ (ListAt.succ (ListAt.succ (ListAt.succ ListAt.zero))))))))))) rfl (by kernel_rfl) (fun K hK => ?_) ?_
                · go_simp
                  refine hK.out _ _ ?_
                  clear hK K hSU12
                  try simp only [Act.put, List.setIfInBounds_toArray, List.set_cons_zero, List.set_cons_succ]
                  refine wpAnyU_ready (rs := [12]) (by kernel_rfl) rfl ?_
                  refine AllReadyU.free (ListAt.succ (ListAt.succ (ListAt.succ (ListAt.succ (ListAt.succ (ListAt.succ (ListAt.succ (ListAt.succ (ListAt.succ (ListAt.succ (ListAt.succ (ListAt.succ ListAt.zero)))))))))))) rfl (by kernel_rfl) (fun K hK => ?_) ?_
                  · go_simp
                    refine hK.out _ _ ?_
                    clear hK K
                    try simp only [Act.put, List.setIfInBounds_toArray, List.set_cons_zero, List.set_cons_succ]
                    refine wpAnyU_ready (rs := [13]) (by kernel_rfl) rfl ?_
                    refine AllReadyU.free (ListAt.succ (ListAt.succ (ListAt.succ (ListAt.succ (ListAt.succ (ListAt.succ (ListAt.succ (ListAt.succ (ListAt.succ (ListAt.succ (ListAt.succ (ListAt.succ (ListAt.succ ListAt.zero))))))))))))) rfl (by kernel_rfl) (fun K hK => ?_) ?_
                    · go_simp
                      refine hK.out _ _ ?_
                      clear hK K
                      try simp only [Act.put, List.setIfInBounds_toArray, List.set_cons_zero, List.set_cons_succ]
                      refine wpAnyU_done (by kernel_rfl) ?_ _
                      have hE := Lib.hid (ChkS.fin' hI9.out.setC.setS ((HLK.out.addC n (by rw [IntKind.wrap_i64]; omega)).addS 0 (by decide)) (by omega))
                      clear y0 y1 y2 f0 f1 f2
                      go_wp2_with fail
                      go_meet
                      exact ⟨_, _, _, hE⟩
                    exact AllReadyU.nil
                  exact AllReadyU.nil
                exact AllReadyU.nil
              exact AllReadyU.nil
            exact AllReadyU.nil
          exact AllReadyU.nil
        exact AllReadyU.nil
      refine AllReadyU.cons (ListAt.succ (ListAt.succ (ListAt.succ (ListAt.succ (ListAt.succ (ListAt.succ (ListAt.succ (ListAt.succ ListAt.zero)))))))) rfl (fun K hK => ?_) ?_
      · go_simp
        refine hK.out _ _ ?_ (fun hSU13 => ?_)
        · exact SAh.out _ _ hSU0
        clear hK K hSU0
        try simp only [Act.put, List.setIfInBounds_toArray, List.set_cons_zero, List.set_cons_succ]
        refine wpAnyU_ready (rs := [3]) (by kernel_rfl) rfl ?_
        refine AllReadyU.cons (ListAt.succ (ListAt.succ (ListAt.succ ListAt.zero))) rfl (fun K hK => ?_) ?_
        · go_simp
          go_at_call 24
          with_reducible refine TB1.out.mono ?_
          rintro e w6 ⟨n, rfl, hn0, hn1, hc6, hg6⟩
          have hI6 := Lib.hid (hIB.out.next hc6 (undrewG hg6))
          have hL6 := Lib.hid (K6.out _ hg6)
          clear hc6 hg6 T1 TB1
          obtain ⟨y0, y1, y2⟩ := rowc3 hI6.out.row
          have qY6 : Y < w6.heap.size := (Array.getElem?_eq_some_iff.1 hI6.out.row).1
          refine hK.out _ _ ?_ (fun hSU14 => ?_)
          · exact ⟨y0, y1⟩
          clear hK K hSU13
          try simp only [Act.put, List.setIfInBounds_toArray, List.set_cons_zero, List.set_cons_succ]
          refine wpAnyU_ready (rs := [4]) (by kernel_rfl) rfl ?_
          refine AllReadyU.cons (ListAt.succ (ListAt.succ (ListAt.succ (ListAt.succ ListAt.zero)))) rfl (fun K hK => ?_) ?_
          · go_simp
            refine hK.out _ _ ?_ (fun hSU15 => ?_)
            · exact SAh.out _ _ hSU14
            clear hK K hSU14
            try simp only [Act.put, List.setIfInBounds_toArray, List.set_cons_zero, List.set_cons_succ]
            refine wpAnyU_ready (rs := [5]) (by kernel_rfl) rfl ?_
            refine AllReadyU.cons (ListAt.succ (ListAt.succ (ListAt.succ (ListAt.succ (ListAt.succ ListAt.zero))))) rfl (fun K hK => ?_) ?_
            · refine step_append_i64 (w := w6.alloc (.cells #[.int .i64 n] 3)) (by rfl) _ _ (by rfl) WD.heap.size (.slice p6 n6 q6) caps (by rfl) (hI6.out.oc.alloc _) n _ (by rfl) (by exact World.cell?_alloc_at _ _ _ _ rfl) (by omega) (by have := hI6.out.size; simp; omega) ?_; intro v7 w7 ho7 hg7; obtain ⟨p7, n7, q7, e7⟩ := own_shape ho7; subst e7; have hI7 := Lib.hid ((hI6.out.more (below_new (Below.refl _ _) _)).appC ho7 hg7); have hL7 := Lib.hid (lit_kept (lit_old hL6.out) (hI6.out.oc.alloc _) (by decide) hg7); obtain ⟨y0, y1, y2⟩ := rowc3 hI7.out.row; have qY7 : Y < w7.heap.size := (Array.getElem?_eq_some_iff.1 hI7.out.row).1
              refine hK.out _ _ ?_ (fun hSU16 => ?_)
              · exact ⟨y0, y1⟩
              clear hK K hSU15
              try simp only [Act.put, List.setIfInBounds_toArray, List.set_cons_zero, List.set_cons_succ]
              refine wpAnyU_take (v := ?_) 10 (ListAt.succ (ListAt.succ (ListAt.succ (ListAt.succ (ListAt.succ (ListAt.succ (ListAt.succ (ListAt.succ (ListAt.succ (ListAt.succ ListAt.zero)))))))))) (by kernel_rfl) (by kernel_rfl) (by kernel_rfl) (by kernel_rfl) (by kernel_rfl) (fun _ _ _ h => h) hSU16 rfl ?_ ?_
              rotate_left
              · (intro w hSw; (try dsimp only at hSw); go_simp <;> with_reducible rfl)
              simp only [Act.put, List.setIfInBounds_toArray, List.set_cons_zero, List.set_cons_succ]
              refine wpAnyU_ready (rs := [9]) (by kernel_rfl) rfl ?_
              refine AllReadyU.cons (ListAt.succ (ListAt.succ (ListAt.succ (ListAt.succ (ListAt.succ (ListAt.succ (ListAt.succ (ListAt.succ (ListAt.succ ListAt.zero))))))))) rfl (fun K hK => ?_) ?_
              · refine step_append_u64 (w := w7) (by rfl) _ _ (by rfl) WD.heap.size (.slice p8 n8 q8) starts (by rfl) hI7.out.os 0 _ (by rfl) (by exact cell_of_row _ _ 0 _ _ _ hL7.out) (by omega) hI7.out.size ?_; intro v9 w9 ho9 hg9; obtain ⟨p9, n9, q9, e9⟩ := own_shape ho9; subst e9; have hI9 := Lib.hid (hI7.out.appS ho9 hg9); have rr := hI9.out.row; obtain ⟨y0, y1, y2⟩ := rowc3 rr; have ff0 := frozen_of_row _ _ 0 _ _ rr; have rr1 := heap_setCell_same w9 Y 0 _ _ (.slice p7 n7 q7) rr; simp at rr1; have ff1 := frozen_of_row _ _ 1 _ _ rr1; have yy1 := cell_of_row _ _ 1 _ _ _ rr1; clear rr rr1
                refine hK.out _ _ ?_ (fun hSU17 => ?_)
                · exact ⟨y0, y1⟩
                clear hK K hSU16
                try simp only [Act.put, List.setIfInBounds_toArray, List.set_cons_zero, List.set_cons_succ]
                refine wpAnyU_ready (rs := [11]) (by kernel_rfl) rfl ?_
                refine AllReadyU.free (ListAt.succ (ListAt.succ (ListAt.succ (ListAt.succ (ListAt.succ (ListAt.succ (ListAt.succ (ListAt.succ (ListAt.succ (ListAt.succ (ListAt.succ ListAt.zero))))))))))) rfl (by kernel_rfl) (fun K hK => ?_) ?_
                · go_simp
                  refine hK.out _ _ ?_
                  clear hK K hSU17
                  try simp only [Act.put, List.setIfInBounds_toArray, List.set_cons_zero, List.set_cons_succ]
                  refine wpAnyU_ready (rs := [12]) (by kernel_rfl) rfl ?_
                  refine AllReadyU.free (ListAt.succ (ListAt.succ (ListAt.succ (ListAt.succ (ListAt.succ (ListAt.succ (ListAt.succ (ListAt.succ (ListAt.succ (ListAt.succ (ListAt.succ (ListAt.succ ListAt.zero)))))))))))) rfl (by kernel_rfl) (fun K hK => ?_) ?_
                  · go_simp
                    refine hK.out _ _ ?_
                    clear hK K
                    try simp only [Act.put, List.setIfInBounds_toArray, List.set_cons_zero, List.set_cons_succ]
                    refine wpAnyU_ready (rs := [13]) (by kernel_rfl) rfl ?_
                    refine AllReadyU.free (ListAt.succ (ListAt.succ (ListAt.succ (ListAt.succ (ListAt.succ (ListAt.succ (ListAt.succ (ListAt.succ (ListAt.succ (ListAt.succ (ListAt.succ (ListAt.succ (ListAt.succ ListAt.zero))))))))))))) rfl (by kernel_rfl) (fun K hK => ?_) ?_
                    · go_simp
                      refine hK.out _ _ ?_
                      clear hK K
                      try simp only [Act.put, List.setIfInBounds_toArray, List.set_cons_zero, List.set_cons_succ]
                      refine wpAnyU_done (by kernel_rfl) ?_ _
                      have hE := Lib.hid (ChkS.fin' hI9.out.setC.setS ((HLK.out.addC n (by rw [IntKind.wrap_i64]; omega)).addS 0 (by decide)) (by omega))
                      clear y0 y1 y2 f0 f1 f2
                      go_wp2_with fail
                      go_meet
                      exact ⟨_, _, _, hE⟩
                    exact AllReadyU.nil
                  exact AllReadyU.nil
                exact AllReadyU.nil
              exact AllReadyU.nil
            exact AllReadyU.nil
          exact AllReadyU.nil
        exact AllReadyU.nil
      exact AllReadyU.nil
    · skip
      go_upto_region 18 with fail
      go_region_law (first
        | (refine step_append_u64 (w := w7.alloc (.cells #[.int .u64 (IntKind.u64.wrap (9223372036854775807 + IntKind.u64.wrap n))] 26)) (by rfl) _ _ (by rfl) WD.heap.size (.slice p8 n8 q8) starts (by rfl) (hI7.out.os.alloc _) (IntKind.u64.wrap (9223372036854775807 + IntKind.u64.wrap n)) w7.heap.size (by rfl) (by exact World.cell?_alloc_at _ _ _ _ rfl) (by omega) (by have := hI7.out.size; simp; omega) ?_; intro v9 w9 ho9 hg9; obtain ⟨p9, n9, q9, e9⟩ := own_shape ho9; subst e9; have hI9 := Lib.hid ((hI7.out.more (below_new (Below.refl _ _) _)).appS ho9 hg9); have rr := hI9.out.row; obtain ⟨y0, y1, y2⟩ := rowc3 rr; have ff0 := frozen_of_row _ _ 0 _ _ rr; have rr1 := heap_setCell_same w9 Y 0 _ _ (.slice p6' n6' q6') rr; simp at rr1; have ff1 := frozen_of_row _ _ 1 _ _ rr1; have yy1 := cell_of_row _ _ 1 _ _ _ rr1; clear rr rr1)
        | (go_simp; go_at_call 23; with_reducible refine T3.out.mono ?_; rintro e w7 ⟨n, rfl, hn0, hn1, hc7, hg7⟩; have hI7 := Lib.hid (hI6.out.next hc7 hg7); clear hc7 hg7 T3; obtain ⟨y0, y1, y2⟩ := rowc3 hI7.out.row; have qY7 : Y < w7.heap.size := (Array.getElem?_eq_some_iff.1 hI7.out.row).1)
        | (refine step_append_i64 (by rfl) _ _ (by rfl) WD.heap.size (.slice p6 n6 q6) caps (by rfl) (HI.out.oc.alloc _) 1 _ (by rfl) (by exact World.cell?_alloc_at _ _ _ _ rfl) (by omega) (by have := HI.out.size; simp; omega) ?_; intro v6 w6 ho6 hg6; obtain ⟨p6', n6', q6', e6⟩ := own_shape ho6; subst e6; have hI6 := Lib.hid ((HI.out.more (below_new (Below.refl _ _) _)).appC ho6 (undrewG hg6)); have T3 := Lib.hid (nextE g 3 w6 hI6.out.codes (by decide) (by decide)); obtain ⟨y0, y1, y2⟩ := rowc3 hI6.out.row; have qY6 : Y < w6.heap.size := (Array.getElem?_eq_some_iff.1 hI6.out.row).1))
      all_goals
        have hE := Lib.hid (ChkS.fin' hI9.out.setC.setS ((HLK.out.addC 1 (by decide)).addS (IntKind.u64.wrap (9223372036854775807 + IntKind.u64.wrap n)) (by rw [IntKind.wrap_u64, IntKind.wrap_u64, IntKind.wrap_u64]; omega)) (by omega))
        clear y0 y1 y2 f0 f1 f2
        go_wp2_with fail
        go_meet
        exact ⟨_, _, _, hE⟩
    · skip
      clear y0 y1 y2 f0 f1 f2
      have hrel0 : Hid (∃ (ca st : List Int) (pa pb : Option Addr) (na nb qa qb : Nat), st.length = ca.length ∧ ca.length + (9 - caps.length) = 9 ∧ ListOk ca st 9 ∧ ChkS w WD w5 g Y (.slice pa na qa) (.slice pb nb qb) (.slice pa na qa) (.slice pb nb qb) ca st thr) :=
        ⟨caps, starts, p6, p8, n6, n8, q6, q8, HSM.out, by omega, ⟨Nat.le_succ_of_le HLK.out.lc, Nat.le_succ_of_le HLK.out.ls, HLK.out.wc, HLK.out.ws⟩, HI.out⟩
      clear HI hYw hY5
      go_wp2_with fail
      go_loopg [] (9 - caps.length) (fun gg wr => Hid (∃ (ca st : List Int) (pa pb : Option Addr) (na nb qa qb : Nat), st.length = ca.length ∧ ca.length + gg = 9 ∧ ListOk ca st 9 ∧ ChkS w WD wr g Y (.slice pa na qa) (.slice pb nb qb) (.slice pa na qa) (.slice pb nb qb) ca st thr))
      case atStart => exact hrel0
      case round =>
        clear hrel0
        obtain ⟨ca, st, pa, pb, na, nb, qa, qb, hsame, hcl, hlk, hI⟩ := hrel.out
        have HSA := Lib.hid hsame
        clear hsame
        obtain ⟨wo, rfl⟩ : ∃ wo : World, wo = wr := ⟨_, rfl⟩
        have HLO := Lib.hid hlk
        obtain rfl : na = ca.length := own_len hI.oc
        have HI := Lib.hid hI
        have hcal : ca.length ≤ 9 := hlk.lc
        have hstl : st.length ≤ 9 := hlk.ls
        clear hI hlk hrel
        go_upto_region 20 with fail
        go_cut [85] (fun s85 wx => ∃ bb : Bool, s85 = .bool bb ∧ (bb = true → ca.length < 9) ∧ Hid (ChkS w WD wx g Y (.slice pa ca.length qa) (.slice pb nb qb) (.slice pa ca.length qa) (.slice pb nb qb) ca st thr))
        case first =>
          obtain ⟨y0, y1, y2⟩ := rowc3 HI.out.row
          have T := Lib.hid (nextE g 2 wo.drew (show CodesE wo.drew g from HI.out.codes) (by decide) (by decide))
          go_region_law (first
            | (go_simp; go_at_call 23; with_reducible refine T.out.mono ?_; rintro e w6 ⟨y, rfl, hy0, hy1, hc6, hg6⟩; have hI6 := Lib.hid (HI.out.next hc6 (undrewG hg6)); have hw8 := wrap8 hy0 hy1; clear hc6 hg6 T; obtain ⟨y0, y1, y2⟩ := rowc3 hI6.out.row))
          all_goals
            go_wp2_with fail
            go_meet
            refine ⟨_, rfl, fun h => ?_, hI6⟩
            first | (have h2 := of_decide_eq_true h; omega) | (simp at h; omega) | (simp [hw8] at h; omega)
        case rest =>
          obtain ⟨bb, rfl, hb1, HI2⟩ := hcut
          obtain ⟨wk, rfl⟩ : ∃ wk : World, wk = wc := ⟨_, rfl⟩
          clear HI
          cases bb with
          | false =>
            have hE := Lib.hid (ChkS.fin' HI2.out HLO.out (by omega))
            clear hb1
            go_wp2_with fail
            go_meet
            exact ⟨_, _, _, hE⟩
          | true =>
            have hc9 : ca.length < 9 := hb1 rfl
            clear hb1
            cases gk with
            | zero => exact absurd hcl (by omega)
            | succ gk =>
              obtain ⟨y0, y1, y2⟩ := rowc3 HI2.out.row
              have hYw := HI2.out.size
              have hY6 : Y < wk.heap.size := by omega
              go_upto_region 21 with fail
              go_region_law (first
                | (refine step_append_u64 (w := w7.alloc (.cells #[.int .u64 1] 26)) (by rfl) _ _ (by rfl) WD.heap.size (.slice pb nb qb) st (by rfl) (hI7.out.os.alloc _) 1 w7.heap.size (by rfl) (by exact World.cell?_alloc_at _ _ _ _ rfl) (by omega) (by have := hI7.out.size; simp; omega) ?_; intro v9 w9 ho9 hg9; obtain ⟨p9, n9, q9, e9⟩ := own_shape ho9; subst e9; have hI9 := Lib.hid ((hI7.out.more (below_new (Below.refl _ _) _)).appS ho9 hg9); have rr := hI9.out.row; obtain ⟨y0, y1, y2⟩ := rowc3 rr; have ff0 := frozen_of_row _ _ 0 _ _ rr; have rr1 := heap_setCell_same w9 Y 0 _ _ (.slice p7 n7 q7) rr; simp at rr1; have ff1 := frozen_of_row _ _ 1 _ _ rr1; have yy1 := cell_of_row _ _ 1 _ _ _ rr1; clear rr rr1)
                | (refine step_append_u64 (w := w7) (by rfl) _ _ (by rfl) WD.heap.size (.slice pb nb qb) st (by rfl) hI7.out.os 1 _ (by rfl) (by exact cell_of_row _ _ 0 _ _ _ hL7.out) (by omega) hI7.out.size ?_; intro v9 w9 ho9 hg9; obtain ⟨p9, n9, q9, e9⟩ := own_shape ho9; subst e9; have hI9 := Lib.hid (hI7.out.appS ho9 hg9); have rr := hI9.out.row; obtain ⟨y0, y1, y2⟩ := rowc3 rr; have ff0 := frozen_of_row _ _ 0 _ _ rr; have rr1 := heap_setCell_same w9 Y 0 _ _ (.slice p7 n7 q7) rr; simp at rr1; have ff1 := frozen_of_row _ _ 1 _ _ rr1; have yy1 := cell_of_row _ _ 1 _ _ _ rr1; clear rr rr1)
                | (refine step_append_i64 (w := ((wk.alloc (.cells #[.int .i64 1] 3)).alloc (.cells #[.int .u64 1] 26)).drew) (by rfl) _ _ (by rfl) WD.heap.size (.slice pa ca.length qa) ca (by rfl) ((HI2.out.oc.alloc _).alloc _) 1 wk.heap.size (by rfl) (by exact cell_of_row _ _ 0 _ _ _ (lit_old (heap_alloc_new _ _))) (by omega) (by have := HI2.out.size; simp; omega) ?_; intro v7 w7 ho7 hg7; obtain ⟨p7, n7, q7, e7⟩ := own_shape ho7; subst e7; have hI7 := Lib.hid ((HI2.out.more (below_new (below_new (Below.refl _ _) _) _)).appC ho7 (undrewG hg7)); have hL7 := Lib.hid (lit_kept (b := wk.heap.size + 1) (cs := #[.int .u64 1]) (T := 26) (f := (0, 0)) (box_at (by simp)) ((HI2.out.oc.alloc _).alloc _) (by decide) (undrewG hg7)); obtain ⟨y0, y1, y2⟩ := rowc3 hI7.out.row; have qY7 : Y < w7.heap.size := (Array.getElem?_eq_some_iff.1 hI7.out.row).1)
                | (refine step_append_i64 (w := ((wk.alloc (.cells #[.int .u64 1] 26)).alloc (.cells #[.int .i64 1] 3)).drew) (by rfl) _ _ (by rfl) WD.heap.size (.slice pa ca.length qa) ca (by rfl) ((HI2.out.oc.alloc _).alloc _) 1 (wk.heap.size + 1) (by rfl) (by exact (World.cell?_alloc_at _ _ _ _ (by simp) : ((wk.alloc (.cells #[.int .u64 1] 26)).alloc (.cells #[.int .i64 1] 3)).cell? ⟨wk.heap.size + 1, 0, none⟩ = _)) (by omega) (by have := HI2.out.size; simp; omega) ?_; intro v7 w7 ho7 hg7; obtain ⟨p7, n7, q7, e7⟩ := own_shape ho7; subst e7; have hI7 := Lib.hid ((HI2.out.more (below_new (below_new (Below.refl _ _) _) _)).appC ho7 (undrewG hg7)); have hL7 := Lib.hid (lit_kept (lit_old (heap_alloc_new wk (.cells #[.int .u64 1] 26))) ((HI2.out.oc.alloc _).alloc _) (by decide) (undrewG hg7)); obtain ⟨y0, y1, y2⟩ := rowc3 hI7.out.row; have qY7 : Y < w7.heap.size := (Array.getElem?_eq_some_iff.1 hI7.out.row).1)
                | (refine step_append_i64 (w := (wk.alloc (.cells #[.int .i64 1] 3)).drew) (by rfl) _ _ (by rfl) WD.heap.size (.slice pa ca.length qa) ca (by rfl) (HI2.out.oc.alloc _) 1 _ (by rfl) (by exact World.cell?_alloc_at _ _ _ _ rfl) (by omega) (by have := HI2.out.size; simp; omega) ?_; intro v7 w7 ho7 hg7; obtain ⟨p7, n7, q7, e7⟩ := own_shape ho7; subst e7; have hI7 := Lib.hid ((HI2.out.more (below_new (Below.refl _ _) _)).appC ho7 (undrewG hg7)); obtain ⟨y0, y1, y2⟩ := rowc3 hI7.out.row; have qY7 : Y < w7.heap.size := (Array.getElem?_eq_some_iff.1 hI7.out.row).1))
              all_goals
                have hE := Lib.hid hI9.out.setC.setS
                have hL9 := Lib.hid ((HLO.out.addC 1 (by decide)).addS 1 (by decide))
                have hLL : ListOk (ca ++ [1]) (st ++ [1]) 9 := by
                  have h1 := HSA.out
                  exact ⟨by simp; omega, by simp; omega, hL9.out.wc, hL9.out.ws⟩
                have HLL := Lib.hid hLL
                clear y0 y1 y2 hLL
                go_wp2
                go_roundg gk
                case rel => exact ⟨ca ++ [1], st ++ [1], _, _, _, _, _, _, by have := HSA.out; simp; omega, by simp; omega, HLL.out, hE.out⟩
                case measure => omega
    · obtain ⟨hn1, hn2⟩ | ⟨b8, c8, e8, -⟩ := HI.out.os.shape
      · simp only [Value.slice.injEq] at hn1
        obtain ⟨rfl, rfl, rfl⟩ := hn1
        subst hn2
        have hwr : IntKind.i64.wrap 1 = 1 := by decide
        have T := Lib.hid (nextE g 1 w5.drew (show CodesE w5.drew g from HI.out.codes) (by decide) (by decide))
        go_upto_region 23 with fail
        go_region_law (first
          | (go_simp; go_at_call 23; refine T.out.mono ?_; rintro e w6 ⟨y, rfl, hy0, hy1, hc6, hg6⟩; obtain rfl := eq_zero_of hy0 hy1; have hI6 := Lib.hid (HI.out.next hc6 (undrewG hg6)); clear hc6 hg6 T; obtain ⟨y0, y1, y2⟩ := rowc3 hI6.out.row; have ff1 := frozen_of_row _ _ 1 _ _ hI6.out.row))
        all_goals
          have hE := Lib.hid (ChkS.fin' hI6.out.setS HLK.out (by omega))
          go_wp2_with fail
          go_meet
          exact ⟨_, _, _, hE⟩
      · simp only [Value.slice.injEq] at e8
        obtain ⟨rfl, rfl, rfl⟩ := e8
        have hcap := OwnI.capLe HI.out.os
        have hb1 : (1 : Int) ≤ (starts.length : Int) + 1 := by omega
        have hb2 : (starts.length : Int) + 1 ≤ 256 := by omega
        have hwr : IntKind.i64.wrap ((starts.length : Int) + 1) = (starts.length : Int) + 1 := by rw [IntKind.wrap_i64]; omega
        have T := Lib.hid (nextE g ((starts.length : Int) + 1) w5.drew (show CodesE w5.drew g from HI.out.codes) hb1 hb2)
        go_upto_region 23 with fail
        go_region_law (first
          | (go_simp; go_at_call 23; with_reducible refine T.out.mono ?_; rintro e w6 ⟨y, rfl, hy0, hy1, hc6, hg6⟩; obtain ⟨m, rfl⟩ : ∃ m : Nat, y = m := ⟨y.toNat, by omega⟩; have hI6 := Lib.hid (HI.out.next hc6 (undrewG hg6)); clear hc6 hg6 T; obtain ⟨y0, y1, y2⟩ := rowc3 hI6.out.row; have ff1 := frozen_of_row _ _ 1 _ _ hI6.out.row; obtain ⟨m1, m2, m3, m4⟩ := le_of_next hy1 hcap))
        all_goals
          have hE := Lib.hid (ChkS.cut hI6.out HLK.out m m4)
          go_wp2_with fail
          go_meet
          exact ⟨_, _, _, hE⟩
  case rest =>
    obtain ⟨rc, rs, cy, HE⟩ := hcut
    obtain ⟨we, rfl⟩ : ∃ we : World, we = wc := ⟨_, rfl⟩
    clear HI
    have RX9 := Lib.hid ((HE.out.keep.2 X hXD hgx hYx).trans RXD.out)
    have RR9 := Lib.hid ((HE.out.keep.2 w.heap.size hRD hRg hRY).trans RRD.out)
    have HVX := Lib.hid (HSXD.out _ HE.out.keep)
    have HVR := Lib.hid (HSRD.out _ HE.out.keep)
    have HVY := Lib.hid HE.out.conf
    have hYe : Y < we.heap.size := (Array.getElem?_eq_some_iff.1 HE.out.row).1
    have hRe : w.heap.size < we.heap.size := (Array.getElem?_eq_some_iff.1 RR9.out).1
    have TX := Lib.hid fun w' h => checkC_any (.agg #[.slice px cx.caps.length cpx, .slice qx cx.starts.length cqx, .int .i64 cx.threads]) cx w' h
    rw [checkC_good HG.out] at TX
    obtain ⟨x0, x1, x2⟩ := rowc3 RX9.out
    go_wp2_with fail
    refine (TX.out _ HVX.out).mono ?_; rintro e wf ⟨rfl, hbf⟩
    have HBF := Lib.hid (below_then HE.out.below hbf)
    have RY9 := Lib.hid ((hbf.block Y hYe).trans HE.out.row)
    have RRF := Lib.hid ((hbf.block w.heap.size hRe).trans RR9.out)
    have HVYF := Lib.hid (HVY.out.below hbf)
    have HVRF := Lib.hid (HVR.out.below hbf)
    have hYf : Y < wf.heap.size := Nat.lt_of_lt_of_le hYe hbf.size
    have hRf : w.heap.size < wf.heap.size := Nat.lt_of_lt_of_le hRe hbf.size
    clear hbf x0 x1 x2
    obtain ⟨vc9, vs9, ev, h91, h92⟩ := HE.out.conf
    simp only [Value.agg.injEq, Array.mk.injEq, List.cons.injEq, and_true] at ev
    obtain ⟨rfl, rfl⟩ := ev
    obtain ⟨pc9, kc9, rfl, -⟩ := h91.len
    obtain ⟨ps9, ks9, rfl, -⟩ := h92.len
    clear h91 h92
    have T0 := Lib.hid fun w' h => checkC_any (.agg #[.slice pc9 cy.caps.length kc9, .slice ps9 cy.starts.length ks9, .int .i64 cy.threads]) cy w' h
    have U0 := Lib.hid fun w' h => rcheckC_any (.agg #[.slice pc9 cy.caps.length kc9, .slice ps9 cy.starts.length ks9, .int .i64 cy.threads]) cy w' h
    have T1 := Lib.hid fun w' h => checkC_any (.agg #[.slice pr c0.caps.length cr, .slice ps c0.starts.length csr, .int .i64 c0.threads]) c0 w' h
    have U1 := Lib.hid fun w' h => rcheckC_any (.agg #[.slice pr c0.caps.length cr, .slice ps c0.starts.length csr, .int .i64 c0.threads]) c0 w' h
    generalize checkC cy = ey at *
    generalize checkC c0 = er at *
    go_upto_region 26 with fail
    obtain ⟨x0, x1, x2⟩ := rowc3 RY9.out
    obtain ⟨y0, y1, y2⟩ := rowc3 RRF.out
    have X0 := ext_cell _ 0 hYf _ x0
    have X1 := ext_cell _ 1 hYf _ x1
    have X2 := ext_cell _ 2 hYf _ x2
    have Z0 := ext_cell _ 0 hRf _ y0
    have Z1 := ext_cell _ 1 hRf _ y1
    have Z2 := ext_cell _ 2 hRf _ y2
    have KY := Lib.hid fun n : Ext wf => HVYF.out.below n.below
    have KR := Lib.hid fun n : Ext wf => HVRF.out.below n.below
    clear x0 x1 x2 y0 y1 y2
    refine wp_region_ext wf (by kernel_rfl) (by kernel_rfl) (Below.refl _ _) ?_
    repeat (go_big_quiet_step (first
      | (go_at_call 25; with_reducible exact calls_ext (T0.out _ (KY.out _)))
      | (go_at_call 25; with_reducible exact calls_ext (T1.out _ (KR.out _)))
      | (go_at_call 26; with_reducible exact calls_ext (U0.out _ (KY.out _)))
      | (go_at_call 26; with_reducible exact calls_ext (U1.out _ (KR.out _)))))
    refine wpQuiet_nil ?_
    intro _ hw'
    obtain ⟨w2, rfl⟩ := hw'
    have HFN := Lib.hid (below_then HBF.out w2.below)
    generalize w2.wd = w9 at *
    go_wp2
    go_ret
    exact ⟨rfl, HFN.out⟩
set_option maxRecDepth 100000 in
theorem lifted (os : Os) (started : os.Started) (H : Type) (enc : TypeId × Value → H) :
    ReturnsInHanded {} Try.checked os 4 .any (Rows.layoutChecksSpec.pre6 enc Try.prog Try.f4 Rows.layoutChecksRow.domain false) (Rows.layoutChecksSpec.post enc Try.prog Try.f4 false true false false) := by
  refine returnsInHanded_of_change_sized (C := Try.checked) own started (by kernel_rfl) Try.func4
    (ChangeSpec.witness6 (enc := enc) (C := Try.checked) false ⟨#[], #[.agg #[.slice none 0 0, .slice none 0 0, .int .i64 0], .slice none 0 0], []⟩ 8 (by kernel_rfl) (by kernel_rfl) (by kernel_rfl) (by kernel_rfl)) ?_
  intro W base args ds gs before hval0 hW _ hsz0 _
  have hsz : (DataW.weightsEach Try.prog (Try.f4.params.toList ++ Rows.layoutChecksSpec.plain.varTypes Try.prog) (ds ++ gs)).all (· ≤ reachBytes) = true := hsz0
  clear hsz0
  have hval : ∀ (j : Nat) t v, Try.f4.params[j]? = some t → args[j]? = some v → Value.okWide Try.prog W .any base t v := hval0
  have hW' := hW
  obtain ⟨p, q, hA0, hV, rfl, _, _⟩ := hW
  have hA : DataW.TrodAll enc Try.prog W 0 (fun _ => true) true Try.f4.params.toList args.toList ds p := hA0
  rw [Try.params4] at hA hval hsz
  obtain ⟨v0, vs0, d0, ds0, p0, q0, hargs, rfl, rfl, h0, r0⟩ := trodAll_cons hA
  obtain ⟨v1, vs1, d1, ds1, p1, q1, rfl, rfl, rfl, h1, r1⟩ := trodAll_cons r0
  obtain ⟨rfl, rfl, rfl⟩ := trodAll_nil r1
  obtain rfl : args = #[v0, v1] := by cases args; simp_all
  obtain ⟨rfl, rfl⟩ := trodVars_none hV
  have k0 := h0
  have k1 := h1
  obtain ⟨c0, s0, o0⟩ := view_conf (fun parts hd => sized_agg hsz (j := 0) (t := 46) rfl (by rw [hd]; rfl) Try.underlying46) (hval 0 46 v0 rfl rfl) h0
  obtain ⟨l1, s1⟩ := view_sl (k := .u8) Try.underlying29 Try.underlying5 (by kernel_rfl) (fun elems sp hd => sized_slice hsz (j := 1) (t := 29) (e := 5) rfl (by rw [hd]; rfl) Try.underlying29) (of_decide_eq_true (by kernel_rfl)) (hval 1 29 v1 rfl rfl) h1
  clear hA0 hval0
  simp only [List.append_nil] at hW'
  have hlt := hW'.lt
  refine (walk W v0 c0 s0 o0 v1 l1 s1).mono fun e W' ⟨he, hb⟩ => ?_
  subst he
  exact ⟨_, rfl, _, _, _, [], _, [], hW', trodAll_cons_mk (shut_bool Try.underlying4 _) trodAll_mk0, (trodAll_cons_mk (Below.trod Try.laidOut (by kernel_rfl) (of_decide_eq_true (by kernel_rfl)) k0 hb (fun x hx => by simpa using hlt x (by simp [hx]))) (trodAll_cons_mk (Below.trod Try.laidOut (by kernel_rfl) (of_decide_eq_true (by kernel_rfl)) k1 hb (fun x hx => by simpa using hlt x (by simp [hx]))) trodAll_mk0)), rfl, hb.frame _, fun h => by cases h⟩
theorem over : Rows.layoutChecksRow.holds Try.pinned (OpenSpec.ofChange Rows.layoutChecksSpec) :=
  OpenClaim.holds_of_wide 4 Try.f4 rfl rfl rfl rfl rfl rfl rfl ⟨rfl, rfl, rfl, rfl, rfl⟩ rfl rfl rfl rfl rfl (by kernel_rfl) Try.func4 (by kernel_rfl)
    (of_decide_eq_true (by kernel_rfl)) (by unfold Func.isWrapper; first | (rw [if_pos (by decide +kernel)]; kernel_rfl) | (rw [if_neg (by decide +kernel)]; exact ⟨rfl, rfl⟩))
    (fun os started H enc _ => lifted os started H enc)
/-- THE STATEMENT -/
theorem proved : Rows.LayoutChecksSaid :=
  over
end Go.Proofs.Ytkpnakomlfjndaa.layoutChecks
