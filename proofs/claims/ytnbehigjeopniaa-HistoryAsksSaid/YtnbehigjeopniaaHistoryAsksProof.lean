/- Proved: HistoryAsks returns true, and its arguments read afterwards as before, for every list of codes, every list of events and all numbers; no condition. -/
import Derived.Deep.DeepCutAuto
import Derived.Deep.CutBlock
import Derived.LoopTactic
import Derived.WalkKit
import Derived.ProofKit
import Derived.OpenShut
import Derived.SizedLaws
import Derived.Test.YtnbehigjeopniaaB01
import Derived.Test.YtnbehigjeopniaaB07
import Derived.Test.YtnbehigjeopniaaB15
import Derived.Test.YtnbehigjeopniaaB16
import Derived.Test.YtnbehigjeopniaaB17
namespace Go.Proofs.Ytnbehigjeopniaa.historyAsks
open Go.ChangeShapes Go.WideShapes Go.ChangeAt Go.RowKit
set_option linter.unusedVariables false
set_option linter.unusedSimpArgs false
theorem run_neq_res2 (a b c : Int) (d : Bool) (e : Int) (w : World) : (binOp .neq 32 (.agg #[.int .i64 a, .int .i64 b, .int .u64 c, .bool d, .int .i64 e]) (.agg #[.int .i64 a, .int .i64 b, .int .u64 c, .bool d, .int .i64 e])).run Try.prog w = .ok (.bool false) w := by
  have hu := Try.underlying32
  simp [go_sem]
theorem hist_c64 {ns : List Nat} {L : List EvM} (h : histE ns L = true) (hn : ns.length ≤ 4) (hl : L.length ≤ 30) : ∀ e ∈ L, C64 (callOf e) := fun e he => by
  obtain ⟨i, hi, rfl⟩ := List.mem_iff_getElem.1 he
  obtain ⟨t, h1, h2, h3, -⟩ := hist_small h hi
  rw [List.getD_eq_getElem?_getD, List.getElem?_eq_getElem hi] at h1 h3
  have h4 := cntT_le (L.take i) (t : Int)
  rw [List.length_take] at h4
  unfold C64 callOf
  have e1 : (L[i]).thr = t := h1
  have e2 : (L[i]).op = ((cntT (L.take i) (t : Int) / 2 : Nat) : Int) := h3
  rw [e1, e2]
  exact ⟨WalkArith.wf_i64 (by omega), WalkArith.wf_i64 (by omega)⟩
theorem cell4 {w : World} {g : Nat} {T : TypeId} {a b c d : Value} (h : w.heap[g]? = some (.cells #[a, b, c, d] T (0, 0))) {i : Nat} (hi : i < 4) : ∃ x, w.cell? ⟨g, i, none⟩ = some x ∧ (x = a ∨ x = b ∨ x = c ∨ x = d) := by
  match i, hi with
  | 0, _ => exact ⟨a, cell_of_row _ _ 0 _ _ _ h, .inl rfl⟩
  | 1, _ => exact ⟨b, cell_of_row _ _ 1 _ _ _ h, .inr (.inl rfl)⟩
  | 2, _ => exact ⟨c, cell_of_row _ _ 2 _ _ _ h, .inr (.inr (.inl rfl))⟩
  | 3, _ => exact ⟨d, cell_of_row _ _ 3 _ _ _ h, .inr (.inr (.inr rfl))⟩
theorem rowc5q {w : World} {g : Nat} {T : TypeId} {v0 v1 v2 v3 v4 : Value} (h : w.heap[g]? = some (.cells #[v0, v1, v2, v3, v4] T (0, 0))) : w.cell? ⟨g, 0, none⟩ = some v0 ∧ w.cell? ⟨g, 1, none⟩ = some v1 ∧ w.cell? ⟨g, 2, none⟩ = some v2 ∧ w.cell? ⟨g, 3, none⟩ = some v3 ∧ w.cell? ⟨g, 4, none⟩ = some v4 :=
  ⟨cell_of_row _ _ 0 _ _ _ h, cell_of_row _ _ 1 _ _ _ h, cell_of_row _ _ 2 _ _ _ h, cell_of_row _ _ 3 _ _ _ h, cell_of_row _ _ 4 _ _ _ h⟩
theorem int4 {x : Value} {a b c d : Int} (h : x = .int .i64 a ∨ x = .int .i64 b ∨ x = .int .i64 c ∨ x = .int .i64 d) : ∃ q, x = .int .i64 q := by
  rcases h with h | h | h | h <;> exact ⟨_, h⟩
set_option maxRecDepth 100000 in
set_option maxHeartbeats 16000000 in
theorem walk (w : World) (v0 : Value) (l0 : List Int) (s0 : SlI w .u8 v0 l0) (v1 : Value) (l1 : List EvM) (s1 : SlS w 8 v1 (evRows l1)) (o1 : ∀ e ∈ l1, C64 (callOf e)) (a2 : Int) (w2 : (Lit.int .i64 a2).wf = true) (a3 : Int) (w3 : (Lit.int .i64 a3).wf = true) :
    Calls Try.prog 4 #[v0, v1, .int .i64 a2, .int .i64 a3] w fun e w' => e = .returned (.bool true) ∧ Below w.heap.size w w' := by
  have AW := Lib.hid (awake_any w)
  have HS0 := Lib.hid s0
  have HS1 := Lib.hid s1
  have HO1 := Lib.hid o1
  obtain ⟨ar, kr, hve, -⟩ := s1.lenE
  subst hve
  clear s0 s1 o1
  go_enter Try.func4, Try.ntmps4
  go_wp2_with fail
  refine AW.out.mono ?_; rintro e w1 ⟨rfl, hb1⟩
  have HB1 := Lib.hid hb1
  clear hb1 AW
  by_cases hbig : 40 < l1.length
  · have hbI : (40 : Int) < (l1.length : Int) := by omega
    clear HS0 HS1 HO1
    go_wp2
    go_ret
    exact ⟨rfl, HB1.out⟩
  have hbI : ¬ (40 : Int) < (l1.length : Int) := by omega
  go_wp2_with fail
  refine (made_any v0 l0 w1 (HS0.out.below HB1.out)).mono ?_; rintro e w2 ⟨vo, ns, vl, L, rfl, hso, hsl, hhis, hlen, hns, hb2⟩
  have HB2 := Lib.hid (below_then HB1.out hb2)
  have HHIS := Lib.hid hhis
  have HSO := Lib.hid hso
  have HSL := Lib.hid hsl
  obtain ⟨al, kl, rfl, -⟩ := hsl.lenE
  obtain ⟨ao, ko, rfl⟩ := hso.len
  have HS2 := Lib.hid (HS1.out.below HB2.out)
  clear hso hsl hhis hb2 HS0 HS1 HB1 hbI
  obtain ⟨nl, hnl⟩ : ∃ n, L.length = n := ⟨_, rfl⟩
  obtain ⟨nr, hnr⟩ : ∃ n, l1.length = n := ⟨_, rfl⟩
  have hnl30 : nl ≤ 30 := by omega
  have hnr40 : nr ≤ 40 := by omega
  rw [hnl] at HSL
  rw [hnr] at HS2
  rw [hnl]
  go_wp2_with fail
  try rw [hnr]
  have HXS : Hid (∀ i, i < 2 → ∃ (xa : Option Addr) (xn xc : Nat) (xl : List EvM), (#[Value.slice al nl kl, Value.slice ar nr kr] : Array Value)[i]? = some (.slice xa xn xc) ∧ xn = xl.length ∧ xl.length ≤ 40 ∧ SlS w2 8 (.slice xa xn xc) (evRows xl) ∧ ∀ e ∈ xl, C64 (callOf e)) := fun i hi => by
    match i, hi with
    | 0, _ => exact ⟨_, _, _, L, rfl, hnl.symm, by omega, HSL.out, hist_c64 HHIS.out hns (by omega)⟩
    | 1, _ => exact ⟨_, _, _, l1, rfl, hnr.symm, by omega, HS2.out, HO1.out⟩
  clear HSL HS2 HO1 HHIS HSO hnl hnr hbig hlen hns
  obtain ⟨W, hW⟩ : ∃ W, w2.alloc (.cells #[.slice al nl kl, .slice ar nr kr] 23) = W := ⟨_, rfl⟩
  have RW : Hid (W.heap[w2.heap.size]? = some (.cells #[.slice al nl kl, .slice ar nr kr] 23 (0, 0))) := hW ▸ heap_alloc_new _ _
  have HBW : Hid (Below w2.heap.size w2 W) := hW ▸ below_new (Below.refl _ _) _
  have hWl : w2.heap.size < W.heap.size := (Array.getElem?_eq_some_iff.1 RW.out).1
  rw [hW]
  clear hW
  obtain ⟨D, hD⟩ : ∃ D, w2.heap.size = D := ⟨_, rfl⟩
  rw [hD] at RW hWl
  rw [hD]
  clear hD
  have HBA := Lib.hid (below_then HB2.out HBW.out)
  go_loopw [35] (fun u35 wr => ∃ i : Nat, u35 = .int .i64 i ∧ i ≤ 2 ∧ Hid (Below W.heap.size W wr)) (fun u35 _ => 2 - (intOf u35).toNat)
  case atStart => exact ⟨0, rfl, by omega, Below.refl _ _⟩
  case round =>
    obtain ⟨i, rfl, hi, HBi⟩ := hrel
    obtain ⟨wo, rfl⟩ : ∃ wo : World, wo = wr := ⟨_, rfl⟩
    by_cases hlt : i < 2
    · have hltI : (i : Int) < 2 := by omega
      obtain ⟨xa, xn, xc, xl, hcx, hxn, hx40, hxs, hx64⟩ := HXS.out i hlt
      have HX := Lib.hid (hxs.below (below_then HBW.out HBi.out))
      have HX64 := Lib.hid hx64
      have HXN := Lib.hid hxn
      have d0 := (HBi.out.cell (p := ⟨D, i, none⟩) hWl).trans ((cell_of_row _ _ i _ _ _ RW.out).trans hcx)
      clear hxs hx64 hcx hxn
      go_wp2_with fail
      clear d0
      obtain ⟨Wt, hWt⟩ : ∃ W, wo.alloc (.cells #[.int .i64 a2, .int .i64 0, .int .i64 1, .int .i64 2] 3) = W := ⟨_, rfl⟩
      have RT : Hid (Wt.heap[wo.heap.size]? = some (.cells #[.int .i64 a2, .int .i64 0, .int .i64 1, .int .i64 2] 3 (0, 0))) := hWt ▸ heap_alloc_new _ _
      have HBT : Hid (Below wo.heap.size wo Wt) := hWt ▸ below_new (Below.refl _ _) _
      have hTl : wo.heap.size < Wt.heap.size := (Array.getElem?_eq_some_iff.1 RT.out).1
      rw [hWt]
      clear hWt
      obtain ⟨E, hE⟩ : ∃ D, wo.heap.size = D := ⟨_, rfl⟩
      rw [hE] at RT hTl
      rw [hE]
      clear hE
      have HXt := Lib.hid (HX.out.below HBT.out)
      go_loopw [42] (fun u42 wr => ∃ j : Nat, u42 = .int .i64 j ∧ j ≤ 4 ∧ Hid (Below Wt.heap.size Wt wr)) (fun u42 _ => 4 - (intOf u42).toNat)
      case atStart => exact ⟨0, rfl, by omega, Below.refl _ _⟩
      case round =>
        obtain ⟨j, rfl, hj, HBj⟩ := hrel
        obtain ⟨wp, rfl⟩ : ∃ wo : World, wo = wr := ⟨_, rfl⟩
        by_cases hltj : j < 4
        · have hltjI : (j : Int) < 4 := by omega
          obtain ⟨x, hx, hxi⟩ := cell4 RT.out hltj
          obtain ⟨t, rfl⟩ := int4 hxi
          have d0 := (HBj.out.cell (p := ⟨E, j, none⟩) hTl).trans hx
          have HXp := Lib.hid (HXt.out.below HBj.out)
          clear hx hxi
          go_wp2_with fail
          clear d0
          obtain ⟨Wu, hWu⟩ : ∃ W, wp.alloc (.cells #[.int .i64 a3, .int .i64 0, .int .i64 1, .int .i64 2] 3) = W := ⟨_, rfl⟩
          have RU : Hid (Wu.heap[wp.heap.size]? = some (.cells #[.int .i64 a3, .int .i64 0, .int .i64 1, .int .i64 2] 3 (0, 0))) := hWu ▸ heap_alloc_new _ _
          have HBU : Hid (Below wp.heap.size wp Wu) := hWu ▸ below_new (Below.refl _ _) _
          have hUl : wp.heap.size < Wu.heap.size := (Array.getElem?_eq_some_iff.1 RU.out).1
          rw [hWu]
          clear hWu
          obtain ⟨Fb, hFb⟩ : ∃ D, wp.heap.size = D := ⟨_, rfl⟩
          rw [hFb] at RU hUl
          rw [hFb]
          clear hFb
          have HXu := Lib.hid (HXp.out.below HBU.out)
          go_loopw [49] (fun u49 wr => ∃ k : Nat, u49 = .int .i64 k ∧ k ≤ 4 ∧ Hid (Below Wu.heap.size Wu wr)) (fun u49 _ => 4 - (intOf u49).toNat)
          case atStart => exact ⟨0, rfl, by omega, Below.refl _ _⟩
          case round =>
            obtain ⟨k, rfl, hk, HBk⟩ := hrel
            obtain ⟨wq, rfl⟩ : ∃ wo : World, wo = wr := ⟨_, rfl⟩
            by_cases hltk : k < 4
            · have hltkI : (k : Int) < 4 := by omega
              obtain ⟨x, hx, hxi⟩ := cell4 RU.out hltk
              obtain ⟨o, rfl⟩ := int4 hxi
              have d0 := (HBk.out.cell (p := ⟨Fb, k, none⟩) hUl).trans hx
              have HXq := Lib.hid (HXu.out.below HBk.out)
              obtain ⟨⟨k1, k2, k3, k4, k5⟩, hk5⟩ : ∃ r, retR xl t o = r := ⟨_, rfl⟩
              have T1 := Lib.hid (hret_any _ xl t o wq HXq.out)
              have T2 := Lib.hid fun w' (hb : Below wq.heap.size wq w') => erret_any _ xl t o w' (HXq.out.below hb)
              have T3 := Lib.hid fun w' (hb : Below wq.heap.size wq w') => hcalled_any _ xl t o w' (HXq.out.below hb)
              have T4 := Lib.hid fun w' (hb : Below wq.heap.size wq w') => keepB (ercalled_any _ xl t o w' (HXq.out.below hb))
              rw [hk5] at T1 T2
              unfold resW at T1 T2
              dsimp only at T1 T2
              have hneq := fun w => run_neq_res2 k1 k2 k3 k4 k5 w
              obtain ⟨f1, hf1⟩ : ∃ f, findI xl t o true = f := ⟨_, rfl⟩
              obtain ⟨f2, hf2⟩ : ∃ f, findI xl t o false = f := ⟨_, rfl⟩
              rw [hf1] at T1 T2
              rw [hf2] at T3 T4
              clear hx hxi hk5 hf1 hf2
              go_wp2_with fail
              refine T1.out.mono ?_; rintro e w3 ⟨rfl, hb3⟩
              have HB3 := Lib.hid hb3
              clear hb3 d0 T1
              obtain ⟨Wx, hWx⟩ : ∃ Wx, (w3.alloc (.cells #[.int .i64 0, .int .i64 0, .int .u64 0, .bool false, .int .i64 0] 32)).setRow w3.heap.size #[.int .i64 k1, .int .i64 k2, .int .u64 k3, .bool k4, .int .i64 k5] = Wx := ⟨_, rfl⟩
              have Nx : Hid ((w3.alloc (.cells #[.int .i64 0, .int .i64 0, .int .u64 0, .bool false, .int .i64 0] 32)).heap[w3.heap.size]? = some (.cells #[.int .i64 0, .int .i64 0, .int .u64 0, .bool false, .int .i64 0] 32 (0, 0))) := heap_alloc_new _ _
              have HBx : Hid (Below w3.heap.size w3 Wx) := hWx ▸ row_below (below_new (Below.refl _ _) _) (Nat.le_refl _) _
              have Rx : Hid (Wx.heap[w3.heap.size]? = some (.cells #[.int .i64 k1, .int .i64 k2, .int .u64 k3, .bool k4, .int .i64 k5] 32 (0, 0))) := hWx ▸ setRow_heap _ _ _ _ _ (0, 0) Nx.out
              have HWx := Lib.hid hWx
              clear hWx
              go_upto_region 16 with (refine wpList_store_row rfl 32 _ _ rfl (w3.heap.size) _ rfl rfl 32 #[.int .i64 0, .int .i64 0, .int .u64 0, .bool false, .int .i64 0] Nx.out (by kernel_rfl) rfl (by simp [Value.oneCell']) ?_)
              rw [HWx.out]
              try simp only [Act.put]
              clear HWx Nx

              obtain ⟨X, hX⟩ : ∃ D, w3.heap.size = D := ⟨_, rfl⟩
              rw [hX] at Rx
              rw [hX]
              clear hX
              have HB4 := Lib.hid (below_then HB3.out HBx.out)
              go_wp2_with fail
              refine (T2.out _ HB4.out).mono ?_; rintro e w5 ⟨rfl, hb5⟩
              have HB5 := Lib.hid (below_then HB4.out hb5)
              have Rx5 := Lib.hid (row_below16 hb5 Rx.out)
              clear hb5 T2 Rx HB3 HB4 HBx
              obtain ⟨Wy, hWy⟩ : ∃ Wy, (w5.alloc (.cells #[.int .i64 0, .int .i64 0, .int .u64 0, .bool false, .int .i64 0] 32)).setRow w5.heap.size #[.int .i64 k1, .int .i64 k2, .int .u64 k3, .bool k4, .int .i64 k5] = Wy := ⟨_, rfl⟩
              have Ny : Hid ((w5.alloc (.cells #[.int .i64 0, .int .i64 0, .int .u64 0, .bool false, .int .i64 0] 32)).heap[w5.heap.size]? = some (.cells #[.int .i64 0, .int .i64 0, .int .u64 0, .bool false, .int .i64 0] 32 (0, 0))) := heap_alloc_new _ _
              have HBy : Hid (Below w5.heap.size w5 Wy) := hWy ▸ row_below (below_new (Below.refl _ _) _) (Nat.le_refl _) _
              have Ry : Hid (Wy.heap[w5.heap.size]? = some (.cells #[.int .i64 k1, .int .i64 k2, .int .u64 k3, .bool k4, .int .i64 k5] 32 (0, 0))) := hWy ▸ setRow_heap _ _ _ _ _ (0, 0) Ny.out
              have HWy := Lib.hid hWy
              clear hWy
              go_upto_region 17 with (refine wpList_store_row rfl 32 _ _ rfl (w5.heap.size) _ rfl rfl 32 #[.int .i64 0, .int .i64 0, .int .u64 0, .bool false, .int .i64 0] Ny.out (by kernel_rfl) rfl (by simp [Value.oneCell']) ?_)
              rw [HWy.out]
              try simp only [Act.put]
              clear HWy Ny

              obtain ⟨Y, hY⟩ : ∃ D, w5.heap.size = D := ⟨_, rfl⟩
              rw [hY] at Ry
              rw [hY]
              clear hY
              have HB6 := Lib.hid (below_then HB5.out HBy.out)
              have Rx6 := Lib.hid (row_below16 HBy.out Rx5.out)
              obtain ⟨x0, x1, x2, x3, x4⟩ := rowc5q Rx6.out
              obtain ⟨y0, y1, y2, y3, y4⟩ := rowc5q Ry.out
              go_wp2_with fail
              refine (T3.out _ HB6.out).mono ?_; rintro e w7 ⟨rfl, hb7⟩
              have HB7 := Lib.hid (below_then HB6.out hb7)
              clear hb7 T3 x0 x1 x2 x3 x4 y0 y1 y2 y3 y4
              go_wp2_with fail
              refine (T4.out _ HB7.out).mono ?_; rintro e w8 ⟨rfl, hb8⟩
              have HB8 := Lib.hid (below_then HB7.out hb8)
              have HBn := Lib.hid (below_then HBk.out HB8.out)
              clear hb8 T4 Rx5 Rx6 Ry HB5 HB6 HB7 HBy hneq
              go_wp2_with fail
              go_roundw
              case rel => exact ⟨k + 1, by go_num, by omega, HBn⟩
              case measure => simp [intOf]; omega
            · have hge : decide ((k : Int) < 4) = false := decide_eq_false (by omega)
              have HXq := Lib.hid (HXu.out.below HBk.out)
              have hx1m : xl.length ≤ 1000000 := by omega
              have T1 := Lib.hid (hwithout_any _ xl t wq HXq.out hx1m)
              have T2 := Lib.hid fun w' (hb : Below wq.heap.size wq w') => erwithout_any _ xl t w' (HXq.out.below hb) hx1m
              have hwl : (withoutT xl t).length ≤ 1000000 := Nat.le_trans (List.length_filter_le _ _) hx1m
              obtain ⟨wt, hwt⟩ : ∃ x, withoutT xl t = x := ⟨_, rfl⟩
              rw [hwt] at T1 T2 hwl
              clear hwt hx1m
              go_wp2_with fail
              refine T1.out.mono ?_; rintro e w3 ⟨ua, rfl, ho3, hb3⟩
              have HO3 : Hid (SlS w3 8 ua (evRows wt)) := ho3.sls (by rw [evRows_length]; omega)
              obtain ⟨a8, k8, hve⟩ := ho3.lenE
              subst hve
              have HB3 := Lib.hid hb3
              clear ho3 hb3 T1
              go_wp2_with fail
              refine (T2.out _ HB3.out).mono ?_; rintro e w4 ⟨ub, rfl, ho4, hb4⟩
              have HO4 : Hid (SlS w4 8 ub (evRows wt)) := ho4.sls (by rw [evRows_length]; omega)
              obtain ⟨a9, k9, hve⟩ := ho4.lenE
              subst hve
              have HB4 := Lib.hid (below_then HB3.out hb4)
              have T3 := Lib.hid (ersameE_any _ _ wt w4 (HO3.out.below hb4) HO4.out)
              clear ho4 hb4 T2 HO3 HO4 HB3
              go_wp2_with fail
              refine T3.out.mono ?_; rintro e w5 ⟨rfl, hb5⟩
              have HBn := Lib.hid (below_then HBj.out (below_then HBU.out (below_then HBk.out (below_then HB4.out hb5))))
              clear hb5 T3 HB4
              go_wp2_with fail
              go_roundw
              case rel => exact ⟨j + 1, by go_num, by omega, HBn⟩
              case measure => simp [intOf]; omega
        · have hge : decide ((j : Int) < 4) = false := decide_eq_false (by omega)
          have HXp := Lib.hid (HXt.out.below HBj.out)
          have hx1m : xl.length ≤ 1000000 := by omega
          have T1 := Lib.hid (hcalls_any _ xl wp HXp.out hx1m)
          have T2 := Lib.hid fun w' (hb : Below wp.heap.size wp w') => ercalls_any _ xl w' (HXp.out.below hb) hx1m
          have T3 := Lib.hid fun w' (hb : Below wp.heap.size wp w') => hopen_any _ xl w' (HXp.out.below hb) hx1m HX64.out
          have T4 := Lib.hid fun w' (hb : Below wp.heap.size wp w') => eropen_any _ xl w' (HXp.out.below hb) hx1m
          have hcl : (callsE xl).length ≤ 1000000 := Nat.le_trans (callsE_le _) hx1m
          have hol : (openE xl).length ≤ 1000000 := Nat.le_trans (List.length_filter_le _ _) hcl
          obtain ⟨wt, hwt⟩ : ∃ x, callsE xl = x := ⟨_, rfl⟩
          obtain ⟨wv, hwv⟩ : ∃ x, openE xl = x := ⟨_, rfl⟩
          rw [hwt] at T1 T2 hcl
          rw [hwv] at T3 T4 hol
          clear hwt hwv hx1m
          go_wp2_with fail
          refine T1.out.mono ?_; rintro e w3 ⟨ua, rfl, ho3, hb3⟩
          have HO3 : Hid (SlS w3 2 ua (caRows wt)) := ho3.sls (by rw [caRows_length]; omega)
          obtain ⟨a8, k8, hve⟩ := ho3.lenC
          subst hve
          have HB3 := Lib.hid hb3
          clear ho3 hb3 T1
          go_wp2_with fail
          refine (T2.out _ HB3.out).mono ?_; rintro e w4 ⟨ub, rfl, ho4, hb4⟩
          have HO4 : Hid (SlS w4 2 ub (caRows wt)) := ho4.sls (by rw [caRows_length]; omega)
          obtain ⟨a9, k9, hve⟩ := ho4.lenC
          subst hve
          have HB4 := Lib.hid (below_then HB3.out hb4)
          have T5 := Lib.hid (ersameC_any _ _ wt w4 (HO3.out.below hb4) HO4.out)
          clear ho4 hb4 T2 HO3 HO4 HB3
          go_wp2_with fail
          refine T5.out.mono ?_; rintro e w5 ⟨rfl, hb5⟩
          have HB5 := Lib.hid (below_then HB4.out hb5)
          clear hb5 T5 HB4
          go_wp2_with fail
          refine (T3.out _ HB5.out).mono ?_; rintro e w6 ⟨uc, rfl, ho6, hb6⟩
          have HO6 : Hid (SlS w6 2 uc (caRows wv)) := ho6.sls (by rw [caRows_length]; omega)
          obtain ⟨a6, k6, hve⟩ := ho6.lenC
          subst hve
          have HB6 := Lib.hid (below_then HB5.out hb6)
          clear ho6 hb6 T3 HB5
          go_wp2_with fail
          refine (T4.out _ HB6.out).mono ?_; rintro e w7 ⟨ud, rfl, ho7, hb7⟩
          have HO7 : Hid (SlS w7 2 ud (caRows wv)) := ho7.sls (by rw [caRows_length]; omega)
          obtain ⟨a7, k7, hve⟩ := ho7.lenC
          subst hve
          have HB7 := Lib.hid (below_then HB6.out hb7)
          have T6 := Lib.hid (ersameC_any _ _ wv w7 (HO6.out.below hb7) HO7.out)
          clear ho7 hb7 T4 HO6 HO7 HB6
          go_wp2_with fail
          refine T6.out.mono ?_; rintro e w8 ⟨rfl, hb8⟩
          have HBn := Lib.hid (below_then HBi.out (below_then HBT.out (below_then HBj.out (below_then HB7.out hb8))))
          clear hb8 T6 HB7
          go_wp2_with fail
          go_roundw
          case rel => exact ⟨i + 1, by go_num, by omega, HBn⟩
          case measure => simp [intOf]; omega
    · have hge : decide ((i : Int) < 2) = false := decide_eq_false (by omega)
      go_wp2
      go_ret
      exact ⟨rfl, below_then HBA.out HBi.out⟩
set_option maxRecDepth 100000 in
theorem lifted (os : Os) (started : os.Started) (H : Type) (enc : TypeId × Value → H) :
    ReturnsInHanded {} Try.checked os 4 .any (Rows.historyAsksSpec.pre6 enc Try.prog Try.f4 Rows.historyAsksRow.domain false) (Rows.historyAsksSpec.post enc Try.prog Try.f4 false true false false) := by
  refine returnsInHanded_of_change_sized (C := Try.checked) own started (by kernel_rfl) Try.func4
    (ChangeSpec.witness6 (enc := enc) (C := Try.checked) false ⟨#[], #[.slice none 0 0, .slice none 0 0, .int .i64 0, .int .i64 0], []⟩ 8 (by kernel_rfl) (by kernel_rfl) (by kernel_rfl) (by kernel_rfl)) ?_
  intro W base args ds gs before hval0 hW _ hsz0 _
  have hsz : (DataW.weightsEach Try.prog (Try.f4.params.toList ++ Rows.historyAsksSpec.plain.varTypes Try.prog) (ds ++ gs)).all (· ≤ reachBytes) = true := hsz0
  clear hsz0
  have hval : ∀ (j : Nat) t v, Try.f4.params[j]? = some t → args[j]? = some v → Value.okWide Try.prog W .any base t v := hval0
  have hW' := hW
  obtain ⟨p, q, hA0, hV, rfl, _, _⟩ := hW
  have hA : DataW.TrodAll enc Try.prog W 0 (fun _ => true) true Try.f4.params.toList args.toList ds p := hA0
  rw [Try.params4] at hA hval hsz
  obtain ⟨v0, vs0, d0, ds0, p0, q0, hargs, rfl, rfl, h0, rr0⟩ := trodAll_cons hA
  obtain ⟨v1, vs1, d1, ds1, p1, q1, rfl, rfl, rfl, h1, rr1⟩ := trodAll_cons rr0
  obtain ⟨v2, vs2, d2, ds2, p2, q2, rfl, rfl, rfl, h2, rr2⟩ := trodAll_cons rr1
  obtain ⟨v3, vs3, d3, ds3, p3, q3, rfl, rfl, rfl, h3, rr3⟩ := trodAll_cons rr2
  obtain ⟨rfl, rfl, rfl⟩ := trodAll_nil rr3
  obtain rfl : args = #[v0, v1, v2, v3] := by cases args; simp_all
  obtain ⟨rfl, rfl⟩ := trodVars_none hV
  have k0 := h0
  have k1 := h1
  have k2 := h2
  have k3 := h3
  obtain ⟨l0, s0⟩ := view_sl (k := .u8) Try.underlying22 Try.underlying5 (by kernel_rfl) (fun elems sp hd => sized_slice hsz (j := 0) (t := 22) (e := 5) rfl (by rw [hd]; rfl) Try.underlying22) (of_decide_eq_true (by kernel_rfl)) (hval 0 22 v0 rfl rfl) h0
  obtain ⟨l1, s1, o1⟩ := view_events (fun elems sp hd => sized_slice hsz (j := 1) (t := 23) (e := 34) rfl (by rw [hd]; rfl) Try.underlying23) (hval 1 23 v1 rfl rfl) h1
  obtain ⟨a2, rfl, -, -, w2⟩ := open_int Try.underlying3 (hval 2 3 v2 rfl rfl) h2
  obtain ⟨a3, rfl, -, -, w3⟩ := open_int Try.underlying3 (hval 3 3 v3 rfl rfl) h3
  clear hA0 hval0
  simp only [List.append_nil] at hW'
  have hlt := hW'.lt
  refine (walk W v0 l0 s0 v1 l1 s1 o1 a2 w2 a3 w3).mono fun e W' ⟨he, hb⟩ => ?_
  subst he
  exact ⟨_, rfl, _, _, _, [], _, [], hW', trodAll_cons_mk (shut_bool Try.underlying4 _) trodAll_mk0, (trodAll_cons_mk (Below.trod Try.laidOut (by kernel_rfl) (of_decide_eq_true (by kernel_rfl)) k0 hb (fun x hx => by simpa using hlt x (by simp [hx]))) (trodAll_cons_mk (Below.trod Try.laidOut (by kernel_rfl) (of_decide_eq_true (by kernel_rfl)) k1 hb (fun x hx => by simpa using hlt x (by simp [hx]))) (trodAll_cons_mk (Below.trod Try.laidOut (by kernel_rfl) (of_decide_eq_true (by kernel_rfl)) k2 hb (fun x hx => by simpa using hlt x (by simp [hx]))) (trodAll_cons_mk (Below.trod Try.laidOut (by kernel_rfl) (of_decide_eq_true (by kernel_rfl)) k3 hb (fun x hx => by simpa using hlt x (by simp [hx]))) trodAll_mk0)))), rfl, hb.frame _, fun h => by cases h⟩
theorem over : Rows.historyAsksRow.holds Try.pinned (OpenSpec.ofChange Rows.historyAsksSpec) :=
  OpenClaim.holds_of_wide 4 Try.f4 rfl rfl rfl rfl rfl rfl rfl ⟨rfl, rfl, rfl, rfl, rfl⟩ rfl rfl rfl rfl rfl (by kernel_rfl) Try.func4 (by kernel_rfl)
    (of_decide_eq_true (by kernel_rfl)) (by unfold Func.isWrapper; first | (rw [if_pos (by decide +kernel)]; kernel_rfl) | (rw [if_neg (by decide +kernel)]; exact ⟨rfl, rfl⟩))
    (fun os started H enc _ => lifted os started H enc)
/-- THE STATEMENT -/
theorem proved : Rows.HistoryAsksSaid :=
  over
end Go.Proofs.Ytnbehigjeopniaa.historyAsks
