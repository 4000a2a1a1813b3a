/- Proved: HistoryOpen returns true, and its argument reads afterwards as before, for every list of codes; no condition. -/
import Derived.Deep.DeepCutAuto
import Derived.Deep.CutBlock
import Derived.LoopTactic
import Derived.WalkKit
import Derived.ProofKit
import Derived.OpenShut
import Derived.SizedLaws
import Derived.Test.YtnbehigjeopniaaB01
import Derived.Test.YtnbehigjeopniaaB15
import Derived.Test.YtnbehigjeopniaaB19
import Derived.Test.YtnbehigjeopniaaB17
import Derived.Test.YtnbehigjeopniaaB20
namespace Go.Proofs.Ytnbehigjeopniaa.historyOpen
open Go.ChangeShapes Go.WideShapes Go.ChangeAt Go.RowKit
set_option linter.unusedVariables false
set_option linter.unusedSimpArgs false
theorem hist_c64 {ns : List Nat} {L : List EvM} (h : histE ns L = true) (hn : ns.length ≤ 4) (hl : L.length ≤ 30) : ∀ e ∈ L, C64 (callOf e) := fun e he => by
  obtain ⟨i, hi, rfl⟩ := List.mem_iff_getElem.1 he
  obtain ⟨t, h1, h2, h3, -⟩ := hist_small h hi
  rw [List.getD_eq_getElem?_getD, List.getElem?_eq_getElem hi] at h1 h3
  have h4 := cntT_le (L.take i) (t : Int)
  rw [List.length_take] at h4
  unfold C64 callOf
  have e1 : (L[i]).thr = t := h1
  have e2 : (L[i]).op = ((cntT (L.take i) (t : Int) / 2 : Nat) : Int) := h3
  rw [e1, e2]
  exact ⟨WalkArith.wf_i64 (by omega), WalkArith.wf_i64 (by omega)⟩
set_option maxRecDepth 100000 in
set_option maxHeartbeats 16000000 in
theorem walk (w : World) (v0 : Value) (l0 : List Int) (s0 : SlI w .u8 v0 l0) :
    Calls Try.prog 7 #[v0] w fun e w' => e = .returned (.bool true) ∧ Below w.heap.size w w' := by
  have AW := Lib.hid (awake_any w)
  have HS0 := Lib.hid s0
  clear s0
  go_enter Try.func7, Try.ntmps7
  go_wp2_with fail
  refine AW.out.mono ?_; rintro e w1 ⟨rfl, hb1⟩
  have HB1 := Lib.hid hb1
  clear hb1 AW
  go_wp2_with fail
  refine (made_any v0 l0 w1 (HS0.out.below HB1.out)).mono ?_; rintro e w2 ⟨vo, ns, vl, L, rfl, hso, hsl, hhis, hlen, hns, hb2⟩
  have HB2 := Lib.hid (below_then HB1.out hb2)
  have HHIS := Lib.hid hhis
  have HSO := Lib.hid hso
  have HSL := Lib.hid hsl
  obtain ⟨al, kl, rfl, -⟩ := hsl.lenE
  obtain ⟨ao, ko, rfl⟩ := hso.len
  clear hso hsl hhis hb2 HS0 HB1
  have H64 := Lib.hid (hist_c64 HHIS.out hns hlen)
  have TO := Lib.hid fun w' (hb : Below w2.heap.size w2 w') => hopen_any _ L w' (HSL.out.below hb) (by omega) H64.out
  have TC := Lib.hid fun w' (hb : Below w2.heap.size w2 w') => ercalls_any _ L w' (HSL.out.below hb) (by omega)
  have TD := Lib.hid fun w' (hb : Below w2.heap.size w2 w') => hcalls_any _ L w' (HSL.out.below hb) (by omega)
  have HCN := Lib.hid (open_count HHIS.out L.length (Nat.le_refl _))
  rw [List.take_length] at HCN
  have hcl : (callsE L).length ≤ 30 := Nat.le_trans (callsE_le _) hlen
  have hol : (openE L).length ≤ 30 := Nat.le_trans (List.length_filter_le _ _) hcl
  have HMEM := Lib.hid fun c (hc : c ∈ openE L) => open_mem HHIS.out hc
  have HAP := Lib.hid fun j k (hjk : j < k) (hk : k < (openE L).length) => open_apart HHIS.out hjk hk
  have HLA := Lib.hid fun x y (hx : x ∈ openE L) (hy : y ∈ callsE L) (e : y.1 = x.1) => open_last HHIS.out hx hy e
  obtain ⟨cl, hcle⟩ : ∃ x, callsE L = x := ⟨_, rfl⟩
  obtain ⟨ol, hole⟩ : ∃ x, openE L = x := ⟨_, rfl⟩
  rw [hcle] at TC TD hcl HCN HLA
  rw [hole] at TO hol HCN HMEM HAP HLA
  obtain ⟨nl, hnl⟩ : ∃ n, L.length = n := ⟨_, rfl⟩
  obtain ⟨n, hn⟩ : ∃ n, ns.length = n := ⟨_, rfl⟩
  rw [hnl] at TO TC TD hlen HCN
  rw [hn] at hns HMEM
  rw [hnl, hn]
  clear hcle hole hnl hn HHIS HSO HSL H64
  go_upto_region 5 with (at_make; refine wp_make_bool w2 rfl _ _ rfl n _ _ rfl rfl rfl rfl ?_ ?_; omega; intro w3 h1 h2; have HT := Lib.hid h1; have HB3 := Lib.hid h2; clear h1 h2)
  have hgl := ownB_lt HT.out
  obtain ⟨g, hg⟩ : ∃ g, w2.heap.size = g := ⟨_, rfl⟩
  have HGG : Hid (w.heap.size ≤ g) := by show _ ≤ _; rw [← hg]; exact HB2.out.size
  have HGE : Hid (w2.heap.size ≤ g) := Nat.le_of_eq hg
  rw [hg] at HT hgl
  rw [hg]
  clear hg
  have HB4 := Lib.hid (below_then HB2.out HB3.out)
  go_wp2_with fail
  refine (TO.out _ HB3.out).mono ?_; rintro e w4 ⟨uo, rfl, hoc, hb4⟩
  obtain ⟨ao, ko, hve⟩ := hoc.lenC
  subst hve
  have HOC := Lib.hid hoc
  have hg3 : g < w3.heap.size := hgl
  have HB5 := Lib.hid (below_then HB4.out hb4)
  have HB25 := Lib.hid (below_then HB3.out hb4)
  have HT5 := Lib.hid (ownB_below HT.out hb4)
  have hg5 : g < w4.heap.size := ownB_lt HT5.out
  clear hoc hb4 HT HB3 HB4 hgl
  go_wp2_with fail
  go_loopw [23] (fun u23 wr => ∃ (k : Nat) (S : List Bool), u23 = .int .i64 k ∧ k ≤ ol.length ∧ Hid (S.length = n ∧ ∀ t, t < n → S.getD t false = true → ∃ j, j < k ∧ (ol.getD j (0, 0)).1 = t) ∧ Hid (OwnB wr g 4 (.slice (some ⟨g, 0, none⟩) n n) S) ∧ Hid (w2.grownBy wr none) ∧ Hid (w4.grownBy wr (some g))) (fun u23 _ => ol.length - (intOf u23).toNat)
  case atStart => exact ⟨0, List.replicate n false, rfl, by omega, ⟨List.length_replicate, fun t ht h => by simp [List.getD_eq_getElem?_getD, ht] at h⟩, HT5, grown_of_belowO HB25.out, grownBy_refl _ _⟩
  case round =>
    clear HT5 HB25
    obtain ⟨k, S, rfl, hk, HS, HT, HBk, HG⟩ := hrel
    obtain ⟨wo, rfl⟩ : ∃ wo : World, wo = wr := ⟨_, rfl⟩
    have HBB : Hid (Below w2.heap.size w2 wo) := ⟨HBk.out.os, HBk.out.tape, HBk.out.output, HBk.out.size, fun j hj => HBk.out.block j hj (by simp)⟩
    by_cases hlt : k < ol.length
    · have hltI : (k : Int) < (ol.length : Int) := by omega
      have hmem : ol.getD k (0, 0) ∈ ol := by rw [List.getD_eq_getElem?_getD, List.getElem?_eq_getElem hlt]; exact List.getElem_mem hlt
      obtain ⟨t, o, hto, htn, -⟩ := HMEM.out _ hmem
      have HME := Lib.hid hmem
      have HTO := Lib.hid hto
      have HOL : Hid (SlS wo 2 (.slice ao ol.length ko) (caRows ol)) := (HOC.out.kept HG.out (HOC.out.ne hg3)).sls (by rw [caRows_length]; omega)
      obtain ⟨b2, off2, cp2, hve, hb2, d0, d1⟩ := HOL.out.ca k hlt hto
      simp only [Value.slice.injEq] at hve
      obtain ⟨rfl, -, rfl⟩ := hve
      dsimp only at d0 d1
      have hgo : g < wo.heap.size := ownB_lt HT.out
      clear hmem hto hb2 HOL
      obtain ⟨Wy, hWy⟩ : ∃ Wy, (wo.alloc (.cells #[.int .i64 0, .int .i64 0] 47)).setRow wo.heap.size #[.int .i64 (t : Int), .int .i64 (o : Int)] = Wy := ⟨_, rfl⟩
      have Ny : Hid ((wo.alloc (.cells #[.int .i64 0, .int .i64 0] 47)).heap[wo.heap.size]? = some (.cells #[.int .i64 0, .int .i64 0] 47 (0, 0))) := heap_alloc_new _ _
      have HBy : Hid (Below wo.heap.size wo Wy) := hWy ▸ row_below (below_new (Below.refl _ _) _) (Nat.le_refl _) _
      have Ry : Hid (Wy.heap[wo.heap.size]? = some (.cells #[.int .i64 (t : Int), .int .i64 (o : Int)] 47 (0, 0))) := hWy ▸ setRow_heap _ _ _ _ _ (0, 0) Ny.out
      have HWy := Lib.hid hWy
      clear hWy
      go_upto_region 8 with (refine wpList_store_row rfl 47 _ _ rfl (wo.heap.size) _ rfl rfl 47 #[.int .i64 0, .int .i64 0] Ny.out (by kernel_rfl) rfl (by simp [Value.oneCell']) ?_)
      rw [HWy.out]
      try simp only [Act.put]
      clear HWy Ny
      obtain ⟨X, hX⟩ : ∃ D, wo.heap.size = D := ⟨_, rfl⟩
      rw [hX] at Ry
      rw [hX]
      have hgX : g ≠ X := by omega
      clear hX d0 d1
      have HTy := Lib.hid (ownB_below HT.out HBy.out)
      obtain ⟨z0, z1⟩ := HTy.out.cell t (by rw [HS.out.1]; exact htn)
      have hsf : S.getD t false = false := by
        cases hs : S.getD t false with
        | false => rfl
        | true =>
          obtain ⟨j, h1, h2⟩ := HS.out.2 t htn hs
          have h3 := HAP.out j k h1 hlt
          rw [h2, HTO.out] at h3
          exact absurd rfl h3
      rw [hsf] at z0
      obtain ⟨x0, x1⟩ := rowc2 Ry.out
      have hq0 : decide ((t : Int) < 0) = false := decide_eq_false (by omega)
      have hq1 : decide ((t : Int) ≥ (n : Int)) = false := decide_eq_false (by omega)
      have htI : (t : Int) < (n : Int) := by omega
      have HT6 := Lib.hid (HTy.out.store t true HS.out.1.symm)
      have R6 : Hid ((Wy.setCell ⟨g, t, none⟩ (.bool true)).heap[X]? = some (.cells #[.int .i64 (t : Int), .int .i64 (o : Int)] 47 (0, 0))) := (heap_setCell_other Wy ⟨g, t, none⟩ X _ (fun e => hgX e.symm)).trans Ry.out
      have HG6 := Lib.hid (grownBy_trans (grownBy_trans HG.out (grown_of_belowO HBy.out)) (grownBy_setCell Wy ⟨g, t, none⟩ (.bool true)))
      have HB6 := Lib.hid ((below_then HBB.out HBy.out).setCell (p := ⟨g, t, none⟩) HGE.out (.bool true))
      have HS6 : Hid ((S.set t true).length = n ∧ ∀ u, u < n → (S.set t true).getD u false = true → ∃ j, j < k + 1 ∧ (ol.getD j (0, 0)).1 = u) := ⟨by rw [List.length_set]; exact HS.out.1, fun u hu h => by
        rw [getD_setO] at h
        by_cases e : t = u
        · subst e
          exact ⟨k, by omega, by rw [HTO.out]⟩
        · rw [if_neg (fun h => e h.1)] at h
          obtain ⟨j, h1, h2⟩ := HS.out.2 u hu h
          exact ⟨j, by omega, h2⟩⟩
      obtain ⟨w6, hw6⟩ : ∃ w6, Wy.setCell ⟨g, t, none⟩ (.bool true) = w6 := ⟨_, rfl⟩
      rw [hw6] at HT6 R6 HG6 HB6
      have HW6 := Lib.hid hw6
      clear hw6 hsf HS HT HBk HG HBB HTy HBy
      go_upto_region 11 with fail
      rw [HW6.out]
      clear z0 z1 x0 x1 HW6 Ry
      have TC6 := Lib.hid (TC.out _ HB6.out)
      go_wp2_with fail
      refine TC6.out.mono ?_; rintro e w7 ⟨uc, rfl, hc7, hb7⟩
      have HC7 : Hid (SlS w7 2 uc (caRows cl)) := hc7.sls (by rw [caRows_length]; omega)
      obtain ⟨ac, kc, hve⟩ := hc7.lenC
      subst hve
      have HT7 := Lib.hid (ownB_below HT6.out hb7)
      have R7 := Lib.hid (row_below16 hb7 R6.out)
      have HG7 := Lib.hid (grownBy_trans HG6.out (grown_of_belowO hb7))
      have HB7 := Lib.hid (below_then HB6.out hb7)
      clear hc7 hb7 TC6 HT6 R6 HG6 HB6
      go_wp2_with fail
      go_loopw [51] (fun u51 wr => ∃ m : Nat, u51 = .int .i64 m ∧ m ≤ cl.length ∧ Hid (Below w7.heap.size w7 wr)) (fun u51 _ => cl.length - (intOf u51).toNat)
      case atStart => exact ⟨0, rfl, by omega, Below.refl _ _⟩
      case round =>
        obtain ⟨m, rfl, hm, HBm⟩ := hrel
        obtain ⟨wp, rfl⟩ : ∃ wo : World, wo = wr := ⟨_, rfl⟩
        by_cases hltm : m < cl.length
        · have hltmI : (m : Int) < (cl.length : Int) := by omega
          have hmc : cl.getD m (0, 0) ∈ cl := by rw [List.getD_eq_getElem?_getD, List.getElem?_eq_getElem hltm]; exact List.getElem_mem hltm
          have HCm := Lib.hid (HC7.out.below HBm.out)
          have hla := HLA.out _ _ HME.out hmc
          rw [HTO.out] at hla
          obtain ⟨⟨y1, y2⟩, he⟩ : ∃ e, cl.getD m (0, 0) = e := ⟨_, rfl⟩
          have HEM := Lib.hid he
          obtain ⟨b3, off3, cp3, hve, hb3, d0, d1⟩ := (HCm.out).ca m hltm he
          simp only [Value.slice.injEq] at hve
          obtain ⟨rfl, -, rfl⟩ := hve
          dsimp only at d0 d1
          clear he

          rw [HEM.out] at hla
          have HLX : Hid (y1 = (t : Int) → y2 ≤ (o : Int)) := hla
          have Rp := Lib.hid (row_below16 HBm.out R7.out)
          clear hla hmc
          obtain ⟨Wz, hWz⟩ : ∃ Wz, (wp.alloc (.cells #[.int .i64 0, .int .i64 0] 47)).setRow wp.heap.size #[.int .i64 y1, .int .i64 y2] = Wz := ⟨_, rfl⟩
          have Nz : Hid ((wp.alloc (.cells #[.int .i64 0, .int .i64 0] 47)).heap[wp.heap.size]? = some (.cells #[.int .i64 0, .int .i64 0] 47 (0, 0))) := heap_alloc_new _ _
          have HBz : Hid (Below wp.heap.size wp Wz) := hWz ▸ row_below (below_new (Below.refl _ _) _) (Nat.le_refl _) _
          have Rz : Hid (Wz.heap[wp.heap.size]? = some (.cells #[.int .i64 y1, .int .i64 y2] 47 (0, 0))) := hWz ▸ setRow_heap _ _ _ _ _ (0, 0) Nz.out
          have HWz := Lib.hid hWz
          clear hWz
          go_upto_region 14 with (refine wpList_store_row rfl 47 _ _ rfl (wp.heap.size) _ rfl rfl 47 #[.int .i64 0, .int .i64 0] Nz.out (by kernel_rfl) rfl (by simp [Value.oneCell']) ?_)
          rw [HWz.out]
          try simp only [Act.put]
          clear HWz Nz
          obtain ⟨Z, hZ⟩ : ∃ D, wp.heap.size = D := ⟨_, rfl⟩
          rw [hZ] at Rz
          rw [hZ]
          clear hZ d0 d1
          have Rpz := Lib.hid (row_below16 HBz.out Rp.out)
          have HBn := Lib.hid (below_then HBm.out HBz.out)
          obtain ⟨x0, x1⟩ := rowc2 Rpz.out
          obtain ⟨v0, v1⟩ := rowc2 Rz.out
          by_cases he : y1 = (t : Int)
          · have hq : (y1 == (t : Int)) = true := by simpa using he
            have hq2 : decide (y2 > (o : Int)) = false := decide_eq_false (by have := HLX.out he; omega)
            clear he HLX
            go_wp2_with fail
            go_roundw
            case rel => exact ⟨m + 1, by go_num, by omega, HBn⟩
            case measure => simp [intOf]; omega
          · have hq : (y1 == (t : Int)) = false := by simpa using he
            clear he HLX
            go_wp2_with fail
            go_roundw
            case rel => exact ⟨m + 1, by go_num, by omega, HBn⟩
            case measure => simp [intOf]; omega
        · have hge : ¬ (m : Int) < (cl.length : Int) := by omega
          have HTn := Lib.hid (ownB_below HT7.out HBm.out)
          have HGn := Lib.hid (grownBy_trans HG7.out (grown_of_belowO HBm.out))
          have HBn : Hid (w2.grownBy wp none) := grown_of_belowO (below_then HB7.out HBm.out)
          clear HT7 HG7 HB7 R7 HBm
          go_wp2_with fail
          go_roundw
          case rel => exact ⟨k + 1, _, by go_num, by omega, HS6, HTn, HBn, HGn⟩
          case measure => simp [intOf]; omega
    · have hge : ¬ (k : Int) < (ol.length : Int) := by omega
      have T1 := Lib.hid (TD.out _ HBB.out)
      clear HS HT HG HBk
      go_wp2_with fail
      refine T1.out.mono ?_; rintro e w5 ⟨u1, rfl, hc5, hb5⟩
      obtain ⟨a1, k1, hve⟩ := hc5.lenC
      subst hve
      have HB5' := Lib.hid (below_then HBB.out hb5)
      have T2 := Lib.hid (TO.out _ HB5'.out)
      clear hc5 hb5 T1
      go_wp2_with fail
      refine T2.out.mono ?_; rintro e w6 ⟨u2, rfl, hc6, hb6⟩
      obtain ⟨a2, k2, hve⟩ := hc6.lenC
      subst hve
      have HB6' := Lib.hid (below_then HB5'.out hb6)
      have T3 := Lib.hid (TD.out _ HB6'.out)
      clear hc6 hb6 T2
      go_wp2_with fail
      refine T3.out.mono ?_; rintro e w7 ⟨u3, rfl, hc7, hb7⟩
      obtain ⟨a3, k3, hve⟩ := hc7.lenC
      subst hve
      have HB7' := Lib.hid (below_then HB6'.out hb7)
      have hcn := HCN.out
      have e1 : IntKind.i64.wrap ((cl.length : Int) - (ol.length : Int)) = (cl.length : Int) - (ol.length : Int) := by rw [IntKind.wrap_i64]; omega
      have e2 : IntKind.i64.wrap ((nl : Int) - (cl.length : Int)) = (nl : Int) - (cl.length : Int) := by rw [IntKind.wrap_i64]; omega
      have e3 : (((cl.length : Int) - (ol.length : Int)) == ((nl : Int) - (cl.length : Int))) = true := by simp; omega
      clear hc7 hb7 T3 HB5' HB6' hcn
      go_wp2
      go_ret
      exact ⟨rfl, below_then HB2.out HB7'.out⟩
set_option maxRecDepth 100000 in
theorem lifted (os : Os) (started : os.Started) (H : Type) (enc : TypeId × Value → H) :
    ReturnsInHanded {} Try.checked os 7 .any (Rows.historyOpenSpec.pre6 enc Try.prog Try.f7 Rows.historyOpenRow.domain false) (Rows.historyOpenSpec.post enc Try.prog Try.f7 false true false false) := by
  refine returnsInHanded_of_change_sized (C := Try.checked) own started (by kernel_rfl) Try.func7
    (ChangeSpec.witness6 (enc := enc) (C := Try.checked) false ⟨#[], #[.slice none 0 0], []⟩ 8 (by kernel_rfl) (by kernel_rfl) (by kernel_rfl) (by kernel_rfl)) ?_
  intro W base args ds gs before hval0 hW _ hsz0 _
  have hsz : (DataW.weightsEach Try.prog (Try.f7.params.toList ++ Rows.historyOpenSpec.plain.varTypes Try.prog) (ds ++ gs)).all (· ≤ reachBytes) = true := hsz0
  clear hsz0
  have hval : ∀ (j : Nat) t v, Try.f7.params[j]? = some t → args[j]? = some v → Value.okWide Try.prog W .any base t v := hval0
  have hW' := hW
  obtain ⟨p, q, hA0, hV, rfl, _, _⟩ := hW
  have hA : DataW.TrodAll enc Try.prog W 0 (fun _ => true) true Try.f7.params.toList args.toList ds p := hA0
  rw [Try.params7] at hA hval hsz
  obtain ⟨v0, vs0, d0, ds0, p0, q0, hargs, rfl, rfl, h0, rr0⟩ := trodAll_cons hA
  obtain ⟨rfl, rfl, rfl⟩ := trodAll_nil rr0
  obtain rfl : args = #[v0] := by cases args; simp_all
  obtain ⟨rfl, rfl⟩ := trodVars_none hV
  have k0 := h0
  obtain ⟨l0, s0⟩ := view_sl (k := .u8) Try.underlying22 Try.underlying5 (by kernel_rfl) (fun elems sp hd => sized_slice hsz (j := 0) (t := 22) (e := 5) rfl (by rw [hd]; rfl) Try.underlying22) (of_decide_eq_true (by kernel_rfl)) (hval 0 22 v0 rfl rfl) h0
  clear hA0 hval0
  simp only [List.append_nil] at hW'
  have hlt := hW'.lt
  refine (walk W v0 l0 s0).mono fun e W' ⟨he, hb⟩ => ?_
  subst he
  exact ⟨_, rfl, _, _, _, [], _, [], hW', trodAll_cons_mk (shut_bool Try.underlying4 _) trodAll_mk0, (trodAll_cons_mk (Below.trod Try.laidOut (by kernel_rfl) (of_decide_eq_true (by kernel_rfl)) k0 hb (fun x hx => by simpa using hlt x (by simp [hx]))) trodAll_mk0), rfl, hb.frame _, fun h => by cases h⟩
theorem over : Rows.historyOpenRow.holds Try.pinned (OpenSpec.ofChange Rows.historyOpenSpec) :=
  OpenClaim.holds_of_wide 7 Try.f7 rfl rfl rfl rfl rfl rfl rfl ⟨rfl, rfl, rfl, rfl, rfl⟩ rfl rfl rfl rfl rfl (by kernel_rfl) Try.func7 (by kernel_rfl)
    (of_decide_eq_true (by kernel_rfl)) (by unfold Func.isWrapper; first | (rw [if_pos (by decide +kernel)]; kernel_rfl) | (rw [if_neg (by decide +kernel)]; exact ⟨rfl, rfl⟩))
    (fun os started H enc _ => lifted os started H enc)
/-- THE STATEMENT -/
theorem proved : Rows.HistoryOpenSaid :=
  over
end Go.Proofs.Ytnbehigjeopniaa.historyOpen
