import Derived.Deep.DeepCutAuto
import Derived.Deep.CutBlock
import Derived.Test.YtnbehigjeopniaaB14
import Derived.Test.YtnbehigjeopniaaB07
set_option linter.unusedVariables false
set_option linter.unusedSimpArgs false
/- Layer 16: the program's Open. -/
namespace Go.Proofs.Ytnbehigjeopniaa
open Go.ChangeShapes Go.WideShapes Go.ChangeAt Go.RowKit
set_option maxRecDepth 100000

set_option maxRecDepth 100000 in
set_option maxHeartbeats 16000000 in
theorem hopen_any (v : Value) (l : List EvM) (w : World) (hv : SlS w 8 v (evRows l)) (hl : l.length ≤ 1000000) (h64 : ∀ e ∈ l, C64 (callOf e)) : Calls Try.prog 23 #[v] w fun e w' => ∃ u, e = .returned u ∧ OwnS w' w.heap.size 47 2 u (caRows (openE l)) ∧ Below w.heap.size w w' := by
  have hmm := @run_makeMap Try.prog
  have TC := Lib.hid fun w' (hb : Below w.heap.size w w') => hcalls_any v l w' (hv.below hb) hl
  have H64 : Hid (∀ i, i < l.length → C64 (callOf (l.getD i evZ))) := fun i hi => h64 _ (by rw [List.getD_eq_getElem?_getD, List.getElem?_eq_getElem hi]; exact List.getElem_mem hi)
  have HC64 : Hid (∀ c ∈ callsE l, C64 c) := fun c hc => by
    unfold callsE at hc
    obtain ⟨e, he, rfl⟩ := List.mem_map.1 hc
    exact h64 e (List.mem_filter.1 he).1
  have hlc := callsE_le l
  have HOP : Hid (openE l = (callsE l).filter (openP l)) := rfl
  have HQ := Lib.hid (openP_end l)
  obtain ⟨cl, hcl⟩ : ∃ c, callsE l = c := ⟨_, rfl⟩
  rw [hcl] at TC HOP HC64 hlc
  have HV := Lib.hid hv
  obtain ⟨a, cap, rfl, -⟩ := hv.lenE
  have HTC : Hid (∀ i, i < l.length → ∀ w', Calls Try.prog 35 #[evV (l.getD i evZ)] w' fun x w2 => x = .returned (.agg #[.int .i64 (l.getD i evZ).thr, .int .i64 (l.getD i evZ).op]) ∧ Below w'.heap.size w' w2) := fun i _ w' => hcallOf_any _ w'
  clear hv hcl h64
  go_enter Try.func23, Try.ntmps23
  go_upto_region 2 with fail
  have HM0 := Lib.hid (MapB.made w)
  have HB0 := Lib.hid (below_new (Below.refl w.heap.size w) (.map #[] 0))
  generalize w.alloc (.map #[] 0) = w0 at *
  obtain ⟨B, hB⟩ : ∃ B, w.heap.size = B := ⟨_, rfl⟩
  have HBB := Lib.hid hB
  rw [hB] at HM0
  rw [hB]
  clear hB
  go_wp2_with fail
  go_loopw [12] (fun u12 wr => ∃ i : Nat, u12 = .int .i64 i ∧ i ≤ l.length ∧ Hid (∃ f, MapB wr B i f ∧ ∀ c, f c = endF (l.take i) c) ∧ Hid (Below w.heap.size w wr)) (fun u12 _ => l.length - (intOf u12).toNat)
  case atStart => exact ⟨0, rfl, by omega, ⟨_, HM0, fun c => rfl⟩, HB0⟩
  case round =>
    clear HM0 HB0
    obtain ⟨i, rfl, hi, HM, HB⟩ := hrel
    obtain ⟨wo, rfl⟩ : ∃ wo : World, wo = wr := ⟨_, rfl⟩
    by_cases hlt : i < l.length
    · have hltI : (i : Int) < (l.length : Int) := by omega
      have HS := Lib.hid (endF_take hlt)
      have T6 := Lib.hid (HTC.out i hlt)
      have HC6 := Lib.hid (H64.out i hlt)
      obtain ⟨⟨et, eo, er, ⟨rk, rc, rv, ro, rn⟩⟩, he⟩ : ∃ e, l.getD i evZ = e := ⟨_, rfl⟩
      have HE := Lib.hid he
      obtain ⟨b, off, cp, hve, hb, c0, c1, c2, c3, c4, c5, c6, c7⟩ := (HV.out.below HB.out).ev i hlt he
      simp only [Value.slice.injEq] at hve
      obtain ⟨rfl, -, rfl⟩ := hve
      dsimp only at c0 c1 c2 c3 c4 c5 c6 c7
      clear he

      rw [HE.out] at HS T6 HC6
      unfold evV at T6
      dsimp only at T6
      dsimp only [callOf] at HC6 HS
      obtain ⟨Wy, hWy⟩ : ∃ Wy, (wo.alloc (.cells #[.int .i64 0, .int .i64 0, .bool false, .int .i64 0, .int .i64 0, .int .u64 0, .bool false, .int .i64 0] 34)).setRow wo.heap.size #[.int .i64 et, .int .i64 eo, .bool er, .int .i64 rk, .int .i64 rc, .int .u64 rv, .bool ro, .int .i64 rn] = Wy := ⟨_, rfl⟩
      have Ny : Hid ((wo.alloc (.cells #[.int .i64 0, .int .i64 0, .bool false, .int .i64 0, .int .i64 0, .int .u64 0, .bool false, .int .i64 0] 34)).heap[wo.heap.size]? = some (.cells #[.int .i64 0, .int .i64 0, .bool false, .int .i64 0, .int .i64 0, .int .u64 0, .bool false, .int .i64 0] 34 (0, 0))) := heap_alloc_new _ _
      have HBy : Hid (Below wo.heap.size wo Wy) := hWy ▸ row_below (below_new (Below.refl _ _) _) (Nat.le_refl _) _
      have Ry : Hid (Wy.heap[wo.heap.size]? = some (.cells #[.int .i64 et, .int .i64 eo, .bool er, .int .i64 rk, .int .i64 rc, .int .u64 rv, .bool ro, .int .i64 rn] 34 (0, 0))) := hWy ▸ setRow_heap _ _ _ _ _ (0, 0) Ny.out
      have HWy := Lib.hid hWy
      clear hWy
      go_upto_region 5 with (refine wpList_store_row rfl 34 _ _ rfl (wo.heap.size) _ rfl rfl 34 #[.int .i64 0, .int .i64 0, .bool false, .int .i64 0, .int .i64 0, .int .u64 0, .bool false, .int .i64 0] Ny.out (by kernel_rfl) rfl (by simp [Value.oneCell']) ?_)
      rw [HWy.out]
      try simp only [Act.put]
      clear HWy Ny
      obtain ⟨Y, hY⟩ : ∃ Y, wo.heap.size = Y := ⟨_, rfl⟩
      rw [hY] at Ry
      rw [hY]
      clear hY
      have HM2 : Hid (∃ f, MapB Wy B i f ∧ ∀ c, f c = endF (l.take i) c) := by obtain ⟨f, h1, h2⟩ := HM.out; exact ⟨f, h1.below HBy.out, h2⟩
      have HB2 := Lib.hid (below_then HB.out HBy.out)
      obtain ⟨y0, y1, y2, y3, y4, y5, y6, y7⟩ := rowc8 Ry.out
      clear c0 c1 c2 c3 c4 c5 c6 c7 HM HB HBy
      cases er with
      | false =>
        have HM3 : Hid (∃ f, MapB Wy B (i + 1) f ∧ ∀ c, f c = endF (l.take (i + 1)) c) := by
          obtain ⟨f, ⟨D, h1, h3⟩, h2⟩ := HM2.out
          exact ⟨f, ⟨D, h1.mono (by omega), h3⟩, fun c => by rw [HS.out, h2 c, Bool.false_and, Bool.or_false]⟩
        go_wp2_with fail
        go_roundw
        case rel => exact ⟨i + 1, by go_num, by omega, HM3, HB2⟩
        case measure => simp [intOf]; omega
      | true =>
        go_wp2_with fail
        refine (T6.out _).mono ?_; rintro e w3 ⟨rfl, hb3⟩
        have HM3 : Hid (∃ f, MapB w3 B i f ∧ ∀ c, f c = endF (l.take i) c) := by obtain ⟨f, h1, h2⟩ := HM2.out; exact ⟨f, h1.below hb3, h2⟩
        have HB3 := Lib.hid (below_then HB2.out hb3)
        clear hb3 HM2 HB2 T6 y0 y1 y2 y3 y4 y5 y6 y7
        obtain ⟨fm, hfm⟩ := HM3.out
        have HF := Lib.hid hfm
        clear hfm HM3
        go_wp2_with (at_mapUpdate; refine wp_put_b HF.out.1 (by omega) rfl _ _ _ rfl (et, eo) HC6.out rfl rfl rfl ?_; intro w4 h4 h5; have H4 := Lib.hid h4; have H5 := Lib.hid h5; clear h4 h5)
        have HM4 : Hid (∃ f, MapB w4 B (i + 1) f ∧ ∀ c, f c = endF (l.take (i + 1)) c) := ⟨_, H4.out, fun c => by
          rw [HS.out, HF.out.2 c, Bool.true_and, Bool.or_comm]
          congr 1
          by_cases e : c = (et, eo)
          · rw [e]
          · rw [show (c == (et, eo)) = false by simpa using e, show ((et, eo) == c) = false by simpa using fun h => e h.symm]⟩
        have HB4 : Hid (Below w.heap.size w w4) := HB3.out.grown H5.out HB3.out.size (fun j hj => by cases hj; rw [HBB.out]; exact Nat.le_refl _)
        go_roundw
        case rel => exact ⟨i + 1, by go_num, by omega, HM4, HB4⟩
        case measure => simp [intOf]; omega
    · have hge : ¬ (i : Int) < (l.length : Int) := by omega
      have HM2 : Hid (∃ f, MapB wo B i f ∧ ∀ c, f c = !openP l c) := by
        obtain ⟨f, h1, h2⟩ := HM.out
        exact ⟨f, h1, fun c => by rw [HQ.out, Bool.not_not, h2 c, List.take_of_length_le (by omega)]⟩
      have T6 := Lib.hid (TC.out wo HB.out)
      clear HM TC HTC
      go_wp2_with fail
      refine T6.out.mono ?_; rintro e w1 ⟨uc, rfl, hoc, hb1⟩
      have HC : Hid (SlS w1 2 uc (caRows cl)) := hoc.sls (by rw [caRows_length]; omega)
      obtain ⟨ac, kc, hve⟩ := hoc.lenC
      subst hve
      have HB1 := Lib.hid (below_then HB.out hb1)
      have HM3 : Hid (∃ f, MapB w1 B i f ∧ ∀ c, f c = !openP l c) := by obtain ⟨f, h1, h2⟩ := HM2.out; exact ⟨f, h1.below hb1, h2⟩
      obtain ⟨fm, hfm⟩ := HM3.out
      have HF := Lib.hid hfm
      have hcl : cl.length ≤ 1000000 := by omega
      clear T6 hoc hb1 HM2 HM3 hfm
      go_wp2_with fail
      go_loopw [6, 25] (fun u6 u25 wr => ∃ (k : Nat) (u : Value), u = u6 ∧ u25 = .int .i64 k ∧ k ≤ cl.length ∧ Hid (OwnS wr w1.heap.size 47 2 u (caRows ((cl.take k).filter (openP l)))) ∧ Hid (Below w1.heap.size w1 wr)) (fun _ u25 _ => cl.length - (intOf u25).toNat)
      case atStart => exact ⟨0, _, rfl, rfl, by omega, OwnS.nil _ _ _ _, Below.refl _ _⟩
      case round =>
        clear HB
        obtain ⟨k, u, rfl, rfl, hk, HO, HB⟩ := hrel
        obtain ⟨wp, rfl⟩ : ∃ wo : World, wo = wr := ⟨_, rfl⟩
        by_cases hltk : k < cl.length
        · have hltkI : (k : Int) < (cl.length : Int) := by omega
          have HS := Lib.hid (filter_take (p := openP l) hltk (0, 0))
          have HLW : Hid (((cl.take k).filter (openP l)).length ≤ 1000000) := Nat.le_trans (List.length_filter_le _ _) (by rw [List.length_take]; omega)
          have HCK : Hid (C64 (cl.getD k (0, 0))) := HC64.out _ (by rw [List.getD_eq_getElem?_getD, List.getElem?_eq_getElem hltk]; exact List.getElem_mem hltk)
          obtain ⟨⟨x1, x2⟩, he⟩ : ∃ e, cl.getD k (0, 0) = e := ⟨_, rfl⟩
          have HCI := Lib.hid he
          obtain ⟨b2, off2, cp2, hve, hb2, d0, d1⟩ := (HC.out.below HB.out).ca k hltk he
          simp only [Value.slice.injEq] at hve
          obtain ⟨rfl, -, rfl⟩ := hve
          dsimp only at d0 d1
          clear he

          rw [HCI.out] at HS HCK
          obtain ⟨Wy, hWy⟩ : ∃ Wy, (wp.alloc (.cells #[.int .i64 0, .int .i64 0] 47)).setRow wp.heap.size #[.int .i64 x1, .int .i64 x2] = Wy := ⟨_, rfl⟩
          have Ny : Hid ((wp.alloc (.cells #[.int .i64 0, .int .i64 0] 47)).heap[wp.heap.size]? = some (.cells #[.int .i64 0, .int .i64 0] 47 (0, 0))) := heap_alloc_new _ _
          have HBy : Hid (Below wp.heap.size wp Wy) := hWy ▸ row_below (below_new (Below.refl _ _) _) (Nat.le_refl _) _
          have Ry : Hid (Wy.heap[wp.heap.size]? = some (.cells #[.int .i64 x1, .int .i64 x2] 47 (0, 0))) := hWy ▸ setRow_heap _ _ _ _ _ (0, 0) Ny.out
          have HWy := Lib.hid hWy
          clear hWy
          go_upto_region 12 with (refine wpList_store_row rfl 47 _ _ rfl (wp.heap.size) _ rfl rfl 47 #[.int .i64 0, .int .i64 0] Ny.out (by kernel_rfl) rfl (by simp [Value.oneCell']) ?_)
          rw [HWy.out]
          try simp only [Act.put]
          clear HWy Ny
          obtain ⟨Y, hY⟩ : ∃ Y, wp.heap.size = Y := ⟨_, rfl⟩
          rw [hY] at Ry
          rw [hY]
          clear hY
          have HO2 := Lib.hid (HO.out.below HBy.out)
          have HB2 := Lib.hid (below_then HB.out HBy.out)
          have HF2 := Lib.hid (HF.out.1.below HB2.out)
          have HP := Lib.hid (HF.out.2 (x1, x2))
          obtain ⟨y0, y1⟩ := rowc2 Ry.out
          obtain ⟨q, hq⟩ : ∃ q, openP l (x1, x2) = q := ⟨_, rfl⟩
          rw [hq] at HP
          rw [hq] at HS
          have hsz := HB2.out.size
          clear d0 d1 HO HB HBy hq
          go_upto_if 32 with (at_lookup; refine wp_look_b HF2.out rfl _ _ rfl (x1, x2) HCK.out rfl rfl ?_; rw [HP.out])
          cases q with
          | false =>
            have HS2 : Hid ((cl.take (k + 1)).filter (openP l) = (cl.take k).filter (openP l)) := by show _ = _; rw [HS.out, if_neg (by decide), List.append_nil]
            clear HS
            go_wp2_with fail
            go_roundw
            case rel => exact ⟨k + 1, u, rfl, by go_num, by omega, by rw [HS2.out]; exact HO2, HB2⟩
            case measure => simp [intOf]; omega
          | true =>
            have HS2 : Hid ((cl.take (k + 1)).filter (openP l) = (cl.take k).filter (openP l) ++ [(x1, x2)]) := by show _ = _; rw [HS.out, if_pos rfl]
            clear HS
            go_wp2_with (at_builtin; refine wp_append_s1 44 (by kernel_rfl) Try.info_pair rfl (by decide) (by decide) rfl _ _ rfl rfl (HO2.out.below (below_new (Below.refl _ _) _)) (caRow (x1, x2)) rfl (fun u hu => caRow_one _ u hu) _ rfl (by show (Array.push _ _)[_]? = _; exact Array.getElem?_push_size) (by have := HLW.out; rw [caRows_length]; omega) (by simp; omega) ?_; intro v2 w2 h1 h2; have H1 := Lib.hid h1; have H2 := Lib.hid h2; clear h1 h2)
            have HB3 : Hid (Below w1.heap.size w1 w2) := (below_new HB2.out _).grown H2.out (by have := HB2.out.size; simp; omega) (fun j hj => (HO2.out.lt j hj).1)
            go_roundw
            case rel => exact ⟨k + 1, v2, rfl, by go_num, by omega, by rw [HS2.out, caRows_snoc]; exact H1, HB3⟩
            case measure => simp [intOf]; omega
        · have hgek : ¬ (k : Int) < (cl.length : Int) := by omega
          have hkl : cl.take k = cl := List.take_of_length_le (by omega)
          have HO2 : Hid (OwnS wp w1.heap.size 47 2 u (caRows (openE l))) := by rw [hkl] at HO; rw [HOP.out]; exact HO
          clear HO hkl
          have HZ := HB1.out.size
          go_wp2
          go_ret
          exact ⟨u, rfl, ownS_mono HO2.out HZ, below_then HB1.out HB.out⟩
end Go.Proofs.Ytnbehigjeopniaa
