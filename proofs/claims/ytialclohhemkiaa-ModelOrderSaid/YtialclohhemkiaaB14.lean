import Derived.Deep.DeepCutAuto
import Derived.Deep.CutBlock
import Derived.Test.YtialclohhemkiaaB07
import Derived.Test.YtialclohhemkiaaB13
import Derived.Test.YtialclohhemkiaaB10
set_option linter.unusedVariables false
set_option linter.unusedSimpArgs false
/- Layer 14: an operation takes effect. -/
namespace Go.Proofs.Ytialclohhemkiaa
open Go.ChangeShapes Go.WideShapes Go.ChangeAt Go.RowKit
set_option maxRecDepth 100000

theorem chosen_ok {op : OpM} {r : ResM} {x : CaseM} (h : chosenE op r = some x) (hc : ∀ x ∈ op.cases, x.ok) (hok : op.chan = IntKind.i64.wrap op.chan ∧ op.val = IntKind.u64.wrap op.val) : x.val = IntKind.u64.wrap x.val := by
  unfold chosenE at h
  split at h
  · split at h
    · cases h
    · rename_i h2
      simp only [Option.some.injEq] at h
      subst h
      have h3 : r.case.toNat < op.cases.length := by omega
      rw [List.getD_eq_getElem?_getD, List.getElem?_eq_getElem h3]
      exact (hc _ (List.getElem_mem h3)).2
  · split at h
    · simp only [Option.some.injEq] at h
      subst h
      unfold oneC
      split
      · exact hok.2
      · split
        · exact hok.2
        · decide
    · cases h
set_option maxRecDepth 100000 in
set_option maxHeartbeats 16000000 in
theorem mapply_any (v vo : Value) (l : List ChanM) (op : OpM) (r : ResM) (w : World) (hv : SlH w v l) (hl : l.length ≤ 1000000) (hbf : ∀ c ∈ l, c.buf.length ≤ 999999) (h : OpV w vo op) (hok : op.chan = IntKind.i64.wrap op.chan ∧ op.val = IntKind.u64.wrap op.val) : Calls Try.prog 113 #[v, vo, resW r] w fun e w' => DoQ (modE l op r) w e w' := by
  have HV := Lib.hid hv
  have TE := Lib.hid fun w' (hb : Below w.heap.size w w') => mexists_any v l op.chan w' (hv.below hb)
  have TO := Lib.hid fun b1 b2 w' => monly_any r b1 b2 w'
  have TC := Lib.hid fun w' (hb : Below w.heap.size w w') => mchosen_any vo op r w' (h.below hb)
  have TB := Lib.hid fun w' (hb : Below w.heap.size w w') => mblocked_any v vo l op w' (hv.below hb) (h.below hb) hok
  have TD := Lib.hid fun x w' (hb : Below w.heap.size w w') hx => mdo_any v l x r w' (hv.below hb) hl hbf hx
  have HOK : Hid (∀ x, chosenE op r = some x → x.val = IntKind.u64.wrap x.val) := fun x hx => chosen_ok hx (by obtain ⟨_, _, _, hc, _⟩ := h; exact hc.2.1) hok
  obtain ⟨lc, hlc⟩ : ∃ c, chosenE op r = c := ⟨_, rfl⟩
  have HLC := Lib.hid hlc
  rw [hlc] at HOK TC
  obtain ⟨wv, hwv⟩ : ∃ b, waitsB op = b := ⟨_, rfl⟩
  have HWV := Lib.hid hwv
  obtain ⟨lo, hlo⟩ : ∃ o, modE l op r = o := ⟨_, rfl⟩
  rw [hlo]
  have HLO := Lib.hid hlo
  clear hlc hwv hlo
  obtain ⟨vc, vd, rfl, hc, hd⟩ := h
  obtain ⟨kd, md, ch, vl, dl, cs, ds⟩ := op
  obtain ⟨rk, rc, rv, rok, nm⟩ := r
  dsimp only at *
  obtain ⟨a3, cap3, rfl⟩ := hc.len
  obtain ⟨a4, cap4, rfl, -⟩ := hd.len
  unfold resW at TO TD TC ⊢
  dsimp only at TO TD TC ⊢
  have HL := Lib.hid hl
  obtain ⟨a, cap, hve, -⟩ := hv.len
  subst hve
  clear hv hl hbf hc hd hok
  obtain ⟨W, hW, HB, R0, R1, hz⟩ := two_new w (.cells #[.int .i64 kd, .int .i64 md, .int .i64 ch, .int .u64 vl, .int .i64 dl, .slice a3 cs.length cap3, .slice a4 ds.length cap4] 38) (.cells #[.int .i64 rk, .int .i64 rc, .int .u64 rv, .bool rok, .int .i64 nm] 25)
  have HW := Lib.hid hW
  clear hW
  go_enter Try.func113, Try.ntmps113
  go_upto_region 1 with fail
  rw [HW.out]
  clear HW
  obtain ⟨x0_0, x0_1, x0_2, x0_3, x0_4, x0_5, x0_6⟩ := rowc7 R0.out
  obtain ⟨x1_0, x1_1, x1_2, x1_3, x1_4⟩ := rowc5 R1.out
  go_cut [8] (fun s8 wx => s8 = .bool wv ∧ wx = W)
  case first =>
    unfold waitsB at HWV
    dsimp only at HWV
    by_cases k1 : kd = 1
    · subst k1
      have e : wv = true := by rw [← HWV.out]; rfl
      subst e
      go_wp2_with fail
      go_meet
      exact ⟨rfl, rfl⟩
    have k1b : (kd == 1) = false := by simpa using k1
    by_cases k2 : kd = 2
    · subst k2
      have e : wv = true := by rw [← HWV.out]; rfl
      subst e
      go_wp2_with fail
      go_meet
      exact ⟨rfl, rfl⟩
    have k2b : (kd == 2) = false := by simpa using k2
    have e : wv = (kd == 4) := by rw [← HWV.out, k1b, k2b]; rfl
    subst e
    go_wp2_with fail
    go_meet
    exact ⟨rfl, rfl⟩
  case rest =>
    obtain ⟨rfl, hwc⟩ := hcut
    have hwc' := hwc.symm
    subst hwc'
    clear hwc
    have hnone : lo = none → ∀ w' e v', Below W.heap.size W w' → e = .returned (.tuple #[v', .bool false]) → DoQ lo w e w' := fun h w' e v' hb he => ⟨v', false, he, .inr ⟨h, rfl⟩, below_then HB.out hb⟩
    have HNONE := Lib.hid hnone
    have hsame : lo = some l → ∀ w' e, Below W.heap.size W w' → e = .returned (.tuple #[.slice a l.length cap, .bool true]) → DoQ lo w e w' := fun h w' e hb he => ⟨_, true, he, .inl ⟨l, h, rfl, HV.out.below (below_then HB.out hb)⟩, below_then HB.out hb⟩
    have HSAME := Lib.hid hsame
    clear hnone hsame
    unfold modE at HLO
    rw [HLC.out] at HLO
    dsimp only at HLO
    by_cases q1 : rk = 1
    · subst q1
      have HBD : Hid (lo = lc.bind fun x => doE l x ⟨1, rc, rv, rok, nm⟩) := by show _ = _; rw [← HLO.out]; simp
      go_wp2_with fail
      refine (TC.out _ HB.out).mono ?_; rintro e w1 ⟨⟨s1, s2, s3⟩, bx, rfl, hlx, hb1⟩
      have HLX := Lib.hid hlx
      have HB1 := Lib.hid hb1
      have R1y := Lib.hid ((hb1.block (w.heap.size + 1) (Array.getElem?_eq_some_iff.1 R1.out).1).trans R1.out)
      clear x0_0 x0_1 x0_2 x0_3 x0_4 x0_5 x0_6 x1_0 x1_1 x1_2 x1_3 x1_4 hb1 hlx
      unfold caseW
      dsimp only
      obtain ⟨Wx, hWx⟩ : ∃ Wx, (w1.alloc (.cells #[.bool false, .int .i64 0, .int .u64 0] 74)).setRow w1.heap.size #[.bool s1, .int .i64 s2, .int .u64 s3] = Wx := ⟨_, rfl⟩
      have Nx : Hid ((w1.alloc (.cells #[.bool false, .int .i64 0, .int .u64 0] 74)).heap[w1.heap.size]? = some (.cells #[.bool false, .int .i64 0, .int .u64 0] 74 (0, 0))) := heap_alloc_new _ _
      have HBx : Hid (Below w1.heap.size w1 Wx) := hWx ▸ row_below (below_new (Below.refl _ _) _) (Nat.le_refl _) _
      have Rx : Hid (Wx.heap[w1.heap.size]? = some (.cells #[.bool s1, .int .i64 s2, .int .u64 s3] 74 (0, 0))) := hWx ▸ setRow_heap _ _ _ _ _ (0, 0) Nx.out
      have HWx := Lib.hid hWx
      clear hWx
      go_upto_region 6 with (refine wpList_store_row rfl 74 _ _ rfl (w1.heap.size) _ rfl rfl 74 #[.bool false, .int .i64 0, .int .u64 0] Nx.out (by kernel_rfl) rfl (by simp [Value.oneCell']) ?_)
      rw [HWx.out]
      try simp only [Act.put]
      clear HWx Nx
      have HBX := Lib.hid (below_then HB1.out HBx.out)
      have R1z := Lib.hid ((HBx.out.block (w.heap.size + 1) (Array.getElem?_eq_some_iff.1 R1y.out).1).trans R1y.out)
      obtain ⟨x1_0, x1_1, x1_2, x1_3, x1_4⟩ := rowc5 R1z.out
      obtain ⟨y0, y1, y2⟩ := rowc3 Rx.out
      cases bx with
      | false =>
        have hr : Hid (lo = none) := by
          show _ = _
          rcases HLX.out with ⟨h2, -⟩ | ⟨-, h1⟩
          · cases h2
          · rw [HBD.out, h1]; rfl
        go_wp2
        refine bodyPost_ret (v := .tuple #[.slice none 0 0, .bool false]) (by simp [results, Try.results113, go_sem]) rfl ?_
        exact HNONE.out hr.out _ _ _ HBX.out rfl
      | true =>
        have hlx : lc = some ⟨s1, s2, s3⟩ := by
          rcases HLX.out with ⟨-, h1⟩ | ⟨h2, -⟩
          · exact h1
          · cases h2
        have HBE : Hid (lo = doE l ⟨s1, s2, s3⟩ ⟨1, rc, rv, rok, nm⟩) := by show _ = _; rw [HBD.out, hlx]; rfl
        have T := TD.out ⟨s1, s2, s3⟩ Wx (below_then HB.out HBX.out) (HOK.out _ hlx)
        unfold caseW at T
        dsimp only at T
        rw [← HBE.out] at T
        have T2 := Lib.hid T
        clear T hlx
        go_wp2_with fail
        refine T2.out.mono ?_; rintro e w3 ⟨v3, ok3, rfl, hq3, hb3⟩
        have HB3 := Lib.hid (below_then (below_then HB.out HBX.out) hb3)
        have HQ3 := Lib.hid hq3
        clear hq3 hb3 y0 y1 y2 x1_0 x1_1 x1_2 x1_3 x1_4
        go_wp2_with fail
        refine bodyPost_ret (v := .tuple #[v3, .bool ok3]) (by simp [results, Try.results113, go_sem]) rfl ?_
        exact ⟨v3, ok3, rfl, HQ3.out, HB3.out⟩
    have q1b : (rk == 1) = false := by simpa using q1
    by_cases q2 : rk = 2
    · subst q2
      have HBD : Hid (lo = lc.bind fun x => doE l x ⟨2, rc, rv, rok, nm⟩) := by show _ = _; rw [← HLO.out]; simp
      go_wp2_with fail
      refine (TC.out _ HB.out).mono ?_; rintro e w1 ⟨⟨s1, s2, s3⟩, bx, rfl, hlx, hb1⟩
      have HLX := Lib.hid hlx
      have HB1 := Lib.hid hb1
      have R1y := Lib.hid ((hb1.block (w.heap.size + 1) (Array.getElem?_eq_some_iff.1 R1.out).1).trans R1.out)
      clear x0_0 x0_1 x0_2 x0_3 x0_4 x0_5 x0_6 x1_0 x1_1 x1_2 x1_3 x1_4 hb1 hlx
      unfold caseW
      dsimp only
      obtain ⟨Wx, hWx⟩ : ∃ Wx, (w1.alloc (.cells #[.bool false, .int .i64 0, .int .u64 0] 74)).setRow w1.heap.size #[.bool s1, .int .i64 s2, .int .u64 s3] = Wx := ⟨_, rfl⟩
      have Nx : Hid ((w1.alloc (.cells #[.bool false, .int .i64 0, .int .u64 0] 74)).heap[w1.heap.size]? = some (.cells #[.bool false, .int .i64 0, .int .u64 0] 74 (0, 0))) := heap_alloc_new _ _
      have HBx : Hid (Below w1.heap.size w1 Wx) := hWx ▸ row_below (below_new (Below.refl _ _) _) (Nat.le_refl _) _
      have Rx : Hid (Wx.heap[w1.heap.size]? = some (.cells #[.bool s1, .int .i64 s2, .int .u64 s3] 74 (0, 0))) := hWx ▸ setRow_heap _ _ _ _ _ (0, 0) Nx.out
      have HWx := Lib.hid hWx
      clear hWx
      go_upto_region 6 with (refine wpList_store_row rfl 74 _ _ rfl (w1.heap.size) _ rfl rfl 74 #[.bool false, .int .i64 0, .int .u64 0] Nx.out (by kernel_rfl) rfl (by simp [Value.oneCell']) ?_)
      rw [HWx.out]
      try simp only [Act.put]
      clear HWx Nx
      have HBX := Lib.hid (below_then HB1.out HBx.out)
      have R1z := Lib.hid ((HBx.out.block (w.heap.size + 1) (Array.getElem?_eq_some_iff.1 R1y.out).1).trans R1y.out)
      obtain ⟨x1_0, x1_1, x1_2, x1_3, x1_4⟩ := rowc5 R1z.out
      obtain ⟨y0, y1, y2⟩ := rowc3 Rx.out
      cases bx with
      | false =>
        have hr : Hid (lo = none) := by
          show _ = _
          rcases HLX.out with ⟨h2, -⟩ | ⟨-, h1⟩
          · cases h2
          · rw [HBD.out, h1]; rfl
        go_wp2
        refine bodyPost_ret (v := .tuple #[.slice none 0 0, .bool false]) (by simp [results, Try.results113, go_sem]) rfl ?_
        exact HNONE.out hr.out _ _ _ HBX.out rfl
      | true =>
        have hlx : lc = some ⟨s1, s2, s3⟩ := by
          rcases HLX.out with ⟨-, h1⟩ | ⟨h2, -⟩
          · exact h1
          · cases h2
        have HBE : Hid (lo = doE l ⟨s1, s2, s3⟩ ⟨2, rc, rv, rok, nm⟩) := by show _ = _; rw [HBD.out, hlx]; rfl
        have T := TD.out ⟨s1, s2, s3⟩ Wx (below_then HB.out HBX.out) (HOK.out _ hlx)
        unfold caseW at T
        dsimp only at T
        rw [← HBE.out] at T
        have T2 := Lib.hid T
        clear T hlx
        go_wp2_with fail
        refine T2.out.mono ?_; rintro e w3 ⟨v3, ok3, rfl, hq3, hb3⟩
        have HB3 := Lib.hid (below_then (below_then HB.out HBX.out) hb3)
        have HQ3 := Lib.hid hq3
        clear hq3 hb3 y0 y1 y2 x1_0 x1_1 x1_2 x1_3 x1_4
        go_wp2_with fail
        refine bodyPost_ret (v := .tuple #[v3, .bool ok3]) (by simp [results, Try.results113, go_sem]) rfl ?_
        exact ⟨v3, ok3, rfl, HQ3.out, HB3.out⟩
    have q2b : (rk == 2) = false := by simpa using q2
    by_cases q5 : rk = 5
    · subst q5
      by_cases k3 : kd = 3
      · subst k3
        obtain ⟨o1, ho1⟩ : ∃ b, onlyB ⟨5, rc, rv, rok, nm⟩ false false = b := ⟨_, rfl⟩
        have T := Lib.hid (TO.out false false)
        rw [ho1] at T
        have HO1 := Lib.hid ho1
        clear ho1
        obtain ⟨ex, hex⟩ : ∃ b, exB l ch = b := ⟨_, rfl⟩
        rw [hex] at TE
        have HEX := Lib.hid hex
        clear hex
        have TEB : Hid (∀ w', Below w.heap.size w w' → Calls Try.prog 87 #[.slice a l.length cap, .int .i64 ch] w' fun e w2 => e = .returned (.bool ex) ∧ Below w'.heap.size w' w2) := fun w' hb => (TE.out w' hb).mono fun e w2 h => by
          obtain ⟨h1, rfl⟩ := h
          exact ⟨h1, Below.refl _ _⟩
        by_cases c1 : rc = -1
        · subst c1
          cases o1 with
          | false =>
            have hr : Hid (lo = none) := by show _ = _; rw [← HLO.out]; simp [HO1.out]
            go_upto_region 11 with fail
            have Xx0_0 := ext_cell _ _ ((Array.getElem?_eq_some_iff.1 R0.out).1) _ x0_0
            have Xx0_1 := ext_cell _ _ ((Array.getElem?_eq_some_iff.1 R0.out).1) _ x0_1
            have Xx0_2 := ext_cell _ _ ((Array.getElem?_eq_some_iff.1 R0.out).1) _ x0_2
            have Xx0_3 := ext_cell _ _ ((Array.getElem?_eq_some_iff.1 R0.out).1) _ x0_3
            have Xx0_4 := ext_cell _ _ ((Array.getElem?_eq_some_iff.1 R0.out).1) _ x0_4
            have Xx0_5 := ext_cell _ _ ((Array.getElem?_eq_some_iff.1 R0.out).1) _ x0_5
            have Xx0_6 := ext_cell _ _ ((Array.getElem?_eq_some_iff.1 R0.out).1) _ x0_6
            have Xx1_0 := ext_cell _ _ ((Array.getElem?_eq_some_iff.1 R1.out).1) _ x1_0
            have Xx1_1 := ext_cell _ _ ((Array.getElem?_eq_some_iff.1 R1.out).1) _ x1_1
            have Xx1_2 := ext_cell _ _ ((Array.getElem?_eq_some_iff.1 R1.out).1) _ x1_2
            have Xx1_3 := ext_cell _ _ ((Array.getElem?_eq_some_iff.1 R1.out).1) _ x1_3
            have Xx1_4 := ext_cell _ _ ((Array.getElem?_eq_some_iff.1 R1.out).1) _ x1_4
            clear x0_0 x0_1 x0_2 x0_3 x0_4 x0_5 x0_6 x1_0 x1_1 x1_2 x1_3 x1_4
            refine wp_region_ext W (by kernel_rfl) (by kernel_rfl) (Below.refl _ _) ?_
            repeat (go_big_quiet_step (first | (go_at_call 85; with_reducible exact calls_ext (T.out _)) | (go_at_call 87; with_reducible exact calls_ext (TEB.out _ (below_then HB.out (Ext.below _))))))
            refine wpQuiet_nil ?_
            intro _ hw'
            obtain ⟨n9, rfl⟩ := hw'
            have HB9 := Lib.hid n9.below
            generalize n9.wd = w9 at *
            clear Xx0_0 Xx0_1 Xx0_2 Xx0_3 Xx0_4 Xx0_5 Xx0_6 Xx1_0 Xx1_1 Xx1_2 Xx1_3 Xx1_4
            go_wp2_with fail
            first | refine bodyPost_ret (v := .tuple #[.slice a l.length cap, .bool false]) (by simp [results, Try.results113, go_sem]) rfl ?_ | refine bodyPost_ret (v := .tuple #[.slice (some ⟨b, off, none⟩) l.length cap, .bool false]) (by simp [results, Try.results113, go_sem]) rfl ?_
            exact HNONE.out hr.out _ _ _ HB9.out rfl
          | true =>
            cases ex with
            | false =>
              have hr : Hid (lo = some l) := by show _ = _; rw [← HLO.out]; simp [HO1.out, HEX.out]
              go_upto_region 11 with fail
              have Xx0_0 := ext_cell _ _ ((Array.getElem?_eq_some_iff.1 R0.out).1) _ x0_0
              have Xx0_1 := ext_cell _ _ ((Array.getElem?_eq_some_iff.1 R0.out).1) _ x0_1
              have Xx0_2 := ext_cell _ _ ((Array.getElem?_eq_some_iff.1 R0.out).1) _ x0_2
              have Xx0_3 := ext_cell _ _ ((Array.getElem?_eq_some_iff.1 R0.out).1) _ x0_3
              have Xx0_4 := ext_cell _ _ ((Array.getElem?_eq_some_iff.1 R0.out).1) _ x0_4
              have Xx0_5 := ext_cell _ _ ((Array.getElem?_eq_some_iff.1 R0.out).1) _ x0_5
              have Xx0_6 := ext_cell _ _ ((Array.getElem?_eq_some_iff.1 R0.out).1) _ x0_6
              have Xx1_0 := ext_cell _ _ ((Array.getElem?_eq_some_iff.1 R1.out).1) _ x1_0
              have Xx1_1 := ext_cell _ _ ((Array.getElem?_eq_some_iff.1 R1.out).1) _ x1_1
              have Xx1_2 := ext_cell _ _ ((Array.getElem?_eq_some_iff.1 R1.out).1) _ x1_2
              have Xx1_3 := ext_cell _ _ ((Array.getElem?_eq_some_iff.1 R1.out).1) _ x1_3
              have Xx1_4 := ext_cell _ _ ((Array.getElem?_eq_some_iff.1 R1.out).1) _ x1_4
              clear x0_0 x0_1 x0_2 x0_3 x0_4 x0_5 x0_6 x1_0 x1_1 x1_2 x1_3 x1_4
              refine wp_region_ext W (by kernel_rfl) (by kernel_rfl) (Below.refl _ _) ?_
              repeat (go_big_quiet_step (first | (go_at_call 85; with_reducible exact calls_ext (T.out _)) | (go_at_call 87; with_reducible exact calls_ext (TEB.out _ (below_then HB.out (Ext.below _))))))
              refine wpQuiet_nil ?_
              intro _ hw'
              obtain ⟨n9, rfl⟩ := hw'
              have HB9 := Lib.hid n9.below
              generalize n9.wd = w9 at *
              clear Xx0_0 Xx0_1 Xx0_2 Xx0_3 Xx0_4 Xx0_5 Xx0_6 Xx1_0 Xx1_1 Xx1_2 Xx1_3 Xx1_4
              go_wp2_with fail
              first | refine bodyPost_ret (v := .tuple #[.slice a l.length cap, .bool true]) (by simp [results, Try.results113, go_sem]) rfl ?_ | refine bodyPost_ret (v := .tuple #[.slice (some ⟨b, off, none⟩) l.length cap, .bool true]) (by simp [results, Try.results113, go_sem]) rfl ?_
              exact HSAME.out hr.out _ _ HB9.out rfl
            | true =>
              have hx := HEX.out
              unfold exB at hx
              simp only [Bool.and_eq_true, decide_eq_true_eq] at hx
              obtain ⟨i, hi⟩ : ∃ i : Nat, ch = (i : Int) := ⟨ch.toNat, by omega⟩
              subst hi
              have hil : i < l.length := by omega
              have hiI : (i : Int) < (l.length : Int) := by omega
              obtain ⟨⟨cc, bf, cl⟩, hcc⟩ : ∃ c, l.getD i noChan = c := ⟨_, rfl⟩
              have HCE : Hid (chE l (i : Int) = ⟨cc, bf, cl⟩) := by
                show l.getD (Int.toNat (i : Int)) noChan = _
                rw [Int.toNat_natCast, hcc]
              have hmem : (⟨cc, bf, cl⟩ : ChanM) ∈ l := by
                rw [← hcc, List.getD_eq_getElem?_getD, List.getElem?_eq_getElem hil]
                exact List.getElem_mem hil
              have HCW : Hid (cc = IntKind.i64.wrap cc) := by
                obtain ⟨us, -, -, -, h4, -⟩ := HV.out
                exact h4 _ hmem
              have TS := Lib.hid fun c u w' (hb : Below w.heap.size w w') hu hcw => mset_any _ l i hil c u w' (HV.out.below hb) hu hcw HL.out
              obtain ⟨b, off, cap', u, hve, hbb, c0, c1, c2, hu, hfu⟩ := (HV.out.below (HB.out)).at2 i hil
              simp only [Value.slice.injEq] at hve
              obtain ⟨rfl, -, rfl⟩ := hve
              rw [hcc] at c0 c2 hu
              dsimp only at c0 c2 hu
              obtain ⟨ua, uc, rfl, -⟩ := hu.len
              have HU := Lib.hid hu
              have HUF : Hid (SlU _ (.slice ua bf.length uc) bf) := ⟨HU.out, hfu⟩
              clear hfu hx hcc hmem hu
              cases cl with
              | false =>
                have hr : Hid (lo = none) := by show _ = _; rw [← HLO.out]; simp [HO1.out, HEX.out, HCE.out]
                go_upto_region 11 with fail
                have Xx0_0 := ext_cell _ _ ((Array.getElem?_eq_some_iff.1 R0.out).1) _ x0_0
                have Xx0_1 := ext_cell _ _ ((Array.getElem?_eq_some_iff.1 R0.out).1) _ x0_1
                have Xx0_2 := ext_cell _ _ ((Array.getElem?_eq_some_iff.1 R0.out).1) _ x0_2
                have Xx0_3 := ext_cell _ _ ((Array.getElem?_eq_some_iff.1 R0.out).1) _ x0_3
                have Xx0_4 := ext_cell _ _ ((Array.getElem?_eq_some_iff.1 R0.out).1) _ x0_4
                have Xx0_5 := ext_cell _ _ ((Array.getElem?_eq_some_iff.1 R0.out).1) _ x0_5
                have Xx0_6 := ext_cell _ _ ((Array.getElem?_eq_some_iff.1 R0.out).1) _ x0_6
                have Xx1_0 := ext_cell _ _ ((Array.getElem?_eq_some_iff.1 R1.out).1) _ x1_0
                have Xx1_1 := ext_cell _ _ ((Array.getElem?_eq_some_iff.1 R1.out).1) _ x1_1
                have Xx1_2 := ext_cell _ _ ((Array.getElem?_eq_some_iff.1 R1.out).1) _ x1_2
                have Xx1_3 := ext_cell _ _ ((Array.getElem?_eq_some_iff.1 R1.out).1) _ x1_3
                have Xx1_4 := ext_cell _ _ ((Array.getElem?_eq_some_iff.1 R1.out).1) _ x1_4
                have Xc0 := ext_cell _ _ (hbb) _ c0
                have Xc1 := ext_cell _ _ (hbb) _ c1
                have Xc2 := ext_cell _ _ (hbb) _ c2
                clear x0_0 x0_1 x0_2 x0_3 x0_4 x0_5 x0_6 x1_0 x1_1 x1_2 x1_3 x1_4 c0 c1 c2
                refine wp_region_ext W (by kernel_rfl) (by kernel_rfl) (Below.refl _ _) ?_
                repeat (go_big_quiet_step (first | (go_at_call 85; with_reducible exact calls_ext (T.out _)) | (go_at_call 87; with_reducible exact calls_ext (TEB.out _ (below_then HB.out (Ext.below _))))))
                refine wpQuiet_nil ?_
                intro _ hw'
                obtain ⟨n9, rfl⟩ := hw'
                have HB9 := Lib.hid n9.below
                generalize n9.wd = w9 at *
                clear Xx0_0 Xx0_1 Xx0_2 Xx0_3 Xx0_4 Xx0_5 Xx0_6 Xx1_0 Xx1_1 Xx1_2 Xx1_3 Xx1_4 Xc0 Xc1 Xc2
                go_wp2_with fail
                first | refine bodyPost_ret (v := .tuple #[.slice a l.length cap, .bool false]) (by simp [results, Try.results113, go_sem]) rfl ?_ | refine bodyPost_ret (v := .tuple #[.slice (some ⟨b, off, none⟩) l.length cap, .bool false]) (by simp [results, Try.results113, go_sem]) rfl ?_
                exact HNONE.out hr.out _ _ _ HB9.out rfl
              | true =>
                have hr : Hid (lo = some l) := by show _ = _; rw [← HLO.out]; simp [HO1.out, HEX.out, HCE.out]
                go_upto_region 11 with fail
                have Xx0_0 := ext_cell _ _ ((Array.getElem?_eq_some_iff.1 R0.out).1) _ x0_0
                have Xx0_1 := ext_cell _ _ ((Array.getElem?_eq_some_iff.1 R0.out).1) _ x0_1
                have Xx0_2 := ext_cell _ _ ((Array.getElem?_eq_some_iff.1 R0.out).1) _ x0_2
                have Xx0_3 := ext_cell _ _ ((Array.getElem?_eq_some_iff.1 R0.out).1) _ x0_3
                have Xx0_4 := ext_cell _ _ ((Array.getElem?_eq_some_iff.1 R0.out).1) _ x0_4
                have Xx0_5 := ext_cell _ _ ((Array.getElem?_eq_some_iff.1 R0.out).1) _ x0_5
                have Xx0_6 := ext_cell _ _ ((Array.getElem?_eq_some_iff.1 R0.out).1) _ x0_6
                have Xx1_0 := ext_cell _ _ ((Array.getElem?_eq_some_iff.1 R1.out).1) _ x1_0
                have Xx1_1 := ext_cell _ _ ((Array.getElem?_eq_some_iff.1 R1.out).1) _ x1_1
                have Xx1_2 := ext_cell _ _ ((Array.getElem?_eq_some_iff.1 R1.out).1) _ x1_2
                have Xx1_3 := ext_cell _ _ ((Array.getElem?_eq_some_iff.1 R1.out).1) _ x1_3
                have Xx1_4 := ext_cell _ _ ((Array.getElem?_eq_some_iff.1 R1.out).1) _ x1_4
                have Xc0 := ext_cell _ _ (hbb) _ c0
                have Xc1 := ext_cell _ _ (hbb) _ c1
                have Xc2 := ext_cell _ _ (hbb) _ c2
                clear x0_0 x0_1 x0_2 x0_3 x0_4 x0_5 x0_6 x1_0 x1_1 x1_2 x1_3 x1_4 c0 c1 c2
                refine wp_region_ext W (by kernel_rfl) (by kernel_rfl) (Below.refl _ _) ?_
                repeat (go_big_quiet_step (first | (go_at_call 85; with_reducible exact calls_ext (T.out _)) | (go_at_call 87; with_reducible exact calls_ext (TEB.out _ (below_then HB.out (Ext.below _))))))
                refine wpQuiet_nil ?_
                intro _ hw'
                obtain ⟨n9, rfl⟩ := hw'
                have HB9 := Lib.hid n9.below
                generalize n9.wd = w9 at *
                clear Xx0_0 Xx0_1 Xx0_2 Xx0_3 Xx0_4 Xx0_5 Xx0_6 Xx1_0 Xx1_1 Xx1_2 Xx1_3 Xx1_4 Xc0 Xc1 Xc2
                go_wp2_with fail
                first | refine bodyPost_ret (v := .tuple #[.slice a l.length cap, .bool true]) (by simp [results, Try.results113, go_sem]) rfl ?_ | refine bodyPost_ret (v := .tuple #[.slice (some ⟨b, off, none⟩) l.length cap, .bool true]) (by simp [results, Try.results113, go_sem]) rfl ?_
                exact HSAME.out hr.out _ _ HB9.out rfl
        have c1b : (rc == -1) = false := by simpa using c1
        have hr : Hid (lo = none) := by show _ = _; rw [← HLO.out]; simp [c1]
        go_upto_region 11 with fail
        have Xx0_0 := ext_cell _ _ ((Array.getElem?_eq_some_iff.1 R0.out).1) _ x0_0
        have Xx0_1 := ext_cell _ _ ((Array.getElem?_eq_some_iff.1 R0.out).1) _ x0_1
        have Xx0_2 := ext_cell _ _ ((Array.getElem?_eq_some_iff.1 R0.out).1) _ x0_2
        have Xx0_3 := ext_cell _ _ ((Array.getElem?_eq_some_iff.1 R0.out).1) _ x0_3
        have Xx0_4 := ext_cell _ _ ((Array.getElem?_eq_some_iff.1 R0.out).1) _ x0_4
        have Xx0_5 := ext_cell _ _ ((Array.getElem?_eq_some_iff.1 R0.out).1) _ x0_5
        have Xx0_6 := ext_cell _ _ ((Array.getElem?_eq_some_iff.1 R0.out).1) _ x0_6
        have Xx1_0 := ext_cell _ _ ((Array.getElem?_eq_some_iff.1 R1.out).1) _ x1_0
        have Xx1_1 := ext_cell _ _ ((Array.getElem?_eq_some_iff.1 R1.out).1) _ x1_1
        have Xx1_2 := ext_cell _ _ ((Array.getElem?_eq_some_iff.1 R1.out).1) _ x1_2
        have Xx1_3 := ext_cell _ _ ((Array.getElem?_eq_some_iff.1 R1.out).1) _ x1_3
        have Xx1_4 := ext_cell _ _ ((Array.getElem?_eq_some_iff.1 R1.out).1) _ x1_4
        clear x0_0 x0_1 x0_2 x0_3 x0_4 x0_5 x0_6 x1_0 x1_1 x1_2 x1_3 x1_4
        refine wp_region_ext W (by kernel_rfl) (by kernel_rfl) (Below.refl _ _) ?_
        repeat (go_big_quiet_step (first | (go_at_call 85; with_reducible exact calls_ext (T.out _)) | (go_at_call 87; with_reducible exact calls_ext (TEB.out _ (below_then HB.out (Ext.below _))))))
        refine wpQuiet_nil ?_
        intro _ hw'
        obtain ⟨n9, rfl⟩ := hw'
        have HB9 := Lib.hid n9.below
        generalize n9.wd = w9 at *
        clear Xx0_0 Xx0_1 Xx0_2 Xx0_3 Xx0_4 Xx0_5 Xx0_6 Xx1_0 Xx1_1 Xx1_2 Xx1_3 Xx1_4
        go_wp2_with fail
        first | refine bodyPost_ret (v := .tuple #[.slice a l.length cap, .bool false]) (by simp [results, Try.results113, go_sem]) rfl ?_ | refine bodyPost_ret (v := .tuple #[.slice (some ⟨b, off, none⟩) l.length cap, .bool false]) (by simp [results, Try.results113, go_sem]) rfl ?_
        exact HNONE.out hr.out _ _ _ HB9.out rfl
      · have k3b : (kd == 3) = false := by simpa using k3
        have HBD : Hid (lo = lc.bind fun x => doE l x ⟨5, rc, rv, rok, nm⟩) := by show _ = _; rw [← HLO.out]; simp [k3]
        go_wp2_with fail
        refine (TC.out _ HB.out).mono ?_; rintro e w1 ⟨⟨s1, s2, s3⟩, bx, rfl, hlx, hb1⟩
        have HLX := Lib.hid hlx
        have HB1 := Lib.hid hb1
        have R1y := Lib.hid ((hb1.block (w.heap.size + 1) (Array.getElem?_eq_some_iff.1 R1.out).1).trans R1.out)
        clear x0_0 x0_1 x0_2 x0_3 x0_4 x0_5 x0_6 x1_0 x1_1 x1_2 x1_3 x1_4 hb1 hlx
        unfold caseW
        dsimp only
        obtain ⟨Wx, hWx⟩ : ∃ Wx, (w1.alloc (.cells #[.bool false, .int .i64 0, .int .u64 0] 74)).setRow w1.heap.size #[.bool s1, .int .i64 s2, .int .u64 s3] = Wx := ⟨_, rfl⟩
        have Nx : Hid ((w1.alloc (.cells #[.bool false, .int .i64 0, .int .u64 0] 74)).heap[w1.heap.size]? = some (.cells #[.bool false, .int .i64 0, .int .u64 0] 74 (0, 0))) := heap_alloc_new _ _
        have HBx : Hid (Below w1.heap.size w1 Wx) := hWx ▸ row_below (below_new (Below.refl _ _) _) (Nat.le_refl _) _
        have Rx : Hid (Wx.heap[w1.heap.size]? = some (.cells #[.bool s1, .int .i64 s2, .int .u64 s3] 74 (0, 0))) := hWx ▸ setRow_heap _ _ _ _ _ (0, 0) Nx.out
        have HWx := Lib.hid hWx
        clear hWx
        go_upto_region 13 with (refine wpList_store_row rfl 74 _ _ rfl (w1.heap.size) _ rfl rfl 74 #[.bool false, .int .i64 0, .int .u64 0] Nx.out (by kernel_rfl) rfl (by simp [Value.oneCell']) ?_)
        rw [HWx.out]
        try simp only [Act.put]
        clear HWx Nx
        have HBX := Lib.hid (below_then HB1.out HBx.out)
        have R1z := Lib.hid ((HBx.out.block (w.heap.size + 1) (Array.getElem?_eq_some_iff.1 R1y.out).1).trans R1y.out)
        obtain ⟨x1_0, x1_1, x1_2, x1_3, x1_4⟩ := rowc5 R1z.out
        obtain ⟨y0, y1, y2⟩ := rowc3 Rx.out
        cases bx with
        | false =>
          have hr : Hid (lo = none) := by
            show _ = _
            rcases HLX.out with ⟨h2, -⟩ | ⟨-, h1⟩
            · cases h2
            · rw [HBD.out, h1]; rfl
          go_wp2
          refine bodyPost_ret (v := .tuple #[.slice none 0 0, .bool false]) (by simp [results, Try.results113, go_sem]) rfl ?_
          exact HNONE.out hr.out _ _ _ HBX.out rfl
        | true =>
          have hlx : lc = some ⟨s1, s2, s3⟩ := by
            rcases HLX.out with ⟨-, h1⟩ | ⟨h2, -⟩
            · exact h1
            · cases h2
          have HBE : Hid (lo = doE l ⟨s1, s2, s3⟩ ⟨5, rc, rv, rok, nm⟩) := by show _ = _; rw [HBD.out, hlx]; rfl
          have T := TD.out ⟨s1, s2, s3⟩ Wx (below_then HB.out HBX.out) (HOK.out _ hlx)
          unfold caseW at T
          dsimp only at T
          rw [← HBE.out] at T
          have T2 := Lib.hid T
          clear T hlx
          go_wp2_with fail
          refine T2.out.mono ?_; rintro e w3 ⟨v3, ok3, rfl, hq3, hb3⟩
          have HB3 := Lib.hid (below_then (below_then HB.out HBX.out) hb3)
          have HQ3 := Lib.hid hq3
          clear hq3 hb3 y0 y1 y2 x1_0 x1_1 x1_2 x1_3 x1_4
          go_wp2_with fail
          refine bodyPost_ret (v := .tuple #[v3, .bool ok3]) (by simp [results, Try.results113, go_sem]) rfl ?_
          exact ⟨v3, ok3, rfl, HQ3.out, HB3.out⟩
    have q5b : (rk == 5) = false := by simpa using q5
    by_cases q6 : rk = 6
    · subst q6
      obtain ⟨o1, ho1⟩ : ∃ b, onlyB ⟨6, rc, rv, rok, nm⟩ false false = b := ⟨_, rfl⟩
      have T := Lib.hid (TO.out false false)
      rw [ho1] at T
      have HO1 := Lib.hid ho1
      clear ho1
      obtain ⟨ex, hex⟩ : ∃ b, exB l ch = b := ⟨_, rfl⟩
      rw [hex] at TE
      have HEX := Lib.hid hex
      clear hex
      by_cases k3 : kd = 3
      · subst k3
        by_cases c1 : rc = -1
        · subst c1
          go_wp2_with fail
          refine (T.out _).mono ?_; rintro e w1 ⟨rfl, hbw⟩
          have HB1 := Lib.hid hbw
          have R0y := Lib.hid ((hbw.block w.heap.size (Array.getElem?_eq_some_iff.1 R0.out).1).trans R0.out)
          clear x0_0 x0_1 x0_2 x0_3 x0_4 x0_5 x0_6 x1_0 x1_1 x1_2 x1_3 x1_4 hbw T
          obtain ⟨x0_0, x0_1, x0_2, x0_3, x0_4, x0_5, x0_6⟩ := rowc7 R0y.out
          cases o1 with
          | false =>
            have hr : Hid (lo = none) := by show _ = _; rw [← HLO.out]; simp [HO1.out]
            go_wp2
            refine bodyPost_ret (v := .tuple #[.slice none 0 0, .bool false]) (by simp [results, Try.results113, go_sem]) rfl ?_
            exact HNONE.out hr.out _ _ _ HB1.out rfl
          | true =>
            go_wp2_with fail
            refine (TE.out _ (below_then HB.out HB1.out)).mono ?_; rintro e w' ⟨rfl, rfl⟩
            cases ex with
            | false =>
              have hr : Hid (lo = none) := by show _ = _; rw [← HLO.out]; simp [HO1.out, HEX.out]
              go_wp2
              refine bodyPost_ret (v := .tuple #[.slice none 0 0, .bool false]) (by simp [results, Try.results113, go_sem]) rfl ?_
              exact HNONE.out hr.out _ _ _ HB1.out rfl
            | true =>
              have hx := HEX.out
              unfold exB at hx
              simp only [Bool.and_eq_true, decide_eq_true_eq] at hx
              obtain ⟨i, hi⟩ : ∃ i : Nat, ch = (i : Int) := ⟨ch.toNat, by omega⟩
              subst hi
              have hil : i < l.length := by omega
              have hiI : (i : Int) < (l.length : Int) := by omega
              obtain ⟨⟨cc, bf, cl⟩, hcc⟩ : ∃ c, l.getD i noChan = c := ⟨_, rfl⟩
              have HCE : Hid (chE l (i : Int) = ⟨cc, bf, cl⟩) := by
                show l.getD (Int.toNat (i : Int)) noChan = _
                rw [Int.toNat_natCast, hcc]
              have hmem : (⟨cc, bf, cl⟩ : ChanM) ∈ l := by
                rw [← hcc, List.getD_eq_getElem?_getD, List.getElem?_eq_getElem hil]
                exact List.getElem_mem hil
              have HCW : Hid (cc = IntKind.i64.wrap cc) := by
                obtain ⟨us, -, -, -, h4, -⟩ := HV.out
                exact h4 _ hmem
              have TS := Lib.hid fun c u w' (hb : Below w.heap.size w w') hu hcw => mset_any _ l i hil c u w' (HV.out.below hb) hu hcw HL.out
              obtain ⟨b, off, cap', u, hve, hbb, c0, c1, c2, hu, hfu⟩ := (HV.out.below (below_then HB.out HB1.out)).at2 i hil
              simp only [Value.slice.injEq] at hve
              obtain ⟨rfl, -, rfl⟩ := hve
              rw [hcc] at c0 c2 hu
              dsimp only at c0 c2 hu
              obtain ⟨ua, uc, rfl, -⟩ := hu.len
              have HU := Lib.hid hu
              have HUF : Hid (SlU _ (.slice ua bf.length uc) bf) := ⟨HU.out, hfu⟩
              clear hfu hx hcc hmem hu
              cases cl with
              | true =>
                have hr : Hid (lo = none) := by show _ = _; rw [← HLO.out]; simp [HO1.out, HEX.out, HCE.out]
                go_wp2
                refine bodyPost_ret (v := .tuple #[.slice none 0 0, .bool false]) (by simp [results, Try.results113, go_sem]) rfl ?_
                exact HNONE.out hr.out _ _ _ HB1.out rfl
              | false =>
                have hr : Hid (lo = some (l.set i ⟨cc, bf, true⟩)) := by show _ = _; rw [← HLO.out]; simp [HO1.out, HEX.out, HCE.out, setE]
                obtain ⟨Wx, hWx⟩ : ∃ Wx, (w1.alloc (.cells #[.int .i64 0, .slice none 0 0, .bool false] 79)).setRow w1.heap.size #[.int .i64 cc, .slice ua bf.length uc, .bool false] = Wx := ⟨_, rfl⟩
                have Nx : Hid ((w1.alloc (.cells #[.int .i64 0, .slice none 0 0, .bool false] 79)).heap[w1.heap.size]? = some (.cells #[.int .i64 0, .slice none 0 0, .bool false] 79 (0, 0))) := heap_alloc_new _ _
                have HBx : Hid (Below w1.heap.size w1 Wx) := hWx ▸ row_below (below_new (Below.refl _ _) _) (Nat.le_refl _) _
                have Rx : Hid (Wx.heap[w1.heap.size]? = some (.cells #[.int .i64 cc, .slice ua bf.length uc, .bool false] 79 (0, 0))) := hWx ▸ setRow_heap _ _ _ _ _ (0, 0) Nx.out
                have HWx := Lib.hid hWx
                clear hWx
                go_upto_region 20 with (refine wpList_store_row rfl 79 _ _ rfl (w1.heap.size) _ rfl rfl 79 #[.int .i64 0, .slice none 0 0, .bool false] Nx.out (by kernel_rfl) rfl (by simp [Value.oneCell']) ?_)
                rw [HWx.out]
                try simp only [Act.put]
                clear HWx Nx
                have ff := frozen_of_row Wx w1.heap.size 2 _ _ Rx.out
                obtain ⟨z0, z1, z2⟩ := rowc3 Rx.out
                go_upto_region 21 with fail
                obtain ⟨u4, hu4⟩ : ∃ u4, Wx.setCell ⟨w1.heap.size, 2, none⟩ (.bool true) = u4 := ⟨_, rfl⟩
                have HR4 : Hid (u4.heap[w1.heap.size]? = some (.cells #[.int .i64 cc, .slice ua bf.length uc, .bool true] 79 (0, 0))) := by
                  rw [← hu4]
                  have r1 := heap_setCell_same Wx w1.heap.size 2 _ _ (.bool true) Rx.out
                  simp at r1
                  exact r1
                have HC4 : Hid (u4.heap[w.heap.size]? = some (.cells #[.int .i64 3, .int .i64 md, .int .i64 i, .int .u64 vl, .int .i64 dl, .slice a3 cs.length cap3, .slice a4 ds.length cap4] 38 (0, 0))) := by
                  rw [← hu4]
                  exact (heap_setCell_other Wx ⟨w1.heap.size, 2, none⟩ w.heap.size (.bool true) (by show w.heap.size ≠ w1.heap.size; have := HB1.out.size; omega)).trans ((HBx.out.block w.heap.size (Array.getElem?_eq_some_iff.1 R0y.out).1).trans R0y.out)
                have HB4 : Hid (Below w1.heap.size w1 u4) := by
                  rw [← hu4]
                  exact HBx.out.setCell (p := ⟨w1.heap.size, 2, none⟩) (Nat.le_refl _) (.bool true)
                rw [hu4]
                clear hu4 z0 z1 z2 ff x0_0 x0_1 x0_2 x0_3 x0_4 x0_5 x0_6 c0 c1 c2
                obtain ⟨z0, z1, z2⟩ := rowc3 HR4.out
                obtain ⟨x0_0, x0_1, x0_2, x0_3, x0_4, x0_5, x0_6⟩ := rowc7 HC4.out
                have T5 := TS.out ⟨cc, bf, true⟩ (.slice ua bf.length uc) u4 (below_then HB.out (below_then HB1.out HB4.out)) (HUF.out.below HB4.out) HCW.out
                dsimp only at T5
                have T5' := Lib.hid T5
                clear T5
                go_wp2_with fail
                refine T5'.out.mono ?_; rintro e u5 ⟨v5, rfl, hs5, hb5⟩
                have HB5 := Lib.hid (below_then (below_then HB.out (below_then HB1.out HB4.out)) hb5)
                have HS5 := Lib.hid hs5
                clear z0 z1 z2 x0_0 x0_1 x0_2 x0_3 x0_4 x0_5 x0_6 hb5 hs5 T5'
                go_wp2_with fail
                refine bodyPost_ret (v := .tuple #[v5, .bool true]) (by simp [results, Try.results113, go_sem]) rfl ?_
                exact ⟨v5, true, rfl, .inl ⟨_, hr.out, rfl, HS5.out⟩, HB5.out⟩
        have c1b : (rc == -1) = false := by simpa using c1
        have c1n : (rc != -1) = true := by simpa using c1
        have hr : Hid (lo = none) := by show _ = _; rw [← HLO.out]; simp [c1]
        go_wp2
        refine bodyPost_ret (v := .tuple #[.slice none 0 0, .bool false]) (by simp [results, Try.results113, go_sem]) rfl ?_
        exact HNONE.out hr.out _ _ _ (Below.refl _ _) rfl
      have k3b : (kd == 3) = false := by simpa using k3
      have k3n : (kd != 3) = true := by simpa using k3
      have hr : Hid (lo = none) := by show _ = _; rw [← HLO.out]; simp [k3]
      go_wp2
      refine bodyPost_ret (v := .tuple #[.slice none 0 0, .bool false]) (by simp [results, Try.results113, go_sem]) rfl ?_
      exact HNONE.out hr.out _ _ _ (Below.refl _ _) rfl
    have q6b : (rk == 6) = false := by simpa using q6
    by_cases q3 : rk = 3
    · subst q3
      obtain ⟨o1, ho1⟩ : ∃ b, onlyB ⟨3, rc, rv, rok, nm⟩ false false = b := ⟨_, rfl⟩
      have T := Lib.hid (TO.out false false)
      rw [ho1] at T
      obtain ⟨b1, hb1⟩ : ∃ b, (md == 1) = b := ⟨_, rfl⟩
      obtain ⟨b2, hb2⟩ : ∃ b, (rc == -1) = b := ⟨_, rfl⟩
      obtain ⟨bb, hbb⟩ : ∃ b, blockedB l ⟨kd, md, ch, vl, dl, cs, ds⟩ = b := ⟨_, rfl⟩
      rw [hbb] at TB
      have HZZ : Hid (lo = if wv = true ∧ b1 = true ∧ b2 = true ∧ o1 = true ∧ bb = true then some l else none) := by
        show _ = _
        rw [← HLO.out, ← hb1, ← hb2, ← ho1, ← HWV.out, ← hbb]
        simp
      clear HLO ho1
      cases wv with
      | false =>
        have hr : Hid (lo = none) := by show _ = _; rw [HZZ.out]; simp
        go_wp2
        first | refine bodyPost_ret (v := .tuple #[.slice a l.length cap, .bool false]) (by simp [results, Try.results113, go_sem]) rfl ?_ | refine bodyPost_ret (v := .tuple #[.slice (some ⟨b, off, none⟩) l.length cap, .bool false]) (by simp [results, Try.results113, go_sem]) rfl ?_
        exact HNONE.out hr.out _ _ _ (Below.refl _ _) rfl
      | true =>
        cases b1 with
        | false =>
          have hr : Hid (lo = none) := by show _ = _; rw [HZZ.out]; simp
          go_wp2
          first | refine bodyPost_ret (v := .tuple #[.slice a l.length cap, .bool false]) (by simp [results, Try.results113, go_sem]) rfl ?_ | refine bodyPost_ret (v := .tuple #[.slice (some ⟨b, off, none⟩) l.length cap, .bool false]) (by simp [results, Try.results113, go_sem]) rfl ?_
          exact HNONE.out hr.out _ _ _ (Below.refl _ _) rfl
        | true =>
          cases b2 with
          | false =>
            have hr : Hid (lo = none) := by show _ = _; rw [HZZ.out]; simp
            go_wp2
            first | refine bodyPost_ret (v := .tuple #[.slice a l.length cap, .bool false]) (by simp [results, Try.results113, go_sem]) rfl ?_ | refine bodyPost_ret (v := .tuple #[.slice (some ⟨b, off, none⟩) l.length cap, .bool false]) (by simp [results, Try.results113, go_sem]) rfl ?_
            exact HNONE.out hr.out _ _ _ (Below.refl _ _) rfl
          | true =>
            go_wp2_with fail
            refine (T.out _).mono ?_; rintro e w1 ⟨rfl, hbw⟩
            have HB1 := Lib.hid hbw
            have R0y := Lib.hid ((hbw.block w.heap.size (Array.getElem?_eq_some_iff.1 R0.out).1).trans R0.out)
            clear x0_0 x0_1 x0_2 x0_3 x0_4 x0_5 x0_6 x1_0 x1_1 x1_2 x1_3 x1_4 hbw T
            cases o1 with
            | false =>
              have hr : Hid (lo = none) := by show _ = _; rw [HZZ.out]; simp
              go_wp2
              first | refine bodyPost_ret (v := .tuple #[.slice a l.length cap, .bool false]) (by simp [results, Try.results113, go_sem]) rfl ?_ | refine bodyPost_ret (v := .tuple #[.slice (some ⟨b, off, none⟩) l.length cap, .bool false]) (by simp [results, Try.results113, go_sem]) rfl ?_
              exact HNONE.out hr.out _ _ _ HB1.out rfl
            | true =>
              obtain ⟨x0_0, x0_1, x0_2, x0_3, x0_4, x0_5, x0_6⟩ := rowc7 R0y.out
              go_wp2_with fail
              refine (TB.out _ (below_then HB.out HB1.out)).mono ?_; rintro e w2 ⟨rfl, hbw⟩
              have HB2 := Lib.hid (below_then HB1.out hbw)
              clear x0_0 x0_1 x0_2 x0_3 x0_4 x0_5 x0_6 hbw
              cases bb with
              | false =>
                have hr : Hid (lo = none) := by show _ = _; rw [HZZ.out]; simp
                go_wp2
                first | refine bodyPost_ret (v := .tuple #[.slice a l.length cap, .bool false]) (by simp [results, Try.results113, go_sem]) rfl ?_ | refine bodyPost_ret (v := .tuple #[.slice (some ⟨b, off, none⟩) l.length cap, .bool false]) (by simp [results, Try.results113, go_sem]) rfl ?_
                exact HNONE.out hr.out _ _ _ HB2.out rfl
              | true =>
                have hr : Hid (lo = some l) := by show _ = _; rw [HZZ.out]; simp
                go_wp2
                first | refine bodyPost_ret (v := .tuple #[.slice a l.length cap, .bool true]) (by simp [results, Try.results113, go_sem]) rfl ?_ | refine bodyPost_ret (v := .tuple #[.slice (some ⟨b, off, none⟩) l.length cap, .bool true]) (by simp [results, Try.results113, go_sem]) rfl ?_
                exact HSAME.out hr.out _ _ HB2.out rfl
    have q3b : (rk == 3) = false := by simpa using q3
    by_cases q4 : rk = 4
    · subst q4
      obtain ⟨o1, ho1⟩ : ∃ b, onlyB ⟨4, rc, rv, rok, nm⟩ false false = b := ⟨_, rfl⟩
      have T := Lib.hid (TO.out false false)
      rw [ho1] at T
      obtain ⟨b1, hb1⟩ : ∃ b, (md == 2) = b := ⟨_, rfl⟩
      obtain ⟨b2, hb2⟩ : ∃ b, (rc == -1) = b := ⟨_, rfl⟩
      have HZZ : Hid (lo = if wv = true ∧ b1 = true ∧ b2 = true ∧ o1 = true then some l else none) := by
        show _ = _
        rw [← HLO.out, ← hb1, ← hb2, ← ho1, ← HWV.out]
        simp
      clear HLO ho1
      cases wv with
      | false =>
        have hr : Hid (lo = none) := by show _ = _; rw [HZZ.out]; simp
        go_wp2
        first | refine bodyPost_ret (v := .tuple #[.slice a l.length cap, .bool false]) (by simp [results, Try.results113, go_sem]) rfl ?_ | refine bodyPost_ret (v := .tuple #[.slice (some ⟨b, off, none⟩) l.length cap, .bool false]) (by simp [results, Try.results113, go_sem]) rfl ?_
        exact HNONE.out hr.out _ _ _ (Below.refl _ _) rfl
      | true =>
        cases b1 with
        | false =>
          have hr : Hid (lo = none) := by show _ = _; rw [HZZ.out]; simp
          go_wp2
          first | refine bodyPost_ret (v := .tuple #[.slice a l.length cap, .bool false]) (by simp [results, Try.results113, go_sem]) rfl ?_ | refine bodyPost_ret (v := .tuple #[.slice (some ⟨b, off, none⟩) l.length cap, .bool false]) (by simp [results, Try.results113, go_sem]) rfl ?_
          exact HNONE.out hr.out _ _ _ (Below.refl _ _) rfl
        | true =>
          cases b2 with
          | false =>
            have hr : Hid (lo = none) := by show _ = _; rw [HZZ.out]; simp
            go_wp2
            first | refine bodyPost_ret (v := .tuple #[.slice a l.length cap, .bool false]) (by simp [results, Try.results113, go_sem]) rfl ?_ | refine bodyPost_ret (v := .tuple #[.slice (some ⟨b, off, none⟩) l.length cap, .bool false]) (by simp [results, Try.results113, go_sem]) rfl ?_
            exact HNONE.out hr.out _ _ _ (Below.refl _ _) rfl
          | true =>
            go_wp2_with fail
            refine (T.out _).mono ?_; rintro e w1 ⟨rfl, hbw⟩
            have HB1 := Lib.hid hbw
            have R0y := Lib.hid ((hbw.block w.heap.size (Array.getElem?_eq_some_iff.1 R0.out).1).trans R0.out)
            clear x0_0 x0_1 x0_2 x0_3 x0_4 x0_5 x0_6 x1_0 x1_1 x1_2 x1_3 x1_4 hbw T
            cases o1 with
            | false =>
              have hr : Hid (lo = none) := by show _ = _; rw [HZZ.out]; simp
              go_wp2
              first | refine bodyPost_ret (v := .tuple #[.slice a l.length cap, .bool false]) (by simp [results, Try.results113, go_sem]) rfl ?_ | refine bodyPost_ret (v := .tuple #[.slice (some ⟨b, off, none⟩) l.length cap, .bool false]) (by simp [results, Try.results113, go_sem]) rfl ?_
              exact HNONE.out hr.out _ _ _ HB1.out rfl
            | true =>
              have hr : Hid (lo = some l) := by show _ = _; rw [HZZ.out]; simp
              go_wp2
              first | refine bodyPost_ret (v := .tuple #[.slice a l.length cap, .bool true]) (by simp [results, Try.results113, go_sem]) rfl ?_ | refine bodyPost_ret (v := .tuple #[.slice (some ⟨b, off, none⟩) l.length cap, .bool true]) (by simp [results, Try.results113, go_sem]) rfl ?_
              exact HSAME.out hr.out _ _ HB1.out rfl
    have q4b : (rk == 4) = false := by simpa using q4
    by_cases q7 : rk = 7
    · subst q7
      obtain ⟨o1, ho1⟩ : ∃ b, onlyB ⟨7, rc, rv, rok, nm⟩ false true = b := ⟨_, rfl⟩
      have T := Lib.hid (TO.out false true)
      rw [ho1] at T
      have HO1 := Lib.hid ho1
      clear ho1
      obtain ⟨ex, hex⟩ : ∃ b, exB l ch = b := ⟨_, rfl⟩
      rw [hex] at TE
      have HEX := Lib.hid hex
      clear hex
      by_cases k5 : kd = 5
      · subst k5
        go_wp2_with fail
        refine (TE.out _ HB.out).mono ?_; rintro e w' ⟨rfl, rfl⟩
        cases ex with
        | false =>
          by_cases c1 : rc = -1
          · subst c1
            cases o1 with
            | false =>
              have hr : Hid (lo = none) := by show _ = _; rw [← HLO.out]; simp [HO1.out]
              go_upto_region 32 with fail
              have Xx0_0 := ext_cell _ _ ((Array.getElem?_eq_some_iff.1 R0.out).1) _ x0_0
              have Xx0_1 := ext_cell _ _ ((Array.getElem?_eq_some_iff.1 R0.out).1) _ x0_1
              have Xx0_2 := ext_cell _ _ ((Array.getElem?_eq_some_iff.1 R0.out).1) _ x0_2
              have Xx0_3 := ext_cell _ _ ((Array.getElem?_eq_some_iff.1 R0.out).1) _ x0_3
              have Xx0_4 := ext_cell _ _ ((Array.getElem?_eq_some_iff.1 R0.out).1) _ x0_4
              have Xx0_5 := ext_cell _ _ ((Array.getElem?_eq_some_iff.1 R0.out).1) _ x0_5
              have Xx0_6 := ext_cell _ _ ((Array.getElem?_eq_some_iff.1 R0.out).1) _ x0_6
              have Xx1_0 := ext_cell _ _ ((Array.getElem?_eq_some_iff.1 R1.out).1) _ x1_0
              have Xx1_1 := ext_cell _ _ ((Array.getElem?_eq_some_iff.1 R1.out).1) _ x1_1
              have Xx1_2 := ext_cell _ _ ((Array.getElem?_eq_some_iff.1 R1.out).1) _ x1_2
              have Xx1_3 := ext_cell _ _ ((Array.getElem?_eq_some_iff.1 R1.out).1) _ x1_3
              have Xx1_4 := ext_cell _ _ ((Array.getElem?_eq_some_iff.1 R1.out).1) _ x1_4
              clear x0_0 x0_1 x0_2 x0_3 x0_4 x0_5 x0_6 x1_0 x1_1 x1_2 x1_3 x1_4
              refine wp_region_ext W (by kernel_rfl) (by kernel_rfl) (Below.refl _ _) ?_
              repeat (go_big_quiet_step (first | (go_at_call 85; with_reducible exact calls_ext (T.out _))))
              refine wpQuiet_nil ?_
              intro _ hw'
              obtain ⟨n9, rfl⟩ := hw'
              have HB9 := Lib.hid n9.below
              generalize n9.wd = w9 at *
              clear Xx0_0 Xx0_1 Xx0_2 Xx0_3 Xx0_4 Xx0_5 Xx0_6 Xx1_0 Xx1_1 Xx1_2 Xx1_3 Xx1_4
              go_wp2_with fail
              first | refine bodyPost_ret (v := .tuple #[.slice a l.length cap, .bool false]) (by simp [results, Try.results113, go_sem]) rfl ?_ | refine bodyPost_ret (v := .tuple #[.slice (some ⟨b, off, none⟩) l.length cap, .bool false]) (by simp [results, Try.results113, go_sem]) rfl ?_
              exact HNONE.out hr.out _ _ _ HB9.out rfl
            | true =>
              by_cases n1 : nm = 0
              · have n1b : (nm == 0) = true := by simpa using n1
                have hr : Hid (lo = some l) := by show _ = _; rw [← HLO.out]; simp [HO1.out, HEX.out, eq_true n1]
                clear n1
                go_upto_region 32 with fail
                have Xx0_0 := ext_cell _ _ ((Array.getElem?_eq_some_iff.1 R0.out).1) _ x0_0
                have Xx0_1 := ext_cell _ _ ((Array.getElem?_eq_some_iff.1 R0.out).1) _ x0_1
                have Xx0_2 := ext_cell _ _ ((Array.getElem?_eq_some_iff.1 R0.out).1) _ x0_2
                have Xx0_3 := ext_cell _ _ ((Array.getElem?_eq_some_iff.1 R0.out).1) _ x0_3
                have Xx0_4 := ext_cell _ _ ((Array.getElem?_eq_some_iff.1 R0.out).1) _ x0_4
                have Xx0_5 := ext_cell _ _ ((Array.getElem?_eq_some_iff.1 R0.out).1) _ x0_5
                have Xx0_6 := ext_cell _ _ ((Array.getElem?_eq_some_iff.1 R0.out).1) _ x0_6
                have Xx1_0 := ext_cell _ _ ((Array.getElem?_eq_some_iff.1 R1.out).1) _ x1_0
                have Xx1_1 := ext_cell _ _ ((Array.getElem?_eq_some_iff.1 R1.out).1) _ x1_1
                have Xx1_2 := ext_cell _ _ ((Array.getElem?_eq_some_iff.1 R1.out).1) _ x1_2
                have Xx1_3 := ext_cell _ _ ((Array.getElem?_eq_some_iff.1 R1.out).1) _ x1_3
                have Xx1_4 := ext_cell _ _ ((Array.getElem?_eq_some_iff.1 R1.out).1) _ x1_4
                clear x0_0 x0_1 x0_2 x0_3 x0_4 x0_5 x0_6 x1_0 x1_1 x1_2 x1_3 x1_4
                refine wp_region_ext W (by kernel_rfl) (by kernel_rfl) (Below.refl _ _) ?_
                repeat (go_big_quiet_step (first | (go_at_call 85; with_reducible exact calls_ext (T.out _))))
                refine wpQuiet_nil ?_
                intro _ hw'
                obtain ⟨n9, rfl⟩ := hw'
                have HB9 := Lib.hid n9.below
                generalize n9.wd = w9 at *
                clear Xx0_0 Xx0_1 Xx0_2 Xx0_3 Xx0_4 Xx0_5 Xx0_6 Xx1_0 Xx1_1 Xx1_2 Xx1_3 Xx1_4
                go_wp2_with fail
                first | refine bodyPost_ret (v := .tuple #[.slice a l.length cap, .bool true]) (by simp [results, Try.results113, go_sem]) rfl ?_ | refine bodyPost_ret (v := .tuple #[.slice (some ⟨b, off, none⟩) l.length cap, .bool true]) (by simp [results, Try.results113, go_sem]) rfl ?_
                exact HSAME.out hr.out _ _ HB9.out rfl
              · have n1b : (nm == 0) = false := by simpa using n1
                have hr : Hid (lo = none) := by show _ = _; rw [← HLO.out]; simp [HO1.out, HEX.out, n1]
                clear n1
                go_upto_region 32 with fail
                have Xx0_0 := ext_cell _ _ ((Array.getElem?_eq_some_iff.1 R0.out).1) _ x0_0
                have Xx0_1 := ext_cell _ _ ((Array.getElem?_eq_some_iff.1 R0.out).1) _ x0_1
                have Xx0_2 := ext_cell _ _ ((Array.getElem?_eq_some_iff.1 R0.out).1) _ x0_2
                have Xx0_3 := ext_cell _ _ ((Array.getElem?_eq_some_iff.1 R0.out).1) _ x0_3
                have Xx0_4 := ext_cell _ _ ((Array.getElem?_eq_some_iff.1 R0.out).1) _ x0_4
                have Xx0_5 := ext_cell _ _ ((Array.getElem?_eq_some_iff.1 R0.out).1) _ x0_5
                have Xx0_6 := ext_cell _ _ ((Array.getElem?_eq_some_iff.1 R0.out).1) _ x0_6
                have Xx1_0 := ext_cell _ _ ((Array.getElem?_eq_some_iff.1 R1.out).1) _ x1_0
                have Xx1_1 := ext_cell _ _ ((Array.getElem?_eq_some_iff.1 R1.out).1) _ x1_1
                have Xx1_2 := ext_cell _ _ ((Array.getElem?_eq_some_iff.1 R1.out).1) _ x1_2
                have Xx1_3 := ext_cell _ _ ((Array.getElem?_eq_some_iff.1 R1.out).1) _ x1_3
                have Xx1_4 := ext_cell _ _ ((Array.getElem?_eq_some_iff.1 R1.out).1) _ x1_4
                clear x0_0 x0_1 x0_2 x0_3 x0_4 x0_5 x0_6 x1_0 x1_1 x1_2 x1_3 x1_4
                refine wp_region_ext W (by kernel_rfl) (by kernel_rfl) (Below.refl _ _) ?_
                repeat (go_big_quiet_step (first | (go_at_call 85; with_reducible exact calls_ext (T.out _))))
                refine wpQuiet_nil ?_
                intro _ hw'
                obtain ⟨n9, rfl⟩ := hw'
                have HB9 := Lib.hid n9.below
                generalize n9.wd = w9 at *
                clear Xx0_0 Xx0_1 Xx0_2 Xx0_3 Xx0_4 Xx0_5 Xx0_6 Xx1_0 Xx1_1 Xx1_2 Xx1_3 Xx1_4
                go_wp2_with fail
                first | refine bodyPost_ret (v := .tuple #[.slice a l.length cap, .bool false]) (by simp [results, Try.results113, go_sem]) rfl ?_ | refine bodyPost_ret (v := .tuple #[.slice (some ⟨b, off, none⟩) l.length cap, .bool false]) (by simp [results, Try.results113, go_sem]) rfl ?_
                exact HNONE.out hr.out _ _ _ HB9.out rfl
          have c1b : (rc == -1) = false := by simpa using c1
          have hr : Hid (lo = none) := by show _ = _; rw [← HLO.out]; simp [c1]
          go_upto_region 32 with fail
          have Xx0_0 := ext_cell _ _ ((Array.getElem?_eq_some_iff.1 R0.out).1) _ x0_0
          have Xx0_1 := ext_cell _ _ ((Array.getElem?_eq_some_iff.1 R0.out).1) _ x0_1
          have Xx0_2 := ext_cell _ _ ((Array.getElem?_eq_some_iff.1 R0.out).1) _ x0_2
          have Xx0_3 := ext_cell _ _ ((Array.getElem?_eq_some_iff.1 R0.out).1) _ x0_3
          have Xx0_4 := ext_cell _ _ ((Array.getElem?_eq_some_iff.1 R0.out).1) _ x0_4
          have Xx0_5 := ext_cell _ _ ((Array.getElem?_eq_some_iff.1 R0.out).1) _ x0_5
          have Xx0_6 := ext_cell _ _ ((Array.getElem?_eq_some_iff.1 R0.out).1) _ x0_6
          have Xx1_0 := ext_cell _ _ ((Array.getElem?_eq_some_iff.1 R1.out).1) _ x1_0
          have Xx1_1 := ext_cell _ _ ((Array.getElem?_eq_some_iff.1 R1.out).1) _ x1_1
          have Xx1_2 := ext_cell _ _ ((Array.getElem?_eq_some_iff.1 R1.out).1) _ x1_2
          have Xx1_3 := ext_cell _ _ ((Array.getElem?_eq_some_iff.1 R1.out).1) _ x1_3
          have Xx1_4 := ext_cell _ _ ((Array.getElem?_eq_some_iff.1 R1.out).1) _ x1_4
          clear x0_0 x0_1 x0_2 x0_3 x0_4 x0_5 x0_6 x1_0 x1_1 x1_2 x1_3 x1_4
          refine wp_region_ext W (by kernel_rfl) (by kernel_rfl) (Below.refl _ _) ?_
          repeat (go_big_quiet_step (first | (go_at_call 85; with_reducible exact calls_ext (T.out _))))
          refine wpQuiet_nil ?_
          intro _ hw'
          obtain ⟨n9, rfl⟩ := hw'
          have HB9 := Lib.hid n9.below
          generalize n9.wd = w9 at *
          clear Xx0_0 Xx0_1 Xx0_2 Xx0_3 Xx0_4 Xx0_5 Xx0_6 Xx1_0 Xx1_1 Xx1_2 Xx1_3 Xx1_4
          go_wp2_with fail
          first | refine bodyPost_ret (v := .tuple #[.slice a l.length cap, .bool false]) (by simp [results, Try.results113, go_sem]) rfl ?_ | refine bodyPost_ret (v := .tuple #[.slice (some ⟨b, off, none⟩) l.length cap, .bool false]) (by simp [results, Try.results113, go_sem]) rfl ?_
          exact HNONE.out hr.out _ _ _ HB9.out rfl
        | true =>
          have hx := HEX.out
          unfold exB at hx
          simp only [Bool.and_eq_true, decide_eq_true_eq] at hx
          obtain ⟨i, hi⟩ : ∃ i : Nat, ch = (i : Int) := ⟨ch.toNat, by omega⟩
          subst hi
          have hil : i < l.length := by omega
          have hiI : (i : Int) < (l.length : Int) := by omega
          obtain ⟨⟨cc, bf, cl⟩, hcc⟩ : ∃ c, l.getD i noChan = c := ⟨_, rfl⟩
          have HCE : Hid (chE l (i : Int) = ⟨cc, bf, cl⟩) := by
            show l.getD (Int.toNat (i : Int)) noChan = _
            rw [Int.toNat_natCast, hcc]
          have hmem : (⟨cc, bf, cl⟩ : ChanM) ∈ l := by
            rw [← hcc, List.getD_eq_getElem?_getD, List.getElem?_eq_getElem hil]
            exact List.getElem_mem hil
          have HCW : Hid (cc = IntKind.i64.wrap cc) := by
            obtain ⟨us, -, -, -, h4, -⟩ := HV.out
            exact h4 _ hmem
          have TS := Lib.hid fun c u w' (hb : Below w.heap.size w w') hu hcw => mset_any _ l i hil c u w' (HV.out.below hb) hu hcw HL.out
          obtain ⟨b, off, cap', u, hve, hbb, c0, c1, c2, hu, hfu⟩ := (HV.out.below (HB.out)).at2 i hil
          simp only [Value.slice.injEq] at hve
          obtain ⟨rfl, -, rfl⟩ := hve
          rw [hcc] at c0 c2 hu
          dsimp only at c0 c2 hu
          obtain ⟨ua, uc, rfl, -⟩ := hu.len
          have HU := Lib.hid hu
          have HUF : Hid (SlU _ (.slice ua bf.length uc) bf) := ⟨HU.out, hfu⟩
          clear hfu hx hcc hmem hu
          by_cases cq : rc = -1
          · subst cq
            cases o1 with
            | false =>
              have hr : Hid (lo = none) := by show _ = _; rw [← HLO.out]; simp [HO1.out]
              go_upto_region 32 with fail
              have Xx0_0 := ext_cell _ _ ((Array.getElem?_eq_some_iff.1 R0.out).1) _ x0_0
              have Xx0_1 := ext_cell _ _ ((Array.getElem?_eq_some_iff.1 R0.out).1) _ x0_1
              have Xx0_2 := ext_cell _ _ ((Array.getElem?_eq_some_iff.1 R0.out).1) _ x0_2
              have Xx0_3 := ext_cell _ _ ((Array.getElem?_eq_some_iff.1 R0.out).1) _ x0_3
              have Xx0_4 := ext_cell _ _ ((Array.getElem?_eq_some_iff.1 R0.out).1) _ x0_4
              have Xx0_5 := ext_cell _ _ ((Array.getElem?_eq_some_iff.1 R0.out).1) _ x0_5
              have Xx0_6 := ext_cell _ _ ((Array.getElem?_eq_some_iff.1 R0.out).1) _ x0_6
              have Xx1_0 := ext_cell _ _ ((Array.getElem?_eq_some_iff.1 R1.out).1) _ x1_0
              have Xx1_1 := ext_cell _ _ ((Array.getElem?_eq_some_iff.1 R1.out).1) _ x1_1
              have Xx1_2 := ext_cell _ _ ((Array.getElem?_eq_some_iff.1 R1.out).1) _ x1_2
              have Xx1_3 := ext_cell _ _ ((Array.getElem?_eq_some_iff.1 R1.out).1) _ x1_3
              have Xx1_4 := ext_cell _ _ ((Array.getElem?_eq_some_iff.1 R1.out).1) _ x1_4
              have Xc0 := ext_cell _ _ (hbb) _ c0
              have Xc1 := ext_cell _ _ (hbb) _ c1
              have Xc2 := ext_cell _ _ (hbb) _ c2
              clear x0_0 x0_1 x0_2 x0_3 x0_4 x0_5 x0_6 x1_0 x1_1 x1_2 x1_3 x1_4 c0 c1 c2
              refine wp_region_ext W (by kernel_rfl) (by kernel_rfl) (Below.refl _ _) ?_
              repeat (go_big_quiet_step (first | (go_at_call 85; with_reducible exact calls_ext (T.out _))))
              refine wpQuiet_nil ?_
              intro _ hw'
              obtain ⟨n9, rfl⟩ := hw'
              have HB9 := Lib.hid n9.below
              generalize n9.wd = w9 at *
              clear Xx0_0 Xx0_1 Xx0_2 Xx0_3 Xx0_4 Xx0_5 Xx0_6 Xx1_0 Xx1_1 Xx1_2 Xx1_3 Xx1_4 Xc0 Xc1 Xc2
              go_wp2_with fail
              first | refine bodyPost_ret (v := .tuple #[.slice a l.length cap, .bool false]) (by simp [results, Try.results113, go_sem]) rfl ?_ | refine bodyPost_ret (v := .tuple #[.slice (some ⟨b, off, none⟩) l.length cap, .bool false]) (by simp [results, Try.results113, go_sem]) rfl ?_
              exact HNONE.out hr.out _ _ _ HB9.out rfl
            | true =>
              by_cases n1 : nm = (bf.length : Int)
              · have n1b : (nm == (bf.length : Int)) = true := by simpa using n1
                have hr : Hid (lo = some l) := by show _ = _; rw [← HLO.out]; simp [HO1.out, HEX.out, HCE.out, eq_true n1]
                clear n1
                go_upto_region 32 with fail
                have Xx0_0 := ext_cell _ _ ((Array.getElem?_eq_some_iff.1 R0.out).1) _ x0_0
                have Xx0_1 := ext_cell _ _ ((Array.getElem?_eq_some_iff.1 R0.out).1) _ x0_1
                have Xx0_2 := ext_cell _ _ ((Array.getElem?_eq_some_iff.1 R0.out).1) _ x0_2
                have Xx0_3 := ext_cell _ _ ((Array.getElem?_eq_some_iff.1 R0.out).1) _ x0_3
                have Xx0_4 := ext_cell _ _ ((Array.getElem?_eq_some_iff.1 R0.out).1) _ x0_4
                have Xx0_5 := ext_cell _ _ ((Array.getElem?_eq_some_iff.1 R0.out).1) _ x0_5
                have Xx0_6 := ext_cell _ _ ((Array.getElem?_eq_some_iff.1 R0.out).1) _ x0_6
                have Xx1_0 := ext_cell _ _ ((Array.getElem?_eq_some_iff.1 R1.out).1) _ x1_0
                have Xx1_1 := ext_cell _ _ ((Array.getElem?_eq_some_iff.1 R1.out).1) _ x1_1
                have Xx1_2 := ext_cell _ _ ((Array.getElem?_eq_some_iff.1 R1.out).1) _ x1_2
                have Xx1_3 := ext_cell _ _ ((Array.getElem?_eq_some_iff.1 R1.out).1) _ x1_3
                have Xx1_4 := ext_cell _ _ ((Array.getElem?_eq_some_iff.1 R1.out).1) _ x1_4
                have Xc0 := ext_cell _ _ (hbb) _ c0
                have Xc1 := ext_cell _ _ (hbb) _ c1
                have Xc2 := ext_cell _ _ (hbb) _ c2
                clear x0_0 x0_1 x0_2 x0_3 x0_4 x0_5 x0_6 x1_0 x1_1 x1_2 x1_3 x1_4 c0 c1 c2
                refine wp_region_ext W (by kernel_rfl) (by kernel_rfl) (Below.refl _ _) ?_
                repeat (go_big_quiet_step (first | (go_at_call 85; with_reducible exact calls_ext (T.out _))))
                refine wpQuiet_nil ?_
                intro _ hw'
                obtain ⟨n9, rfl⟩ := hw'
                have HB9 := Lib.hid n9.below
                generalize n9.wd = w9 at *
                clear Xx0_0 Xx0_1 Xx0_2 Xx0_3 Xx0_4 Xx0_5 Xx0_6 Xx1_0 Xx1_1 Xx1_2 Xx1_3 Xx1_4 Xc0 Xc1 Xc2
                go_wp2_with fail
                first | refine bodyPost_ret (v := .tuple #[.slice a l.length cap, .bool true]) (by simp [results, Try.results113, go_sem]) rfl ?_ | refine bodyPost_ret (v := .tuple #[.slice (some ⟨b, off, none⟩) l.length cap, .bool true]) (by simp [results, Try.results113, go_sem]) rfl ?_
                exact HSAME.out hr.out _ _ HB9.out rfl
              · have n1b : (nm == (bf.length : Int)) = false := by simpa using n1
                have hr : Hid (lo = none) := by show _ = _; rw [← HLO.out]; simp [HO1.out, HEX.out, HCE.out, n1]
                clear n1
                go_upto_region 32 with fail
                have Xx0_0 := ext_cell _ _ ((Array.getElem?_eq_some_iff.1 R0.out).1) _ x0_0
                have Xx0_1 := ext_cell _ _ ((Array.getElem?_eq_some_iff.1 R0.out).1) _ x0_1
                have Xx0_2 := ext_cell _ _ ((Array.getElem?_eq_some_iff.1 R0.out).1) _ x0_2
                have Xx0_3 := ext_cell _ _ ((Array.getElem?_eq_some_iff.1 R0.out).1) _ x0_3
                have Xx0_4 := ext_cell _ _ ((Array.getElem?_eq_some_iff.1 R0.out).1) _ x0_4
                have Xx0_5 := ext_cell _ _ ((Array.getElem?_eq_some_iff.1 R0.out).1) _ x0_5
                have Xx0_6 := ext_cell _ _ ((Array.getElem?_eq_some_iff.1 R0.out).1) _ x0_6
                have Xx1_0 := ext_cell _ _ ((Array.getElem?_eq_some_iff.1 R1.out).1) _ x1_0
                have Xx1_1 := ext_cell _ _ ((Array.getElem?_eq_some_iff.1 R1.out).1) _ x1_1
                have Xx1_2 := ext_cell _ _ ((Array.getElem?_eq_some_iff.1 R1.out).1) _ x1_2
                have Xx1_3 := ext_cell _ _ ((Array.getElem?_eq_some_iff.1 R1.out).1) _ x1_3
                have Xx1_4 := ext_cell _ _ ((Array.getElem?_eq_some_iff.1 R1.out).1) _ x1_4
                have Xc0 := ext_cell _ _ (hbb) _ c0
                have Xc1 := ext_cell _ _ (hbb) _ c1
                have Xc2 := ext_cell _ _ (hbb) _ c2
                clear x0_0 x0_1 x0_2 x0_3 x0_4 x0_5 x0_6 x1_0 x1_1 x1_2 x1_3 x1_4 c0 c1 c2
                refine wp_region_ext W (by kernel_rfl) (by kernel_rfl) (Below.refl _ _) ?_
                repeat (go_big_quiet_step (first | (go_at_call 85; with_reducible exact calls_ext (T.out _))))
                refine wpQuiet_nil ?_
                intro _ hw'
                obtain ⟨n9, rfl⟩ := hw'
                have HB9 := Lib.hid n9.below
                generalize n9.wd = w9 at *
                clear Xx0_0 Xx0_1 Xx0_2 Xx0_3 Xx0_4 Xx0_5 Xx0_6 Xx1_0 Xx1_1 Xx1_2 Xx1_3 Xx1_4 Xc0 Xc1 Xc2
                go_wp2_with fail
                first | refine bodyPost_ret (v := .tuple #[.slice a l.length cap, .bool false]) (by simp [results, Try.results113, go_sem]) rfl ?_ | refine bodyPost_ret (v := .tuple #[.slice (some ⟨b, off, none⟩) l.length cap, .bool false]) (by simp [results, Try.results113, go_sem]) rfl ?_
                exact HNONE.out hr.out _ _ _ HB9.out rfl
          have cqb : (rc == -1) = false := by simpa using cq
          have hr : Hid (lo = none) := by show _ = _; rw [← HLO.out]; simp [cq]
          go_upto_region 32 with fail
          have Xx0_0 := ext_cell _ _ ((Array.getElem?_eq_some_iff.1 R0.out).1) _ x0_0
          have Xx0_1 := ext_cell _ _ ((Array.getElem?_eq_some_iff.1 R0.out).1) _ x0_1
          have Xx0_2 := ext_cell _ _ ((Array.getElem?_eq_some_iff.1 R0.out).1) _ x0_2
          have Xx0_3 := ext_cell _ _ ((Array.getElem?_eq_some_iff.1 R0.out).1) _ x0_3
          have Xx0_4 := ext_cell _ _ ((Array.getElem?_eq_some_iff.1 R0.out).1) _ x0_4
          have Xx0_5 := ext_cell _ _ ((Array.getElem?_eq_some_iff.1 R0.out).1) _ x0_5
          have Xx0_6 := ext_cell _ _ ((Array.getElem?_eq_some_iff.1 R0.out).1) _ x0_6
          have Xx1_0 := ext_cell _ _ ((Array.getElem?_eq_some_iff.1 R1.out).1) _ x1_0
          have Xx1_1 := ext_cell _ _ ((Array.getElem?_eq_some_iff.1 R1.out).1) _ x1_1
          have Xx1_2 := ext_cell _ _ ((Array.getElem?_eq_some_iff.1 R1.out).1) _ x1_2
          have Xx1_3 := ext_cell _ _ ((Array.getElem?_eq_some_iff.1 R1.out).1) _ x1_3
          have Xx1_4 := ext_cell _ _ ((Array.getElem?_eq_some_iff.1 R1.out).1) _ x1_4
          have Xc0 := ext_cell _ _ (hbb) _ c0
          have Xc1 := ext_cell _ _ (hbb) _ c1
          have Xc2 := ext_cell _ _ (hbb) _ c2
          clear x0_0 x0_1 x0_2 x0_3 x0_4 x0_5 x0_6 x1_0 x1_1 x1_2 x1_3 x1_4 c0 c1 c2
          refine wp_region_ext W (by kernel_rfl) (by kernel_rfl) (Below.refl _ _) ?_
          repeat (go_big_quiet_step (first | (go_at_call 85; with_reducible exact calls_ext (T.out _))))
          refine wpQuiet_nil ?_
          intro _ hw'
          obtain ⟨n9, rfl⟩ := hw'
          have HB9 := Lib.hid n9.below
          generalize n9.wd = w9 at *
          clear Xx0_0 Xx0_1 Xx0_2 Xx0_3 Xx0_4 Xx0_5 Xx0_6 Xx1_0 Xx1_1 Xx1_2 Xx1_3 Xx1_4 Xc0 Xc1 Xc2
          go_wp2_with fail
          first | refine bodyPost_ret (v := .tuple #[.slice a l.length cap, .bool false]) (by simp [results, Try.results113, go_sem]) rfl ?_ | refine bodyPost_ret (v := .tuple #[.slice (some ⟨b, off, none⟩) l.length cap, .bool false]) (by simp [results, Try.results113, go_sem]) rfl ?_
          exact HNONE.out hr.out _ _ _ HB9.out rfl
      have k5b : (kd == 5) = false := by simpa using k5
      by_cases k6 : kd = 6
      · subst k6
        go_wp2_with fail
        refine (TE.out _ HB.out).mono ?_; rintro e w' ⟨rfl, rfl⟩
        cases ex with
        | false =>
          by_cases c1 : rc = -1
          · subst c1
            cases o1 with
            | false =>
              have hr : Hid (lo = none) := by show _ = _; rw [← HLO.out]; simp [HO1.out]
              go_upto_region 32 with fail
              have Xx0_0 := ext_cell _ _ ((Array.getElem?_eq_some_iff.1 R0.out).1) _ x0_0
              have Xx0_1 := ext_cell _ _ ((Array.getElem?_eq_some_iff.1 R0.out).1) _ x0_1
              have Xx0_2 := ext_cell _ _ ((Array.getElem?_eq_some_iff.1 R0.out).1) _ x0_2
              have Xx0_3 := ext_cell _ _ ((Array.getElem?_eq_some_iff.1 R0.out).1) _ x0_3
              have Xx0_4 := ext_cell _ _ ((Array.getElem?_eq_some_iff.1 R0.out).1) _ x0_4
              have Xx0_5 := ext_cell _ _ ((Array.getElem?_eq_some_iff.1 R0.out).1) _ x0_5
              have Xx0_6 := ext_cell _ _ ((Array.getElem?_eq_some_iff.1 R0.out).1) _ x0_6
              have Xx1_0 := ext_cell _ _ ((Array.getElem?_eq_some_iff.1 R1.out).1) _ x1_0
              have Xx1_1 := ext_cell _ _ ((Array.getElem?_eq_some_iff.1 R1.out).1) _ x1_1
              have Xx1_2 := ext_cell _ _ ((Array.getElem?_eq_some_iff.1 R1.out).1) _ x1_2
              have Xx1_3 := ext_cell _ _ ((Array.getElem?_eq_some_iff.1 R1.out).1) _ x1_3
              have Xx1_4 := ext_cell _ _ ((Array.getElem?_eq_some_iff.1 R1.out).1) _ x1_4
              clear x0_0 x0_1 x0_2 x0_3 x0_4 x0_5 x0_6 x1_0 x1_1 x1_2 x1_3 x1_4
              refine wp_region_ext W (by kernel_rfl) (by kernel_rfl) (Below.refl _ _) ?_
              repeat (go_big_quiet_step (first | (go_at_call 85; with_reducible exact calls_ext (T.out _))))
              refine wpQuiet_nil ?_
              intro _ hw'
              obtain ⟨n9, rfl⟩ := hw'
              have HB9 := Lib.hid n9.below
              generalize n9.wd = w9 at *
              clear Xx0_0 Xx0_1 Xx0_2 Xx0_3 Xx0_4 Xx0_5 Xx0_6 Xx1_0 Xx1_1 Xx1_2 Xx1_3 Xx1_4
              go_wp2_with fail
              first | refine bodyPost_ret (v := .tuple #[.slice a l.length cap, .bool false]) (by simp [results, Try.results113, go_sem]) rfl ?_ | refine bodyPost_ret (v := .tuple #[.slice (some ⟨b, off, none⟩) l.length cap, .bool false]) (by simp [results, Try.results113, go_sem]) rfl ?_
              exact HNONE.out hr.out _ _ _ HB9.out rfl
            | true =>
              by_cases n1 : nm = 0
              · have n1b : (nm == 0) = true := by simpa using n1
                have hr : Hid (lo = some l) := by show _ = _; rw [← HLO.out]; simp [HO1.out, HEX.out, eq_true n1]
                clear n1
                go_upto_region 32 with fail
                have Xx0_0 := ext_cell _ _ ((Array.getElem?_eq_some_iff.1 R0.out).1) _ x0_0
                have Xx0_1 := ext_cell _ _ ((Array.getElem?_eq_some_iff.1 R0.out).1) _ x0_1
                have Xx0_2 := ext_cell _ _ ((Array.getElem?_eq_some_iff.1 R0.out).1) _ x0_2
                have Xx0_3 := ext_cell _ _ ((Array.getElem?_eq_some_iff.1 R0.out).1) _ x0_3
                have Xx0_4 := ext_cell _ _ ((Array.getElem?_eq_some_iff.1 R0.out).1) _ x0_4
                have Xx0_5 := ext_cell _ _ ((Array.getElem?_eq_some_iff.1 R0.out).1) _ x0_5
                have Xx0_6 := ext_cell _ _ ((Array.getElem?_eq_some_iff.1 R0.out).1) _ x0_6
                have Xx1_0 := ext_cell _ _ ((Array.getElem?_eq_some_iff.1 R1.out).1) _ x1_0
                have Xx1_1 := ext_cell _ _ ((Array.getElem?_eq_some_iff.1 R1.out).1) _ x1_1
                have Xx1_2 := ext_cell _ _ ((Array.getElem?_eq_some_iff.1 R1.out).1) _ x1_2
                have Xx1_3 := ext_cell _ _ ((Array.getElem?_eq_some_iff.1 R1.out).1) _ x1_3
                have Xx1_4 := ext_cell _ _ ((Array.getElem?_eq_some_iff.1 R1.out).1) _ x1_4
                clear x0_0 x0_1 x0_2 x0_3 x0_4 x0_5 x0_6 x1_0 x1_1 x1_2 x1_3 x1_4
                refine wp_region_ext W (by kernel_rfl) (by kernel_rfl) (Below.refl _ _) ?_
                repeat (go_big_quiet_step (first | (go_at_call 85; with_reducible exact calls_ext (T.out _))))
                refine wpQuiet_nil ?_
                intro _ hw'
                obtain ⟨n9, rfl⟩ := hw'
                have HB9 := Lib.hid n9.below
                generalize n9.wd = w9 at *
                clear Xx0_0 Xx0_1 Xx0_2 Xx0_3 Xx0_4 Xx0_5 Xx0_6 Xx1_0 Xx1_1 Xx1_2 Xx1_3 Xx1_4
                go_wp2_with fail
                first | refine bodyPost_ret (v := .tuple #[.slice a l.length cap, .bool true]) (by simp [results, Try.results113, go_sem]) rfl ?_ | refine bodyPost_ret (v := .tuple #[.slice (some ⟨b, off, none⟩) l.length cap, .bool true]) (by simp [results, Try.results113, go_sem]) rfl ?_
                exact HSAME.out hr.out _ _ HB9.out rfl
              · have n1b : (nm == 0) = false := by simpa using n1
                have hr : Hid (lo = none) := by show _ = _; rw [← HLO.out]; simp [HO1.out, HEX.out, n1]
                clear n1
                go_upto_region 32 with fail
                have Xx0_0 := ext_cell _ _ ((Array.getElem?_eq_some_iff.1 R0.out).1) _ x0_0
                have Xx0_1 := ext_cell _ _ ((Array.getElem?_eq_some_iff.1 R0.out).1) _ x0_1
                have Xx0_2 := ext_cell _ _ ((Array.getElem?_eq_some_iff.1 R0.out).1) _ x0_2
                have Xx0_3 := ext_cell _ _ ((Array.getElem?_eq_some_iff.1 R0.out).1) _ x0_3
                have Xx0_4 := ext_cell _ _ ((Array.getElem?_eq_some_iff.1 R0.out).1) _ x0_4
                have Xx0_5 := ext_cell _ _ ((Array.getElem?_eq_some_iff.1 R0.out).1) _ x0_5
                have Xx0_6 := ext_cell _ _ ((Array.getElem?_eq_some_iff.1 R0.out).1) _ x0_6
                have Xx1_0 := ext_cell _ _ ((Array.getElem?_eq_some_iff.1 R1.out).1) _ x1_0
                have Xx1_1 := ext_cell _ _ ((Array.getElem?_eq_some_iff.1 R1.out).1) _ x1_1
                have Xx1_2 := ext_cell _ _ ((Array.getElem?_eq_some_iff.1 R1.out).1) _ x1_2
                have Xx1_3 := ext_cell _ _ ((Array.getElem?_eq_some_iff.1 R1.out).1) _ x1_3
                have Xx1_4 := ext_cell _ _ ((Array.getElem?_eq_some_iff.1 R1.out).1) _ x1_4
                clear x0_0 x0_1 x0_2 x0_3 x0_4 x0_5 x0_6 x1_0 x1_1 x1_2 x1_3 x1_4
                refine wp_region_ext W (by kernel_rfl) (by kernel_rfl) (Below.refl _ _) ?_
                repeat (go_big_quiet_step (first | (go_at_call 85; with_reducible exact calls_ext (T.out _))))
                refine wpQuiet_nil ?_
                intro _ hw'
                obtain ⟨n9, rfl⟩ := hw'
                have HB9 := Lib.hid n9.below
                generalize n9.wd = w9 at *
                clear Xx0_0 Xx0_1 Xx0_2 Xx0_3 Xx0_4 Xx0_5 Xx0_6 Xx1_0 Xx1_1 Xx1_2 Xx1_3 Xx1_4
                go_wp2_with fail
                first | refine bodyPost_ret (v := .tuple #[.slice a l.length cap, .bool false]) (by simp [results, Try.results113, go_sem]) rfl ?_ | refine bodyPost_ret (v := .tuple #[.slice (some ⟨b, off, none⟩) l.length cap, .bool false]) (by simp [results, Try.results113, go_sem]) rfl ?_
                exact HNONE.out hr.out _ _ _ HB9.out rfl
          have c1b : (rc == -1) = false := by simpa using c1
          have hr : Hid (lo = none) := by show _ = _; rw [← HLO.out]; simp [c1]
          go_upto_region 32 with fail
          have Xx0_0 := ext_cell _ _ ((Array.getElem?_eq_some_iff.1 R0.out).1) _ x0_0
          have Xx0_1 := ext_cell _ _ ((Array.getElem?_eq_some_iff.1 R0.out).1) _ x0_1
          have Xx0_2 := ext_cell _ _ ((Array.getElem?_eq_some_iff.1 R0.out).1) _ x0_2
          have Xx0_3 := ext_cell _ _ ((Array.getElem?_eq_some_iff.1 R0.out).1) _ x0_3
          have Xx0_4 := ext_cell _ _ ((Array.getElem?_eq_some_iff.1 R0.out).1) _ x0_4
          have Xx0_5 := ext_cell _ _ ((Array.getElem?_eq_some_iff.1 R0.out).1) _ x0_5
          have Xx0_6 := ext_cell _ _ ((Array.getElem?_eq_some_iff.1 R0.out).1) _ x0_6
          have Xx1_0 := ext_cell _ _ ((Array.getElem?_eq_some_iff.1 R1.out).1) _ x1_0
          have Xx1_1 := ext_cell _ _ ((Array.getElem?_eq_some_iff.1 R1.out).1) _ x1_1
          have Xx1_2 := ext_cell _ _ ((Array.getElem?_eq_some_iff.1 R1.out).1) _ x1_2
          have Xx1_3 := ext_cell _ _ ((Array.getElem?_eq_some_iff.1 R1.out).1) _ x1_3
          have Xx1_4 := ext_cell _ _ ((Array.getElem?_eq_some_iff.1 R1.out).1) _ x1_4
          clear x0_0 x0_1 x0_2 x0_3 x0_4 x0_5 x0_6 x1_0 x1_1 x1_2 x1_3 x1_4
          refine wp_region_ext W (by kernel_rfl) (by kernel_rfl) (Below.refl _ _) ?_
          repeat (go_big_quiet_step (first | (go_at_call 85; with_reducible exact calls_ext (T.out _))))
          refine wpQuiet_nil ?_
          intro _ hw'
          obtain ⟨n9, rfl⟩ := hw'
          have HB9 := Lib.hid n9.below
          generalize n9.wd = w9 at *
          clear Xx0_0 Xx0_1 Xx0_2 Xx0_3 Xx0_4 Xx0_5 Xx0_6 Xx1_0 Xx1_1 Xx1_2 Xx1_3 Xx1_4
          go_wp2_with fail
          first | refine bodyPost_ret (v := .tuple #[.slice a l.length cap, .bool false]) (by simp [results, Try.results113, go_sem]) rfl ?_ | refine bodyPost_ret (v := .tuple #[.slice (some ⟨b, off, none⟩) l.length cap, .bool false]) (by simp [results, Try.results113, go_sem]) rfl ?_
          exact HNONE.out hr.out _ _ _ HB9.out rfl
        | true =>
          have hx := HEX.out
          unfold exB at hx
          simp only [Bool.and_eq_true, decide_eq_true_eq] at hx
          obtain ⟨i, hi⟩ : ∃ i : Nat, ch = (i : Int) := ⟨ch.toNat, by omega⟩
          subst hi
          have hil : i < l.length := by omega
          have hiI : (i : Int) < (l.length : Int) := by omega
          obtain ⟨⟨cc, bf, cl⟩, hcc⟩ : ∃ c, l.getD i noChan = c := ⟨_, rfl⟩
          have HCE : Hid (chE l (i : Int) = ⟨cc, bf, cl⟩) := by
            show l.getD (Int.toNat (i : Int)) noChan = _
            rw [Int.toNat_natCast, hcc]
          have hmem : (⟨cc, bf, cl⟩ : ChanM) ∈ l := by
            rw [← hcc, List.getD_eq_getElem?_getD, List.getElem?_eq_getElem hil]
            exact List.getElem_mem hil
          have HCW : Hid (cc = IntKind.i64.wrap cc) := by
            obtain ⟨us, -, -, -, h4, -⟩ := HV.out
            exact h4 _ hmem
          have TS := Lib.hid fun c u w' (hb : Below w.heap.size w w') hu hcw => mset_any _ l i hil c u w' (HV.out.below hb) hu hcw HL.out
          obtain ⟨b, off, cap', u, hve, hbb, c0, c1, c2, hu, hfu⟩ := (HV.out.below (HB.out)).at2 i hil
          simp only [Value.slice.injEq] at hve
          obtain ⟨rfl, -, rfl⟩ := hve
          rw [hcc] at c0 c2 hu
          dsimp only at c0 c2 hu
          obtain ⟨ua, uc, rfl, -⟩ := hu.len
          have HU := Lib.hid hu
          have HUF : Hid (SlU _ (.slice ua bf.length uc) bf) := ⟨HU.out, hfu⟩
          clear hfu hx hcc hmem hu
          by_cases cq : rc = -1
          · subst cq
            cases o1 with
            | false =>
              have hr : Hid (lo = none) := by show _ = _; rw [← HLO.out]; simp [HO1.out]
              go_upto_region 32 with fail
              have Xx0_0 := ext_cell _ _ ((Array.getElem?_eq_some_iff.1 R0.out).1) _ x0_0
              have Xx0_1 := ext_cell _ _ ((Array.getElem?_eq_some_iff.1 R0.out).1) _ x0_1
              have Xx0_2 := ext_cell _ _ ((Array.getElem?_eq_some_iff.1 R0.out).1) _ x0_2
              have Xx0_3 := ext_cell _ _ ((Array.getElem?_eq_some_iff.1 R0.out).1) _ x0_3
              have Xx0_4 := ext_cell _ _ ((Array.getElem?_eq_some_iff.1 R0.out).1) _ x0_4
              have Xx0_5 := ext_cell _ _ ((Array.getElem?_eq_some_iff.1 R0.out).1) _ x0_5
              have Xx0_6 := ext_cell _ _ ((Array.getElem?_eq_some_iff.1 R0.out).1) _ x0_6
              have Xx1_0 := ext_cell _ _ ((Array.getElem?_eq_some_iff.1 R1.out).1) _ x1_0
              have Xx1_1 := ext_cell _ _ ((Array.getElem?_eq_some_iff.1 R1.out).1) _ x1_1
              have Xx1_2 := ext_cell _ _ ((Array.getElem?_eq_some_iff.1 R1.out).1) _ x1_2
              have Xx1_3 := ext_cell _ _ ((Array.getElem?_eq_some_iff.1 R1.out).1) _ x1_3
              have Xx1_4 := ext_cell _ _ ((Array.getElem?_eq_some_iff.1 R1.out).1) _ x1_4
              have Xc0 := ext_cell _ _ (hbb) _ c0
              have Xc1 := ext_cell _ _ (hbb) _ c1
              have Xc2 := ext_cell _ _ (hbb) _ c2
              clear x0_0 x0_1 x0_2 x0_3 x0_4 x0_5 x0_6 x1_0 x1_1 x1_2 x1_3 x1_4 c0 c1 c2
              refine wp_region_ext W (by kernel_rfl) (by kernel_rfl) (Below.refl _ _) ?_
              repeat (go_big_quiet_step (first | (go_at_call 85; with_reducible exact calls_ext (T.out _))))
              refine wpQuiet_nil ?_
              intro _ hw'
              obtain ⟨n9, rfl⟩ := hw'
              have HB9 := Lib.hid n9.below
              generalize n9.wd = w9 at *
              clear Xx0_0 Xx0_1 Xx0_2 Xx0_3 Xx0_4 Xx0_5 Xx0_6 Xx1_0 Xx1_1 Xx1_2 Xx1_3 Xx1_4 Xc0 Xc1 Xc2
              go_wp2_with fail
              first | refine bodyPost_ret (v := .tuple #[.slice a l.length cap, .bool false]) (by simp [results, Try.results113, go_sem]) rfl ?_ | refine bodyPost_ret (v := .tuple #[.slice (some ⟨b, off, none⟩) l.length cap, .bool false]) (by simp [results, Try.results113, go_sem]) rfl ?_
              exact HNONE.out hr.out _ _ _ HB9.out rfl
            | true =>
              by_cases n1 : nm = cc
              · have n1b : (nm == cc) = true := by simpa using n1
                have hr : Hid (lo = some l) := by show _ = _; rw [← HLO.out]; simp [HO1.out, HEX.out, HCE.out, eq_true n1]
                clear n1
                go_upto_region 32 with fail
                have Xx0_0 := ext_cell _ _ ((Array.getElem?_eq_some_iff.1 R0.out).1) _ x0_0
                have Xx0_1 := ext_cell _ _ ((Array.getElem?_eq_some_iff.1 R0.out).1) _ x0_1
                have Xx0_2 := ext_cell _ _ ((Array.getElem?_eq_some_iff.1 R0.out).1) _ x0_2
                have Xx0_3 := ext_cell _ _ ((Array.getElem?_eq_some_iff.1 R0.out).1) _ x0_3
                have Xx0_4 := ext_cell _ _ ((Array.getElem?_eq_some_iff.1 R0.out).1) _ x0_4
                have Xx0_5 := ext_cell _ _ ((Array.getElem?_eq_some_iff.1 R0.out).1) _ x0_5
                have Xx0_6 := ext_cell _ _ ((Array.getElem?_eq_some_iff.1 R0.out).1) _ x0_6
                have Xx1_0 := ext_cell _ _ ((Array.getElem?_eq_some_iff.1 R1.out).1) _ x1_0
                have Xx1_1 := ext_cell _ _ ((Array.getElem?_eq_some_iff.1 R1.out).1) _ x1_1
                have Xx1_2 := ext_cell _ _ ((Array.getElem?_eq_some_iff.1 R1.out).1) _ x1_2
                have Xx1_3 := ext_cell _ _ ((Array.getElem?_eq_some_iff.1 R1.out).1) _ x1_3
                have Xx1_4 := ext_cell _ _ ((Array.getElem?_eq_some_iff.1 R1.out).1) _ x1_4
                have Xc0 := ext_cell _ _ (hbb) _ c0
                have Xc1 := ext_cell _ _ (hbb) _ c1
                have Xc2 := ext_cell _ _ (hbb) _ c2
                clear x0_0 x0_1 x0_2 x0_3 x0_4 x0_5 x0_6 x1_0 x1_1 x1_2 x1_3 x1_4 c0 c1 c2
                refine wp_region_ext W (by kernel_rfl) (by kernel_rfl) (Below.refl _ _) ?_
                repeat (go_big_quiet_step (first | (go_at_call 85; with_reducible exact calls_ext (T.out _))))
                refine wpQuiet_nil ?_
                intro _ hw'
                obtain ⟨n9, rfl⟩ := hw'
                have HB9 := Lib.hid n9.below
                generalize n9.wd = w9 at *
                clear Xx0_0 Xx0_1 Xx0_2 Xx0_3 Xx0_4 Xx0_5 Xx0_6 Xx1_0 Xx1_1 Xx1_2 Xx1_3 Xx1_4 Xc0 Xc1 Xc2
                go_wp2_with fail
                first | refine bodyPost_ret (v := .tuple #[.slice a l.length cap, .bool true]) (by simp [results, Try.results113, go_sem]) rfl ?_ | refine bodyPost_ret (v := .tuple #[.slice (some ⟨b, off, none⟩) l.length cap, .bool true]) (by simp [results, Try.results113, go_sem]) rfl ?_
                exact HSAME.out hr.out _ _ HB9.out rfl
              · have n1b : (nm == cc) = false := by simpa using n1
                have hr : Hid (lo = none) := by show _ = _; rw [← HLO.out]; simp [HO1.out, HEX.out, HCE.out, n1]
                clear n1
                go_upto_region 32 with fail
                have Xx0_0 := ext_cell _ _ ((Array.getElem?_eq_some_iff.1 R0.out).1) _ x0_0
                have Xx0_1 := ext_cell _ _ ((Array.getElem?_eq_some_iff.1 R0.out).1) _ x0_1
                have Xx0_2 := ext_cell _ _ ((Array.getElem?_eq_some_iff.1 R0.out).1) _ x0_2
                have Xx0_3 := ext_cell _ _ ((Array.getElem?_eq_some_iff.1 R0.out).1) _ x0_3
                have Xx0_4 := ext_cell _ _ ((Array.getElem?_eq_some_iff.1 R0.out).1) _ x0_4
                have Xx0_5 := ext_cell _ _ ((Array.getElem?_eq_some_iff.1 R0.out).1) _ x0_5
                have Xx0_6 := ext_cell _ _ ((Array.getElem?_eq_some_iff.1 R0.out).1) _ x0_6
                have Xx1_0 := ext_cell _ _ ((Array.getElem?_eq_some_iff.1 R1.out).1) _ x1_0
                have Xx1_1 := ext_cell _ _ ((Array.getElem?_eq_some_iff.1 R1.out).1) _ x1_1
                have Xx1_2 := ext_cell _ _ ((Array.getElem?_eq_some_iff.1 R1.out).1) _ x1_2
                have Xx1_3 := ext_cell _ _ ((Array.getElem?_eq_some_iff.1 R1.out).1) _ x1_3
                have Xx1_4 := ext_cell _ _ ((Array.getElem?_eq_some_iff.1 R1.out).1) _ x1_4
                have Xc0 := ext_cell _ _ (hbb) _ c0
                have Xc1 := ext_cell _ _ (hbb) _ c1
                have Xc2 := ext_cell _ _ (hbb) _ c2
                clear x0_0 x0_1 x0_2 x0_3 x0_4 x0_5 x0_6 x1_0 x1_1 x1_2 x1_3 x1_4 c0 c1 c2
                refine wp_region_ext W (by kernel_rfl) (by kernel_rfl) (Below.refl _ _) ?_
                repeat (go_big_quiet_step (first | (go_at_call 85; with_reducible exact calls_ext (T.out _))))
                refine wpQuiet_nil ?_
                intro _ hw'
                obtain ⟨n9, rfl⟩ := hw'
                have HB9 := Lib.hid n9.below
                generalize n9.wd = w9 at *
                clear Xx0_0 Xx0_1 Xx0_2 Xx0_3 Xx0_4 Xx0_5 Xx0_6 Xx1_0 Xx1_1 Xx1_2 Xx1_3 Xx1_4 Xc0 Xc1 Xc2
                go_wp2_with fail
                first | refine bodyPost_ret (v := .tuple #[.slice a l.length cap, .bool false]) (by simp [results, Try.results113, go_sem]) rfl ?_ | refine bodyPost_ret (v := .tuple #[.slice (some ⟨b, off, none⟩) l.length cap, .bool false]) (by simp [results, Try.results113, go_sem]) rfl ?_
                exact HNONE.out hr.out _ _ _ HB9.out rfl
          have cqb : (rc == -1) = false := by simpa using cq
          have hr : Hid (lo = none) := by show _ = _; rw [← HLO.out]; simp [cq]
          go_upto_region 32 with fail
          have Xx0_0 := ext_cell _ _ ((Array.getElem?_eq_some_iff.1 R0.out).1) _ x0_0
          have Xx0_1 := ext_cell _ _ ((Array.getElem?_eq_some_iff.1 R0.out).1) _ x0_1
          have Xx0_2 := ext_cell _ _ ((Array.getElem?_eq_some_iff.1 R0.out).1) _ x0_2
          have Xx0_3 := ext_cell _ _ ((Array.getElem?_eq_some_iff.1 R0.out).1) _ x0_3
          have Xx0_4 := ext_cell _ _ ((Array.getElem?_eq_some_iff.1 R0.out).1) _ x0_4
          have Xx0_5 := ext_cell _ _ ((Array.getElem?_eq_some_iff.1 R0.out).1) _ x0_5
          have Xx0_6 := ext_cell _ _ ((Array.getElem?_eq_some_iff.1 R0.out).1) _ x0_6
          have Xx1_0 := ext_cell _ _ ((Array.getElem?_eq_some_iff.1 R1.out).1) _ x1_0
          have Xx1_1 := ext_cell _ _ ((Array.getElem?_eq_some_iff.1 R1.out).1) _ x1_1
          have Xx1_2 := ext_cell _ _ ((Array.getElem?_eq_some_iff.1 R1.out).1) _ x1_2
          have Xx1_3 := ext_cell _ _ ((Array.getElem?_eq_some_iff.1 R1.out).1) _ x1_3
          have Xx1_4 := ext_cell _ _ ((Array.getElem?_eq_some_iff.1 R1.out).1) _ x1_4
          have Xc0 := ext_cell _ _ (hbb) _ c0
          have Xc1 := ext_cell _ _ (hbb) _ c1
          have Xc2 := ext_cell _ _ (hbb) _ c2
          clear x0_0 x0_1 x0_2 x0_3 x0_4 x0_5 x0_6 x1_0 x1_1 x1_2 x1_3 x1_4 c0 c1 c2
          refine wp_region_ext W (by kernel_rfl) (by kernel_rfl) (Below.refl _ _) ?_
          repeat (go_big_quiet_step (first | (go_at_call 85; with_reducible exact calls_ext (T.out _))))
          refine wpQuiet_nil ?_
          intro _ hw'
          obtain ⟨n9, rfl⟩ := hw'
          have HB9 := Lib.hid n9.below
          generalize n9.wd = w9 at *
          clear Xx0_0 Xx0_1 Xx0_2 Xx0_3 Xx0_4 Xx0_5 Xx0_6 Xx1_0 Xx1_1 Xx1_2 Xx1_3 Xx1_4 Xc0 Xc1 Xc2
          go_wp2_with fail
          first | refine bodyPost_ret (v := .tuple #[.slice a l.length cap, .bool false]) (by simp [results, Try.results113, go_sem]) rfl ?_ | refine bodyPost_ret (v := .tuple #[.slice (some ⟨b, off, none⟩) l.length cap, .bool false]) (by simp [results, Try.results113, go_sem]) rfl ?_
          exact HNONE.out hr.out _ _ _ HB9.out rfl
      have k6b : (kd == 6) = false := by simpa using k6
      go_wp2_with fail
      refine (TE.out _ HB.out).mono ?_; rintro e w' ⟨rfl, rfl⟩
      cases ex with
      | false =>
        have hr : Hid (lo = none) := by show _ = _; rw [← HLO.out]; simp [k5, k6]
        go_upto_region 32 with fail
        have Xx0_0 := ext_cell _ _ ((Array.getElem?_eq_some_iff.1 R0.out).1) _ x0_0
        have Xx0_1 := ext_cell _ _ ((Array.getElem?_eq_some_iff.1 R0.out).1) _ x0_1
        have Xx0_2 := ext_cell _ _ ((Array.getElem?_eq_some_iff.1 R0.out).1) _ x0_2
        have Xx0_3 := ext_cell _ _ ((Array.getElem?_eq_some_iff.1 R0.out).1) _ x0_3
        have Xx0_4 := ext_cell _ _ ((Array.getElem?_eq_some_iff.1 R0.out).1) _ x0_4
        have Xx0_5 := ext_cell _ _ ((Array.getElem?_eq_some_iff.1 R0.out).1) _ x0_5
        have Xx0_6 := ext_cell _ _ ((Array.getElem?_eq_some_iff.1 R0.out).1) _ x0_6
        have Xx1_0 := ext_cell _ _ ((Array.getElem?_eq_some_iff.1 R1.out).1) _ x1_0
        have Xx1_1 := ext_cell _ _ ((Array.getElem?_eq_some_iff.1 R1.out).1) _ x1_1
        have Xx1_2 := ext_cell _ _ ((Array.getElem?_eq_some_iff.1 R1.out).1) _ x1_2
        have Xx1_3 := ext_cell _ _ ((Array.getElem?_eq_some_iff.1 R1.out).1) _ x1_3
        have Xx1_4 := ext_cell _ _ ((Array.getElem?_eq_some_iff.1 R1.out).1) _ x1_4
        clear x0_0 x0_1 x0_2 x0_3 x0_4 x0_5 x0_6 x1_0 x1_1 x1_2 x1_3 x1_4
        refine wp_region_ext W (by kernel_rfl) (by kernel_rfl) (Below.refl _ _) ?_
        repeat (go_big_quiet_step (first | (go_at_call 85; with_reducible exact calls_ext (T.out _))))
        refine wpQuiet_nil ?_
        intro _ hw'
        obtain ⟨n9, rfl⟩ := hw'
        have HB9 := Lib.hid n9.below
        generalize n9.wd = w9 at *
        clear Xx0_0 Xx0_1 Xx0_2 Xx0_3 Xx0_4 Xx0_5 Xx0_6 Xx1_0 Xx1_1 Xx1_2 Xx1_3 Xx1_4
        go_wp2_with fail
        first | refine bodyPost_ret (v := .tuple #[.slice a l.length cap, .bool false]) (by simp [results, Try.results113, go_sem]) rfl ?_ | refine bodyPost_ret (v := .tuple #[.slice (some ⟨b, off, none⟩) l.length cap, .bool false]) (by simp [results, Try.results113, go_sem]) rfl ?_
        exact HNONE.out hr.out _ _ _ HB9.out rfl
      | true =>
        have hx := HEX.out
        unfold exB at hx
        simp only [Bool.and_eq_true, decide_eq_true_eq] at hx
        obtain ⟨i, hi⟩ : ∃ i : Nat, ch = (i : Int) := ⟨ch.toNat, by omega⟩
        subst hi
        have hil : i < l.length := by omega
        have hiI : (i : Int) < (l.length : Int) := by omega
        obtain ⟨⟨cc, bf, cl⟩, hcc⟩ : ∃ c, l.getD i noChan = c := ⟨_, rfl⟩
        have HCE : Hid (chE l (i : Int) = ⟨cc, bf, cl⟩) := by
          show l.getD (Int.toNat (i : Int)) noChan = _
          rw [Int.toNat_natCast, hcc]
        have hmem : (⟨cc, bf, cl⟩ : ChanM) ∈ l := by
          rw [← hcc, List.getD_eq_getElem?_getD, List.getElem?_eq_getElem hil]
          exact List.getElem_mem hil
        have HCW : Hid (cc = IntKind.i64.wrap cc) := by
          obtain ⟨us, -, -, -, h4, -⟩ := HV.out
          exact h4 _ hmem
        have TS := Lib.hid fun c u w' (hb : Below w.heap.size w w') hu hcw => mset_any _ l i hil c u w' (HV.out.below hb) hu hcw HL.out
        obtain ⟨b, off, cap', u, hve, hbb, c0, c1, c2, hu, hfu⟩ := (HV.out.below (HB.out)).at2 i hil
        simp only [Value.slice.injEq] at hve
        obtain ⟨rfl, -, rfl⟩ := hve
        rw [hcc] at c0 c2 hu
        dsimp only at c0 c2 hu
        obtain ⟨ua, uc, rfl, -⟩ := hu.len
        have HU := Lib.hid hu
        have HUF : Hid (SlU _ (.slice ua bf.length uc) bf) := ⟨HU.out, hfu⟩
        clear hfu hx hcc hmem hu
        have hr : Hid (lo = none) := by show _ = _; rw [← HLO.out]; simp [k5, k6]
        go_upto_region 32 with fail
        have Xx0_0 := ext_cell _ _ ((Array.getElem?_eq_some_iff.1 R0.out).1) _ x0_0
        have Xx0_1 := ext_cell _ _ ((Array.getElem?_eq_some_iff.1 R0.out).1) _ x0_1
        have Xx0_2 := ext_cell _ _ ((Array.getElem?_eq_some_iff.1 R0.out).1) _ x0_2
        have Xx0_3 := ext_cell _ _ ((Array.getElem?_eq_some_iff.1 R0.out).1) _ x0_3
        have Xx0_4 := ext_cell _ _ ((Array.getElem?_eq_some_iff.1 R0.out).1) _ x0_4
        have Xx0_5 := ext_cell _ _ ((Array.getElem?_eq_some_iff.1 R0.out).1) _ x0_5
        have Xx0_6 := ext_cell _ _ ((Array.getElem?_eq_some_iff.1 R0.out).1) _ x0_6
        have Xx1_0 := ext_cell _ _ ((Array.getElem?_eq_some_iff.1 R1.out).1) _ x1_0
        have Xx1_1 := ext_cell _ _ ((Array.getElem?_eq_some_iff.1 R1.out).1) _ x1_1
        have Xx1_2 := ext_cell _ _ ((Array.getElem?_eq_some_iff.1 R1.out).1) _ x1_2
        have Xx1_3 := ext_cell _ _ ((Array.getElem?_eq_some_iff.1 R1.out).1) _ x1_3
        have Xx1_4 := ext_cell _ _ ((Array.getElem?_eq_some_iff.1 R1.out).1) _ x1_4
        have Xc0 := ext_cell _ _ (hbb) _ c0
        have Xc1 := ext_cell _ _ (hbb) _ c1
        have Xc2 := ext_cell _ _ (hbb) _ c2
        clear x0_0 x0_1 x0_2 x0_3 x0_4 x0_5 x0_6 x1_0 x1_1 x1_2 x1_3 x1_4 c0 c1 c2
        refine wp_region_ext W (by kernel_rfl) (by kernel_rfl) (Below.refl _ _) ?_
        repeat (go_big_quiet_step (first | (go_at_call 85; with_reducible exact calls_ext (T.out _))))
        refine wpQuiet_nil ?_
        intro _ hw'
        obtain ⟨n9, rfl⟩ := hw'
        have HB9 := Lib.hid n9.below
        generalize n9.wd = w9 at *
        clear Xx0_0 Xx0_1 Xx0_2 Xx0_3 Xx0_4 Xx0_5 Xx0_6 Xx1_0 Xx1_1 Xx1_2 Xx1_3 Xx1_4 Xc0 Xc1 Xc2
        go_wp2_with fail
        first | refine bodyPost_ret (v := .tuple #[.slice a l.length cap, .bool false]) (by simp [results, Try.results113, go_sem]) rfl ?_ | refine bodyPost_ret (v := .tuple #[.slice (some ⟨b, off, none⟩) l.length cap, .bool false]) (by simp [results, Try.results113, go_sem]) rfl ?_
        exact HNONE.out hr.out _ _ _ HB9.out rfl
    have q7b : (rk == 7) = false := by simpa using q7
    have hr : Hid (lo = none) := by show _ = _; rw [← HLO.out]; simp [q1, q2, q5, q6, q3, q4, q7]
    go_wp2
    refine bodyPost_ret (v := .tuple #[.slice none 0 0, .bool false]) (by simp [results, Try.results113, go_sem]) rfl ?_
    exact HNONE.out hr.out _ _ _ (Below.refl _ _) rfl
end Go.Proofs.Ytialclohhemkiaa
