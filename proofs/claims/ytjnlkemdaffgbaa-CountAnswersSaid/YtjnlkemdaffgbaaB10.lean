import Derived.Deep.DeepCutAuto
import Derived.Deep.CutBlock
import Derived.Test.YtjnlkemdaffgbaaB09
import Derived.Test.YtjnlkemdaffgbaaB02
set_option linter.unusedVariables false
set_option linter.unusedSimpArgs false
/- What the document's answer makes of a memory by an access. -/
namespace Go.Proofs.Ytjnlkemdaffgbaa
open Go.ChangeShapes Go.WideShapes Go.ChangeAt Go.RowKit
set_option maxRecDepth 100000

theorem next_drop (x : Int) (l : List Int) : nextL 9 x l = l.erase x := by unfold nextL; rw [if_neg (by decide)]
theorem one_lit {w : World} {b : Nat} {x : Int} {e : TypeId} {k : IntKind} (h : w.heap[b]? = some (.cells #[.int k x] e (0, 0))) (hx : x = k.wrap x) : SlI w k (.slice (some ⟨b, 0, none⟩) 1 1) [x] := by
  refine ⟨by simp, by simpa using hx, some ⟨b, 0, none⟩, 1, rfl, Nat.le_refl _, fun t ht => ⟨b, 0, rfl, (Array.getElem?_eq_some_iff.1 h).1, ?_⟩⟩
  obtain rfl : t = 0 := by simp at ht; exact ht
  exact cell_of_row _ _ 0 _ _ _ h
set_option maxHeartbeats 4000000 in
theorem rwithout_any (G : World → Prop) (v : Value) (l : List Int) (x : Int) (w : World) (hG : G w) (hcl : Wide G) (h : StI G .i64 v l) (hl : l.length ≤ 100000) :
    Calls Try.prog 73 #[v, .int .i64 x] w fun e w' => ∃ v', e = .returned v' ∧ StI (Nx G w w') .i64 v' (l.erase x) ∧ Below w.heap.size w w' := by
  have H := Lib.hid (h w hG)
  have HST := Lib.hid h
  obtain ⟨a, cap, rfl, hcap⟩ := (h w hG).len
  clear h
  go_enter Try.func73, Try.ntmps73
  go_wp2_with fail
  go_loopw [5] (fun u wr => ∃ i : Nat, i ≤ l.length ∧ u = .int .i64 i ∧ Hid (∀ j, j < i → l.getD j 0 ≠ x) ∧ Hid (∃ n, w.drewN n = wr)) (fun u _ => 100001 - (intOf u).toNat)
  case atStart => exact ⟨0, by omega, rfl, fun j hj => by omega, 0, rfl⟩
  case round =>
    obtain ⟨i, hi, rfl, hmiss, hw⟩ := hrel
    obtain ⟨nq, rfl⟩ := hw.out
    by_cases hlt : i < l.length
    · obtain ⟨b, off, cap', e, hcap2, hb, hcell⟩ := H.out.open (by rintro rfl; simp at hlt)
      simp only [Value.slice.injEq] at e
      obtain ⟨rfl, -, rfl⟩ := e
      obtain ⟨y, hy⟩ : ∃ y, l.getD i 0 = y := ⟨_, rfl⟩
      have hck := hcell i hlt
      rw [hy] at hck
      have HY := Lib.hid hy
      clear hcell hy
      by_cases hyx : y = x
      · subst hyx
        have HE : Hid (l.erase y = l.take i ++ l.drop (i + 1)) := FstL.erase ⟨hlt, HY.out, hmiss.out⟩
        have HT := Lib.hid (H.out.take i (by omega))
        obtain ⟨A9, hA9, HD⟩ : ∃ A9, (if cap = i + 1 then some (⟨b, off, none⟩ : Addr) else some ⟨b, off + (i + 1), none⟩) = A9 ∧ Hid (SlI w .i64 (.slice A9 (l.length - (i + 1)) (cap - (i + 1))) (l.drop (i + 1))) := by
          refine ⟨_, rfl, ?_⟩
          by_cases hcp : cap = i + 1
          · rw [if_pos hcp, show l.length - (i + 1) = 0 by omega, List.drop_eq_nil_of_le (by omega)]
            exact SlI.empty _ _ _ _
          · rw [if_neg hcp]
            exact H.out.drop (i + 1) (by omega)
        have htl : (l.take i).length = i := by rw [List.length_take]; omega
        have hdl : (l.drop (i + 1)).length = l.length - (i + 1) := List.length_drop
        have hi1 : (i : Int) + 1 ≤ (l.length : Int) := by omega
        have hi2 : (0 : Int) ≤ (i : Int) + 1 := by omega
        have hi3 : (i : Int) ≤ (l.length : Int) := by omega
        have hi4 : (i : Int) ≤ (cap : Int) := by omega
        have hwr : IntKind.i64.wrap ((i : Int) + 1) = (i : Int) + 1 := by rw [IntKind.wrap_i64]; omega
        have hrun2 : True := trivial
        go_upto_region 5 with fail
        refine wp_region_until (fun _ : World => True) 9 10 (by kernel_rfl) rfl ?_
        obtain ⟨u0, hu0, HU0⟩ : ∃ u : World, (w.drewN nq).drew = u ∧ Hid (Below w.heap.size w u) := ⟨_, rfl, below_drewN (below_drewN (Below.refl _ _) nq) 1⟩
        rw [hu0]
        clear hu0
        have hSU0 : (fun _ : World => True) (u0) := trivial
        refine tkU (v := ?_) 0 la0 hSU0 (by kernel_rfl) (fun _ _ _ h => h) rfl ?_ ?_
        rotate_left
        · (intro w hSw; (try dsimp only at hSw); go_simp <;> with_reducible rfl)
        simp only [Act.put, List.setIfInBounds_toArray, List.set_cons_zero, List.set_cons_succ]
        refine tkU (v := ?_) 1 la1 hSU0 (by kernel_rfl) (fun _ _ _ h => h) rfl ?_ ?_
        rotate_left
        · (intro w hSw; (try dsimp only at hSw); go_simp <;> with_reducible rfl)
        simp only [Act.put, List.setIfInBounds_toArray, List.set_cons_zero, List.set_cons_succ]
        refine tkU (v := ?_) 2 la2 hSU0 (by kernel_rfl) (fun _ _ _ h => h) rfl ?_ ?_
        rotate_left
        · (intro w hSw; (try dsimp only at hSw); go_simp <;> with_reducible rfl)
        simp only [Act.put, List.setIfInBounds_toArray, List.set_cons_zero, List.set_cons_succ]
        refine tkU (v := ?_) 4 la4 hSU0 (by kernel_rfl) (fun _ _ _ h => h) rfl ?_ ?_
        rotate_left
        · (intro w hSw; (try dsimp only at hSw); go_simp <;> with_reducible rfl)
        simp only [Act.put, List.setIfInBounds_toArray, List.set_cons_zero, List.set_cons_succ]
        refine tkU (v := ?_) 5 la5 hSU0 (by kernel_rfl) (fun _ _ _ h => h) rfl ?_ ?_
        rotate_left
        · (intro w hSw; (try dsimp only at hSw); go_simp <;> with_reducible rfl)
        simp only [Act.put, List.setIfInBounds_toArray, List.set_cons_zero, List.set_cons_succ]
        refine tkU (v := ?_) 6 la6 hSU0 (by kernel_rfl) (fun _ _ _ h => h) rfl ?_ ?_
        rotate_left
        · (intro w hSw; (try dsimp only at hSw); go_simp <;> with_reducible rfl)
        simp only [Act.put, List.setIfInBounds_toArray, List.set_cons_zero, List.set_cons_succ]
        refine tkU (v := ?_) 7 la7 hSU0 (by kernel_rfl) (fun _ _ _ h => h) rfl ?_ ?_
        rotate_left
        · (intro w hSw; (try dsimp only at hSw); go_simp <;> with_reducible rfl)
        simp only [Act.put, List.setIfInBounds_toArray, List.set_cons_zero, List.set_cons_succ]
        refine wpAnyU_ready (rs := [3]) (by kernel_rfl) rfl ?_
        refine AllReadyU.cons la3 rfl (fun K hK => ?_) ?_
        · refine step_app_i64 (by rfl) _ _ (by rfl) w.heap.size (.slice none 0 0) [] (by rfl) (OwnI.nil _ _ _ _) (.slice (some ⟨b, off, none⟩) i cap) (l.take i) (by rfl) (HT.out.below HU0.out) (by simp) (by omega) HU0.out.size ?_
          intro v6 w6 ho6 hg6
          simp only [List.nil_append] at ho6
          have HO6 := Lib.hid ho6
          have HB6 : Hid (Below w.heap.size w w6) := HU0.out.grown hg6 HU0.out.size (fun k hk => by cases hk)
          clear ho6 hg6
          refine hK.out _ _ ?_ (fun hSU1 => ?_)
          · exact trivial
          clear hK K hSU0
          try simp only [Act.put, List.setIfInBounds_toArray, List.set_cons_zero, List.set_cons_succ]
          refine wpAnyU_ready (rs := [8]) (by kernel_rfl) rfl ?_
          refine AllReadyU.cons la8 rfl (fun K hK => ?_) ?_
          · refine step_app_i64 (by rfl) _ _ (by rfl) w.heap.size v6 (l.take i) (by rfl) HO6.out (.slice A9 (l.length - (i + 1)) (cap - (i + 1))) (l.drop (i + 1)) (by rfl) (HD.out.below HB6.out) (by omega) (by omega) HB6.out.size ?_
            intro v7 w7 ho7 hg7
            have HO7 := Lib.hid ho7
            have HB7 : Hid (Below w.heap.size w w7) := HB6.out.grown hg7 HB6.out.size (fun k hk => HO6.out.own_ge k hk)
            clear ho7 hg7
            refine hK.out _ _ ?_ (fun hSU2 => ?_)
            · exact trivial
            clear hK K hSU1
            try simp only [Act.put, List.setIfInBounds_toArray, List.set_cons_zero, List.set_cons_succ]
            refine wpAnyU_ready (rs := [9]) (by kernel_rfl) rfl ?_
            refine AllReadyU.free la9 rfl (by kernel_rfl) (fun K hK => ?_) ?_
            · go_simp
              refine hK.out _ _ ?_
              clear hK K hSU2
              try simp only [Act.put, List.setIfInBounds_toArray, List.set_cons_zero, List.set_cons_succ]
              refine wpAnyU_done (by kernel_rfl) ?_ _
              go_wp2
              go_ret
              refine ⟨_, rfl, ?_, HB7.out⟩
              rw [HE.out]
              have hle : (l.take i ++ l.drop (i + 1)).length ≤ 140737488351232 := by rw [List.length_append]; omega
              have hwf : ∀ x ∈ l.take i ++ l.drop (i + 1), x = IntKind.i64.wrap x := fun x hx => by
                rcases List.mem_append.1 hx with h | h
                · exact H.out.2.1 x (List.mem_of_mem_take h)
                · exact H.out.2.1 x (List.mem_of_mem_drop h)
              exact fun w5 h5 => (HO7.out.newPart (Nat.le_refl _) h5.2).read hle hwf
            exact AllReadyU.nil
          exact AllReadyU.nil
        exact AllReadyU.nil
      · have hne : (y == x) = false := by simpa using hyx
        have hms : Hid (∀ j, j < i + 1 → l.getD j 0 ≠ x) := fun j hj => by
          rcases Nat.lt_or_ge j i with h1 | h1
          · exact hmiss.out j h1
          · obtain rfl : j = i := by omega
            rw [HY.out]; exact hyx
        go_wp2
        go_roundw
        case rel => exact ⟨i + 1, by omega, by go_num, hms, nq, rfl⟩
        case measure => simp [intOf]; omega
    · obtain rfl : i = l.length := by omega
      have HE := Lib.hid (erase_none l x hmiss.out)
      go_wp2
      go_ret
      refine ⟨_, rfl, ?_, below_drewN (Below.refl _ _) _⟩
      rw [HE.out]
      exact fun w5 h5 => HST.out w5 h5.1
set_option maxHeartbeats 16000000 in
theorem rapply_any (G : World → Prop) (v : Value) (m : MemM) (a : AccM) (w : World) (hG : G w) (hcl : Wide G) (h : StM G v m) (hm : m.fits) (ha : a.ok) :
    Calls Try.prog 65 #[v, accV a] w (TripR G w (applyE m a)) := by
  obtain ⟨a1, cap, a2, cap2, rfl⟩ := h.open w hG
  have HM := Lib.hid hm
  have HSM := Lib.hid h
  have HG := Lib.hid hG
  have HCL := Lib.hid hcl
  obtain ⟨k, ad, old, nw, til⟩ := a
  have HA := Lib.hid ha
  obtain ⟨hr0, hr1, hr2, hr3, hrs, hrb⟩ := heap_alloc4 w (.cells #[.slice a1 m.words.length cap, .slice a2 m.lists.length cap2, .int .i64 m.tick] 39) (.cells #[.int .i64 k, .int .i64 ad, .int .u64 old, .int .u64 nw, .int .i64 til] 69) (.cells zeroMem 39) (.cells zeroAns 53)
  obtain ⟨W, hW⟩ : ∃ W, (((w.alloc (.cells #[.slice a1 m.words.length cap, .slice a2 m.lists.length cap2, .int .i64 m.tick] 39)).alloc (.cells #[.int .i64 k, .int .i64 ad, .int .u64 old, .int .u64 nw, .int .i64 til] 69)).alloc (.cells zeroMem 39)).alloc (.cells zeroAns 53) = W := ⟨_, rfl⟩
  rw [hW] at hr0 hr1 hr2 hr3 hrs hrb
  have R0 := Lib.hid hr0
  have R1 := Lib.hid hr1
  have R2 := Lib.hid hr2
  have R3 := Lib.hid hr3
  have HB := Lib.hid hrb
  have HGW : Hid (G W) := hcl _ _ hG hrb
  have HW := Lib.hid hW
  have hsz : w.heap.size + 4 ≤ W.heap.size := by omega
  clear hr0 hr1 hr2 hr3 hrs hrb hW h hG hcl hm ha
  obtain ⟨x0, x1, x2⟩ := rowc3 R0.out
  obtain ⟨y0, y1, y2, y3, y4⟩ := rowc5 R1.out
  have GG := Lib.hid (rgranted_any _ m ⟨k, ad, old, nw, til⟩ W (HSM.out.at HGW.out) HM.out HA.out)
  unfold accV at GG ⊢
  dsimp only at GG ⊢
  go_enter Try.func65, Try.ntmps65
  go_upto_region 1 with fail
  rw [show (#[.slice none 0 0, .slice none 0 0, .int .i64 0] : Array Value) = zeroMem from rfl, show (#[.int .u64 0, .bool false, .bool false, .slice none 0 0] : Array Value) = zeroAns from rfl, HW.out]
  clear HW
  go_wp2_with fail
  refine GG.out.mono ?_; rintro e w1 ⟨rfl, hb1⟩
  have HB1 := Lib.hid (HB.out.trans (hb1.mono (by omega)))
  have Q0 := Lib.hid ((hb1.block w.heap.size (by omega)).trans R0.out)
  have Q1 := Lib.hid ((hb1.block (w.heap.size + 1) (by omega)).trans R1.out)
  have Q2 := Lib.hid ((hb1.block (w.heap.size + 2) (by omega)).trans R2.out)
  have Q3 := Lib.hid ((hb1.block (w.heap.size + 3) (by omega)).trans R3.out)
  have HG1 : Hid (G w1) := HCL.out _ _ HGW.out hb1
  have hs1 := hb1.size
  clear hb1 R0 R1 R2 R3 HB HGW x0 x1 x2 y0 y1 y2 y3 y4 GG
  generalize hWW : W.heap.size = WS at *
  clear hWW
  obtain ⟨W, rfl⟩ : ∃ W : World, W = w1 := ⟨_, rfl⟩
  have R2 := Q2
  have R3 := Q3
  obtain ⟨x0, x1, x2⟩ := rowc3 Q0.out
  obtain ⟨y0, y1, y2, y3, y4⟩ := rowc5 Q1.out
  cases hb : grantB m ⟨k, ad, old, nw, til⟩ with
  | false =>
    have HE := Lib.hid (apply_not hb)
    clear hb
    have T2 := R2
    have T3 : Hid (∀ cs, ((W).setRow (w.heap.size + 2) cs).heap[w.heap.size + 3]? = some (.cells zeroAns 53 (0, 0))) := fun cs => (setRow_other _ _ _ _ (by omega)).trans R3.out
    go_wp2_with (first
            | (refine wpList_store_row rfl 39 _ _ rfl (w.heap.size + 2) _ rfl rfl 39 zeroMem T2.out (by kernel_rfl) rfl (by simp [Value.oneCell']) ?_)
            | (refine wpList_store_row rfl 53 _ _ rfl (w.heap.size + 3) _ rfl rfl 53 zeroAns (T3.out _) (by kernel_rfl) rfl (by simp [Value.oneCell']) ?_))
    refine bodyPost_ret (v := .tuple #[.agg #[.slice a1 m.words.length cap, .slice a2 m.lists.length cap2, .int .i64 m.tick], .agg zeroAns, .bool false]) (results_cells3 Try.results65 _ _ (w.heap.size + 2) (w.heap.size + 3) 39 53 _ _ (0, 0) (0, 0) _ _ rfl rfl ((setRow_other _ _ _ _ (by omega)).trans (setRow_heap _ _ _ _ 39 (0, 0) T2.out)) (setRow_heap _ _ _ _ 53 (0, 0) (T3.out _)) Try.underlying39 rfl (by kernel_rfl) Try.underlying53 rfl (by kernel_rfl) _ rfl) rfl ?_
    have hbe := row_below (row_below HB1.out (show w.heap.size ≤ w.heap.size + 2 by omega) #[.slice a1 m.words.length cap, .slice a2 m.lists.length cap2, .int .i64 m.tick]) (show w.heap.size ≤ w.heap.size + 3 by omega) zeroAns
    unfold TripR
    rw [HE.out]
    exact ⟨_, _, rfl, HSM.out.sub fun _ (h : Nx G w _ _) => h.1, StA.bare _ _ _ _, hbe⟩

  | true =>
    have hkk := grant_kind hb
    dsimp only at hkk
    by_cases h7 : 7 ≤ k
    · have TL := Lib.hid (rlist_any _ m ad W (HSM.out.at HG1.out))
      have hAL := Lib.hid (apply_list (m := m) (a := ⟨k, ad, old, nw, til⟩) hb h7)
      have h7b : (decide (7 ≤ k)) = true := by simpa using h7
      clear hb
      go_wp2_with fail
      refine TL.out.mono ?_; rintro e w2 ⟨rfl, hb2⟩
      clear TL
      have Q0 := Lib.hid ((hb2.block w.heap.size (by omega)).trans Q0.out)
      have Q1 := Lib.hid ((hb2.block (w.heap.size + 1) (by omega)).trans Q1.out)
      have R2 := Lib.hid ((hb2.block (w.heap.size + 2) (by omega)).trans R2.out)
      have R3 := Lib.hid ((hb2.block (w.heap.size + 3) (by omega)).trans R3.out)
      have HB1 := Lib.hid (HB1.out.trans (hb2.mono (by omega)))
      have HG1 : Hid (G w2) := HCL.out _ _ HG1.out hb2
      have hsw2 := hb2.size
      clear hb2 x0 x1 x2 y0 y1 y2 y3 y4
      obtain ⟨x0, x1, x2⟩ := rowc3 Q0.out
      obtain ⟨y0, y1, y2, y3, y4⟩ := rowc5 Q1.out

      cases hh : hasB m.lists.length ad with
      | false =>
        have HE := Lib.hid (hAL.out.trans (by rw [list_none hh]))
        clear hh
        have T3 : Hid (∀ cs, ((w2).setRow (w.heap.size + 2) cs).heap[w.heap.size + 3]? = some (.cells zeroAns 53 (0, 0))) := fun cs => (setRow_other _ _ _ _ (by omega)).trans R3.out
        go_wp2_with (first
          | (refine wpList_store_row rfl 39 _ _ rfl (w.heap.size + 2) _ rfl rfl 39 zeroMem R2.out (by kernel_rfl) rfl (by simp [Value.oneCell']) ?_)
          | (refine wpList_store_row rfl 53 _ _ rfl (w.heap.size + 3) _ rfl rfl 53 zeroAns (T3.out _) (by kernel_rfl) rfl (by simp [Value.oneCell']) ?_))
        refine bodyPost_ret (v := .tuple #[.agg #[.slice a1 m.words.length cap, .slice a2 m.lists.length cap2, .int .i64 m.tick], .agg zeroAns, .bool true]) (results_cells3 Try.results65 _ _ (w.heap.size + 2) (w.heap.size + 3) 39 53 _ _ (0, 0) (0, 0) _ _ rfl rfl ((setRow_other _ _ _ _ (by omega)).trans (setRow_heap _ _ _ _ 39 (0, 0) R2.out)) (setRow_heap _ _ _ _ 53 (0, 0) (T3.out _)) Try.underlying39 rfl (by kernel_rfl) Try.underlying53 rfl (by kernel_rfl) _ rfl) rfl ?_
        have hbe := row_below (row_below HB1.out (show w.heap.size ≤ w.heap.size + 2 by omega) #[.slice a1 m.words.length cap, .slice a2 m.lists.length cap2, .int .i64 m.tick]) (show w.heap.size ≤ w.heap.size + 3 by omega) zeroAns
        unfold TripR
        rw [HE.out]
        exact ⟨_, _, rfl, HSM.out.sub fun _ (h : Nx G w _ _) => h.1, StA.bare _ _ _ _, hbe⟩
      | true =>
        obtain ⟨i, rfl, hi⟩ := hasB_true hh
        obtain ⟨us, hus⟩ := HSM.out.listsOf
        have HUS := Lib.hid hus
        obtain ⟨b, off, cap', e, hcap, hblt, hcells, hels⟩ := (hus w2 HG1.out).open (by rintro h0; rw [h0] at hi; simp at hi)
        have hck := hcells i hi
        have hel := hels i hi
        obtain ⟨A3, c3, he3, -⟩ := hel.len
        rw [he3] at hck
        have HLU : Hid (StI G .i64 (.slice A3 (m.lists.getD i []).length c3) (m.lists.getD i [])) := fun w5 h5 => by
          obtain ⟨b', off', cap'', e', h2', h3', h4', h5'⟩ := (HUS.out w5 h5).open (by rintro h0; rw [h0] at hi; simp at hi)
          have := h5' i hi
          rw [he3] at this
          exact this
        have hfit := HM.out.each i
        simp only [Value.slice.injEq] at e
        obtain ⟨rfl, -, rfl⟩ := e
        have hiI : (i : Int) < m.lists.length := by omega
        have hi0 : (0 : Int) ≤ i := by omega
        clear hcells hels hel he3 hus
        obtain ⟨ll, hll⟩ : ∃ ll, m.lists.getD i [] = ll := ⟨_, rfl⟩
        have HLL := Lib.hid hll
        rw [hll] at HLU hck hfit
        clear hll
        rcases (show k = 7 ∨ k = 8 ∨ k = 9 by omega) with rfl | rfl | rfl
        · have HE : Hid (applyE m ⟨7, i, old, nw, til⟩ = (m, ⟨0, false, false, ll⟩, true)) := hAL.out.trans (by rw [list_read hh, HLL.out])
          clear hh hkk h7
          have T3 : Hid (∀ cs, ((w2).setRow (w.heap.size + 2) cs).heap[w.heap.size + 3]? = some (.cells zeroAns 53 (0, 0))) := fun cs => (setRow_other _ _ _ _ (by omega)).trans R3.out
          go_wp2_with (first
            | (refine wpList_store_row rfl 39 _ _ rfl (w.heap.size + 2) _ rfl rfl 39 zeroMem R2.out (by kernel_rfl) rfl (by simp [Value.oneCell']) ?_)
            | (refine wpList_store_row rfl 53 _ _ rfl (w.heap.size + 3) _ rfl rfl 53 zeroAns (T3.out _) (by kernel_rfl) rfl (by simp [Value.oneCell']) ?_))
          refine bodyPost_ret (v := .tuple #[.agg #[.slice a1 m.words.length cap, .slice (some ⟨b, off, none⟩) m.lists.length cap2, .int .i64 m.tick], .agg #[.int .u64 0, .bool false, .bool false, .slice A3 ll.length c3], .bool true]) (results_cells3 Try.results65 _ _ (w.heap.size + 2) (w.heap.size + 3) 39 53 _ _ (0, 0) (0, 0) _ _ rfl rfl ((setRow_other _ _ _ _ (by omega)).trans (setRow_heap _ _ _ _ 39 (0, 0) R2.out)) (setRow_heap _ _ _ _ 53 (0, 0) (T3.out _)) Try.underlying39 rfl (by kernel_rfl) Try.underlying53 rfl (by kernel_rfl) _ rfl) rfl ?_
          have hbe := row_below (row_below HB1.out (show w.heap.size ≤ w.heap.size + 2 by omega) #[.slice a1 m.words.length cap, .slice (some ⟨b, off, none⟩) m.lists.length cap2, .int .i64 m.tick]) (show w.heap.size ≤ w.heap.size + 3 by omega) #[.int .u64 0, .bool false, .bool false, .slice A3 ll.length c3]
          unfold TripR
          rw [HE.out]
          exact ⟨_, _, rfl, HSM.out.sub fun _ (h : Nx G w _ _) => h.1, ⟨_, rfl, fun w5 (h : Nx G w _ _) => HLU.out w5 h.1⟩, hbe⟩
        · clear hkk h7
          have hnx : Hid (nextL 8 (IntKind.i64.wrap nw) ll = if ll.length < 1000 then ll ++ [IntKind.i64.wrap nw] else ll) := by unfold nextL; rfl
          go_upto_block 0 with fail
          go_cut [7] (fun s7 wx => ∃ A n c, s7 = .slice A n c ∧ n = (nextL 8 (IntKind.i64.wrap nw) ll).length ∧ Hid (StI (Nx G w2 wx) .i64 (.slice A n c) (nextL 8 (IntKind.i64.wrap nw) ll)) ∧ Hid (Below w2.heap.size w2 wx))
          case first =>
            by_cases hlen : ll.length < 1000
            · have hlb : ((ll.length : Int) < 1000) := by omega
              have hnp := Lib.hid (hnx.out.trans (if_pos hlen))
              go_upto_region 10 with fail
              have KS : Hid (∀ w', Below w2.heap.size w2 w' → (fun w' : World => w'.cell? ⟨w.heap.size + 1, 3, none⟩ = some (.int .u64 nw)) w') := fun w' hb => (hb.cell (p := ⟨w.heap.size + 1, 3, none⟩) (show w.heap.size + 1 < w2.heap.size by omega)).trans y3
              refine untilK KS 7 8 (by kernel_rfl) rfl ?_
              obtain ⟨u0, hu0, HUB0⟩ := drew_pack w2
              rw [hu0]
              have HGU0 : Hid (G u0) := HCL.out _ _ HG1.out HUB0.out
              clear hu0
              have hSU0 := KS.out _ HUB0.out
              refine tkU (v := ?_) 0 la0 hSU0 (by kernel_rfl) (fun _ _ _ h => h) rfl ?_ ?_
              rotate_left
              · (intro w hSw; (try dsimp only at hSw); go_simp <;> with_reducible rfl)
              simp only [Act.put, List.setIfInBounds_toArray, List.set_cons_zero, List.set_cons_succ]
              refine tkU (v := ?_) 2 la2 hSU0 (by kernel_rfl) (fun _ _ _ h => h) rfl ?_ ?_
              rotate_left
              · (intro w hSw; (try dsimp only at hSw); go_simp <;> with_reducible rfl)
              simp only [Act.put, List.setIfInBounds_toArray, List.set_cons_zero, List.set_cons_succ]
              refine tkU (v := ?_) 3 la3 hSU0 (by kernel_rfl) (fun _ _ _ h => h) rfl ?_ ?_
              rotate_left
              · (intro w hSw; (try dsimp only at hSw); go_simp <;> with_reducible rfl)
              simp only [Act.put, List.setIfInBounds_toArray, List.set_cons_zero, List.set_cons_succ]
              refine tkU (v := ?_) 4 la4 hSU0 (by kernel_rfl) (fun _ _ _ h => h) rfl ?_ ?_
              rotate_left
              · (intro w hSw; (try dsimp only at hSw); go_simp <;> with_reducible rfl)
              simp only [Act.put, List.setIfInBounds_toArray, List.set_cons_zero, List.set_cons_succ]
              refine wpAnyU_ready (rs := [1, 5]) (by kernel_rfl) rfl ?_
              refine AllReadyU.cons la1 rfl (fun K hK => ?_) ?_
              · refine step_app_i64 (w := u0) (by rfl) _ _ (by rfl) w2.heap.size (.slice none 0 0) [] (by rfl) (OwnI.nil _ _ _ _) (.slice A3 ll.length c3) ll (by rfl) (HLU.out u0 HGU0.out) (by simp) (by omega) HUB0.out.size ?_
                intro v6 w6 ho6 hg6
                simp only [List.nil_append] at ho6
                have HO6 := Lib.hid ho6
                have hb6 : Below u0.heap.size u0 w6 := (Below.refl _ _).grown hg6 (Nat.le_refl _) (fun k hk => by cases hk)
                have HB6 := Lib.hid (below_then HUB0.out hb6)
                clear ho6 hg6 hb6
                refine hK.out _ _ ?_ (fun hSU1 => ?_)
                · exact KS.out _ HB6.out
                clear hK K hSU0
                try simp only [Act.put, List.setIfInBounds_toArray, List.set_cons_zero, List.set_cons_succ]
                refine wpAnyU_ready (rs := [5]) (by kernel_rfl) rfl ?_
                refine AllReadyU.cons la5 rfl (fun K hK => ?_) ?_
                · go_simp
                  obtain ⟨u1, bX, hv, hbX, RX, hbv, ltX⟩ := alloc_pack w6 (.cells #[.int .i64 (IntKind.i64.wrap nw)] 3)
                  rw [hv, hbX]
                  have HO6' := Lib.hid (HO6.out.below hbv.out)
                  have HB6' := Lib.hid (below_then HB6.out hbv.out)
                  clear hv hbX hbv
                  refine hK.out _ _ ?_ (fun hSU2 => ?_)
                  · exact KS.out _ HB6'.out
                  clear hK K hSU1
                  try simp only [Act.put, List.setIfInBounds_toArray, List.set_cons_zero, List.set_cons_succ]
                  refine wpAnyU_ready (rs := [6]) (by kernel_rfl) rfl ?_
                  refine AllReadyU.cons la6 rfl (fun K hK => ?_) ?_
                  · refine step_app_i64 (w := u1) (by rfl) _ _ (by rfl) w2.heap.size v6 ll (by rfl) HO6'.out (.slice (some ⟨bX, 0, none⟩) 1 1) [IntKind.i64.wrap nw] (by rfl) (one_lit RX.out (wrap_wrap nw)) (by omega) (by simp) HB6'.out.size ?_
                    intro v8 w8 ho8 hg8
                    have HO8 := Lib.hid ho8
                    have HB8 : Hid (Below w2.heap.size w2 w8) := HB6'.out.grown hg8 HB6'.out.size (fun k hk => HO6'.out.own_ge k hk)
                    clear ho8 hg8
                    refine hK.out _ _ ?_ (fun hSU3 => ?_)
                    · exact KS.out _ HB8.out
                    clear hK K hSU2
                    try simp only [Act.put, List.setIfInBounds_toArray, List.set_cons_zero, List.set_cons_succ]
                    refine wpAnyU_ready (rs := [7]) (by kernel_rfl) rfl ?_
                    refine AllReadyU.free la7 rfl (by kernel_rfl) (fun K hK => ?_) ?_
                    · go_simp
                      refine hK.out _ _ ?_
                      clear hK K hSU3
                      try simp only [Act.put, List.setIfInBounds_toArray, List.set_cons_zero, List.set_cons_succ]
                      refine wpAnyU_done (by kernel_rfl) ?_ _
                      obtain ⟨A8, c8, hv8⟩ : ∃ A8 c8, v8 = .slice A8 (ll ++ [IntKind.i64.wrap nw]).length c8 := by
                        rcases HO8.out.shape with ⟨h1, h2⟩ | ⟨g, cap, h1, -⟩
                        · exact absurd h2 (by simp)
                        · exact ⟨_, _, h1⟩
                      subst hv8
                      have hfit2 : (ll ++ [IntKind.i64.wrap nw]).length ≤ 140737488351232 := by rw [List.length_append]; simp; omega
                      have hwf2 : ∀ x ∈ ll ++ [IntKind.i64.wrap nw], x = IntKind.i64.wrap x := fun x hx => by
                        rcases List.mem_append.1 hx with h | h
                        · exact (HLU.out w2 HG1.out).2.1 x h
                        · rw [List.mem_singleton.1 h]; exact wrap_wrap nw
                      go_wp2_with fail
                      go_meet
                      rw [hnp.out]
                      exact ⟨_, _, _, rfl, rfl, fun w5 h5 => (HO8.out.newPart (Nat.le_refl _) h5.2).read hfit2 hwf2, HB8.out⟩
                    exact AllReadyU.nil
                  exact AllReadyU.nil
                exact AllReadyU.nil
              refine AllReadyU.cons la5 rfl (fun K hK => ?_) ?_
              · go_simp
                obtain ⟨u1, bX, hv, hbX, RX, hbv, ltX⟩ := alloc_pack u0 (.cells #[.int .i64 (IntKind.i64.wrap nw)] 3)
                rw [hv, hbX]
                have HGU1 : Hid (G u1) := HCL.out _ _ HGU0.out hbv.out
                have HUB1 := Lib.hid (below_then HUB0.out hbv.out)
                clear hv hbX hbv
                refine hK.out _ _ ?_ (fun hSU4 => ?_)
                · exact KS.out _ HUB1.out
                clear hK K hSU0
                try simp only [Act.put, List.setIfInBounds_toArray, List.set_cons_zero, List.set_cons_succ]
                refine wpAnyU_ready (rs := [1]) (by kernel_rfl) rfl ?_
                refine AllReadyU.cons la1 rfl (fun K hK => ?_) ?_
                · refine step_app_i64 (w := u1) (by rfl) _ _ (by rfl) w2.heap.size (.slice none 0 0) [] (by rfl) (OwnI.nil _ _ _ _) (.slice A3 ll.length c3) ll (by rfl) (HLU.out u1 HGU1.out) (by simp) (by omega) HUB1.out.size ?_
                  intro v6 w6 ho6 hg6
                  simp only [List.nil_append] at ho6
                  have HO6 := Lib.hid ho6
                  have hb6 : Below u1.heap.size u1 w6 := (Below.refl _ _).grown hg6 (Nat.le_refl _) (fun k hk => by cases hk)
                  have HB6 := Lib.hid (below_then HUB1.out hb6)
                  have RL6 := Lib.hid ((hb6.block bX ltX.out).trans RX.out)
                  clear ho6 hg6 hb6
                  refine hK.out _ _ ?_ (fun hSU5 => ?_)
                  · exact KS.out _ HB6.out
                  clear hK K hSU4
                  try simp only [Act.put, List.setIfInBounds_toArray, List.set_cons_zero, List.set_cons_succ]
                  refine wpAnyU_ready (rs := [6]) (by kernel_rfl) rfl ?_
                  refine AllReadyU.cons la6 rfl (fun K hK => ?_) ?_
                  · refine step_app_i64 (w := w6) (by rfl) _ _ (by rfl) w2.heap.size v6 ll (by rfl) HO6.out (.slice (some ⟨bX, 0, none⟩) 1 1) [IntKind.i64.wrap nw] (by rfl) (one_lit RL6.out (wrap_wrap nw)) (by omega) (by simp) HB6.out.size ?_
                    intro v8 w8 ho8 hg8
                    have HO8 := Lib.hid ho8
                    have HB8 : Hid (Below w2.heap.size w2 w8) := HB6.out.grown hg8 HB6.out.size (fun k hk => HO6.out.own_ge k hk)
                    clear ho8 hg8
                    refine hK.out _ _ ?_ (fun hSU6 => ?_)
                    · exact KS.out _ HB8.out
                    clear hK K hSU5
                    try simp only [Act.put, List.setIfInBounds_toArray, List.set_cons_zero, List.set_cons_succ]
                    refine wpAnyU_ready (rs := [7]) (by kernel_rfl) rfl ?_
                    refine AllReadyU.free la7 rfl (by kernel_rfl) (fun K hK => ?_) ?_
                    · go_simp
                      refine hK.out _ _ ?_
                      clear hK K hSU6
                      try simp only [Act.put, List.setIfInBounds_toArray, List.set_cons_zero, List.set_cons_succ]
                      refine wpAnyU_done (by kernel_rfl) ?_ _
                      obtain ⟨A8, c8, hv8⟩ : ∃ A8 c8, v8 = .slice A8 (ll ++ [IntKind.i64.wrap nw]).length c8 := by
                        rcases HO8.out.shape with ⟨h1, h2⟩ | ⟨g, cap, h1, -⟩
                        · exact absurd h2 (by simp)
                        · exact ⟨_, _, h1⟩
                      subst hv8
                      have hfit2 : (ll ++ [IntKind.i64.wrap nw]).length ≤ 140737488351232 := by rw [List.length_append]; simp; omega
                      have hwf2 : ∀ x ∈ ll ++ [IntKind.i64.wrap nw], x = IntKind.i64.wrap x := fun x hx => by
                        rcases List.mem_append.1 hx with h | h
                        · exact (HLU.out w2 HG1.out).2.1 x h
                        · rw [List.mem_singleton.1 h]; exact wrap_wrap nw
                      go_wp2_with fail
                      go_meet
                      rw [hnp.out]
                      exact ⟨_, _, _, rfl, rfl, fun w5 h5 => (HO8.out.newPart (Nat.le_refl _) h5.2).read hfit2 hwf2, HB8.out⟩
                    exact AllReadyU.nil
                  exact AllReadyU.nil
                exact AllReadyU.nil
              exact AllReadyU.nil
            · have hlb : ¬ ((ll.length : Int) < 1000) := by omega
              have hnp := Lib.hid (hnx.out.trans (if_neg hlen))
              go_wp2_with fail
              go_meet
              rw [hnp.out]
              exact ⟨_, _, _, rfl, rfl, fun w5 h5 => HLU.out w5 h5.1, Below.refl _ _⟩
          case rest =>
            obtain ⟨A7, n7, c7, rfl, hn7, HLN, HBX⟩ := hcut
            obtain ⟨w3, rfl⟩ : ∃ w3 : World, w3 = wc := ⟨_, rfl⟩
            have hb3 := HBX.out
            have HG2 := Lib.hid HG1.out
            have hne7 : (8 : Int) ≠ 7 := by decide
            have hnl := Lib.hid (list_next (m := m) (old := old) (nw := nw) (til := til) hh hne7 _ rfl)
            have HE : Hid (applyE m ⟨8, i, old, nw, til⟩ = (⟨m.words, m.lists.set i (nextL 8 (IntKind.i64.wrap nw) ll), m.tick⟩, ⟨((nextL 8 (IntKind.i64.wrap nw) ll).length : Nat), false, false, []⟩, true)) := hAL.out.trans (by rw [hnl.out, HLL.out])
            have hnlen := nextL_length 8 (IntKind.i64.wrap nw) ll hfit
            clear hh hne7 hnl
            have Q0 := Lib.hid ((hb3.block w.heap.size (by omega)).trans Q0.out)
            have Q1 := Lib.hid ((hb3.block (w.heap.size + 1) (by omega)).trans Q1.out)
            have R2 := Lib.hid ((hb3.block (w.heap.size + 2) (by omega)).trans R2.out)
            have R3 := Lib.hid ((hb3.block (w.heap.size + 3) (by omega)).trans R3.out)
            have HB1 := Lib.hid (HB1.out.trans (hb3.mono (by omega)))
            have HG1 : Hid (G w3) := HCL.out _ _ HG1.out hb3
            have hsw3 := hb3.size
            clear hb3 x0 x1 x2 y0 y1 y2 y3 y4
            obtain ⟨x0, x1, x2⟩ := rowc3 Q0.out
            obtain ⟨y0, y1, y2, y3, y4⟩ := rowc5 Q1.out
            have HGX : Hid (Nx G w2 w3 w3) := Nx.at HG2.out HCL.out HBX.out
            have HWX : Hid (Wide (Nx G w2 w3)) := Nx.wide HCL.out _ _
            have HMX := Lib.hid (HSM.out.sub fun w5 (h : Nx G w2 w3 w5) => h.1)
            generalize nextL 8 (IntKind.i64.wrap nw) ll = l8 at *
            subst hn7
            have WC := Lib.hid (rput_any (Nx G w2 w3) _ m i _ _ w3 HGX.out HWX.out HMX.out hi HM.out HLN.out)
            have hwl : IntKind.u64.wrap (l8.length : Int) = (l8.length : Int) := by rw [IntKind.wrap_u64]; omega
            go_wp2_with fail
            refine WC.out.mono ?_; rintro e w4 ⟨v4, rfl, hs4, hb4⟩
            obtain ⟨A5, n5, c5, A6, n6, c6, t5, rfl⟩ := hs4.shape w4 (Nx.at HGX.out HWX.out hb4)
            have HS4 := Lib.hid hs4
            have hb4' := Lib.hid hb4
            clear hs4 WC
            have Q0 := Lib.hid ((hb4.block w.heap.size (by omega)).trans Q0.out)
            have Q1 := Lib.hid ((hb4.block (w.heap.size + 1) (by omega)).trans Q1.out)
            have R2 := Lib.hid ((hb4.block (w.heap.size + 2) (by omega)).trans R2.out)
            have R3 := Lib.hid ((hb4.block (w.heap.size + 3) (by omega)).trans R3.out)
            have HB1 := Lib.hid (HB1.out.trans (hb4.mono (by omega)))
            have HG1 : Hid (G w4) := HCL.out _ _ HG1.out hb4
            have hsw4 := hb4.size
            clear hb4 x0 x1 x2 y0 y1 y2 y3 y4
            obtain ⟨x0, x1, x2⟩ := rowc3 Q0.out
            obtain ⟨y0, y1, y2, y3, y4⟩ := rowc5 Q1.out
            have T3 : Hid (∀ cs, ((w4).setRow (w.heap.size + 2) cs).heap[w.heap.size + 3]? = some (.cells zeroAns 53 (0, 0))) := fun cs => (setRow_other _ _ _ _ (by omega)).trans R3.out
            go_wp2_with (first
              | (refine wpList_store_row rfl 39 _ _ rfl (w.heap.size + 2) _ rfl rfl 39 zeroMem R2.out (by kernel_rfl) rfl (by simp [Value.oneCell']) ?_)
              | (refine wpList_store_row rfl 53 _ _ rfl (w.heap.size + 3) _ rfl rfl 53 zeroAns (T3.out _) (by kernel_rfl) rfl (by simp [Value.oneCell']) ?_))
            refine bodyPost_ret (v := .tuple #[.agg #[.slice A5 n5 c5, .slice A6 n6 c6, .int .i64 t5], .agg #[.int .u64 l8.length, .bool false, .bool false, .slice none 0 0], .bool true]) (results_cells3 Try.results65 _ _ (w.heap.size + 2) (w.heap.size + 3) 39 53 _ _ (0, 0) (0, 0) _ _ rfl rfl ((setRow_other _ _ _ _ (by omega)).trans (setRow_heap _ _ _ _ 39 (0, 0) R2.out)) (setRow_heap _ _ _ _ 53 (0, 0) (T3.out _)) Try.underlying39 rfl (by kernel_rfl) Try.underlying53 rfl (by kernel_rfl) _ rfl) rfl ?_
            have hbe := row_below (row_below HB1.out (show w.heap.size ≤ w.heap.size + 2 by omega) #[.slice A5 n5 c5, .slice A6 n6 c6, .int .i64 t5]) (show w.heap.size ≤ w.heap.size + 3 by omega) #[.int .u64 l8.length, .bool false, .bool false, .slice none 0 0]
            unfold TripR
            rw [HE.out]
            exact ⟨_, _, rfl, HS4.out.sub fun w5 (h : Nx G w _ _) => ⟨⟨h.1, h.2.sub (by omega) (by simp; omega) fun j hj hj2 => by rw [setRow_other _ _ _ _ (by omega), setRow_other _ _ _ _ (by omega)]; exact hb4'.out.block j (by omega)⟩, h.2.sub (by omega) (by simp) fun j hj hj2 => by rw [setRow_other _ _ _ _ (by omega), setRow_other _ _ _ _ (by omega)]⟩, StA.bare _ _ _ _, hbe⟩
        · clear hkk h7
          have TW := Lib.hid (rwithout_any G (.slice A3 ll.length c3) ll (IntKind.i64.wrap nw) w2 HG1.out HCL.out HLU.out hfit)
          go_wp2_with fail
          rw [wrap64_eq]
          refine TW.out.mono ?_; rintro e w3 ⟨v7, rfl, hl7, hb3⟩
          rw [← next_drop] at hl7
          obtain ⟨A7, c7, rfl, -⟩ := (hl7 w3 (Nx.at HG1.out HCL.out hb3)).len
          have HBX := Lib.hid hb3
          have HLN := Lib.hid hl7
          obtain ⟨n7, hn7⟩ : ∃ n7, n7 = (nextL 9 (IntKind.i64.wrap nw) ll).length := ⟨_, rfl⟩
          rw [← hn7] at HLN
          rw [← hn7]
          have HG2 := Lib.hid HG1.out
          have hne7 : (9 : Int) ≠ 7 := by decide
          clear hl7 TW
          have hnl := Lib.hid (list_next (m := m) (old := old) (nw := nw) (til := til) hh hne7 _ rfl)
          have HE : Hid (applyE m ⟨9, i, old, nw, til⟩ = (⟨m.words, m.lists.set i (nextL 9 (IntKind.i64.wrap nw) ll), m.tick⟩, ⟨((nextL 9 (IntKind.i64.wrap nw) ll).length : Nat), false, false, []⟩, true)) := hAL.out.trans (by rw [hnl.out, HLL.out])
          have hnlen := nextL_length 9 (IntKind.i64.wrap nw) ll hfit
          clear hh hne7 hnl
          have Q0 := Lib.hid ((hb3.block w.heap.size (by omega)).trans Q0.out)
          have Q1 := Lib.hid ((hb3.block (w.heap.size + 1) (by omega)).trans Q1.out)
          have R2 := Lib.hid ((hb3.block (w.heap.size + 2) (by omega)).trans R2.out)
          have R3 := Lib.hid ((hb3.block (w.heap.size + 3) (by omega)).trans R3.out)
          have HB1 := Lib.hid (HB1.out.trans (hb3.mono (by omega)))
          have HG1 : Hid (G w3) := HCL.out _ _ HG1.out hb3
          have hsw3 := hb3.size
          clear hb3 x0 x1 x2 y0 y1 y2 y3 y4
          obtain ⟨x0, x1, x2⟩ := rowc3 Q0.out
          obtain ⟨y0, y1, y2, y3, y4⟩ := rowc5 Q1.out
          have HGX : Hid (Nx G w2 w3 w3) := Nx.at HG2.out HCL.out HBX.out
          have HWX : Hid (Wide (Nx G w2 w3)) := Nx.wide HCL.out _ _
          have HMX := Lib.hid (HSM.out.sub fun w5 (h : Nx G w2 w3 w5) => h.1)
          generalize nextL 9 (IntKind.i64.wrap nw) ll = l8 at *
          subst hn7
          have WC := Lib.hid (rput_any (Nx G w2 w3) _ m i _ _ w3 HGX.out HWX.out HMX.out hi HM.out HLN.out)
          have hwl : IntKind.u64.wrap (l8.length : Int) = (l8.length : Int) := by rw [IntKind.wrap_u64]; omega
          go_wp2_with fail
          refine WC.out.mono ?_; rintro e w4 ⟨v4, rfl, hs4, hb4⟩
          obtain ⟨A5, n5, c5, A6, n6, c6, t5, rfl⟩ := hs4.shape w4 (Nx.at HGX.out HWX.out hb4)
          have HS4 := Lib.hid hs4
          have hb4' := Lib.hid hb4
          clear hs4 WC
          have Q0 := Lib.hid ((hb4.block w.heap.size (by omega)).trans Q0.out)
          have Q1 := Lib.hid ((hb4.block (w.heap.size + 1) (by omega)).trans Q1.out)
          have R2 := Lib.hid ((hb4.block (w.heap.size + 2) (by omega)).trans R2.out)
          have R3 := Lib.hid ((hb4.block (w.heap.size + 3) (by omega)).trans R3.out)
          have HB1 := Lib.hid (HB1.out.trans (hb4.mono (by omega)))
          have HG1 : Hid (G w4) := HCL.out _ _ HG1.out hb4
          have hsw4 := hb4.size
          clear hb4 x0 x1 x2 y0 y1 y2 y3 y4
          obtain ⟨x0, x1, x2⟩ := rowc3 Q0.out
          obtain ⟨y0, y1, y2, y3, y4⟩ := rowc5 Q1.out
          have T3 : Hid (∀ cs, ((w4).setRow (w.heap.size + 2) cs).heap[w.heap.size + 3]? = some (.cells zeroAns 53 (0, 0))) := fun cs => (setRow_other _ _ _ _ (by omega)).trans R3.out
          go_wp2_with (first
            | (refine wpList_store_row rfl 39 _ _ rfl (w.heap.size + 2) _ rfl rfl 39 zeroMem R2.out (by kernel_rfl) rfl (by simp [Value.oneCell']) ?_)
            | (refine wpList_store_row rfl 53 _ _ rfl (w.heap.size + 3) _ rfl rfl 53 zeroAns (T3.out _) (by kernel_rfl) rfl (by simp [Value.oneCell']) ?_))
          refine bodyPost_ret (v := .tuple #[.agg #[.slice A5 n5 c5, .slice A6 n6 c6, .int .i64 t5], .agg #[.int .u64 l8.length, .bool false, .bool false, .slice none 0 0], .bool true]) (results_cells3 Try.results65 _ _ (w.heap.size + 2) (w.heap.size + 3) 39 53 _ _ (0, 0) (0, 0) _ _ rfl rfl ((setRow_other _ _ _ _ (by omega)).trans (setRow_heap _ _ _ _ 39 (0, 0) R2.out)) (setRow_heap _ _ _ _ 53 (0, 0) (T3.out _)) Try.underlying39 rfl (by kernel_rfl) Try.underlying53 rfl (by kernel_rfl) _ rfl) rfl ?_
          have hbe := row_below (row_below HB1.out (show w.heap.size ≤ w.heap.size + 2 by omega) #[.slice A5 n5 c5, .slice A6 n6 c6, .int .i64 t5]) (show w.heap.size ≤ w.heap.size + 3 by omega) #[.int .u64 l8.length, .bool false, .bool false, .slice none 0 0]
          unfold TripR
          rw [HE.out]
          exact ⟨_, _, rfl, HS4.out.sub fun w5 (h : Nx G w _ _) => ⟨⟨h.1, h.2.sub (by omega) (by simp; omega) fun j hj hj2 => by rw [setRow_other _ _ _ _ (by omega), setRow_other _ _ _ _ (by omega)]; exact hb4'.out.block j (by omega)⟩, h.2.sub (by omega) (by simp) fun j hj hj2 => by rw [setRow_other _ _ _ _ (by omega), setRow_other _ _ _ _ (by omega)]⟩, StA.bare _ _ _ _, hbe⟩
    · have TL := Lib.hid (rword_any _ m ad W (HSM.out.at HG1.out))
      have hAL := Lib.hid (apply_word (m := m) (a := ⟨k, ad, old, nw, til⟩) hb h7)
      have h7b : (decide (7 ≤ k)) = false := by simpa using h7
      have h7c : ¬ (7 ≤ k) := h7
      clear hb
      go_wp2_with fail
      refine TL.out.mono ?_; rintro e w2 ⟨rfl, hb2⟩
      clear TL
      have Q0 := Lib.hid ((hb2.block w.heap.size (by omega)).trans Q0.out)
      have Q1 := Lib.hid ((hb2.block (w.heap.size + 1) (by omega)).trans Q1.out)
      have R2 := Lib.hid ((hb2.block (w.heap.size + 2) (by omega)).trans R2.out)
      have R3 := Lib.hid ((hb2.block (w.heap.size + 3) (by omega)).trans R3.out)
      have HB1 := Lib.hid (HB1.out.trans (hb2.mono (by omega)))
      have HG1 : Hid (G w2) := HCL.out _ _ HG1.out hb2
      have hsw2 := hb2.size
      clear hb2 x0 x1 x2 y0 y1 y2 y3 y4
      obtain ⟨x0, x1, x2⟩ := rowc3 Q0.out
      obtain ⟨y0, y1, y2, y3, y4⟩ := rowc5 Q1.out

      cases hh : hasB m.words.length ad with
      | false =>
        have HE := Lib.hid (hAL.out.trans (by rw [word_none hh]))
        clear hh
        have T3 : Hid (∀ cs, ((w2).setRow (w.heap.size + 2) cs).heap[w.heap.size + 3]? = some (.cells zeroAns 53 (0, 0))) := fun cs => (setRow_other _ _ _ _ (by omega)).trans R3.out
        go_wp2_with (first
          | (refine wpList_store_row rfl 39 _ _ rfl (w.heap.size + 2) _ rfl rfl 39 zeroMem R2.out (by kernel_rfl) rfl (by simp [Value.oneCell']) ?_)
          | (refine wpList_store_row rfl 53 _ _ rfl (w.heap.size + 3) _ rfl rfl 53 zeroAns (T3.out _) (by kernel_rfl) rfl (by simp [Value.oneCell']) ?_))
        refine bodyPost_ret (v := .tuple #[.agg #[.slice a1 m.words.length cap, .slice a2 m.lists.length cap2, .int .i64 m.tick], .agg zeroAns, .bool true]) (results_cells3 Try.results65 _ _ (w.heap.size + 2) (w.heap.size + 3) 39 53 _ _ (0, 0) (0, 0) _ _ rfl rfl ((setRow_other _ _ _ _ (by omega)).trans (setRow_heap _ _ _ _ 39 (0, 0) R2.out)) (setRow_heap _ _ _ _ 53 (0, 0) (T3.out _)) Try.underlying39 rfl (by kernel_rfl) Try.underlying53 rfl (by kernel_rfl) _ rfl) rfl ?_
        have hbe := row_below (row_below HB1.out (show w.heap.size ≤ w.heap.size + 2 by omega) #[.slice a1 m.words.length cap, .slice a2 m.lists.length cap2, .int .i64 m.tick]) (show w.heap.size ≤ w.heap.size + 3 by omega) zeroAns
        unfold TripR
        rw [HE.out]
        exact ⟨_, _, rfl, HSM.out.sub fun _ (h : Nx G w _ _) => h.1, StA.bare _ _ _ _, hbe⟩
      | true =>
        obtain ⟨i, rfl, hi⟩ := hasB_true hh
        obtain ⟨b, off, cap', e, hcap, hblt, hcells⟩ := (HSM.out.words w2 HG1.out).open (by rintro h0; rw [h0] at hi; simp at hi)
        have hck := hcells i hi
        simp only [Value.slice.injEq] at e
        obtain ⟨rfl, -, rfl⟩ := e
        have hiI : (i : Int) < m.words.length := by omega
        have hi0 : (0 : Int) ≤ i := by omega
        obtain ⟨y, hy⟩ : ∃ y, m.words.getD i 0 = y := ⟨_, rfl⟩
        rw [hy] at hck
        have HY := Lib.hid hy
        have hit : (i : Int).toNat = i := Int.toNat_natCast i
        clear hcells hy
        rcases (show (k = 2 ∨ k = 6) ∨ k = 3 ∨ k = 4 ∨ (k = 1 ∨ k = 5) by omega) with hk | rfl | rfl | hk
        · have HE : Hid (applyE m ⟨k, i, old, nw, til⟩ = (⟨m.words.set i nw, m.lists, m.tick⟩, ansZ, true)) := hAL.out.trans (by rw [word_put hh hk, hit])
          clear hh hit hkk h7
          rcases hk with rfl | rfl
          all_goals
            have WC := Lib.hid (rset_any G _ m i nw w2 HG1.out HCL.out HSM.out hi HM.out HA.out.new)
            go_wp2_with fail
            refine WC.out.mono ?_; rintro e w4 ⟨v4, rfl, hs4, hb4⟩
            obtain ⟨A5, n5, c5, A6, n6, c6, t5, rfl⟩ := hs4.shape w4 (Nx.at HG1.out HCL.out hb4)
            have HS4 := Lib.hid hs4
            clear hs4 WC
            have Q0 := Lib.hid ((hb4.block w.heap.size (by omega)).trans Q0.out)
            have Q1 := Lib.hid ((hb4.block (w.heap.size + 1) (by omega)).trans Q1.out)
            have R2 := Lib.hid ((hb4.block (w.heap.size + 2) (by omega)).trans R2.out)
            have R3 := Lib.hid ((hb4.block (w.heap.size + 3) (by omega)).trans R3.out)
            have HB1 := Lib.hid (HB1.out.trans (hb4.mono (by omega)))
            have HG1 : Hid (G w4) := HCL.out _ _ HG1.out hb4
            have hsw4 := hb4.size
            clear hb4 x0 x1 x2 y0 y1 y2 y3 y4
            obtain ⟨x0, x1, x2⟩ := rowc3 Q0.out
            obtain ⟨y0, y1, y2, y3, y4⟩ := rowc5 Q1.out
            have T3 : Hid (∀ cs, ((w4).setRow (w.heap.size + 2) cs).heap[w.heap.size + 3]? = some (.cells zeroAns 53 (0, 0))) := fun cs => (setRow_other _ _ _ _ (by omega)).trans R3.out
            go_wp2_with (first
              | (refine wpList_store_row rfl 39 _ _ rfl (w.heap.size + 2) _ rfl rfl 39 zeroMem R2.out (by kernel_rfl) rfl (by simp [Value.oneCell']) ?_)
              | (refine wpList_store_row rfl 53 _ _ rfl (w.heap.size + 3) _ rfl rfl 53 zeroAns (T3.out _) (by kernel_rfl) rfl (by simp [Value.oneCell']) ?_))
            refine bodyPost_ret (v := .tuple #[.agg #[.slice A5 n5 c5, .slice A6 n6 c6, .int .i64 t5], .agg zeroAns, .bool true]) (results_cells3 Try.results65 _ _ (w.heap.size + 2) (w.heap.size + 3) 39 53 _ _ (0, 0) (0, 0) _ _ rfl rfl ((setRow_other _ _ _ _ (by omega)).trans (setRow_heap _ _ _ _ 39 (0, 0) R2.out)) (setRow_heap _ _ _ _ 53 (0, 0) (T3.out _)) Try.underlying39 rfl (by kernel_rfl) Try.underlying53 rfl (by kernel_rfl) _ rfl) rfl ?_
            have hbe := row_below (row_below HB1.out (show w.heap.size ≤ w.heap.size + 2 by omega) #[.slice A5 n5 c5, .slice A6 n6 c6, .int .i64 t5]) (show w.heap.size ≤ w.heap.size + 3 by omega) zeroAns
            unfold TripR
            rw [HE.out]
            exact ⟨_, _, rfl, HS4.out.sub fun w5 (h : Nx G w _ _) => ⟨h.1, h.2.sub (by omega) (by simp) fun j hj hj2 => by rw [setRow_other _ _ _ _ (by omega), setRow_other _ _ _ _ (by omega)]⟩, StA.bare _ _ _ _, hbe⟩
        · by_cases hyo : y = old
          · have HE : Hid (applyE m ⟨3, i, old, nw, til⟩ = (⟨m.words.set i nw, m.lists, m.tick⟩, ⟨y, true, false, []⟩, true)) := hAL.out.trans (by rw [word_cas hh (by rw [hit, HY.out]; exact hyo), hit, HY.out])
            have hyn : (y != old) = false := by simp [hyo]
            clear hh hit hkk h7 hyo
            have WC := Lib.hid (rset_any G _ m i nw w2 HG1.out HCL.out HSM.out hi HM.out HA.out.new)
            go_wp2_with fail
            refine WC.out.mono ?_; rintro e w4 ⟨v4, rfl, hs4, hb4⟩
            obtain ⟨A5, n5, c5, A6, n6, c6, t5, rfl⟩ := hs4.shape w4 (Nx.at HG1.out HCL.out hb4)
            have HS4 := Lib.hid hs4
            clear hs4 WC
            have Q0 := Lib.hid ((hb4.block w.heap.size (by omega)).trans Q0.out)
            have Q1 := Lib.hid ((hb4.block (w.heap.size + 1) (by omega)).trans Q1.out)
            have R2 := Lib.hid ((hb4.block (w.heap.size + 2) (by omega)).trans R2.out)
            have R3 := Lib.hid ((hb4.block (w.heap.size + 3) (by omega)).trans R3.out)
            have HB1 := Lib.hid (HB1.out.trans (hb4.mono (by omega)))
            have HG1 : Hid (G w4) := HCL.out _ _ HG1.out hb4
            have hsw4 := hb4.size
            clear hb4 x0 x1 x2 y0 y1 y2 y3 y4
            obtain ⟨x0, x1, x2⟩ := rowc3 Q0.out
            obtain ⟨y0, y1, y2, y3, y4⟩ := rowc5 Q1.out
            have T3 : Hid (∀ cs, ((w4).setRow (w.heap.size + 2) cs).heap[w.heap.size + 3]? = some (.cells zeroAns 53 (0, 0))) := fun cs => (setRow_other _ _ _ _ (by omega)).trans R3.out
            go_wp2_with (first
              | (refine wpList_store_row rfl 39 _ _ rfl (w.heap.size + 2) _ rfl rfl 39 zeroMem R2.out (by kernel_rfl) rfl (by simp [Value.oneCell']) ?_)
              | (refine wpList_store_row rfl 53 _ _ rfl (w.heap.size + 3) _ rfl rfl 53 zeroAns (T3.out _) (by kernel_rfl) rfl (by simp [Value.oneCell']) ?_))
            refine bodyPost_ret (v := .tuple #[.agg #[.slice A5 n5 c5, .slice A6 n6 c6, .int .i64 t5], .agg #[.int .u64 y, .bool true, .bool false, .slice none 0 0], .bool true]) (results_cells3 Try.results65 _ _ (w.heap.size + 2) (w.heap.size + 3) 39 53 _ _ (0, 0) (0, 0) _ _ rfl rfl ((setRow_other _ _ _ _ (by omega)).trans (setRow_heap _ _ _ _ 39 (0, 0) R2.out)) (setRow_heap _ _ _ _ 53 (0, 0) (T3.out _)) Try.underlying39 rfl (by kernel_rfl) Try.underlying53 rfl (by kernel_rfl) _ rfl) rfl ?_
            have hbe := row_below (row_below HB1.out (show w.heap.size ≤ w.heap.size + 2 by omega) #[.slice A5 n5 c5, .slice A6 n6 c6, .int .i64 t5]) (show w.heap.size ≤ w.heap.size + 3 by omega) #[.int .u64 y, .bool true, .bool false, .slice none 0 0]
            unfold TripR
            rw [HE.out]
            exact ⟨_, _, rfl, HS4.out.sub fun w5 (h : Nx G w _ _) => ⟨h.1, h.2.sub (by omega) (by simp) fun j hj hj2 => by rw [setRow_other _ _ _ _ (by omega), setRow_other _ _ _ _ (by omega)]⟩, StA.bare _ _ _ _, hbe⟩
          · have HE : Hid (applyE m ⟨3, i, old, nw, til⟩ = (m, ⟨y, false, false, []⟩, true)) := hAL.out.trans (by rw [word_miss hh (by rw [hit, HY.out]; exact hyo), hit, HY.out])
            have hyn : (y != old) = true := by simp [hyo]
            clear hh hit hkk h7 hyo
            have T3 : Hid (∀ cs, ((w2).setRow (w.heap.size + 2) cs).heap[w.heap.size + 3]? = some (.cells zeroAns 53 (0, 0))) := fun cs => (setRow_other _ _ _ _ (by omega)).trans R3.out
            go_wp2_with (first
              | (refine wpList_store_row rfl 39 _ _ rfl (w.heap.size + 2) _ rfl rfl 39 zeroMem R2.out (by kernel_rfl) rfl (by simp [Value.oneCell']) ?_)
              | (refine wpList_store_row rfl 53 _ _ rfl (w.heap.size + 3) _ rfl rfl 53 zeroAns (T3.out _) (by kernel_rfl) rfl (by simp [Value.oneCell']) ?_))
            refine bodyPost_ret (v := .tuple #[.agg #[.slice (some ⟨b, off, none⟩) m.words.length cap, .slice a2 m.lists.length cap2, .int .i64 m.tick], .agg #[.int .u64 y, .bool false, .bool false, .slice none 0 0], .bool true]) (results_cells3 Try.results65 _ _ (w.heap.size + 2) (w.heap.size + 3) 39 53 _ _ (0, 0) (0, 0) _ _ rfl rfl ((setRow_other _ _ _ _ (by omega)).trans (setRow_heap _ _ _ _ 39 (0, 0) R2.out)) (setRow_heap _ _ _ _ 53 (0, 0) (T3.out _)) Try.underlying39 rfl (by kernel_rfl) Try.underlying53 rfl (by kernel_rfl) _ rfl) rfl ?_
            have hbe := row_below (row_below HB1.out (show w.heap.size ≤ w.heap.size + 2 by omega) #[.slice (some ⟨b, off, none⟩) m.words.length cap, .slice a2 m.lists.length cap2, .int .i64 m.tick]) (show w.heap.size ≤ w.heap.size + 3 by omega) #[.int .u64 y, .bool false, .bool false, .slice none 0 0]
            unfold TripR
            rw [HE.out]
            exact ⟨_, _, rfl, HSM.out.sub fun _ (h : Nx G w _ _) => h.1, StA.bare _ _ _ _, hbe⟩
        · have HE : Hid (applyE m ⟨4, i, old, nw, til⟩ = (m, ⟨y, false, y == old, []⟩, true)) := hAL.out.trans (by rw [word_wait hh, hit, HY.out])
          clear hh hit hkk h7
          go_upto_region 26 with fail
          have KS : Hid (∀ w', Below w2.heap.size w2 w' → (fun w' : World => w'.cell? ⟨w.heap.size, 0, none⟩ = some (.slice (some ⟨b, off, none⟩) m.words.length cap) ∧ w'.cell? ⟨w.heap.size, 1, none⟩ = some (.slice a2 m.lists.length cap2) ∧ w'.cell? ⟨w.heap.size, 2, none⟩ = some (.int .i64 m.tick) ∧ w'.cell? ⟨w.heap.size + 1, 2, none⟩ = some (.int .u64 old)) w') := fun w' hb => ⟨(hb.cell (p := ⟨w.heap.size, 0, none⟩) (show w.heap.size < w2.heap.size by omega)).trans x0, (hb.cell (p := ⟨w.heap.size, 1, none⟩) (show w.heap.size < w2.heap.size by omega)).trans x1, (hb.cell (p := ⟨w.heap.size, 2, none⟩) (show w.heap.size < w2.heap.size by omega)).trans x2, (hb.cell (p := ⟨w.heap.size + 1, 2, none⟩) (show w.heap.size + 1 < w2.heap.size by omega)).trans y2⟩
          refine wp_region_until (fun w' : World => w'.cell? ⟨w.heap.size, 0, none⟩ = some (.slice (some ⟨b, off, none⟩) m.words.length cap) ∧ w'.cell? ⟨w.heap.size, 1, none⟩ = some (.slice a2 m.lists.length cap2) ∧ w'.cell? ⟨w.heap.size, 2, none⟩ = some (.int .i64 m.tick) ∧ w'.cell? ⟨w.heap.size + 1, 2, none⟩ = some (.int .u64 old)) 8 10 (by kernel_rfl) rfl ?_
          obtain ⟨u0, hu0, HUB0⟩ := drew_pack w2
          rw [hu0]
          have R2' := Lib.hid ((HUB0.out.block (w.heap.size + 2) (by omega)).trans R2.out)
          have R3' := Lib.hid ((HUB0.out.block (w.heap.size + 3) (by omega)).trans R3.out)
          have HBU := Lib.hid (HB1.out.trans (HUB0.out.mono (by omega)))
          have T3 : Hid (∀ cs, (u0.setRow (w.heap.size + 2) cs).heap[w.heap.size + 3]? = some (.cells zeroAns 53 (0, 0))) := fun cs => (setRow_other _ _ _ _ (by omega)).trans R3'.out
          have hso : Hid (∀ cs j, j ≠ w.heap.size + 2 → (u0.setRow (w.heap.size + 2) cs).heap[j]? = u0.heap[j]?) := fun cs j hj => setRow_other _ _ _ _ hj
          have KS2 : Hid (∀ cs, (fun w' : World => w'.cell? ⟨w.heap.size, 0, none⟩ = some (.slice (some ⟨b, off, none⟩) m.words.length cap) ∧ w'.cell? ⟨w.heap.size, 1, none⟩ = some (.slice a2 m.lists.length cap2) ∧ w'.cell? ⟨w.heap.size, 2, none⟩ = some (.int .i64 m.tick) ∧ w'.cell? ⟨w.heap.size + 1, 2, none⟩ = some (.int .u64 old)) (u0.setRow (w.heap.size + 2) cs)) := fun cs => by
            have h0 := (hso.out cs w.heap.size (by omega)).trans ((HUB0.out.block w.heap.size (by omega)).trans Q0.out)
            have h1 := (hso.out cs (w.heap.size + 1) (by omega)).trans ((HUB0.out.block (w.heap.size + 1) (by omega)).trans Q1.out)
            obtain ⟨z0, z1, z2⟩ := rowc3 h0
            obtain ⟨q0, q1, q2, q3, q4⟩ := rowc5 h1
            exact ⟨z0, z1, z2, q2⟩
          clear hu0
          have hSU0 := KS.out _ HUB0.out
          refine tkU (v := ?_) 0 la0 hSU0 (by kernel_rfl) (fun _ _ _ h => h) rfl ?_ ?_
          rotate_left
          · (intro w hSw; (try dsimp only at hSw); go_simp <;> with_reducible rfl)
          simp only [Act.put, List.setIfInBounds_toArray, List.set_cons_zero, List.set_cons_succ]
          refine tkU (v := ?_) 1 la1 hSU0 (by kernel_rfl) (fun _ _ _ h => h) rfl ?_ ?_
          rotate_left
          · (intro w hSw; (try dsimp only at hSw); go_simp <;> with_reducible rfl)
          simp only [Act.put, List.setIfInBounds_toArray, List.set_cons_zero, List.set_cons_succ]
          refine tkU (v := ?_) 2 la2 hSU0 (by kernel_rfl) (fun _ _ _ h => h) rfl ?_ ?_
          rotate_left
          · (intro w hSw; (try dsimp only at hSw); go_simp <;> with_reducible rfl)
          simp only [Act.put, List.setIfInBounds_toArray, List.set_cons_zero, List.set_cons_succ]
          refine tkU (v := ?_) 3 la3 hSU0 (by kernel_rfl) (fun _ _ _ h => h) rfl ?_ ?_
          rotate_left
          · (intro w hSw; (try dsimp only at hSw); go_simp <;> with_reducible rfl)
          simp only [Act.put, List.setIfInBounds_toArray, List.set_cons_zero, List.set_cons_succ]
          refine tkU (v := ?_) 4 la4 hSU0 (by kernel_rfl) (fun _ _ _ h => h) rfl ?_ ?_
          rotate_left
          · (intro w hSw; (try dsimp only at hSw); go_simp <;> with_reducible rfl)
          simp only [Act.put, List.setIfInBounds_toArray, List.set_cons_zero, List.set_cons_succ]
          refine tkU (v := ?_) 5 la5 hSU0 (by kernel_rfl) (fun _ _ _ h => h) rfl ?_ ?_
          rotate_left
          · (intro w hSw; (try dsimp only at hSw); go_simp <;> with_reducible rfl)
          simp only [Act.put, List.setIfInBounds_toArray, List.set_cons_zero, List.set_cons_succ]
          refine tkU (v := ?_) 6 la6 hSU0 (by kernel_rfl) (fun _ _ _ h => h) rfl ?_ ?_
          rotate_left
          · (intro w hSw; (try dsimp only at hSw); go_simp <;> with_reducible rfl)
          simp only [Act.put, List.setIfInBounds_toArray, List.set_cons_zero, List.set_cons_succ]
          refine wpAnyU_ready (rs := [7]) (by kernel_rfl) rfl ?_
          refine AllReadyU.cons la7 rfl (fun K hK => ?_) ?_
          · refine step_store_row rfl 39 _ _ rfl (w.heap.size + 2) _ rfl rfl 39 zeroMem R2'.out (by kernel_rfl) rfl (by simp [Value.oneCell']) ?_
            refine hK.out _ _ ?_ (fun hSU1 => ?_)
            · exact KS2.out _
            clear hK K hSU0
            try simp only [Act.put, List.setIfInBounds_toArray, List.set_cons_zero, List.set_cons_succ]
            refine wpAnyU_ready (rs := [8]) (by kernel_rfl) rfl ?_
            refine AllReadyU.free la8 rfl (by kernel_rfl) (fun K hK => ?_) ?_
            · refine step_store_row rfl 53 _ _ rfl (w.heap.size + 3) _ rfl rfl 53 zeroAns (T3.out _) (by kernel_rfl) rfl (by simp [Value.oneCell']) ?_
              refine hK.out _ _ ?_
              clear hK K hSU1
              try simp only [Act.put, List.setIfInBounds_toArray, List.set_cons_zero, List.set_cons_succ]
              refine wpAnyU_takeW (v := ?_) 9 la9 (by kernel_rfl) (by kernel_rfl) (by kernel_rfl) (by kernel_rfl) (fun _ _ _ h => h) (past_k (by kernel_rfl)) rfl ?_ ?_
              rotate_left
              · (intro w; go_simp <;> with_reducible rfl)
              simp only [Act.put, List.setIfInBounds_toArray, List.set_cons_zero, List.set_cons_succ]
              refine wpAnyU_done (by kernel_rfl) ?_ _
              go_wp2_with fail
              refine bodyPost_ret (v := .tuple #[.agg #[.slice (some ⟨b, off, none⟩) m.words.length cap, .slice a2 m.lists.length cap2, .int .i64 m.tick], .agg #[.int .u64 y, .bool false, .bool (y == old), .slice none 0 0], .bool true]) (results_cells3 Try.results65 _ _ (w.heap.size + 2) (w.heap.size + 3) 39 53 _ _ (0, 0) (0, 0) _ _ rfl rfl ((setRow_other _ _ _ _ (by omega)).trans (setRow_heap _ _ _ _ 39 (0, 0) R2'.out)) (setRow_heap _ _ _ _ 53 (0, 0) (T3.out _)) Try.underlying39 rfl (by kernel_rfl) Try.underlying53 rfl (by kernel_rfl) _ rfl) rfl ?_
              have hbe := row_below (row_below HBU.out (show w.heap.size ≤ w.heap.size + 2 by omega) #[.slice (some ⟨b, off, none⟩) m.words.length cap, .slice a2 m.lists.length cap2, .int .i64 m.tick]) (show w.heap.size ≤ w.heap.size + 3 by omega) #[.int .u64 y, .bool false, .bool (y == old), .slice none 0 0]
              unfold TripR
              rw [HE.out]
              exact ⟨_, _, rfl, HSM.out.sub fun _ (h : Nx G w _ _) => h.1, StA.bare _ _ _ _, hbe⟩
            exact AllReadyU.nil
          exact AllReadyU.nil
        · have HE : Hid (applyE m ⟨k, i, old, nw, til⟩ = (m, ⟨y, false, false, []⟩, true)) := hAL.out.trans (by rw [word_load hh (by omega) (by omega) (by omega) (by omega), hit, HY.out])
          clear hh hit hkk h7
          rcases hk with rfl | rfl
          all_goals
            have T3 : Hid (∀ cs, ((w2).setRow (w.heap.size + 2) cs).heap[w.heap.size + 3]? = some (.cells zeroAns 53 (0, 0))) := fun cs => (setRow_other _ _ _ _ (by omega)).trans R3.out
            go_wp2_with (first
              | (refine wpList_store_row rfl 39 _ _ rfl (w.heap.size + 2) _ rfl rfl 39 zeroMem R2.out (by kernel_rfl) rfl (by simp [Value.oneCell']) ?_)
              | (refine wpList_store_row rfl 53 _ _ rfl (w.heap.size + 3) _ rfl rfl 53 zeroAns (T3.out _) (by kernel_rfl) rfl (by simp [Value.oneCell']) ?_))
            refine bodyPost_ret (v := .tuple #[.agg #[.slice (some ⟨b, off, none⟩) m.words.length cap, .slice a2 m.lists.length cap2, .int .i64 m.tick], .agg #[.int .u64 y, .bool false, .bool false, .slice none 0 0], .bool true]) (results_cells3 Try.results65 _ _ (w.heap.size + 2) (w.heap.size + 3) 39 53 _ _ (0, 0) (0, 0) _ _ rfl rfl ((setRow_other _ _ _ _ (by omega)).trans (setRow_heap _ _ _ _ 39 (0, 0) R2.out)) (setRow_heap _ _ _ _ 53 (0, 0) (T3.out _)) Try.underlying39 rfl (by kernel_rfl) Try.underlying53 rfl (by kernel_rfl) _ rfl) rfl ?_
            have hbe := row_below (row_below HB1.out (show w.heap.size ≤ w.heap.size + 2 by omega) #[.slice (some ⟨b, off, none⟩) m.words.length cap, .slice a2 m.lists.length cap2, .int .i64 m.tick]) (show w.heap.size ≤ w.heap.size + 3 by omega) #[.int .u64 y, .bool false, .bool false, .slice none 0 0]
            unfold TripR
            rw [HE.out]
            exact ⟨_, _, rfl, HSM.out.sub fun _ (h : Nx G w _ _) => h.1, StA.bare _ _ _ _, hbe⟩
end Go.Proofs.Ytjnlkemdaffgbaa
