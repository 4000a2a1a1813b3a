import Derived.Deep.DeepCutAuto
import Derived.Deep.CutBlock
import Derived.Test.YtckjdlphilpgfaaB21
import Derived.Test.YtckjdlphilpgfaaB20
import Derived.Test.YtckjdlphilpgfaaB16
set_option linter.unusedVariables false
set_option linter.unusedSimpArgs false
/- Layer 14: the program's Same. -/
namespace Go.Proofs.Ytckjdlphilpgfaa
open Go.ChangeShapes Go.WideShapes Go.ChangeAt Go.RowKit
set_option maxRecDepth 100000

set_option maxRecDepth 100000 in
set_option maxHeartbeats 16000000 in
theorem qequalF_any (v v2 : Value) (l m : List ChanM) (w : World) (hv : SlH w v l) (hv2 : SlH w v2 m) : Calls Try.prog 54 #[v, v2, (.func (.func 55) #[] #[])] w fun e w' => e = .returned (.bool (sameB l m)) ∧ Below w.heap.size w w' := by
  have HV := Lib.hid hv
  have HV2 := Lib.hid hv2
  obtain ⟨rb, hrb⟩ : ∃ b, sameB l m = b := ⟨_, rfl⟩
  have HLEN := Lib.hid fun (h : l.length ≠ m.length) => sameB_len h
  have HNO := Lib.hid fun i (hi : i < l.length) (h : chEqB (l.getD i noChan) (m.getD i noChan) = false) => sameB_no (m := m) hi h
  have HYES := Lib.hid fun (h : l.length = m.length) (h2 : ∀ i, i < l.length → chEqB (l.getD i noChan) (m.getD i noChan) = true) => sameB_yes h h2
  rw [hrb] at HLEN HNO HYES ⊢
  obtain ⟨a, cap, hve, -⟩ := hv.len
  subst hve
  obtain ⟨a2, cap2, hve, -⟩ := hv2.len
  subst hve
  have hm1 := hv.bound
  clear hv hv2 hrb
  by_cases hl : l.length = m.length
  · have HL := Lib.hid hl
    have hq : ((l.length : Int) != (m.length : Int)) = false := by simp [hl]
    obtain ⟨n, hn⟩ : ∃ n, l.length = n := ⟨_, rfl⟩
    have hn2 : m.length = n := by rw [← hl, hn]
    rw [hn] at hq hm1
    rw [hn2] at hq
    rw [hn] at HV ⊢
    rw [hn2] at HV2 ⊢
    have HN := Lib.hid (And.intro hn hn2)
    clear hl hn hn2
    go_enter Try.func54, Try.ntmps54
    go_wp2_with fail
    go_loopw [17] (fun u17 wr => ∃ i : Nat, u17 = .int .i64 i ∧ i ≤ n ∧ Hid (∀ j, j < i → chEqB (l.getD j noChan) (m.getD j noChan) = true) ∧ Hid (Below w.heap.size w wr)) (fun u17 _ => n - (intOf u17).toNat)
    case atStart => exact ⟨0, rfl, by omega, fun j hj => by omega, Below.refl _ _⟩
    case round =>
      obtain ⟨i, rfl, hi, HE, HBi⟩ := hrel
      obtain ⟨wo, rfl⟩ : ∃ wo : World, wo = wr := ⟨_, rfl⟩
      by_cases hlt : i < n
      · have hltI : (i : Int) < (n : Int) := by omega
        obtain ⟨b, off, capx, u, hve, hb, c0, c1, c2, hu⟩ := (HV.out.below HBi.out).at i (by rw [HN.out.1]; exact hlt)
        rw [HN.out.1] at hve
        simp only [Value.slice.injEq] at hve
        obtain ⟨rfl, -, rfl⟩ := hve
        obtain ⟨b2, off2, capx2, u2, hve, hb2, d0, d1, d2, hu2⟩ := (HV2.out.below HBi.out).at i (by rw [HN.out.2]; exact hlt)
        rw [HN.out.2] at hve
        simp only [Value.slice.injEq] at hve
        obtain ⟨rfl, -, rfl⟩ := hve
        obtain ⟨⟨cc, bf, cl⟩, hx⟩ : ∃ c, l.getD i noChan = c := ⟨_, rfl⟩
        obtain ⟨⟨cc2, bf2, cl2⟩, hy⟩ : ∃ c, m.getD i noChan = c := ⟨_, rfl⟩
        rw [hx] at c0 c2 hu
        rw [hy] at d0 d2 hu2
        dsimp only at c0 c2 hu d0 d2 hu2
        obtain ⟨ua, uc, rfl, -⟩ := hu.len
        obtain ⟨ua2, uc2, rfl, -⟩ := hu2.len
        have HXY := Lib.hid (And.intro hx hy)
        have HU := Lib.hid hu
        have HU2 := Lib.hid hu2
        clear hx hy hu hu2
        obtain ⟨Wx, hWx⟩ : ∃ Wx, (wo.alloc (.cells #[.int .i64 0, .slice none 0 0, .bool false] 69)).setRow wo.heap.size #[.int .i64 cc, .slice ua bf.length uc, .bool cl] = Wx := ⟨_, rfl⟩
        have Nx : Hid ((wo.alloc (.cells #[.int .i64 0, .slice none 0 0, .bool false] 69)).heap[wo.heap.size]? = some (.cells #[.int .i64 0, .slice none 0 0, .bool false] 69 (0, 0))) := heap_alloc_new _ _
        have HBx : Hid (Below wo.heap.size wo Wx) := hWx ▸ row_below (below_new (Below.refl _ _) _) (Nat.le_refl _) _
        have Rx : Hid (Wx.heap[wo.heap.size]? = some (.cells #[.int .i64 cc, .slice ua bf.length uc, .bool cl] 69 (0, 0))) := hWx ▸ setRow_heap _ _ _ _ _ (0, 0) Nx.out
        have HWx := Lib.hid hWx
        clear hWx
        go_upto_region 6 with (refine wpList_store_row rfl 69 _ _ rfl (wo.heap.size) _ rfl rfl 69 #[.int .i64 0, .slice none 0 0, .bool false] Nx.out (by kernel_rfl) rfl (by simp [Value.oneCell']) ?_)
        rw [HWx.out]
        try simp only [Act.put]
        clear HWx Nx
        obtain ⟨X, hX⟩ : ∃ X, wo.heap.size = X := ⟨_, rfl⟩
        rw [hX] at Rx
        rw [hX]
        clear hX
        have e0 := (HBx.out.cell (p := ⟨b2, off2 + i * 3, none⟩) hb2).trans d0
        have e1 := (HBx.out.cell (p := ⟨b2, off2 + i * 3 + 1, none⟩) hb2).trans d1
        have e2 := (HBx.out.cell (p := ⟨b2, off2 + i * 3 + 2, none⟩) hb2).trans d2
        clear c0 c1 c2 d0 d1 d2
        obtain ⟨Wy, hWy⟩ : ∃ Wy, (Wx.alloc (.cells #[.int .i64 0, .slice none 0 0, .bool false] 69)).setRow Wx.heap.size #[.int .i64 cc2, .slice ua2 bf2.length uc2, .bool cl2] = Wy := ⟨_, rfl⟩
        have Ny : Hid ((Wx.alloc (.cells #[.int .i64 0, .slice none 0 0, .bool false] 69)).heap[Wx.heap.size]? = some (.cells #[.int .i64 0, .slice none 0 0, .bool false] 69 (0, 0))) := heap_alloc_new _ _
        have HBy : Hid (Below Wx.heap.size Wx Wy) := hWy ▸ row_below (below_new (Below.refl _ _) _) (Nat.le_refl _) _
        have Ry : Hid (Wy.heap[Wx.heap.size]? = some (.cells #[.int .i64 cc2, .slice ua2 bf2.length uc2, .bool cl2] 69 (0, 0))) := hWy ▸ setRow_heap _ _ _ _ _ (0, 0) Ny.out
        have HWy := Lib.hid hWy
        clear hWy
        go_upto_region 7 with (refine wpList_store_row rfl 69 _ _ rfl (Wx.heap.size) _ rfl rfl 69 #[.int .i64 0, .slice none 0 0, .bool false] Ny.out (by kernel_rfl) rfl (by simp [Value.oneCell']) ?_)
        rw [HWy.out]
        try simp only [Act.put]
        clear HWy Ny
        obtain ⟨Y, hY⟩ : ∃ Y, Wx.heap.size = Y := ⟨_, rfl⟩
        rw [hY] at Ry
        rw [hY]
        clear hY
        have HB4 := Lib.hid (below_then HBi.out (below_then HBx.out HBy.out))
        have Rx2 := Lib.hid ((HBy.out.block X (Array.getElem?_eq_some_iff.1 Rx.out).1).trans Rx.out)
        have T := Lib.hid (qequal_any ⟨cc, bf, cl⟩ ⟨cc2, bf2, cl2⟩ (.slice ua bf.length uc) (.slice ua2 bf2.length uc2) Wy (HU.out.below (below_then HBx.out HBy.out)) (HU2.out.below (below_then HBx.out HBy.out)))
        dsimp only at T
        obtain ⟨q, hq1⟩ : ∃ q, chEqB ⟨cc, bf, cl⟩ ⟨cc2, bf2, cl2⟩ = q := ⟨_, rfl⟩
        rw [hq1] at T
        have HQ := Lib.hid hq1
        clear e0 e1 e2 hq1
        obtain ⟨x0, x1, x2⟩ := rowc3 Rx2.out
        obtain ⟨y0, y1, y2⟩ := rowc3 Ry.out
        go_wp2_with fail
        refine T.out.mono ?_; rintro e w5 ⟨rfl, hb5⟩
        have HB5 := Lib.hid (below_then HB4.out hb5)
        clear x0 x1 x2 y0 y1 y2 hb5 T
        cases q with
        | false =>
          have hr : rb = false := HNO.out i (by rw [HN.out.1]; exact hlt) (by rw [HXY.out.1, HXY.out.2]; exact HQ.out)
          subst hr
          go_wp2
          go_ret
          exact ⟨rfl, HB5.out⟩
        | true =>
          go_wp2_with fail
          go_roundw
          case rel => exact ⟨i + 1, by go_num, by omega, fun j hj => by
            by_cases e : j = i
            · rw [e, HXY.out.1, HXY.out.2]; exact HQ.out
            · exact HE.out j (by omega), HB5⟩
          case measure => simp [intOf]; omega
      · have hge : ¬ (i : Int) < (n : Int) := by omega
        have hr : rb = true := HYES.out HL.out fun j hj => HE.out j (by rw [HN.out.1] at hj; omega)
        subst hr
        go_wp2
        go_ret
        exact ⟨rfl, HBi.out⟩
  · have hq : ((l.length : Int) != (m.length : Int)) = true := by simp; omega
    have hr : rb = false := HLEN.out hl
    subst hr
    clear hl
    go_enter Try.func54, Try.ntmps54
    go_wp2
    go_ret
    exact ⟨rfl, Below.refl _ _⟩
set_option maxRecDepth 100000 in
set_option maxHeartbeats 16000000 in
theorem qSame_any (v v2 : Value) (l m : List ChanM) (w : World) (hv : SlH w v l) (hv2 : SlH w v2 m) : Calls Try.prog 33 #[v, v2] w fun e w' => e = .returned (.bool (sameB l m)) ∧ Below w.heap.size w w' := by
  have T := Lib.hid (qequalF_any v v2 l m w hv hv2)
  obtain ⟨rb, hrb⟩ : ∃ b, sameB l m = b := ⟨_, rfl⟩
  rw [hrb] at T ⊢
  obtain ⟨a, cap, hve, -⟩ := hv.len
  subst hve
  obtain ⟨a2, cap2, hve, -⟩ := hv2.len
  subst hve
  clear hv hv2 hrb
  go_enter Try.func33, Try.ntmps33
  go_wp2_with fail
  refine T.out.mono ?_; rintro e w1 ⟨rfl, hb1⟩
  go_wp2
  go_ret
  exact ⟨rfl, hb1⟩
end Go.Proofs.Ytckjdlphilpgfaa
/- The reader of choices: valid selects. -/
namespace Go.Proofs.Ytckjdlphilpgfaa
open Go.ChangeShapes Go.WideShapes Go.ChangeAt Go.RowKit
set_option maxRecDepth 100000

/-- while a select is made: the reader, the configuration's box in R, the result in R + 1, the variable in R + 2 with its two lists -/
structure SelInv (w0 w : World) (g : Nat) (cc : Array Value) (vc vd : Value) (cs : List CaseM) (ds : List Int) : Prop where
  lt : g < w0.heap.size
  size : w0.heap.size + 3 ≤ w.heap.size
  codes : CodesE w g
  grown : w0.grownBy w (some g)
  box : w.heap[w0.heap.size]? = some (.cells cc 34 (0, 0))
  res : w.heap[w0.heap.size + 1]? = some (.cells zeroOp 38 (0, 0))
  var : w.heap[w0.heap.size + 2]? = some (.cells #[.int .i64 4, .int .i64 0, .int .i64 0, .int .u64 0, .int .i64 0, vc, vd] 38 (0, 0))
  oc : OwnC w (w0.heap.size + 3) vc cs
  od : OwnI w (w0.heap.size + 3) 3 .i64 vd ds
theorem SelInv.next {w0 w w' : World} {g : Nat} {cc : Array Value} {vc vd : Value} {cs : List CaseM} {ds : List Int} (h : SelInv w0 w g cc vc vd cs ds) (hc : CodesE w' g) (hg : w.grownBy w' (some g)) : SelInv w0 w' g cc vc vd cs ds := by
  have hs := h.size
  have hl := h.lt
  have b : ∀ j, w0.heap.size ≤ j → j < w0.heap.size + 3 → w'.heap[j]? = w.heap[j]? := fun j h1 h2 => hg.block j (by omega) (by simp; omega)
  exact ⟨hl, Nat.le_trans hs hg.size, hc, grownBy_trans h.grown hg, (b _ (by omega) (by omega)).trans h.box, (b _ (by omega) (by omega)).trans h.res, (b _ (by omega) (by omega)).trans h.var, h.oc.kept hg (h.oc.ne (by omega)), h.od.kept hg (h.od.ne (by omega))⟩
theorem SelInv.below {w0 w w' : World} {g : Nat} {cc : Array Value} {vc vd : Value} {cs : List CaseM} {ds : List Int} (h : SelInv w0 w g cc vc vd cs ds) (hb : Below w.heap.size w w') : SelInv w0 w' g cc vc vd cs ds :=
  h.next (h.codes.kept h.codes.lt hb) (grown_of_below hb)
/-- a block of the call's own, behind the others, is written -/
theorem SelInv.mine {w0 w : World} {g b o : Nat} {u : Value} {cc : Array Value} {vc vd : Value} {cs : List CaseM} {ds : List Int} {T : TypeId} {cells : Array Value} (h : SelInv w0 w g cc vc vd cs ds)
    (hb : w.heap[b]? = some (.cells cells T (0, 0))) (hT : T ≠ 3) (hb3 : w0.heap.size + 3 ≤ b) (hC : T ≠ 63 ∨ vc.ownBlock ≠ some b) : SelInv w0 (w.setCell ⟨b, o, none⟩ u) g cc vc vd cs ds := by
  have hs := h.size
  have hl := h.lt
  have hgr := grownBy_setCell w ⟨b, o, none⟩ u
  have e : ∀ j, j ≠ b → (w.setCell ⟨b, o, none⟩ u).heap[j]? = w.heap[j]? := fun j hj => heap_setCell_other w ⟨b, o, none⟩ j u hj
  have hbl : Below (w0.heap.size + 3) w (w.setCell ⟨b, o, none⟩ u) := (Below.refl _ w).setCell (p := ⟨b, o, none⟩) hb3 u
  refine ⟨hl, by simpa using hs, h.codes.kept (B := w0.heap.size + 3) (by omega) hbl, ?_, (e _ (by omega)).trans h.box, (e _ (by omega)).trans h.res, (e _ (by omega)).trans h.var, h.oc.kept hgr ?_, h.od.kept hgr ?_⟩
  · exact grownBy_of_new h.grown hgr (fun k hk => by cases hk; simp; omega)
  · cases hv : vc.ownBlock with
    | none => exact .inl rfl
    | some q =>
      refine .inr fun eq => ?_
      simp only [Option.some.injEq] at eq
      subst eq
      rcases hC with hC | hC
      · rcases h.oc.2 with ⟨rfl, _⟩ | ⟨g', cap, cur, rfl, _, hg', _⟩
        · simp [Value.ownBlock] at hv
        · simp only [Value.ownBlock, Option.some.injEq] at hv
          subst hv
          rw [hb] at hg'
          simp only [Option.some.injEq, Obj.cells.injEq] at hg'
          exact hC hg'.2.1
      · exact hC hv
  · cases hv : vd.ownBlock with
    | none => exact .inl rfl
    | some q =>
      refine .inr fun eq => ?_
      simp only [Option.some.injEq] at eq
      subst eq
      rcases h.od.2 with ⟨rfl, _⟩ | ⟨g', cap, cur, rfl, _, hg', _⟩
      · simp [Value.ownBlock] at hv
      · simp only [Value.ownBlock, Option.some.injEq] at hv
        subst hv
        rw [hb] at hg'
        simp only [Option.some.injEq, Obj.cells.injEq] at hg'
        exact hT hg'.2.1
/-- what was appended is stored in the variable -/
theorem SelInv.addCase {w0 w w1 : World} {g : Nat} {cc : Array Value} {vc vd vc' : Value} {cs cs' : List CaseM} {ds : List Int} (h : SelInv w0 w g cc vc vd cs ds) (ho : OwnC w1 (w0.heap.size + 3) vc' cs') (hg : w.grownBy w1 vc.ownBlock) :
    SelInv w0 (w1.setCell ⟨w0.heap.size + 2, 5, none⟩ vc') g cc vc' vd cs' ds := by
  have hs := h.size
  have hl := h.lt
  have hge := h.oc.own_ge
  have b : ∀ j, j < w0.heap.size + 3 → w1.heap[j]? = w.heap[j]? := fun j hj => hg.block j (by omega) (fun e => by have := hge j e.symm; omega)
  have b2 : ∀ j, j ≠ w0.heap.size + 2 → (w1.setCell ⟨w0.heap.size + 2, 5, none⟩ vc').heap[j]? = w1.heap[j]? := fun j hj => heap_setCell_other w1 ⟨w0.heap.size + 2, 5, none⟩ j _ hj
  have hb : Below (w0.heap.size + 2) w (w1.setCell ⟨w0.heap.size + 2, 5, none⟩ vc') := by
    refine ⟨hg.os, hg.tape, hg.output, by simpa using hg.size, fun k hk => (b2 k (by omega)).trans (b k (by omega))⟩
  have hv := heap_setCell_same w1 (w0.heap.size + 2) 5 _ _ vc' ((b _ (by omega)).trans h.var)
  refine ⟨hl, ?_, h.codes.kept (by omega) hb, ?_, (b2 _ (by omega)).trans ((b _ (by omega)).trans h.box), (b2 _ (by omega)).trans ((b _ (by omega)).trans h.res), by simpa using hv, ?_, ?_⟩
  · simpa using Nat.le_trans hs hg.size
  · exact grownBy_of_new (grownBy_of_new h.grown hg (fun k hk => by have := hge k hk; omega)) (grownBy_setCell w1 ⟨w0.heap.size + 2, 5, none⟩ vc') (fun k hk => by cases hk; simp)
  · exact ho.kept (grownBy_setCell w1 ⟨w0.heap.size + 2, 5, none⟩ vc') (ho.ne (Nat.lt_succ_self _))
  · have h1 := h.od.kept hg (rows_apart h.od h.oc (by decide))
    exact h1.kept (grownBy_setCell w1 ⟨w0.heap.size + 2, 5, none⟩ vc') (h1.ne (Nat.lt_succ_self _))
theorem SelInv.addDraw {w0 w w1 : World} {g : Nat} {cc : Array Value} {vc vd vd' : Value} {cs : List CaseM} {ds ds' : List Int} (h : SelInv w0 w g cc vc vd cs ds) (ho : OwnI w1 (w0.heap.size + 3) 3 .i64 vd' ds') (hg : w.grownBy w1 vd.ownBlock) :
    SelInv w0 (w1.setCell ⟨w0.heap.size + 2, 6, none⟩ vd') g cc vc vd' cs ds' := by
  have hs := h.size
  have hl := h.lt
  have hge := h.od.own_ge
  have b : ∀ j, j < w0.heap.size + 3 → w1.heap[j]? = w.heap[j]? := fun j hj => hg.block j (by omega) (fun e => by have := hge j e.symm; omega)
  have b2 : ∀ j, j ≠ w0.heap.size + 2 → (w1.setCell ⟨w0.heap.size + 2, 6, none⟩ vd').heap[j]? = w1.heap[j]? := fun j hj => heap_setCell_other w1 ⟨w0.heap.size + 2, 6, none⟩ j _ hj
  have hb : Below (w0.heap.size + 2) w (w1.setCell ⟨w0.heap.size + 2, 6, none⟩ vd') := by
    refine ⟨hg.os, hg.tape, hg.output, by simpa using hg.size, fun k hk => (b2 k (by omega)).trans (b k (by omega))⟩
  have hv := heap_setCell_same w1 (w0.heap.size + 2) 6 _ _ vd' ((b _ (by omega)).trans h.var)
  refine ⟨hl, ?_, h.codes.kept (by omega) hb, ?_, (b2 _ (by omega)).trans ((b _ (by omega)).trans h.box), (b2 _ (by omega)).trans ((b _ (by omega)).trans h.res), by simpa using hv, ?_, ?_⟩
  · simpa using Nat.le_trans hs hg.size
  · exact grownBy_of_new (grownBy_of_new h.grown hg (fun k hk => by have := hge k hk; omega)) (grownBy_setCell w1 ⟨w0.heap.size + 2, 6, none⟩ vd') (fun k hk => by cases hk; simp)
  · have h1 := h.oc.kept hg (rows_apart h.oc h.od (by decide))
    exact h1.kept (grownBy_setCell w1 ⟨w0.heap.size + 2, 6, none⟩ vd') (h1.ne (Nat.lt_succ_self _))
  · exact ho.kept (grownBy_setCell w1 ⟨w0.heap.size + 2, 6, none⟩ vd') (ho.ne (Nat.lt_succ_self _))
theorem SelInv.own_lt {w0 w : World} {g : Nat} {cc : Array Value} {vc vd : Value} {cs : List CaseM} {ds : List Int} (h : SelInv w0 w g cc vc vd cs ds) (b : Nat) (hb : w.heap.size ≤ b) : vc.ownBlock ≠ some b := by
  intro e
  have := (World.ownsRow.lt h.oc b e).2
  omega
/-- beside it a case of the round's own lies in block Y -/
structure YInv (w0 w : World) (g : Nat) (cc : Array Value) (vc vd : Value) (cs : List CaseM) (ds : List Int) (Y : Nat) (cells : Array Value) : Prop where
  inv : SelInv w0 w g cc vc vd cs ds
  row : w.heap[Y]? = some (.cells cells 63 (0, 0))
  ge : w0.heap.size + 3 ≤ Y
  ne : vc.ownBlock ≠ some Y
def zeroCase : Array Value := #[.bool false, .int .i64 0, .int .u64 0]
theorem YInv.new {w0 w : World} {g : Nat} {cc : Array Value} {vc vd : Value} {cs : List CaseM} {ds : List Int} (h : SelInv w0 w g cc vc vd cs ds) : YInv w0 (w.alloc (.cells zeroCase 63)) g cc vc vd cs ds w.heap.size zeroCase :=
  ⟨h.below (below_new (Below.refl _ _) _), heap_alloc_new _ _, h.size, h.own_lt _ (Nat.le_refl _)⟩
theorem YInv.lit {w0 w : World} {g : Nat} {cc : Array Value} {vc vd : Value} {cs : List CaseM} {ds : List Int} (h : SelInv w0 w g cc vc vd cs ds) (cells : Array Value) : YInv w0 (w.alloc (.cells cells 63)) g cc vc vd cs ds w.heap.size cells :=
  ⟨h.below (below_new (Below.refl _ _) _), heap_alloc_new _ _, h.size, h.own_lt _ (Nat.le_refl _)⟩
theorem YInv.frozen {w0 w : World} {g : Nat} {cc : Array Value} {vc vd : Value} {cs : List CaseM} {ds : List Int} {Y : Nat} {cells : Array Value} (h : YInv w0 w g cc vc vd cs ds Y cells) : w.frozen? ⟨Y, 0, none⟩ = false ∧ w.frozen? ⟨Y, 1, none⟩ = false ∧ w.frozen? ⟨Y, 2, none⟩ = false :=
  ⟨frozen_of_row _ _ 0 _ _ h.row, frozen_of_row _ _ 1 _ _ h.row, frozen_of_row _ _ 2 _ _ h.row⟩
theorem YInv.next {w0 w w' : World} {g : Nat} {cc : Array Value} {vc vd : Value} {cs : List CaseM} {ds : List Int} {Y : Nat} {cells : Array Value} (h : YInv w0 w g cc vc vd cs ds Y cells) (hc : CodesE w' g) (hg : w.grownBy w' (some g)) : YInv w0 w' g cc vc vd cs ds Y cells := by
  have hl := h.inv.lt
  have hge := h.ge
  exact ⟨h.inv.next hc hg, (hg.block Y (Array.getElem?_eq_some_iff.1 h.row).1 (by simp; omega)).trans h.row, h.ge, h.ne⟩
theorem YInv.set {w0 w : World} {g : Nat} {cc : Array Value} {vc vd : Value} {cs : List CaseM} {ds : List Int} {Y : Nat} {cells : Array Value} (h : YInv w0 w g cc vc vd cs ds Y cells) (o : Nat) (u : Value) : YInv w0 (w.setCell ⟨Y, o, none⟩ u) g cc vc vd cs ds Y (cells.setIfInBounds o u) :=
  ⟨h.inv.mine h.row (by decide) h.ge (.inr h.ne), heap_setCell_same w Y o _ _ u h.row, h.ge, h.ne⟩
theorem YInv.set3 {w0 w : World} {g : Nat} {cc : Array Value} {vc vd : Value} {cs : List CaseM} {ds : List Int} {Y : Nat} (h : YInv w0 w g cc vc vd cs ds Y zeroCase) (a b c : Value) : YInv w0 (((w.setCell ⟨Y, 0, none⟩ a).setCell ⟨Y, 1, none⟩ b).setCell ⟨Y, 2, none⟩ c) g cc vc vd cs ds Y #[a, b, c] := by
  have := ((h.set 0 a).set 1 b).set 2 c
  simpa [zeroCase] using this
theorem YInv.row_ {w0 w : World} {g : Nat} {cc : Array Value} {vc vd : Value} {cs : List CaseM} {ds : List Int} {Y : Nat} {cells cells' : Array Value} (h : YInv w0 w g cc vc vd cs ds Y cells) : YInv w0 (w.setRow Y cells') g cc vc vd cs ds Y cells' := by
  have hi := h.inv
  have hs := hi.size
  have hl := hi.lt
  have hge := h.ge
  have hgr := grownBy_setRow w Y cells'
  have e : ∀ j, j ≠ Y → (w.setRow Y cells').heap[j]? = w.heap[j]? := fun j hj => setRow_other w Y j cells' hj
  have hbl : Below (w0.heap.size + 3) w (w.setRow Y cells') := below_setRow (Below.refl _ w) h.ge cells'
  refine ⟨⟨hl, Nat.le_trans hs hgr.size, hi.codes.kept (B := w0.heap.size + 3) (by omega) hbl, grownBy_of_new hi.grown hgr (fun k hk => by cases hk; omega), (e _ (by omega)).trans hi.box, (e _ (by omega)).trans hi.res, (e _ (by omega)).trans hi.var, hi.oc.kept hgr (.inr h.ne), hi.od.kept hgr ?_⟩, setRow_heap w Y _ _ _ (0, 0) h.row, h.ge, h.ne⟩
  cases hv : vd.ownBlock with
  | none => exact .inl rfl
  | some q =>
    refine .inr fun eq => ?_
    simp only [Option.some.injEq] at eq
    subst eq
    rcases hi.od.2 with ⟨rfl, _⟩ | ⟨g', cap, cur, rfl, _, hg', _⟩
    · simp [Value.ownBlock] at hv
    · simp only [Value.ownBlock, Option.some.injEq] at hv
      subst hv
      rw [h.row] at hg'
      simp only [Option.some.injEq, Obj.cells.injEq] at hg'
      exact absurd hg'.2.1 (by decide)
/-- the variable, behind an append to one of its lists -/
theorem SelInv.varAt {w0 w w1 : World} {g : Nat} {cc : Array Value} {vc vd : Value} {cs : List CaseM} {ds : List Int} {row : Option Nat} (h : SelInv w0 w g cc vc vd cs ds) (hg : w.grownBy w1 row) (hr : ∀ j, row = some j → w0.heap.size + 3 ≤ j) :
    w1.heap[w0.heap.size + 2]? = some (.cells #[.int .i64 4, .int .i64 0, .int .i64 0, .int .u64 0, .int .i64 0, vc, vd] 38 (0, 0)) :=
  (hg.block _ (by have := h.size; omega) (fun e => by have := hr _ e.symm; omega)).trans h.var
theorem OwnC.shape_ne {w : World} {base : Nat} {v : Value} {l : List CaseM} {y : CaseM} (h : OwnC w base v (l ++ [y])) : ∃ g cap, v = .slice (some ⟨g, 0, none⟩) (l.length + 1) cap := by
  rcases h.shape with ⟨_, h1⟩ | ⟨g, cap, h1, _⟩
  · exact absurd h1 (by simp)
  · exact ⟨g, cap, by simpa using h1⟩
theorem OwnC.one {w : World} {base : Nat} {v : Value} {l : List CaseM} (h : OwnC w base v l) : v.oneCell' = true := by
  rcases h.shape with ⟨rfl, _⟩ | ⟨g, cap, rfl, _⟩ <;> rfl
theorem OwnI.one {w : World} {base : Nat} {e : TypeId} {k : IntKind} {v : Value} {l : List Int} (h : OwnI w base e k v l) : v.oneCell' = true := by
  rcases h.shape with ⟨rfl, _⟩ | ⟨g, cap, rfl, _⟩ <;> rfl
/-- the slice lies in a block from B on -/
def newB (B : Nat) (v : Value) : Prop := ∀ a n c, v = .slice (some a) n c → n = 0 ∨ B ≤ a.block
theorem newB.off {B g : Nat} {v : Value} (h : newB B v) (hg : g < B) : offB g v := fun a n c e => (h a n c e).imp id fun h => by omega
theorem newB.mono {B C : Nat} {v : Value} (h : newB B v) (hc : C ≤ B) : newB C v := fun a n c e => (h a n c e).imp id fun h => by omega
theorem newB.nil (B : Nat) : newB B (.slice none 0 0) := fun a n c e => by simp at e
theorem OwnI.newB {w : World} {base : Nat} {e : TypeId} {k : IntKind} {v : Value} {l : List Int} (h : OwnI w base e k v l) : newB base v := by
  intro a n c e
  subst e
  exact .inr (h.own_ge a.block rfl)
theorem OwnC.newB {w : World} {base : Nat} {v : Value} {l : List CaseM} (h : OwnC w base v l) : newB base v := by
  intro a n c e
  subst e
  exact .inr (h.own_ge a.block rfl)
/-- an operation whose lists lie in blocks from B on -/
def OpN (w : World) (B : Nat) (v : Value) (op : OpM) : Prop :=
  ∃ vc vd, v = .agg #[.int .i64 op.kind, .int .i64 op.mode, .int .i64 op.chan, .int .u64 op.val, .int .i64 op.dl, vc, vd] ∧ SlC w vc op.cases ∧ SlI w .i64 vd op.draws ∧ newB B vc ∧ newB B vd
theorem OpN.opx {w : World} {B g : Nat} {v : Value} {op : OpM} (h : OpN w B v op) (hg : g < B) : OpX w g v op := by
  obtain ⟨vc, vd, e, h1, h2, h3, h4⟩ := h; exact ⟨vc, vd, e, h1, h2, h3.off hg, h4.off hg⟩
theorem OpN.grown {w w' : World} {B b : Nat} {v : Value} {op : OpM} (h : OpN w B v op) (hg : w.grownBy w' (some b)) (hb : b < B) : OpN w' B v op := by
  obtain ⟨vc, vd, e, h1, h2, h3, h4⟩ := h; exact ⟨vc, vd, e, h1.grown hg (h3.off hb), h2.grown hg (h4.off hb), h3, h4⟩
theorem OpN.mono {w : World} {B C : Nat} {v : Value} {op : OpM} (h : OpN w B v op) (hc : C ≤ B) : OpN w C v op := by
  obtain ⟨vc, vd, e, h1, h2, h3, h4⟩ := h; exact ⟨vc, vd, e, h1, h2, h3.mono hc, h4.mono hc⟩
/-- the end: the words are laid in the result's block -/
theorem SelInv.fin {w0 w : World} {g : Nat} {cc : Array Value} {vc vd : Value} {cs : List CaseM} {ds : List Int} (h : SelInv w0 w g cc vc vd cs ds) (h1 : cs.length ≤ 140737488351232) (h2 : ∀ x ∈ cs, x.ok) (h3 : ds.length ≤ 140737488351232) (h4 : ∀ x ∈ ds, x = IntKind.i64.wrap x) (cells : Array Value) (kd m ch vl d : Int) :
    OpN (w.setRow (w0.heap.size + 1) cells) w0.heap.size (.agg #[.int .i64 kd, .int .i64 m, .int .i64 ch, .int .u64 vl, .int .i64 d, vc, vd]) ⟨kd, m, ch, vl, d, cs, ds⟩ ∧ CodesE (w.setRow (w0.heap.size + 1) cells) g ∧ w0.grownBy (w.setRow (w0.heap.size + 1) cells) (some g) := by
  have hl := h.lt
  have hgr := grownBy_setRow w (w0.heap.size + 1) cells
  refine ⟨⟨vc, vd, rfl, (h.oc.kept hgr (h.oc.ne (by omega))).read h1 h2, (h.od.kept hgr (h.od.ne (by omega))).read h3 h4, h.oc.newB.mono (by omega), h.od.newB.mono (by omega)⟩, ?_, grownBy_of_new h.grown hgr (fun k hk => by cases hk; omega)⟩
  exact h.codes.kept (B := w0.heap.size) hl (below_setRow (Below.refl _ w) (by omega) cells)
theorem all7 {k0 k1 k2 k3 k4 : IntKind} {n0 n1 n2 n3 n4 : Int} {u v : Value} (hu : u.oneCell' = true) (hv : v.oneCell' = true) : (#[.int k0 n0, .int k1 n1, .int k2 n2, .int k3 n3, .int k4 n4, u, v] : Array Value).all (·.oneCell') = true := by
  have hi : ∀ k n, (Value.int k n).oneCell' = true := fun _ _ => rfl
  simp [hi, hu, hv]
end Go.Proofs.Ytckjdlphilpgfaa
