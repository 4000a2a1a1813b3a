
import Derived.Test.YtjnlkemdaffgbaaB14
set_option linter.unusedVariables false
set_option linter.unusedSimpArgs false
/- The document's worlds: a machine's access that is granted. -/
namespace Go.Proofs.Ytjnlkemdaffgbaa
open Go.ChangeShapes Go.WideShapes Go.ChangeAt Go.RowKit
set_option maxRecDepth 100000

/-- while a machine makes its access: the world, and the rows of three blocks of the call's own -/
structure StP (WT : TypeId) (w0 w wx : World) (E : List (Option Nat)) (B D : Nat) (x x' : WV) (y' : WM) (P Q A : Nat) (rp rq ra : Array Value) : Prop where
  wi : WI WT w0 wx E B D x' y'
  inc : ∀ w3, OffS (x'.S E B) wx w3 → OffS (x.S E B) w w3
  hp : wx.heap[P]? = some (.cells rp 39 (0, 0))
  hq : wx.heap[Q]? = some (.cells rq 53 (0, 0))
  ha : wx.heap[A]? = some (.cells ra 53 (0, 0))
theorem StP.next {WT : TypeId} {w0 w wx w2 : World} {E : List (Option Nat)} {B D : Nat} {x x' : WV} {y' : WM} {P Q A : Nat} {rp rq ra : Array Value} (h : StP WT w0 w wx E B D x x' y' P Q A rp rq ra) (hb : Below wx.heap.size wx w2) : StP WT w0 w w2 E B D x x' y' P Q A rp rq ra :=
  ⟨h.wi.next hb, fun w3 h3 => h.inc w3 ((OffS.below hb).trans1 h3), (hb.block P (Array.getElem?_eq_some_iff.1 h.hp).1).trans h.hp, (hb.block Q (Array.getElem?_eq_some_iff.1 h.hq).1).trans h.hq, (hb.block A (Array.getElem?_eq_some_iff.1 h.ha).1).trans h.ha⟩
/-- from one moment to the next, where other blocks than the three were written -/
theorem StP.go {WT : TypeId} {w0 w wx w2 : World} {E : List (Option Nat)} {B D : Nat} {x x' x2 : WV} {y' y2 : WM} {P Q A : Nat} {rp rq ra : Array Value} (h : StP WT w0 w wx E B D x x' y' P Q A rp rq ra) (hi : WI WT w0 w2 E B D x2 y2) (hin : ∀ w3, OffS (x2.S E B) w2 w3 → OffS (x'.S E B) wx w3) (hk : ∀ j, j = P ∨ j = Q ∨ j = A → w2.heap[j]? = wx.heap[j]?) : StP WT w0 w w2 E B D x x2 y2 P Q A rp rq ra :=
  ⟨hi, fun w3 h3 => h.inc w3 (hin w3 h3), (hk P (.inl rfl)).trans h.hp, (hk Q (.inr (.inl rfl))).trans h.hq, (hk A (.inr (.inr rfl))).trans h.ha⟩
theorem Try.info_mem3 : (Try.prog.info? 39).map (fun i => (i.zero, i.size, i.bytes)) = some (some (.agg #[.slice none 0 0, .slice none 0 0, .int .i64 0]), 3, 56) := by kernel_rfl
/-- what is left of a world whose machine made its access -/
def StepQ (WT : TypeId) (w0 w : World) (E : List (Option Nat)) (B D : Nat) (x : WV) (y y2 : WM) (bb : AnsM) (e : Ending) (w' : World) : Prop :=
  ∃ (x2 : WV) (zA : Option Addr) (zn zc : Nat), e = .returned (.tuple #[.agg #[.int .u64 bb.val, .bool bb.ok, .bool bb.late, .slice zA zn zc], .bool true]) ∧ Hid (WI WT w0 w' E B D x2 y2) ∧ Hid (∀ w3, OffS (x2.S E B) w' w3 → OffS (x.S E B) w w3) ∧ x2.fA = x.fA ∧ x2.fc = x.fc
set_option maxRecDepth 100000 in
set_option maxHeartbeats 32000000 in
theorem wstep_yes {WT : TypeId} {w0 w : World} {E : List (Option Nat)} {B D : Nat} {x : WV} {y : WM} (h : WI WT w0 w E B D x y) (i : Nat) (hi : i < y.l.length) (m : MachM) (hm : y.l[i] = m) (hl : y.l.length ≤ 1000) (hp : ¬ m.pl = 0) (a : AccM) (HN : ∀ w', ConfV w' (.agg #[.slice x.cA y.c.caps.length x.cc, .slice x.sA y.c.starts.length x.sc, .int .i64 y.c.threads]) y.c → Calls Try.prog 28 #[.agg (machL (x.vc y.c) (x.vs y.c) y.c.threads m).toArray] w' fun e w2 => e = .returned (accV a) ∧ Below w'.heap.size w' w2) (ha : a.ok) {mm : MemM} {bb : AnsM} (hr : applyE y.m a = (mm, bb, true)) (m2 : MachM) (HR : ∀ w' zA zn zc, ConfV w' (.agg #[.slice x.cA y.c.caps.length x.cc, .slice x.sA y.c.starts.length x.sc, .int .i64 y.c.threads]) y.c → Calls Try.prog 16 #[.agg (machL (x.vc y.c) (x.vs y.c) y.c.threads m).toArray, .agg #[.int .u64 bb.val, .bool bb.ok, .bool bb.late, .slice zA zn zc]] w' fun e w2 => e = .returned (.agg (machL (x.vc y.c) (x.vs y.c) y.c.threads m2).toArray) ∧ Below w'.heap.size w' w2) (ht : y.t.length ≤ 100000) (hpl : y.p.length ≤ 100000) : Calls Try.prog 46 #[.pointer (some ⟨B, 0, none⟩), .int .i64 i] w fun e w' => StepQ WT w0 w E B D x y { y with t := y.t ++ [⟨i, a, bb.val, bb.ok⟩], p := y.p ++ [([.slice x.mA y.m.words.length x.mc, .slice x.nA y.m.lists.length x.nc, .int .i64 y.m.tick], y.m)], m := mm, l := y.l.set i m2 } bb e w' := by
  obtain ⟨gl, lc, hvl, hlA, hlc, hgl, hgls, hcap, RG, TH⟩ := h.machAt i hi
  have HMI := Lib.hid hm
  rw [hm] at RG
  have HI := Lib.hid h
  have HRG := Lib.hid RG
  have HTH := Lib.hid TH
  have HVL := Lib.hid hvl
  obtain ⟨W, hW⟩ : ∃ W, w.alloc (.cells #[.int .u64 0, .bool false, .bool false, .slice none 0 0] 53) = W := ⟨_, rfl⟩
  have HBW : Hid (Below w.heap.size w W) := hW ▸ below_new (Below.refl w.heap.size w) _
  have RA : Hid (W.heap[w.heap.size]? = some (.cells #[.int .u64 0, .bool false, .bool false, .slice none 0 0] 53 (0, 0))) := hW ▸ heap_alloc_new _ _
  have hzW : w.heap.size + 1 = W.heap.size := by rw [← hW]; simp
  have HW := Lib.hid hW
  have hBl := h.lt
  have HLA := Lib.hid hlA
  have HLC := Lib.hid hlc
  have hiI : (i : Int) < (y.l.length : Int) := by omega
  have hiN : (decide ((i : Int) < 0)) = false := by simp
  clear hW hvl RG TH hm hlA hlc
  have row0 := h.row
  clear h
  unfold WV.row at row0
  rw [HLA.out, HLC.out] at row0
  have ROW := Lib.hid row0
  clear row0
  unfold machL WV.vc WV.vs at HRG
  have hpF : (m.pl == 0) = false := by simpa using hp
  go_enter Try.func46, Try.ntmps46
  go_upto_region 1 with fail
  rw [HW.out]
  clear HW
  obtain ⟨x0, x1, x2, x3, x4, x5, x6, x7, x8, x9⟩ := rowc10 ((HBW.out.block B hBl).trans ROW.out)
  obtain ⟨q0, q1, q2, q3, q4, q5, q6, q7, q8, q9, q10, q11, q12, q13⟩ := range14 (range_below HRG.out HBW.out hgls)
  go_upto_region 3 with fail
  have TN := Lib.hid HN
  unfold machL WV.vc WV.vs accV at TN
  try dsimp only at TN
  clear hp hpF
  go_wp2_with fail
  refine (TN.out _ ((HI.out.next HBW.out).confV)).mono ?_; rintro e w1 ⟨rfl, hb1⟩
  have HB1 := Lib.hid hb1
  clear hb1 TN x0 x1 x2 x3 x4 x5 x6 x7 x8 x9 q0 q1 q2 q3 q4 q5 q6 q7 q8 q9 q10 q11 q12 q13
  obtain ⟨W2, hW2⟩ : ∃ W2, (w1.alloc (.cells #[.int .i64 0, .int .i64 0, .int .u64 0, .int .u64 0, .int .i64 0] 69)).setRow w1.heap.size #[.int .i64 a.kind, .int .i64 a.addr, .int .u64 a.old, .int .u64 a.new, .int .i64 a.til] = W2 := ⟨_, rfl⟩
  have N2 : Hid ((w1.alloc (.cells #[.int .i64 0, .int .i64 0, .int .u64 0, .int .u64 0, .int .i64 0] 69)).heap[w1.heap.size]? = some (.cells #[.int .i64 0, .int .i64 0, .int .u64 0, .int .u64 0, .int .i64 0] 69 (0, 0))) := heap_alloc_new _ _
  have HB2 : Hid (Below w1.heap.size w1 W2) := hW2 ▸ row_below (below_new (Below.refl _ _) _) (Nat.le_refl _) _
  have R2 : Hid (W2.heap[w1.heap.size]? = some (.cells #[.int .i64 a.kind, .int .i64 a.addr, .int .u64 a.old, .int .u64 a.new, .int .i64 a.til] 69 (0, 0))) := hW2 ▸ setRow_heap _ _ _ _ _ (0, 0) N2.out
  have HW2 := Lib.hid hW2
  clear hW2
  go_upto_region 4 with (refine wpList_store_row rfl 69 _ _ rfl (w1.heap.size) _ rfl rfl 69 #[.int .i64 0, .int .i64 0, .int .u64 0, .int .u64 0, .int .i64 0] N2.out (by kernel_rfl) rfl (by simp [Value.oneCell']) ?_)
  rw [HW2.out]
  try simp only [Act.put]
  clear HW2 N2
  have hX1 := HB1.out.size
  obtain ⟨X, hX⟩ : ∃ X, w1.heap.size = X := ⟨_, rfl⟩
  have hXw : Hid (w.heap.size < X) := by show w.heap.size < X; omega
  clear hX1
  rw [hX] at R2
  rw [hX]
  clear hX

  have HB02 := Lib.hid (below_then HBW.out (below_then HB1.out HB2.out))
  have RA2 := Lib.hid (((below_then HB1.out HB2.out).block w.heap.size (by omega)).trans RA.out)
  have hX2 : X < W2.heap.size := (Array.getElem?_eq_some_iff.1 R2.out).1
  have KS : Hid (∀ w', Below W2.heap.size W2 w' → (fun w' : World => (w'.cell? ⟨B, 3, none⟩ = some (.slice x.mA y.m.words.length x.mc) ∧ w'.cell? ⟨B, 4, none⟩ = some (.slice x.nA y.m.lists.length x.nc) ∧ w'.cell? ⟨B, 5, none⟩ = some (.int .i64 y.m.tick)) ∧ (w'.cell? ⟨X, 0, none⟩ = some (.int .i64 a.kind) ∧ w'.cell? ⟨X, 1, none⟩ = some (.int .i64 a.addr) ∧ w'.cell? ⟨X, 2, none⟩ = some (.int .u64 a.old) ∧ w'.cell? ⟨X, 3, none⟩ = some (.int .u64 a.new) ∧ w'.cell? ⟨X, 4, none⟩ = some (.int .i64 a.til))) w') := fun w' hb => by
    obtain ⟨x0, x1, x2, x3, x4, x5, x6, x7, x8, x9⟩ := rowc10 (((below_then HB02.out hb).block B hBl).trans ROW.out)
    obtain ⟨y0, y1, y2, y3, y4⟩ := rowc5 ((hb.block X hX2).trans R2.out)
    exact ⟨⟨x3, x4, x5⟩, ⟨y0, y1, y2, y3, y4⟩⟩
  have TA := Lib.hid fun w' (hb : Below W2.heap.size W2 w') => rapply_any (OffS (x.S E B) w) _ y.m a w' (OffS.below (below_then HB02.out hb)) (OffS.wide _ _) HI.out.mem HI.out.fits ha
  unfold accV WV.mem at TA
  rw [hr] at TA
  have HFM : Hid mm.fits := by have := fits_apply (a := a) HI.out.fits ha; rw [hr] at this; exact this
  have HSL := Lib.hid HI.out.Slt
  clear hr
  go_cut [7, 8, 9] (fun s7 s8 s9 wx => ∃ (P Q : Nat) (m1 m2a zA : Option Addr) (n1 n2 zn zc : Nat), s7 = .pointer (some ⟨P, 0, none⟩) ∧ s8 = .pointer (some ⟨Q, 0, none⟩) ∧ s9 = .bool true ∧ Hid (wx.heap[P]? = some (.cells #[.slice m1 mm.words.length n1, .slice m2a mm.lists.length n2, .int .i64 mm.tick] 39 (0, 0))) ∧ Hid (wx.heap[Q]? = some (.cells #[.int .u64 bb.val, .bool bb.ok, .bool bb.late, .slice zA zn zc] 53 (0, 0))) ∧ Hid (W2.heap.size ≤ P) ∧ Hid (W2.heap.size ≤ Q) ∧ Hid (StM (OffS (x.S (some w.heap.size :: E) B) wx) (.agg #[.slice m1 mm.words.length n1, .slice m2a mm.lists.length n2, .int .i64 mm.tick]) mm) ∧ Hid (Below W2.heap.size W2 wx))
  case first =>
    refine untilK KS 14 15 (by kernel_rfl) rfl ?_
    obtain ⟨u0, hu0, HU0⟩ := drew_pack W2
    rw [hu0]
    clear hu0
    have hSU0 := KS.out _ HU0.out
    refine tkU (v := ?_) 0 la0 hSU0 (by kernel_rfl) (fun _ _ _ h => h) rfl ?_ ?_
    rotate_left
    · (intro w hSw; (try dsimp only at hSw); go_simp <;> with_reducible rfl)
    simp only [Act.put, List.setIfInBounds_toArray, List.set_cons_zero, List.set_cons_succ]
    refine tkU (v := ?_) 1 la1 hSU0 (by kernel_rfl) (fun _ _ _ h => h) rfl ?_ ?_
    rotate_left
    · (intro w hSw; (try dsimp only at hSw); go_simp <;> with_reducible rfl)
    simp only [Act.put, List.setIfInBounds_toArray, List.set_cons_zero, List.set_cons_succ]
    refine tkU (v := ?_) 2 la2 hSU0 (by kernel_rfl) (fun _ _ _ h => h) rfl ?_ ?_
    rotate_left
    · (intro w hSw; (try dsimp only at hSw); go_simp <;> with_reducible rfl)
    simp only [Act.put, List.setIfInBounds_toArray, List.set_cons_zero, List.set_cons_succ]
    refine tkU (v := ?_) 3 la3 hSU0 (by kernel_rfl) (fun _ _ _ h => h) rfl ?_ ?_
    rotate_left
    · (intro w hSw; (try dsimp only at hSw); go_simp <;> with_reducible rfl)
    simp only [Act.put, List.setIfInBounds_toArray, List.set_cons_zero, List.set_cons_succ]
    refine tkU (v := ?_) 4 la4 hSU0 (by kernel_rfl) (fun _ _ _ h => h) rfl ?_ ?_
    rotate_left
    · (intro w hSw; (try dsimp only at hSw); go_simp <;> with_reducible rfl)
    simp only [Act.put, List.setIfInBounds_toArray, List.set_cons_zero, List.set_cons_succ]
    refine wpAnyU_ready (rs := [5, 10, 11]) (by kernel_rfl) rfl ?_
    refine AllReadyU.cons la5 rfl (fun K hK => ?_) ?_
    · go_simp
      go_at_call 65
      refine (TA.out _ HU0.out).mono ?_
      rintro e u1 ⟨vq, zq, rfl, hs, hz, hbq⟩
      obtain ⟨m1, n1, m2a, n2, rfl⟩ : ∃ A k A2 k2, vq = .agg #[.slice A mm.words.length k, .slice A2 mm.lists.length k2, .int .i64 mm.tick] := hs.open u1 (Nx.at (OffS.below (below_then HB02.out HU0.out)) (OffS.wide _ _) hbq)
      obtain ⟨zx, zp, zq2, zA, zn, zc, rfl⟩ := hz.shape u1 (Nx.at (OffS.below (below_then HB02.out HU0.out)) (OffS.wide _ _) hbq)
      obtain ⟨rfl, rfl, rfl⟩ : zx = bb.val ∧ zp = bb.ok ∧ zq2 = bb.late := by obtain ⟨vl, e, -⟩ := hz; simp only [Value.agg.injEq, Array.mk.injEq, List.cons.injEq, Value.int.injEq, Value.bool.injEq, and_true, true_and] at e; exact ⟨e.1, e.2.1, e.2.2.1⟩
      have HSM := Lib.hid hs
      have HUC := HU0
      have HBQ := Lib.hid hbq
      have HU1 := Lib.hid (below_then HU0.out hbq)
      have HUF := Lib.hid (Below.refl u1.heap.size u1)
      clear hs hz hbq
      refine hK.out _ _ ?_ (fun hSU1 => ?_)
      · exact KS.out _ HU1.out
      clear hK K hSU0
      try simp only [Act.put, List.setIfInBounds_toArray, List.set_cons_zero, List.set_cons_succ]
      refine tkU (v := ?_) 6 la6 hSU1 (by kernel_rfl) (fun _ _ _ h => h) rfl ?_ ?_
      rotate_left
      · (intro w hSw; (try dsimp only at hSw); go_simp <;> with_reducible rfl)
      simp only [Act.put, List.setIfInBounds_toArray, List.set_cons_zero, List.set_cons_succ]
      refine tkU (v := ?_) 7 la7 hSU1 (by kernel_rfl) (fun _ _ _ h => h) rfl ?_ ?_
      rotate_left
      · (intro w hSw; (try dsimp only at hSw); go_simp <;> with_reducible rfl)
      simp only [Act.put, List.setIfInBounds_toArray, List.set_cons_zero, List.set_cons_succ]
      refine tkU (v := ?_) 8 la8 hSU1 (by kernel_rfl) (fun _ _ _ h => h) rfl ?_ ?_
      rotate_left
      · (intro w hSw; (try dsimp only at hSw); go_simp <;> with_reducible rfl)
      simp only [Act.put, List.setIfInBounds_toArray, List.set_cons_zero, List.set_cons_succ]
      refine tkU (v := ?_) 9 la9 hSU1 (by kernel_rfl) (fun _ _ _ h => h) rfl ?_ ?_
      rotate_left
      · (intro w hSw; (try dsimp only at hSw); go_simp <;> with_reducible rfl)
      simp only [Act.put, List.setIfInBounds_toArray, List.set_cons_zero, List.set_cons_succ]
      refine wpAnyU_ready (rs := [10, 11]) (by kernel_rfl) rfl ?_
      refine AllReadyU.cons la10 rfl (fun K hK => ?_) ?_
      · go_simp
        obtain ⟨u2, P, hv, hXe, RP, hbX, ltP⟩ := alloc_pack u1 (.cells #[.slice none 0 0, .slice none 0 0, .int .i64 0] 39)
        rw [hv, hXe]
        have geP : Hid (W2.heap.size ≤ P) := hXe ▸ HU1.out.size
        have HU2 := Lib.hid (below_then HU1.out hbX.out)
        have oP : Hid (P < u0.heap.size ∨ u1.heap.size ≤ P) := .inr (hXe ▸ Nat.le_refl _)
        have HUF := Lib.hid (below_then HUF.out hbX.out)
        clear hv hXe hbX
        refine hK.out _ _ ?_ (fun hSU2 => ?_)
        · exact KS.out _ HU2.out
        clear hK K hSU1
        try simp only [Act.put, List.setIfInBounds_toArray, List.set_cons_zero, List.set_cons_succ]
        refine wpAnyU_ready (rs := [11]) (by kernel_rfl) rfl ?_
        refine AllReadyU.cons la11 rfl (fun K hK => ?_) ?_
        · go_simp
          obtain ⟨u3, Q, hv, hXe, RQ, hbX, ltQ⟩ := alloc_pack u2 (.cells #[.int .u64 0, .bool false, .bool false, .slice none 0 0] 53)
          rw [hv, hXe]
          have geQ : Hid (W2.heap.size ≤ Q) := hXe ▸ HU2.out.size
          have HU3 := Lib.hid (below_then HU2.out hbX.out)
          have nePQ : Hid (P ≠ Q) := Nat.ne_of_lt (hXe ▸ ltP.out)
          have RP := Lib.hid ((hbX.out.block P ltP.out).trans RP.out)
          have ltP := Lib.hid (Nat.lt_of_lt_of_le ltP.out hbX.out.size)
          have oQ : Hid (Q < u0.heap.size ∨ u1.heap.size ≤ Q) := .inr (hXe ▸ HUF.out.size)
          have HUF := Lib.hid (below_then HUF.out hbX.out)
          clear hv hXe hbX
          refine hK.out _ _ ?_ (fun hSU3 => ?_)
          · exact KS.out _ HU3.out
          clear hK K hSU2
          try simp only [Act.put, List.setIfInBounds_toArray, List.set_cons_zero, List.set_cons_succ]
          refine wpAnyU_ready (rs := [12]) (by kernel_rfl) rfl ?_
          refine AllReadyU.cons la12 rfl (fun K hK => ?_) ?_
          · have hPQ : Hid (P ≠ Q) := nePQ.out
            refine step_store_row rfl 39 _ _ rfl P _ rfl rfl 39 #[.slice none 0 0, .slice none 0 0, .int .i64 0] RP.out (by kernel_rfl) rfl (by simp [Value.oneCell']) ?_
            have RP1 := Lib.hid (setRow_heap u3 P _ #[.slice m1 mm.words.length n1, .slice m2a mm.lists.length n2, .int .i64 mm.tick] _ (0, 0) RP.out)
            have RQ1 := Lib.hid ((setRow_other u3 P Q #[.slice m1 mm.words.length n1, .slice m2a mm.lists.length n2, .int .i64 mm.tick] hPQ.out.symm).trans RQ.out)
            have KP : Hid (∀ j, j ≠ P → (u3.setRow P #[.slice m1 mm.words.length n1, .slice m2a mm.lists.length n2, .int .i64 mm.tick]).heap[j]? = u3.heap[j]?) := fun j hj => setRow_other _ _ _ _ hj
            have zP : Hid ((u3.setRow P #[.slice m1 mm.words.length n1, .slice m2a mm.lists.length n2, .int .i64 mm.tick]).heap.size = u3.heap.size) := by show _ = _; simp [World.setRow]
            have HUP := Lib.hid (row_below HU3.out geP.out #[.slice m1 mm.words.length n1, .slice m2a mm.lists.length n2, .int .i64 mm.tick])
            generalize u3.setRow P #[.slice m1 mm.words.length n1, .slice m2a mm.lists.length n2, .int .i64 mm.tick] = uP at *
            refine hK.out _ _ ?_ (fun hSU4 => ?_)
            · exact KS.out _ HUP.out
            clear hK K hSU3
            try simp only [Act.put, List.setIfInBounds_toArray, List.set_cons_zero, List.set_cons_succ]
            refine wpAnyU_ready (rs := [13]) (by kernel_rfl) rfl ?_
            refine AllReadyU.cons la13 rfl (fun K hK => ?_) ?_
            · refine step_store_row rfl 53 _ _ rfl Q _ rfl rfl 53 #[.int .u64 0, .bool false, .bool false, .slice none 0 0] RQ1.out (by kernel_rfl) rfl (by simp [Value.oneCell']) ?_
              have RQ2 := Lib.hid (setRow_heap uP Q _ #[.int .u64 bb.val, .bool bb.ok, .bool bb.late, .slice zA zn zc] _ (0, 0) RQ1.out)
              have RP2 := Lib.hid ((setRow_other uP Q P #[.int .u64 bb.val, .bool bb.ok, .bool bb.late, .slice zA zn zc] hPQ.out).trans RP1.out)
              have KQ : Hid (∀ j, j ≠ Q → (uP.setRow Q #[.int .u64 bb.val, .bool bb.ok, .bool bb.late, .slice zA zn zc]).heap[j]? = uP.heap[j]?) := fun j hj => setRow_other _ _ _ _ hj
              have zQ : Hid ((uP.setRow Q #[.int .u64 bb.val, .bool bb.ok, .bool bb.late, .slice zA zn zc]).heap.size = uP.heap.size) := by show _ = _; simp [World.setRow]
              have HUQ := Lib.hid (row_below HUP.out geQ.out #[.int .u64 bb.val, .bool bb.ok, .bool bb.late, .slice zA zn zc])
              generalize uP.setRow Q #[.int .u64 bb.val, .bool bb.ok, .bool bb.late, .slice zA zn zc] = uQ at *
              refine hK.out _ _ ?_ (fun hSU5 => ?_)
              · exact KS.out _ HUQ.out
              clear hK K hSU4
              try simp only [Act.put, List.setIfInBounds_toArray, List.set_cons_zero, List.set_cons_succ]
              refine wpAnyU_ready (rs := [14]) (by kernel_rfl) rfl ?_
              refine AllReadyU.free la14 rfl (by kernel_rfl) (fun K hK => ?_) ?_
              · go_simp
                refine hK.out _ _ ?_
                clear hK K hSU5
                try simp only [Act.put, List.setIfInBounds_toArray, List.set_cons_zero, List.set_cons_succ]
                refine wpAnyU_done (by kernel_rfl) ?_ _
                have HG := Lib.hid (nx_boxes (S := x.S (some w.heap.size :: E) B) (S0 := x.S E B) (below_then HB02.out HUC.out) HBQ.out (wf := uQ) (by have h1 := zP.out; have h2 := zQ.out; have h3 := HUF.out.size; omega) (fun j hj hp hq => (KQ.out j hq).trans ((KP.out j hp).trans (HUF.out.block j hj))) oP.out oQ.out (Nat.le_trans HB02.out.size geP.out) (Nat.le_trans HB02.out.size geQ.out) (fun j hj => by have h1 := HB02.out.size; have h2 := HUC.out.size; have h3 := (Array.getElem?_eq_some_iff.1 RA2.out).1; simp only [WV.S, List.cons_append, List.mem_cons, Option.some.injEq] at hj; rcases hj with rfl | hj; omega; have := HSL.out j hj; omega) (fun j h1 h2 => by simp only [WV.S, List.cons_append, List.mem_cons, Option.some.injEq] at h2; rcases h2 with rfl | h2; omega; exact h2))
                have HMQ := Lib.hid (HSM.out.sub HG.out)
                go_wp2_with fail
                go_meet
                exact ⟨P, Q, m1, m2a, zA, n1, n2, zn, zc, rfl, rfl, rfl, RP2, RQ2, geP, geQ, HMQ, HUQ⟩
              exact AllReadyU.nil
            exact AllReadyU.nil
          exact AllReadyU.nil
        exact AllReadyU.nil
      refine AllReadyU.cons la11 rfl (fun K hK => ?_) ?_
      · go_simp
        obtain ⟨u2, Q, hv, hXe, RQ, hbX, ltQ⟩ := alloc_pack u1 (.cells #[.int .u64 0, .bool false, .bool false, .slice none 0 0] 53)
        rw [hv, hXe]
        have geQ : Hid (W2.heap.size ≤ Q) := hXe ▸ HU1.out.size
        have HU2 := Lib.hid (below_then HU1.out hbX.out)
        have oQ : Hid (Q < u0.heap.size ∨ u1.heap.size ≤ Q) := .inr (hXe ▸ Nat.le_refl _)
        have HUF := Lib.hid (below_then HUF.out hbX.out)
        clear hv hXe hbX
        refine hK.out _ _ ?_ (fun hSU6 => ?_)
        · exact KS.out _ HU2.out
        clear hK K hSU1
        try simp only [Act.put, List.setIfInBounds_toArray, List.set_cons_zero, List.set_cons_succ]
        refine wpAnyU_ready (rs := [10]) (by kernel_rfl) rfl ?_
        refine AllReadyU.cons la10 rfl (fun K hK => ?_) ?_
        · go_simp
          obtain ⟨u3, P, hv, hXe, RP, hbX, ltP⟩ := alloc_pack u2 (.cells #[.slice none 0 0, .slice none 0 0, .int .i64 0] 39)
          rw [hv, hXe]
          have geP : Hid (W2.heap.size ≤ P) := hXe ▸ HU2.out.size
          have HU3 := Lib.hid (below_then HU2.out hbX.out)
          have neQP : Hid (Q ≠ P) := Nat.ne_of_lt (hXe ▸ ltQ.out)
          have RQ := Lib.hid ((hbX.out.block Q ltQ.out).trans RQ.out)
          have ltQ := Lib.hid (Nat.lt_of_lt_of_le ltQ.out hbX.out.size)
          have oP : Hid (P < u0.heap.size ∨ u1.heap.size ≤ P) := .inr (hXe ▸ HUF.out.size)
          have HUF := Lib.hid (below_then HUF.out hbX.out)
          clear hv hXe hbX
          refine hK.out _ _ ?_ (fun hSU7 => ?_)
          · exact KS.out _ HU3.out
          clear hK K hSU6
          try simp only [Act.put, List.setIfInBounds_toArray, List.set_cons_zero, List.set_cons_succ]
          refine wpAnyU_ready (rs := [12]) (by kernel_rfl) rfl ?_
          refine AllReadyU.cons la12 rfl (fun K hK => ?_) ?_
          · have hPQ : Hid (P ≠ Q) := neQP.out.symm
            refine step_store_row rfl 39 _ _ rfl P _ rfl rfl 39 #[.slice none 0 0, .slice none 0 0, .int .i64 0] RP.out (by kernel_rfl) rfl (by simp [Value.oneCell']) ?_
            have RP1 := Lib.hid (setRow_heap u3 P _ #[.slice m1 mm.words.length n1, .slice m2a mm.lists.length n2, .int .i64 mm.tick] _ (0, 0) RP.out)
            have RQ1 := Lib.hid ((setRow_other u3 P Q #[.slice m1 mm.words.length n1, .slice m2a mm.lists.length n2, .int .i64 mm.tick] hPQ.out.symm).trans RQ.out)
            have KP : Hid (∀ j, j ≠ P → (u3.setRow P #[.slice m1 mm.words.length n1, .slice m2a mm.lists.length n2, .int .i64 mm.tick]).heap[j]? = u3.heap[j]?) := fun j hj => setRow_other _ _ _ _ hj
            have zP : Hid ((u3.setRow P #[.slice m1 mm.words.length n1, .slice m2a mm.lists.length n2, .int .i64 mm.tick]).heap.size = u3.heap.size) := by show _ = _; simp [World.setRow]
            have HUP := Lib.hid (row_below HU3.out geP.out #[.slice m1 mm.words.length n1, .slice m2a mm.lists.length n2, .int .i64 mm.tick])
            generalize u3.setRow P #[.slice m1 mm.words.length n1, .slice m2a mm.lists.length n2, .int .i64 mm.tick] = uP at *
            refine hK.out _ _ ?_ (fun hSU8 => ?_)
            · exact KS.out _ HUP.out
            clear hK K hSU7
            try simp only [Act.put, List.setIfInBounds_toArray, List.set_cons_zero, List.set_cons_succ]
            refine wpAnyU_ready (rs := [13]) (by kernel_rfl) rfl ?_
            refine AllReadyU.cons la13 rfl (fun K hK => ?_) ?_
            · refine step_store_row rfl 53 _ _ rfl Q _ rfl rfl 53 #[.int .u64 0, .bool false, .bool false, .slice none 0 0] RQ1.out (by kernel_rfl) rfl (by simp [Value.oneCell']) ?_
              have RQ2 := Lib.hid (setRow_heap uP Q _ #[.int .u64 bb.val, .bool bb.ok, .bool bb.late, .slice zA zn zc] _ (0, 0) RQ1.out)
              have RP2 := Lib.hid ((setRow_other uP Q P #[.int .u64 bb.val, .bool bb.ok, .bool bb.late, .slice zA zn zc] hPQ.out).trans RP1.out)
              have KQ : Hid (∀ j, j ≠ Q → (uP.setRow Q #[.int .u64 bb.val, .bool bb.ok, .bool bb.late, .slice zA zn zc]).heap[j]? = uP.heap[j]?) := fun j hj => setRow_other _ _ _ _ hj
              have zQ : Hid ((uP.setRow Q #[.int .u64 bb.val, .bool bb.ok, .bool bb.late, .slice zA zn zc]).heap.size = uP.heap.size) := by show _ = _; simp [World.setRow]
              have HUQ := Lib.hid (row_below HUP.out geQ.out #[.int .u64 bb.val, .bool bb.ok, .bool bb.late, .slice zA zn zc])
              generalize uP.setRow Q #[.int .u64 bb.val, .bool bb.ok, .bool bb.late, .slice zA zn zc] = uQ at *
              refine hK.out _ _ ?_ (fun hSU9 => ?_)
              · exact KS.out _ HUQ.out
              clear hK K hSU8
              try simp only [Act.put, List.setIfInBounds_toArray, List.set_cons_zero, List.set_cons_succ]
              refine wpAnyU_ready (rs := [14]) (by kernel_rfl) rfl ?_
              refine AllReadyU.free la14 rfl (by kernel_rfl) (fun K hK => ?_) ?_
              · go_simp
                refine hK.out _ _ ?_
                clear hK K hSU9
                try simp only [Act.put, List.setIfInBounds_toArray, List.set_cons_zero, List.set_cons_succ]
                refine wpAnyU_done (by kernel_rfl) ?_ _
                have HG := Lib.hid (nx_boxes (S := x.S (some w.heap.size :: E) B) (S0 := x.S E B) (below_then HB02.out HUC.out) HBQ.out (wf := uQ) (by have h1 := zP.out; have h2 := zQ.out; have h3 := HUF.out.size; omega) (fun j hj hp hq => (KQ.out j hq).trans ((KP.out j hp).trans (HUF.out.block j hj))) oP.out oQ.out (Nat.le_trans HB02.out.size geP.out) (Nat.le_trans HB02.out.size geQ.out) (fun j hj => by have h1 := HB02.out.size; have h2 := HUC.out.size; have h3 := (Array.getElem?_eq_some_iff.1 RA2.out).1; simp only [WV.S, List.cons_append, List.mem_cons, Option.some.injEq] at hj; rcases hj with rfl | hj; omega; have := HSL.out j hj; omega) (fun j h1 h2 => by simp only [WV.S, List.cons_append, List.mem_cons, Option.some.injEq] at h2; rcases h2 with rfl | h2; omega; exact h2))
                have HMQ := Lib.hid (HSM.out.sub HG.out)
                go_wp2_with fail
                go_meet
                exact ⟨P, Q, m1, m2a, zA, n1, n2, zn, zc, rfl, rfl, rfl, RP2, RQ2, geP, geQ, HMQ, HUQ⟩
              exact AllReadyU.nil
            exact AllReadyU.nil
          exact AllReadyU.nil
        exact AllReadyU.nil
      exact AllReadyU.nil
    refine AllReadyU.cons la10 rfl (fun K hK => ?_) ?_
    · go_simp
      obtain ⟨u1, P, hv, hXe, RP, hbX, ltP⟩ := alloc_pack u0 (.cells #[.slice none 0 0, .slice none 0 0, .int .i64 0] 39)
      rw [hv, hXe]
      have geP : Hid (W2.heap.size ≤ P) := hXe ▸ HU0.out.size
      have HU1 := Lib.hid (below_then HU0.out hbX.out)
      clear hv hXe hbX
      refine hK.out _ _ ?_ (fun hSU10 => ?_)
      · exact KS.out _ HU1.out
      clear hK K hSU0
      try simp only [Act.put, List.setIfInBounds_toArray, List.set_cons_zero, List.set_cons_succ]
      refine wpAnyU_ready (rs := [5, 11]) (by kernel_rfl) rfl ?_
      refine AllReadyU.cons la5 rfl (fun K hK => ?_) ?_
      · go_simp
        go_at_call 65
        refine (TA.out _ HU1.out).mono ?_
        rintro e u2 ⟨vq, zq, rfl, hs, hz, hbq⟩
        obtain ⟨m1, n1, m2a, n2, rfl⟩ : ∃ A k A2 k2, vq = .agg #[.slice A mm.words.length k, .slice A2 mm.lists.length k2, .int .i64 mm.tick] := hs.open u2 (Nx.at (OffS.below (below_then HB02.out HU1.out)) (OffS.wide _ _) hbq)
        obtain ⟨zx, zp, zq2, zA, zn, zc, rfl⟩ := hz.shape u2 (Nx.at (OffS.below (below_then HB02.out HU1.out)) (OffS.wide _ _) hbq)
        obtain ⟨rfl, rfl, rfl⟩ : zx = bb.val ∧ zp = bb.ok ∧ zq2 = bb.late := by obtain ⟨vl, e, -⟩ := hz; simp only [Value.agg.injEq, Array.mk.injEq, List.cons.injEq, Value.int.injEq, Value.bool.injEq, and_true, true_and] at e; exact ⟨e.1, e.2.1, e.2.2.1⟩
        have HSM := Lib.hid hs
        have HUC := HU1
        have HBQ := Lib.hid hbq
        have HU2 := Lib.hid (below_then HU1.out hbq)
        have RP := Lib.hid ((hbq.block P ltP.out).trans RP.out)
        have oP : Hid (P < u1.heap.size ∨ u2.heap.size ≤ P) := .inl ltP.out
        have ltP := Lib.hid (Nat.lt_of_lt_of_le ltP.out hbq.size)
        have HUF := Lib.hid (Below.refl u2.heap.size u2)
        clear hs hz hbq
        refine hK.out _ _ ?_ (fun hSU11 => ?_)
        · exact KS.out _ HU2.out
        clear hK K hSU10
        try simp only [Act.put, List.setIfInBounds_toArray, List.set_cons_zero, List.set_cons_succ]
        refine tkU (v := ?_) 6 la6 hSU11 (by kernel_rfl) (fun _ _ _ h => h) rfl ?_ ?_
        rotate_left
        · (intro w hSw; (try dsimp only at hSw); go_simp <;> with_reducible rfl)
        simp only [Act.put, List.setIfInBounds_toArray, List.set_cons_zero, List.set_cons_succ]
        refine tkU (v := ?_) 7 la7 hSU11 (by kernel_rfl) (fun _ _ _ h => h) rfl ?_ ?_
        rotate_left
        · (intro w hSw; (try dsimp only at hSw); go_simp <;> with_reducible rfl)
        simp only [Act.put, List.setIfInBounds_toArray, List.set_cons_zero, List.set_cons_succ]
        refine tkU (v := ?_) 8 la8 hSU11 (by kernel_rfl) (fun _ _ _ h => h) rfl ?_ ?_
        rotate_left
        · (intro w hSw; (try dsimp only at hSw); go_simp <;> with_reducible rfl)
        simp only [Act.put, List.setIfInBounds_toArray, List.set_cons_zero, List.set_cons_succ]
        refine tkU (v := ?_) 9 la9 hSU11 (by kernel_rfl) (fun _ _ _ h => h) rfl ?_ ?_
        rotate_left
        · (intro w hSw; (try dsimp only at hSw); go_simp <;> with_reducible rfl)
        simp only [Act.put, List.setIfInBounds_toArray, List.set_cons_zero, List.set_cons_succ]
        refine wpAnyU_ready (rs := [11]) (by kernel_rfl) rfl ?_
        refine AllReadyU.cons la11 rfl (fun K hK => ?_) ?_
        · go_simp
          obtain ⟨u3, Q, hv, hXe, RQ, hbX, ltQ⟩ := alloc_pack u2 (.cells #[.int .u64 0, .bool false, .bool false, .slice none 0 0] 53)
          rw [hv, hXe]
          have geQ : Hid (W2.heap.size ≤ Q) := hXe ▸ HU2.out.size
          have HU3 := Lib.hid (below_then HU2.out hbX.out)
          have nePQ : Hid (P ≠ Q) := Nat.ne_of_lt (hXe ▸ ltP.out)
          have RP := Lib.hid ((hbX.out.block P ltP.out).trans RP.out)
          have ltP := Lib.hid (Nat.lt_of_lt_of_le ltP.out hbX.out.size)
          have oQ : Hid (Q < u1.heap.size ∨ u2.heap.size ≤ Q) := .inr (hXe ▸ Nat.le_refl _)
          have HUF := Lib.hid (below_then HUF.out hbX.out)
          clear hv hXe hbX
          refine hK.out _ _ ?_ (fun hSU12 => ?_)
          · exact KS.out _ HU3.out
          clear hK K hSU11
          try simp only [Act.put, List.setIfInBounds_toArray, List.set_cons_zero, List.set_cons_succ]
          refine wpAnyU_ready (rs := [12]) (by kernel_rfl) rfl ?_
          refine AllReadyU.cons la12 rfl (fun K hK => ?_) ?_
          · have hPQ : Hid (P ≠ Q) := nePQ.out
            refine step_store_row rfl 39 _ _ rfl P _ rfl rfl 39 #[.slice none 0 0, .slice none 0 0, .int .i64 0] RP.out (by kernel_rfl) rfl (by simp [Value.oneCell']) ?_
            have RP1 := Lib.hid (setRow_heap u3 P _ #[.slice m1 mm.words.length n1, .slice m2a mm.lists.length n2, .int .i64 mm.tick] _ (0, 0) RP.out)
            have RQ1 := Lib.hid ((setRow_other u3 P Q #[.slice m1 mm.words.length n1, .slice m2a mm.lists.length n2, .int .i64 mm.tick] hPQ.out.symm).trans RQ.out)
            have KP : Hid (∀ j, j ≠ P → (u3.setRow P #[.slice m1 mm.words.length n1, .slice m2a mm.lists.length n2, .int .i64 mm.tick]).heap[j]? = u3.heap[j]?) := fun j hj => setRow_other _ _ _ _ hj
            have zP : Hid ((u3.setRow P #[.slice m1 mm.words.length n1, .slice m2a mm.lists.length n2, .int .i64 mm.tick]).heap.size = u3.heap.size) := by show _ = _; simp [World.setRow]
            have HUP := Lib.hid (row_below HU3.out geP.out #[.slice m1 mm.words.length n1, .slice m2a mm.lists.length n2, .int .i64 mm.tick])
            generalize u3.setRow P #[.slice m1 mm.words.length n1, .slice m2a mm.lists.length n2, .int .i64 mm.tick] = uP at *
            refine hK.out _ _ ?_ (fun hSU13 => ?_)
            · exact KS.out _ HUP.out
            clear hK K hSU12
            try simp only [Act.put, List.setIfInBounds_toArray, List.set_cons_zero, List.set_cons_succ]
            refine wpAnyU_ready (rs := [13]) (by kernel_rfl) rfl ?_
            refine AllReadyU.cons la13 rfl (fun K hK => ?_) ?_
            · refine step_store_row rfl 53 _ _ rfl Q _ rfl rfl 53 #[.int .u64 0, .bool false, .bool false, .slice none 0 0] RQ1.out (by kernel_rfl) rfl (by simp [Value.oneCell']) ?_
              have RQ2 := Lib.hid (setRow_heap uP Q _ #[.int .u64 bb.val, .bool bb.ok, .bool bb.late, .slice zA zn zc] _ (0, 0) RQ1.out)
              have RP2 := Lib.hid ((setRow_other uP Q P #[.int .u64 bb.val, .bool bb.ok, .bool bb.late, .slice zA zn zc] hPQ.out).trans RP1.out)
              have KQ : Hid (∀ j, j ≠ Q → (uP.setRow Q #[.int .u64 bb.val, .bool bb.ok, .bool bb.late, .slice zA zn zc]).heap[j]? = uP.heap[j]?) := fun j hj => setRow_other _ _ _ _ hj
              have zQ : Hid ((uP.setRow Q #[.int .u64 bb.val, .bool bb.ok, .bool bb.late, .slice zA zn zc]).heap.size = uP.heap.size) := by show _ = _; simp [World.setRow]
              have HUQ := Lib.hid (row_below HUP.out geQ.out #[.int .u64 bb.val, .bool bb.ok, .bool bb.late, .slice zA zn zc])
              generalize uP.setRow Q #[.int .u64 bb.val, .bool bb.ok, .bool bb.late, .slice zA zn zc] = uQ at *
              refine hK.out _ _ ?_ (fun hSU14 => ?_)
              · exact KS.out _ HUQ.out
              clear hK K hSU13
              try simp only [Act.put, List.setIfInBounds_toArray, List.set_cons_zero, List.set_cons_succ]
              refine wpAnyU_ready (rs := [14]) (by kernel_rfl) rfl ?_
              refine AllReadyU.free la14 rfl (by kernel_rfl) (fun K hK => ?_) ?_
              · go_simp
                refine hK.out _ _ ?_
                clear hK K hSU14
                try simp only [Act.put, List.setIfInBounds_toArray, List.set_cons_zero, List.set_cons_succ]
                refine wpAnyU_done (by kernel_rfl) ?_ _
                have HG := Lib.hid (nx_boxes (S := x.S (some w.heap.size :: E) B) (S0 := x.S E B) (below_then HB02.out HUC.out) HBQ.out (wf := uQ) (by have h1 := zP.out; have h2 := zQ.out; have h3 := HUF.out.size; omega) (fun j hj hp hq => (KQ.out j hq).trans ((KP.out j hp).trans (HUF.out.block j hj))) oP.out oQ.out (Nat.le_trans HB02.out.size geP.out) (Nat.le_trans HB02.out.size geQ.out) (fun j hj => by have h1 := HB02.out.size; have h2 := HUC.out.size; have h3 := (Array.getElem?_eq_some_iff.1 RA2.out).1; simp only [WV.S, List.cons_append, List.mem_cons, Option.some.injEq] at hj; rcases hj with rfl | hj; omega; have := HSL.out j hj; omega) (fun j h1 h2 => by simp only [WV.S, List.cons_append, List.mem_cons, Option.some.injEq] at h2; rcases h2 with rfl | h2; omega; exact h2))
                have HMQ := Lib.hid (HSM.out.sub HG.out)
                go_wp2_with fail
                go_meet
                exact ⟨P, Q, m1, m2a, zA, n1, n2, zn, zc, rfl, rfl, rfl, RP2, RQ2, geP, geQ, HMQ, HUQ⟩
              exact AllReadyU.nil
            exact AllReadyU.nil
          exact AllReadyU.nil
        exact AllReadyU.nil
      refine AllReadyU.cons la11 rfl (fun K hK => ?_) ?_
      · go_simp
        obtain ⟨u2, Q, hv, hXe, RQ, hbX, ltQ⟩ := alloc_pack u1 (.cells #[.int .u64 0, .bool false, .bool false, .slice none 0 0] 53)
        rw [hv, hXe]
        have geQ : Hid (W2.heap.size ≤ Q) := hXe ▸ HU1.out.size
        have HU2 := Lib.hid (below_then HU1.out hbX.out)
        have nePQ : Hid (P ≠ Q) := Nat.ne_of_lt (hXe ▸ ltP.out)
        have RP := Lib.hid ((hbX.out.block P ltP.out).trans RP.out)
        have ltP := Lib.hid (Nat.lt_of_lt_of_le ltP.out hbX.out.size)
        clear hv hXe hbX
        refine hK.out _ _ ?_ (fun hSU15 => ?_)
        · exact KS.out _ HU2.out
        clear hK K hSU10
        try simp only [Act.put, List.setIfInBounds_toArray, List.set_cons_zero, List.set_cons_succ]
        refine wpAnyU_ready (rs := [5]) (by kernel_rfl) rfl ?_
        refine AllReadyU.cons la5 rfl (fun K hK => ?_) ?_
        · go_simp
          go_at_call 65
          refine (TA.out _ HU2.out).mono ?_
          rintro e u3 ⟨vq, zq, rfl, hs, hz, hbq⟩
          obtain ⟨m1, n1, m2a, n2, rfl⟩ : ∃ A k A2 k2, vq = .agg #[.slice A mm.words.length k, .slice A2 mm.lists.length k2, .int .i64 mm.tick] := hs.open u3 (Nx.at (OffS.below (below_then HB02.out HU2.out)) (OffS.wide _ _) hbq)
          obtain ⟨zx, zp, zq2, zA, zn, zc, rfl⟩ := hz.shape u3 (Nx.at (OffS.below (below_then HB02.out HU2.out)) (OffS.wide _ _) hbq)
          obtain ⟨rfl, rfl, rfl⟩ : zx = bb.val ∧ zp = bb.ok ∧ zq2 = bb.late := by obtain ⟨vl, e, -⟩ := hz; simp only [Value.agg.injEq, Array.mk.injEq, List.cons.injEq, Value.int.injEq, Value.bool.injEq, and_true, true_and] at e; exact ⟨e.1, e.2.1, e.2.2.1⟩
          have HSM := Lib.hid hs
          have HUC := HU2
          have HBQ := Lib.hid hbq
          have HU3 := Lib.hid (below_then HU2.out hbq)
          have RP := Lib.hid ((hbq.block P ltP.out).trans RP.out)
          have oP : Hid (P < u2.heap.size ∨ u3.heap.size ≤ P) := .inl ltP.out
          have ltP := Lib.hid (Nat.lt_of_lt_of_le ltP.out hbq.size)
          have RQ := Lib.hid ((hbq.block Q ltQ.out).trans RQ.out)
          have oQ : Hid (Q < u2.heap.size ∨ u3.heap.size ≤ Q) := .inl ltQ.out
          have ltQ := Lib.hid (Nat.lt_of_lt_of_le ltQ.out hbq.size)
          have HUF := Lib.hid (Below.refl u3.heap.size u3)
          clear hs hz hbq
          refine hK.out _ _ ?_ (fun hSU16 => ?_)
          · exact KS.out _ HU3.out
          clear hK K hSU15
          try simp only [Act.put, List.setIfInBounds_toArray, List.set_cons_zero, List.set_cons_succ]
          refine tkU (v := ?_) 6 la6 hSU16 (by kernel_rfl) (fun _ _ _ h => h) rfl ?_ ?_
          rotate_left
          · (intro w hSw; (try dsimp only at hSw); go_simp <;> with_reducible rfl)
          simp only [Act.put, List.setIfInBounds_toArray, List.set_cons_zero, List.set_cons_succ]
          refine tkU (v := ?_) 7 la7 hSU16 (by kernel_rfl) (fun _ _ _ h => h) rfl ?_ ?_
          rotate_left
          · (intro w hSw; (try dsimp only at hSw); go_simp <;> with_reducible rfl)
          simp only [Act.put, List.setIfInBounds_toArray, List.set_cons_zero, List.set_cons_succ]
          refine tkU (v := ?_) 8 la8 hSU16 (by kernel_rfl) (fun _ _ _ h => h) rfl ?_ ?_
          rotate_left
          · (intro w hSw; (try dsimp only at hSw); go_simp <;> with_reducible rfl)
          simp only [Act.put, List.setIfInBounds_toArray, List.set_cons_zero, List.set_cons_succ]
          refine tkU (v := ?_) 9 la9 hSU16 (by kernel_rfl) (fun _ _ _ h => h) rfl ?_ ?_
          rotate_left
          · (intro w hSw; (try dsimp only at hSw); go_simp <;> with_reducible rfl)
          simp only [Act.put, List.setIfInBounds_toArray, List.set_cons_zero, List.set_cons_succ]
          refine wpAnyU_ready (rs := [12]) (by kernel_rfl) rfl ?_
          refine AllReadyU.cons la12 rfl (fun K hK => ?_) ?_
          · have hPQ : Hid (P ≠ Q) := nePQ.out
            refine step_store_row rfl 39 _ _ rfl P _ rfl rfl 39 #[.slice none 0 0, .slice none 0 0, .int .i64 0] RP.out (by kernel_rfl) rfl (by simp [Value.oneCell']) ?_
            have RP1 := Lib.hid (setRow_heap u3 P _ #[.slice m1 mm.words.length n1, .slice m2a mm.lists.length n2, .int .i64 mm.tick] _ (0, 0) RP.out)
            have RQ1 := Lib.hid ((setRow_other u3 P Q #[.slice m1 mm.words.length n1, .slice m2a mm.lists.length n2, .int .i64 mm.tick] hPQ.out.symm).trans RQ.out)
            have KP : Hid (∀ j, j ≠ P → (u3.setRow P #[.slice m1 mm.words.length n1, .slice m2a mm.lists.length n2, .int .i64 mm.tick]).heap[j]? = u3.heap[j]?) := fun j hj => setRow_other _ _ _ _ hj
            have zP : Hid ((u3.setRow P #[.slice m1 mm.words.length n1, .slice m2a mm.lists.length n2, .int .i64 mm.tick]).heap.size = u3.heap.size) := by show _ = _; simp [World.setRow]
            have HUP := Lib.hid (row_below HU3.out geP.out #[.slice m1 mm.words.length n1, .slice m2a mm.lists.length n2, .int .i64 mm.tick])
            generalize u3.setRow P #[.slice m1 mm.words.length n1, .slice m2a mm.lists.length n2, .int .i64 mm.tick] = uP at *
            refine hK.out _ _ ?_ (fun hSU17 => ?_)
            · exact KS.out _ HUP.out
            clear hK K hSU16
            try simp only [Act.put, List.setIfInBounds_toArray, List.set_cons_zero, List.set_cons_succ]
            refine wpAnyU_ready (rs := [13]) (by kernel_rfl) rfl ?_
            refine AllReadyU.cons la13 rfl (fun K hK => ?_) ?_
            · refine step_store_row rfl 53 _ _ rfl Q _ rfl rfl 53 #[.int .u64 0, .bool false, .bool false, .slice none 0 0] RQ1.out (by kernel_rfl) rfl (by simp [Value.oneCell']) ?_
              have RQ2 := Lib.hid (setRow_heap uP Q _ #[.int .u64 bb.val, .bool bb.ok, .bool bb.late, .slice zA zn zc] _ (0, 0) RQ1.out)
              have RP2 := Lib.hid ((setRow_other uP Q P #[.int .u64 bb.val, .bool bb.ok, .bool bb.late, .slice zA zn zc] hPQ.out).trans RP1.out)
              have KQ : Hid (∀ j, j ≠ Q → (uP.setRow Q #[.int .u64 bb.val, .bool bb.ok, .bool bb.late, .slice zA zn zc]).heap[j]? = uP.heap[j]?) := fun j hj => setRow_other _ _ _ _ hj
              have zQ : Hid ((uP.setRow Q #[.int .u64 bb.val, .bool bb.ok, .bool bb.late, .slice zA zn zc]).heap.size = uP.heap.size) := by show _ = _; simp [World.setRow]
              have HUQ := Lib.hid (row_below HUP.out geQ.out #[.int .u64 bb.val, .bool bb.ok, .bool bb.late, .slice zA zn zc])
              generalize uP.setRow Q #[.int .u64 bb.val, .bool bb.ok, .bool bb.late, .slice zA zn zc] = uQ at *
              refine hK.out _ _ ?_ (fun hSU18 => ?_)
              · exact KS.out _ HUQ.out
              clear hK K hSU17
              try simp only [Act.put, List.setIfInBounds_toArray, List.set_cons_zero, List.set_cons_succ]
              refine wpAnyU_ready (rs := [14]) (by kernel_rfl) rfl ?_
              refine AllReadyU.free la14 rfl (by kernel_rfl) (fun K hK => ?_) ?_
              · go_simp
                refine hK.out _ _ ?_
                clear hK K hSU18
                try simp only [Act.put, List.setIfInBounds_toArray, List.set_cons_zero, List.set_cons_succ]
                refine wpAnyU_done (by kernel_rfl) ?_ _
                have HG := Lib.hid (nx_boxes (S := x.S (some w.heap.size :: E) B) (S0 := x.S E B) (below_then HB02.out HUC.out) HBQ.out (wf := uQ) (by have h1 := zP.out; have h2 := zQ.out; have h3 := HUF.out.size; omega) (fun j hj hp hq => (KQ.out j hq).trans ((KP.out j hp).trans (HUF.out.block j hj))) oP.out oQ.out (Nat.le_trans HB02.out.size geP.out) (Nat.le_trans HB02.out.size geQ.out) (fun j hj => by have h1 := HB02.out.size; have h2 := HUC.out.size; have h3 := (Array.getElem?_eq_some_iff.1 RA2.out).1; simp only [WV.S, List.cons_append, List.mem_cons, Option.some.injEq] at hj; rcases hj with rfl | hj; omega; have := HSL.out j hj; omega) (fun j h1 h2 => by simp only [WV.S, List.cons_append, List.mem_cons, Option.some.injEq] at h2; rcases h2 with rfl | h2; omega; exact h2))
                have HMQ := Lib.hid (HSM.out.sub HG.out)
                go_wp2_with fail
                go_meet
                exact ⟨P, Q, m1, m2a, zA, n1, n2, zn, zc, rfl, rfl, rfl, RP2, RQ2, geP, geQ, HMQ, HUQ⟩
              exact AllReadyU.nil
            exact AllReadyU.nil
          exact AllReadyU.nil
        exact AllReadyU.nil
      exact AllReadyU.nil
    refine AllReadyU.cons la11 rfl (fun K hK => ?_) ?_
    · go_simp
      obtain ⟨u1, Q, hv, hXe, RQ, hbX, ltQ⟩ := alloc_pack u0 (.cells #[.int .u64 0, .bool false, .bool false, .slice none 0 0] 53)
      rw [hv, hXe]
      have geQ : Hid (W2.heap.size ≤ Q) := hXe ▸ HU0.out.size
      have HU1 := Lib.hid (below_then HU0.out hbX.out)
      clear hv hXe hbX
      refine hK.out _ _ ?_ (fun hSU19 => ?_)
      · exact KS.out _ HU1.out
      clear hK K hSU0
      try simp only [Act.put, List.setIfInBounds_toArray, List.set_cons_zero, List.set_cons_succ]
      refine wpAnyU_ready (rs := [5, 10]) (by kernel_rfl) rfl ?_
      refine AllReadyU.cons la5 rfl (fun K hK => ?_) ?_
      · go_simp
        go_at_call 65
        refine (TA.out _ HU1.out).mono ?_
        rintro e u2 ⟨vq, zq, rfl, hs, hz, hbq⟩
        obtain ⟨m1, n1, m2a, n2, rfl⟩ : ∃ A k A2 k2, vq = .agg #[.slice A mm.words.length k, .slice A2 mm.lists.length k2, .int .i64 mm.tick] := hs.open u2 (Nx.at (OffS.below (below_then HB02.out HU1.out)) (OffS.wide _ _) hbq)
        obtain ⟨zx, zp, zq2, zA, zn, zc, rfl⟩ := hz.shape u2 (Nx.at (OffS.below (below_then HB02.out HU1.out)) (OffS.wide _ _) hbq)
        obtain ⟨rfl, rfl, rfl⟩ : zx = bb.val ∧ zp = bb.ok ∧ zq2 = bb.late := by obtain ⟨vl, e, -⟩ := hz; simp only [Value.agg.injEq, Array.mk.injEq, List.cons.injEq, Value.int.injEq, Value.bool.injEq, and_true, true_and] at e; exact ⟨e.1, e.2.1, e.2.2.1⟩
        have HSM := Lib.hid hs
        have HUC := HU1
        have HBQ := Lib.hid hbq
        have HU2 := Lib.hid (below_then HU1.out hbq)
        have RQ := Lib.hid ((hbq.block Q ltQ.out).trans RQ.out)
        have oQ : Hid (Q < u1.heap.size ∨ u2.heap.size ≤ Q) := .inl ltQ.out
        have ltQ := Lib.hid (Nat.lt_of_lt_of_le ltQ.out hbq.size)
        have HUF := Lib.hid (Below.refl u2.heap.size u2)
        clear hs hz hbq
        refine hK.out _ _ ?_ (fun hSU20 => ?_)
        · exact KS.out _ HU2.out
        clear hK K hSU19
        try simp only [Act.put, List.setIfInBounds_toArray, List.set_cons_zero, List.set_cons_succ]
        refine tkU (v := ?_) 6 la6 hSU20 (by kernel_rfl) (fun _ _ _ h => h) rfl ?_ ?_
        rotate_left
        · (intro w hSw; (try dsimp only at hSw); go_simp <;> with_reducible rfl)
        simp only [Act.put, List.setIfInBounds_toArray, List.set_cons_zero, List.set_cons_succ]
        refine tkU (v := ?_) 7 la7 hSU20 (by kernel_rfl) (fun _ _ _ h => h) rfl ?_ ?_
        rotate_left
        · (intro w hSw; (try dsimp only at hSw); go_simp <;> with_reducible rfl)
        simp only [Act.put, List.setIfInBounds_toArray, List.set_cons_zero, List.set_cons_succ]
        refine tkU (v := ?_) 8 la8 hSU20 (by kernel_rfl) (fun _ _ _ h => h) rfl ?_ ?_
        rotate_left
        · (intro w hSw; (try dsimp only at hSw); go_simp <;> with_reducible rfl)
        simp only [Act.put, List.setIfInBounds_toArray, List.set_cons_zero, List.set_cons_succ]
        refine tkU (v := ?_) 9 la9 hSU20 (by kernel_rfl) (fun _ _ _ h => h) rfl ?_ ?_
        rotate_left
        · (intro w hSw; (try dsimp only at hSw); go_simp <;> with_reducible rfl)
        simp only [Act.put, List.setIfInBounds_toArray, List.set_cons_zero, List.set_cons_succ]
        refine wpAnyU_ready (rs := [10]) (by kernel_rfl) rfl ?_
        refine AllReadyU.cons la10 rfl (fun K hK => ?_) ?_
        · go_simp
          obtain ⟨u3, P, hv, hXe, RP, hbX, ltP⟩ := alloc_pack u2 (.cells #[.slice none 0 0, .slice none 0 0, .int .i64 0] 39)
          rw [hv, hXe]
          have geP : Hid (W2.heap.size ≤ P) := hXe ▸ HU2.out.size
          have HU3 := Lib.hid (below_then HU2.out hbX.out)
          have neQP : Hid (Q ≠ P) := Nat.ne_of_lt (hXe ▸ ltQ.out)
          have RQ := Lib.hid ((hbX.out.block Q ltQ.out).trans RQ.out)
          have ltQ := Lib.hid (Nat.lt_of_lt_of_le ltQ.out hbX.out.size)
          have oP : Hid (P < u1.heap.size ∨ u2.heap.size ≤ P) := .inr (hXe ▸ Nat.le_refl _)
          have HUF := Lib.hid (below_then HUF.out hbX.out)
          clear hv hXe hbX
          refine hK.out _ _ ?_ (fun hSU21 => ?_)
          · exact KS.out _ HU3.out
          clear hK K hSU20
          try simp only [Act.put, List.setIfInBounds_toArray, List.set_cons_zero, List.set_cons_succ]
          refine wpAnyU_ready (rs := [12]) (by kernel_rfl) rfl ?_
          refine AllReadyU.cons la12 rfl (fun K hK => ?_) ?_
          · have hPQ : Hid (P ≠ Q) := neQP.out.symm
            refine step_store_row rfl 39 _ _ rfl P _ rfl rfl 39 #[.slice none 0 0, .slice none 0 0, .int .i64 0] RP.out (by kernel_rfl) rfl (by simp [Value.oneCell']) ?_
            have RP1 := Lib.hid (setRow_heap u3 P _ #[.slice m1 mm.words.length n1, .slice m2a mm.lists.length n2, .int .i64 mm.tick] _ (0, 0) RP.out)
            have RQ1 := Lib.hid ((setRow_other u3 P Q #[.slice m1 mm.words.length n1, .slice m2a mm.lists.length n2, .int .i64 mm.tick] hPQ.out.symm).trans RQ.out)
            have KP : Hid (∀ j, j ≠ P → (u3.setRow P #[.slice m1 mm.words.length n1, .slice m2a mm.lists.length n2, .int .i64 mm.tick]).heap[j]? = u3.heap[j]?) := fun j hj => setRow_other _ _ _ _ hj
            have zP : Hid ((u3.setRow P #[.slice m1 mm.words.length n1, .slice m2a mm.lists.length n2, .int .i64 mm.tick]).heap.size = u3.heap.size) := by show _ = _; simp [World.setRow]
            have HUP := Lib.hid (row_below HU3.out geP.out #[.slice m1 mm.words.length n1, .slice m2a mm.lists.length n2, .int .i64 mm.tick])
            generalize u3.setRow P #[.slice m1 mm.words.length n1, .slice m2a mm.lists.length n2, .int .i64 mm.tick] = uP at *
            refine hK.out _ _ ?_ (fun hSU22 => ?_)
            · exact KS.out _ HUP.out
            clear hK K hSU21
            try simp only [Act.put, List.setIfInBounds_toArray, List.set_cons_zero, List.set_cons_succ]
            refine wpAnyU_ready (rs := [13]) (by kernel_rfl) rfl ?_
            refine AllReadyU.cons la13 rfl (fun K hK => ?_) ?_
            · refine step_store_row rfl 53 _ _ rfl Q _ rfl rfl 53 #[.int .u64 0, .bool false, .bool false, .slice none 0 0] RQ1.out (by kernel_rfl) rfl (by simp [Value.oneCell']) ?_
              have RQ2 := Lib.hid (setRow_heap uP Q _ #[.int .u64 bb.val, .bool bb.ok, .bool bb.late, .slice zA zn zc] _ (0, 0) RQ1.out)
              have RP2 := Lib.hid ((setRow_other uP Q P #[.int .u64 bb.val, .bool bb.ok, .bool bb.late, .slice zA zn zc] hPQ.out).trans RP1.out)
              have KQ : Hid (∀ j, j ≠ Q → (uP.setRow Q #[.int .u64 bb.val, .bool bb.ok, .bool bb.late, .slice zA zn zc]).heap[j]? = uP.heap[j]?) := fun j hj => setRow_other _ _ _ _ hj
              have zQ : Hid ((uP.setRow Q #[.int .u64 bb.val, .bool bb.ok, .bool bb.late, .slice zA zn zc]).heap.size = uP.heap.size) := by show _ = _; simp [World.setRow]
              have HUQ := Lib.hid (row_below HUP.out geQ.out #[.int .u64 bb.val, .bool bb.ok, .bool bb.late, .slice zA zn zc])
              generalize uP.setRow Q #[.int .u64 bb.val, .bool bb.ok, .bool bb.late, .slice zA zn zc] = uQ at *
              refine hK.out _ _ ?_ (fun hSU23 => ?_)
              · exact KS.out _ HUQ.out
              clear hK K hSU22
              try simp only [Act.put, List.setIfInBounds_toArray, List.set_cons_zero, List.set_cons_succ]
              refine wpAnyU_ready (rs := [14]) (by kernel_rfl) rfl ?_
              refine AllReadyU.free la14 rfl (by kernel_rfl) (fun K hK => ?_) ?_
              · go_simp
                refine hK.out _ _ ?_
                clear hK K hSU23
                try simp only [Act.put, List.setIfInBounds_toArray, List.set_cons_zero, List.set_cons_succ]
                refine wpAnyU_done (by kernel_rfl) ?_ _
                have HG := Lib.hid (nx_boxes (S := x.S (some w.heap.size :: E) B) (S0 := x.S E B) (below_then HB02.out HUC.out) HBQ.out (wf := uQ) (by have h1 := zP.out; have h2 := zQ.out; have h3 := HUF.out.size; omega) (fun j hj hp hq => (KQ.out j hq).trans ((KP.out j hp).trans (HUF.out.block j hj))) oP.out oQ.out (Nat.le_trans HB02.out.size geP.out) (Nat.le_trans HB02.out.size geQ.out) (fun j hj => by have h1 := HB02.out.size; have h2 := HUC.out.size; have h3 := (Array.getElem?_eq_some_iff.1 RA2.out).1; simp only [WV.S, List.cons_append, List.mem_cons, Option.some.injEq] at hj; rcases hj with rfl | hj; omega; have := HSL.out j hj; omega) (fun j h1 h2 => by simp only [WV.S, List.cons_append, List.mem_cons, Option.some.injEq] at h2; rcases h2 with rfl | h2; omega; exact h2))
                have HMQ := Lib.hid (HSM.out.sub HG.out)
                go_wp2_with fail
                go_meet
                exact ⟨P, Q, m1, m2a, zA, n1, n2, zn, zc, rfl, rfl, rfl, RP2, RQ2, geP, geQ, HMQ, HUQ⟩
              exact AllReadyU.nil
            exact AllReadyU.nil
          exact AllReadyU.nil
        exact AllReadyU.nil
      refine AllReadyU.cons la10 rfl (fun K hK => ?_) ?_
      · go_simp
        obtain ⟨u2, P, hv, hXe, RP, hbX, ltP⟩ := alloc_pack u1 (.cells #[.slice none 0 0, .slice none 0 0, .int .i64 0] 39)
        rw [hv, hXe]
        have geP : Hid (W2.heap.size ≤ P) := hXe ▸ HU1.out.size
        have HU2 := Lib.hid (below_then HU1.out hbX.out)
        have neQP : Hid (Q ≠ P) := Nat.ne_of_lt (hXe ▸ ltQ.out)
        have RQ := Lib.hid ((hbX.out.block Q ltQ.out).trans RQ.out)
        have ltQ := Lib.hid (Nat.lt_of_lt_of_le ltQ.out hbX.out.size)
        clear hv hXe hbX
        refine hK.out _ _ ?_ (fun hSU24 => ?_)
        · exact KS.out _ HU2.out
        clear hK K hSU19
        try simp only [Act.put, List.setIfInBounds_toArray, List.set_cons_zero, List.set_cons_succ]
        refine wpAnyU_ready (rs := [5]) (by kernel_rfl) rfl ?_
        refine AllReadyU.cons la5 rfl (fun K hK => ?_) ?_
        · go_simp
          go_at_call 65
          refine (TA.out _ HU2.out).mono ?_
          rintro e u3 ⟨vq, zq, rfl, hs, hz, hbq⟩
          obtain ⟨m1, n1, m2a, n2, rfl⟩ : ∃ A k A2 k2, vq = .agg #[.slice A mm.words.length k, .slice A2 mm.lists.length k2, .int .i64 mm.tick] := hs.open u3 (Nx.at (OffS.below (below_then HB02.out HU2.out)) (OffS.wide _ _) hbq)
          obtain ⟨zx, zp, zq2, zA, zn, zc, rfl⟩ := hz.shape u3 (Nx.at (OffS.below (below_then HB02.out HU2.out)) (OffS.wide _ _) hbq)
          obtain ⟨rfl, rfl, rfl⟩ : zx = bb.val ∧ zp = bb.ok ∧ zq2 = bb.late := by obtain ⟨vl, e, -⟩ := hz; simp only [Value.agg.injEq, Array.mk.injEq, List.cons.injEq, Value.int.injEq, Value.bool.injEq, and_true, true_and] at e; exact ⟨e.1, e.2.1, e.2.2.1⟩
          have HSM := Lib.hid hs
          have HUC := HU2
          have HBQ := Lib.hid hbq
          have HU3 := Lib.hid (below_then HU2.out hbq)
          have RQ := Lib.hid ((hbq.block Q ltQ.out).trans RQ.out)
          have oQ : Hid (Q < u2.heap.size ∨ u3.heap.size ≤ Q) := .inl ltQ.out
          have ltQ := Lib.hid (Nat.lt_of_lt_of_le ltQ.out hbq.size)
          have RP := Lib.hid ((hbq.block P ltP.out).trans RP.out)
          have oP : Hid (P < u2.heap.size ∨ u3.heap.size ≤ P) := .inl ltP.out
          have ltP := Lib.hid (Nat.lt_of_lt_of_le ltP.out hbq.size)
          have HUF := Lib.hid (Below.refl u3.heap.size u3)
          clear hs hz hbq
          refine hK.out _ _ ?_ (fun hSU25 => ?_)
          · exact KS.out _ HU3.out
          clear hK K hSU24
          try simp only [Act.put, List.setIfInBounds_toArray, List.set_cons_zero, List.set_cons_succ]
          refine tkU (v := ?_) 6 la6 hSU25 (by kernel_rfl) (fun _ _ _ h => h) rfl ?_ ?_
          rotate_left
          · (intro w hSw; (try dsimp only at hSw); go_simp <;> with_reducible rfl)
          simp only [Act.put, List.setIfInBounds_toArray, List.set_cons_zero, List.set_cons_succ]
          refine tkU (v := ?_) 7 la7 hSU25 (by kernel_rfl) (fun _ _ _ h => h) rfl ?_ ?_
          rotate_left
          · (intro w hSw; (try dsimp only at hSw); go_simp <;> with_reducible rfl)
          simp only [Act.put, List.setIfInBounds_toArray, List.set_cons_zero, List.set_cons_succ]
          refine tkU (v := ?_) 8 la8 hSU25 (by kernel_rfl) (fun _ _ _ h => h) rfl ?_ ?_
          rotate_left
          · (intro w hSw; (try dsimp only at hSw); go_simp <;> with_reducible rfl)
          simp only [Act.put, List.setIfInBounds_toArray, List.set_cons_zero, List.set_cons_succ]
          refine tkU (v := ?_) 9 la9 hSU25 (by kernel_rfl) (fun _ _ _ h => h) rfl ?_ ?_
          rotate_left
          · (intro w hSw; (try dsimp only at hSw); go_simp <;> with_reducible rfl)
          simp only [Act.put, List.setIfInBounds_toArray, List.set_cons_zero, List.set_cons_succ]
          refine wpAnyU_ready (rs := [12]) (by kernel_rfl) rfl ?_
          refine AllReadyU.cons la12 rfl (fun K hK => ?_) ?_
          · have hPQ : Hid (P ≠ Q) := neQP.out.symm
            refine step_store_row rfl 39 _ _ rfl P _ rfl rfl 39 #[.slice none 0 0, .slice none 0 0, .int .i64 0] RP.out (by kernel_rfl) rfl (by simp [Value.oneCell']) ?_
            have RP1 := Lib.hid (setRow_heap u3 P _ #[.slice m1 mm.words.length n1, .slice m2a mm.lists.length n2, .int .i64 mm.tick] _ (0, 0) RP.out)
            have RQ1 := Lib.hid ((setRow_other u3 P Q #[.slice m1 mm.words.length n1, .slice m2a mm.lists.length n2, .int .i64 mm.tick] hPQ.out.symm).trans RQ.out)
            have KP : Hid (∀ j, j ≠ P → (u3.setRow P #[.slice m1 mm.words.length n1, .slice m2a mm.lists.length n2, .int .i64 mm.tick]).heap[j]? = u3.heap[j]?) := fun j hj => setRow_other _ _ _ _ hj
            have zP : Hid ((u3.setRow P #[.slice m1 mm.words.length n1, .slice m2a mm.lists.length n2, .int .i64 mm.tick]).heap.size = u3.heap.size) := by show _ = _; simp [World.setRow]
            have HUP := Lib.hid (row_below HU3.out geP.out #[.slice m1 mm.words.length n1, .slice m2a mm.lists.length n2, .int .i64 mm.tick])
            generalize u3.setRow P #[.slice m1 mm.words.length n1, .slice m2a mm.lists.length n2, .int .i64 mm.tick] = uP at *
            refine hK.out _ _ ?_ (fun hSU26 => ?_)
            · exact KS.out _ HUP.out
            clear hK K hSU25
            try simp only [Act.put, List.setIfInBounds_toArray, List.set_cons_zero, List.set_cons_succ]
            refine wpAnyU_ready (rs := [13]) (by kernel_rfl) rfl ?_
            refine AllReadyU.cons la13 rfl (fun K hK => ?_) ?_
            · refine step_store_row rfl 53 _ _ rfl Q _ rfl rfl 53 #[.int .u64 0, .bool false, .bool false, .slice none 0 0] RQ1.out (by kernel_rfl) rfl (by simp [Value.oneCell']) ?_
              have RQ2 := Lib.hid (setRow_heap uP Q _ #[.int .u64 bb.val, .bool bb.ok, .bool bb.late, .slice zA zn zc] _ (0, 0) RQ1.out)
              have RP2 := Lib.hid ((setRow_other uP Q P #[.int .u64 bb.val, .bool bb.ok, .bool bb.late, .slice zA zn zc] hPQ.out).trans RP1.out)
              have KQ : Hid (∀ j, j ≠ Q → (uP.setRow Q #[.int .u64 bb.val, .bool bb.ok, .bool bb.late, .slice zA zn zc]).heap[j]? = uP.heap[j]?) := fun j hj => setRow_other _ _ _ _ hj
              have zQ : Hid ((uP.setRow Q #[.int .u64 bb.val, .bool bb.ok, .bool bb.late, .slice zA zn zc]).heap.size = uP.heap.size) := by show _ = _; simp [World.setRow]
              have HUQ := Lib.hid (row_below HUP.out geQ.out #[.int .u64 bb.val, .bool bb.ok, .bool bb.late, .slice zA zn zc])
              generalize uP.setRow Q #[.int .u64 bb.val, .bool bb.ok, .bool bb.late, .slice zA zn zc] = uQ at *
              refine hK.out _ _ ?_ (fun hSU27 => ?_)
              · exact KS.out _ HUQ.out
              clear hK K hSU26
              try simp only [Act.put, List.setIfInBounds_toArray, List.set_cons_zero, List.set_cons_succ]
              refine wpAnyU_ready (rs := [14]) (by kernel_rfl) rfl ?_
              refine AllReadyU.free la14 rfl (by kernel_rfl) (fun K hK => ?_) ?_
              · go_simp
                refine hK.out _ _ ?_
                clear hK K hSU27
                try simp only [Act.put, List.setIfInBounds_toArray, List.set_cons_zero, List.set_cons_succ]
                refine wpAnyU_done (by kernel_rfl) ?_ _
                have HG := Lib.hid (nx_boxes (S := x.S (some w.heap.size :: E) B) (S0 := x.S E B) (below_then HB02.out HUC.out) HBQ.out (wf := uQ) (by have h1 := zP.out; have h2 := zQ.out; have h3 := HUF.out.size; omega) (fun j hj hp hq => (KQ.out j hq).trans ((KP.out j hp).trans (HUF.out.block j hj))) oP.out oQ.out (Nat.le_trans HB02.out.size geP.out) (Nat.le_trans HB02.out.size geQ.out) (fun j hj => by have h1 := HB02.out.size; have h2 := HUC.out.size; have h3 := (Array.getElem?_eq_some_iff.1 RA2.out).1; simp only [WV.S, List.cons_append, List.mem_cons, Option.some.injEq] at hj; rcases hj with rfl | hj; omega; have := HSL.out j hj; omega) (fun j h1 h2 => by simp only [WV.S, List.cons_append, List.mem_cons, Option.some.injEq] at h2; rcases h2 with rfl | h2; omega; exact h2))
                have HMQ := Lib.hid (HSM.out.sub HG.out)
                go_wp2_with fail
                go_meet
                exact ⟨P, Q, m1, m2a, zA, n1, n2, zn, zc, rfl, rfl, rfl, RP2, RQ2, geP, geQ, HMQ, HUQ⟩
              exact AllReadyU.nil
            exact AllReadyU.nil
          exact AllReadyU.nil
        exact AllReadyU.nil
      exact AllReadyU.nil
    exact AllReadyU.nil
  case rest =>
    obtain ⟨P, Q, m1, m2a, zA, n1, n2, zn, zc, rfl, rfl, rfl, RP, RQ, hP, hQ, HM, HB4⟩ := hcut
    obtain ⟨w4, rfl⟩ : ∃ w3 : World, w3 = wc := ⟨_, rfl⟩
    have HB04 := Lib.hid (below_then HB02.out HB4.out)
    have HI4 := Lib.hid (HI.out.exempt HB04.out w.heap.size (Nat.le_refl _) (by have h1 := (Array.getElem?_eq_some_iff.1 RA2.out).1; have h2 := HB4.out.size; omega))
    clear KS TA
    have RX4 := Lib.hid ((HB4.out.block X hX2).trans R2.out)
    have hX4 : Hid (X < w4.heap.size) := (Array.getElem?_eq_some_iff.1 RX4.out).1
    have HSP : Hid (StP WT w0 w4 w4 (some w.heap.size :: E) B D x x y P Q w.heap.size #[.slice m1 mm.words.length n1, .slice m2a mm.lists.length n2, .int .i64 mm.tick] #[.int .u64 bb.val, .bool bb.ok, .bool bb.late, .slice zA zn zc] #[.int .u64 0, .bool false, .bool false, .slice none 0 0]) := ⟨HI4.out, fun w3 h3 => h3, RP.out, RQ.out, ((below_then (below_then HB1.out HB2.out) HB4.out).block w.heap.size (by omega)).trans RA.out⟩
    have HM4 := HM
    have TI := Lib.hid fun w' => ritem_any (i : Int) a bb zA zn zc w'
    unfold accV itemV at TI
    try dsimp only at TI
    have K7 : Hid (∀ w', w'.heap[B]? = some (.cells (x.row y) WT (0, 0)) → w'.heap[X]? = some (.cells #[.int .i64 a.kind, .int .i64 a.addr, .int .u64 a.old, .int .u64 a.new, .int .i64 a.til] 69 (0, 0)) → w'.heap[Q]? = some (.cells #[.int .u64 bb.val, .bool bb.ok, .bool bb.late, .slice zA zn zc] 53 (0, 0)) → (fun w' : World => (w'.cell? ⟨B, 7, none⟩ = some (.slice x.tA y.t.length x.tc)) ∧ (w'.cell? ⟨X, 0, none⟩ = some (.int .i64 a.kind) ∧ w'.cell? ⟨X, 1, none⟩ = some (.int .i64 a.addr) ∧ w'.cell? ⟨X, 2, none⟩ = some (.int .u64 a.old) ∧ w'.cell? ⟨X, 3, none⟩ = some (.int .u64 a.new) ∧ w'.cell? ⟨X, 4, none⟩ = some (.int .i64 a.til)) ∧ (w'.cell? ⟨Q, 0, none⟩ = some (.int .u64 bb.val) ∧ w'.cell? ⟨Q, 1, none⟩ = some (.bool bb.ok) ∧ w'.cell? ⟨Q, 2, none⟩ = some (.bool bb.late) ∧ w'.cell? ⟨Q, 3, none⟩ = some (.slice zA zn zc))) w') := fun w' h1 h2 h3 => by
      unfold WV.row at h1
      obtain ⟨x0, x1, x2, x3, x4, x5, x6, x7, x8, x9⟩ := rowc10 h1
      obtain ⟨y0, y1, y2, y3, y4⟩ := rowc5 h2
      obtain ⟨z0, z1, z2, z3⟩ := rowc4 h3
      exact ⟨x7, ⟨y0, y1, y2, y3, y4⟩, ⟨z0, z1, z2, z3⟩⟩
    have KS : Hid (∀ w', Below w4.heap.size w4 w' → (fun w' : World => (w'.cell? ⟨B, 7, none⟩ = some (.slice x.tA y.t.length x.tc)) ∧ (w'.cell? ⟨X, 0, none⟩ = some (.int .i64 a.kind) ∧ w'.cell? ⟨X, 1, none⟩ = some (.int .i64 a.addr) ∧ w'.cell? ⟨X, 2, none⟩ = some (.int .u64 a.old) ∧ w'.cell? ⟨X, 3, none⟩ = some (.int .u64 a.new) ∧ w'.cell? ⟨X, 4, none⟩ = some (.int .i64 a.til)) ∧ (w'.cell? ⟨Q, 0, none⟩ = some (.int .u64 bb.val) ∧ w'.cell? ⟨Q, 1, none⟩ = some (.bool bb.ok) ∧ w'.cell? ⟨Q, 2, none⟩ = some (.bool bb.late) ∧ w'.cell? ⟨Q, 3, none⟩ = some (.slice zA zn zc))) w') := fun w' hb => K7.out w' ((hb.block B HI4.out.lt).trans HI4.out.row) ((hb.block X hX4.out).trans RX4.out) ((hb.block Q (Array.getElem?_eq_some_iff.1 RQ.out).1).trans RQ.out)
    go_upto_region 7 with fail
    go_cut [] (fun wx => ∃ (tA2 : Option Addr) (tc2 : Nat), Hid (StP WT w0 w4 wx (some w.heap.size :: E) B D x { x with tA := tA2, tc := tc2 } { y with t := y.t ++ [⟨i, a, bb.val, bb.ok⟩] } P Q w.heap.size #[.slice m1 mm.words.length n1, .slice m2a mm.lists.length n2, .int .i64 mm.tick] #[.int .u64 bb.val, .bool bb.ok, .bool bb.late, .slice zA zn zc] #[.int .u64 0, .bool false, .bool false, .slice none 0 0]))
    case first =>
      refine untilK KS 13 14 (by kernel_rfl) rfl ?_
      obtain ⟨u0, hu0, HU0⟩ := drew_pack w4
      rw [hu0]
      clear hu0
      have HS0 := Lib.hid (HSP.out.next HU0.out)
      have hSU0 := KS.out _ HU0.out
      refine tkU (v := ?_) 0 la0 hSU0 (by kernel_rfl) (fun _ _ _ h => h) rfl ?_ ?_
      rotate_left
      · (intro w hSw; (try dsimp only at hSw); go_simp <;> with_reducible rfl)
      simp only [Act.put, List.setIfInBounds_toArray, List.set_cons_zero, List.set_cons_succ]
      refine tkU (v := ?_) 1 la1 hSU0 (by kernel_rfl) (fun _ _ _ h => h) rfl ?_ ?_
      rotate_left
      · (intro w hSw; (try dsimp only at hSw); go_simp <;> with_reducible rfl)
      simp only [Act.put, List.setIfInBounds_toArray, List.set_cons_zero, List.set_cons_succ]
      refine tkU (v := ?_) 2 la2 hSU0 (by kernel_rfl) (fun _ _ _ h => h) rfl ?_ ?_
      rotate_left
      · (intro w hSw; (try dsimp only at hSw); go_simp <;> with_reducible rfl)
      simp only [Act.put, List.setIfInBounds_toArray, List.set_cons_zero, List.set_cons_succ]
      refine tkU (v := ?_) 3 la3 hSU0 (by kernel_rfl) (fun _ _ _ h => h) rfl ?_ ?_
      rotate_left
      · (intro w hSw; (try dsimp only at hSw); go_simp <;> with_reducible rfl)
      simp only [Act.put, List.setIfInBounds_toArray, List.set_cons_zero, List.set_cons_succ]
      refine tkU (v := ?_) 4 la4 hSU0 (by kernel_rfl) (fun _ _ _ h => h) rfl ?_ ?_
      rotate_left
      · (intro w hSw; (try dsimp only at hSw); go_simp <;> with_reducible rfl)
      simp only [Act.put, List.setIfInBounds_toArray, List.set_cons_zero, List.set_cons_succ]
      refine tkU (v := ?_) 5 la5 hSU0 (by kernel_rfl) (fun _ _ _ h => h) rfl ?_ ?_
      rotate_left
      · (intro w hSw; (try dsimp only at hSw); go_simp <;> with_reducible rfl)
      simp only [Act.put, List.setIfInBounds_toArray, List.set_cons_zero, List.set_cons_succ]
      refine tkU (v := ?_) 6 la6 hSU0 (by kernel_rfl) (fun _ _ _ h => h) rfl ?_ ?_
      rotate_left
      · (intro w hSw; (try dsimp only at hSw); go_simp <;> with_reducible rfl)
      simp only [Act.put, List.setIfInBounds_toArray, List.set_cons_zero, List.set_cons_succ]
      refine tkU (v := ?_) 7 la7 hSU0 (by kernel_rfl) (fun _ _ _ h => h) rfl ?_ ?_
      rotate_left
      · (intro w hSw; (try dsimp only at hSw); go_simp <;> with_reducible rfl)
      simp only [Act.put, List.setIfInBounds_toArray, List.set_cons_zero, List.set_cons_succ]
      refine wpAnyU_ready (rs := [8]) (by kernel_rfl) rfl ?_
      refine AllReadyU.cons la8 rfl (fun K hK => ?_) ?_
      · go_simp
        go_at_call 66
        refine (TI.out _).mono ?_
        rintro e u1 ⟨rfl, hb⟩
        have HS1 := Lib.hid (HS0.out.next hb)
        have HU1 := Lib.hid (below_then HU0.out hb)
        clear hb
        refine hK.out _ _ ?_ (fun hSU1 => ?_)
        · exact KS.out _ HU1.out
        clear hK K hSU0
        try simp only [Act.put, List.setIfInBounds_toArray, List.set_cons_zero, List.set_cons_succ]
        refine wpAnyU_ready (rs := [9]) (by kernel_rfl) rfl ?_
        refine AllReadyU.cons la9 rfl (fun K hK => ?_) ?_
        · go_simp
          obtain ⟨u2, bI, hv, hXe, RL, hbX, ltI⟩ := alloc_pack u1 (.cells #[.int .i64 i, .int .i64 a.kind, .int .i64 a.addr, .int .u64 a.old, .int .u64 a.new, .int .i64 a.til, .int .u64 bb.val, .bool bb.ok] 71)
          rw [hv, hXe]
          have HS2 := Lib.hid (HS1.out.next hbX.out)
          have HU2 := Lib.hid (below_then HU1.out hbX.out)
          clear hv hXe hbX
          refine hK.out _ _ ?_ (fun hSU2 => ?_)
          · exact KS.out _ HU2.out
          clear hK K hSU1
          try simp only [Act.put, List.setIfInBounds_toArray, List.set_cons_zero, List.set_cons_succ]
          refine wpAnyU_ready (rs := [10]) (by kernel_rfl) rfl ?_
          refine AllReadyU.cons la10 rfl (fun K hK => ?_) ?_
          · refine step_append_s (w := u2) 41 (by kernel_rfl) Try.info_item rfl (by decide) (by decide) (by rfl) _ _ (by rfl) (by rfl) HS2.out.wi.ot (itemCells ⟨i, a, bb.val, bb.ok⟩) rfl (by intro u hu; simp only [itemCells, List.mem_cons, List.not_mem_nil, or_false] at hu; rcases hu with rfl | rfl | rfl | rfl | rfl | rfl | rfl | rfl <;> rfl) bI (by rfl) RL.out (by rw [List.length_map]; exact Nat.le_trans ht (by decide)) HS2.out.wi.Dw ?_
            intro v9 u3 ho9 hg9 hbk9
            obtain ⟨tA2, tc2, e9⟩ := ho9.len
            rw [List.length_append, List.length_map, List.length_singleton] at e9
            subst e9
            have HO9 := Lib.hid ho9
            have HG9 := Lib.hid hg9
            have HK9 := Lib.hid hbk9
            clear ho9 hg9 hbk9
            have hTo : Hid (∀ j, (x.vt y).ownBlock = some j → j < w.heap.size) := fun j hj => (HI.out.ot.lt j hj).2
            have RB9 := Lib.hid ((HG9.out.block B HS2.out.wi.lt (fun e => by have := (HI.out.ot.lt B e.symm).1; have := HI.out.BD; omega)).trans HS2.out.wi.row)
            have KX9 : Hid (∀ j, w.heap.size ≤ j → j < u2.heap.size → u3.heap[j]? = u2.heap[j]?) := fun j h1 h2 => HG9.out.block j h2 (fun e => by have := hTo.out j e.symm; omega)
            refine hK.out _ _ ?_ (fun hSU3 => ?_)
            · exact K7.out _ RB9.out ((KX9.out X (Nat.le_of_lt hXw.out) (Nat.lt_of_lt_of_le hX4.out HU2.out.size)).trans ((HU2.out.block X hX4.out).trans RX4.out)) ((KX9.out Q (by have := hQ.out; have := HB02.out.size; omega) (Array.getElem?_eq_some_iff.1 HS2.out.hq).1).trans HS2.out.hq)
            clear hK K hSU2
            try simp only [Act.put, List.setIfInBounds_toArray, List.set_cons_zero, List.set_cons_succ]
            refine wpAnyU_takeW (v := ?_) 11 la11 (by kernel_rfl) (by kernel_rfl) (by kernel_rfl) (by kernel_rfl) (fun _ _ _ h => h) (fun _ => hSU3) rfl ?_ ?_
            rotate_left
            · (intro w; go_simp <;> with_reducible rfl)
            simp only [Act.put, List.setIfInBounds_toArray, List.set_cons_zero, List.set_cons_succ]
            refine tkU (v := ?_) 12 la12 hSU3 (by kernel_rfl) (fun _ _ _ h => h) rfl ?_ ?_
            rotate_left
            · (intro w hSw; (try dsimp only at hSw); go_simp <;> with_reducible rfl)
            simp only [Act.put, List.setIfInBounds_toArray, List.set_cons_zero, List.set_cons_succ]
            refine wpAnyU_ready (rs := [13]) (by kernel_rfl) rfl ?_
            refine AllReadyU.free la13 rfl (by kernel_rfl) (fun K hK => ?_) ?_
            · obtain ⟨x0, x1, x2, x3, x4, x5, x6, x7, x8, x9⟩ := rowc10 RB9.out
              have f7 := frozen_of_row _ _ 7 _ _ RB9.out
              go_simp
              refine hK.out _ _ ?_
              clear hK K hSU3
              try simp only [Act.put, List.setIfInBounds_toArray, List.set_cons_zero, List.set_cons_succ]
              refine wpAnyU_done (by kernel_rfl) ?_ _
              clear x0 x1 x2 x3 x4 x5 x6 x7 x8 x9 f7
              obtain ⟨HIa, HINa⟩ := HS2.out.wi.addT HO9.out HG9.out (by have := HK9.out; rw [WV.vt, own_addr, own_addr] at this; exact this)
              have HSF := Lib.hid (HS2.out.go HIa HINa (fun j hj => (heap_setCell_other _ ⟨B, 7, none⟩ j _ (by have h1 := hP.out; have h2 := hQ.out; have h3 := HB02.out.size; show j ≠ B; rcases hj with rfl | rfl | rfl <;> omega)).trans (KX9.out j (by have h1 := hP.out; have h2 := hQ.out; have h3 := HB02.out.size; rcases hj with rfl | rfl | rfl <;> omega) (by rcases hj with rfl | rfl | rfl; exact (Array.getElem?_eq_some_iff.1 HS2.out.hp).1; exact (Array.getElem?_eq_some_iff.1 HS2.out.hq).1; exact (Array.getElem?_eq_some_iff.1 HS2.out.ha).1))))
              clear HIa HINa
              go_wp2_with fail
              go_meet
              exact ⟨tA2, tc2, HSF⟩
            exact AllReadyU.nil
          exact AllReadyU.nil
        exact AllReadyU.nil
      exact AllReadyU.nil
    case rest =>
      obtain ⟨tA2, tc2, HS7⟩ := hcut
      obtain ⟨w7, rfl⟩ : ∃ w3 : World, w3 = wc := ⟨_, rfl⟩
      clear KS K7 TI
      have K8 : Hid (∀ w', w'.heap[B]? = some (.cells (WV.row { x with tA := tA2, tc := tc2 } { y with t := y.t ++ [⟨i, a, bb.val, bb.ok⟩] }) WT (0, 0)) → (fun w' : World => w'.cell? ⟨B, 3, none⟩ = some (.slice x.mA y.m.words.length x.mc) ∧ w'.cell? ⟨B, 4, none⟩ = some (.slice x.nA y.m.lists.length x.nc) ∧ w'.cell? ⟨B, 5, none⟩ = some (.int .i64 y.m.tick) ∧ w'.cell? ⟨B, 8, none⟩ = some (.slice x.pA y.p.length x.pc)) w') := fun w' h1 => by
        unfold WV.row at h1
        obtain ⟨x0, x1, x2, x3, x4, x5, x6, x7, x8, x9⟩ := rowc10 h1
        exact ⟨x3, x4, x5, x8⟩
      have KS : Hid (∀ w', Below w7.heap.size w7 w' → (fun w' : World => w'.cell? ⟨B, 3, none⟩ = some (.slice x.mA y.m.words.length x.mc) ∧ w'.cell? ⟨B, 4, none⟩ = some (.slice x.nA y.m.lists.length x.nc) ∧ w'.cell? ⟨B, 5, none⟩ = some (.int .i64 y.m.tick) ∧ w'.cell? ⟨B, 8, none⟩ = some (.slice x.pA y.p.length x.pc)) w') := fun w' hb => K8.out w' ((hb.block B HS7.out.wi.lt).trans HS7.out.wi.row)
      go_upto_region 8 with fail
      go_cut [] (fun wx => ∃ (pA2 : Option Addr) (pc2 : Nat), Hid (StP WT w0 w4 wx (some w.heap.size :: E) B D x { x with tA := tA2, tc := tc2, pA := pA2, pc := pc2 } { y with t := y.t ++ [⟨i, a, bb.val, bb.ok⟩], p := y.p ++ [([.slice x.mA y.m.words.length x.mc, .slice x.nA y.m.lists.length x.nc, .int .i64 y.m.tick], y.m)] } P Q w.heap.size #[.slice m1 mm.words.length n1, .slice m2a mm.lists.length n2, .int .i64 mm.tick] #[.int .u64 bb.val, .bool bb.ok, .bool bb.late, .slice zA zn zc] #[.int .u64 0, .bool false, .bool false, .slice none 0 0]))
      case first =>
        refine untilK KS 13 14 (by kernel_rfl) rfl ?_
        obtain ⟨u0, hu0, HU0⟩ := drew_pack w7
        rw [hu0]
        clear hu0
        have HS0 := Lib.hid (HS7.out.next HU0.out)
        have hSU0 := KS.out _ HU0.out
        refine tkU (v := ?_) 0 la0 hSU0 (by kernel_rfl) (fun _ _ _ h => h) rfl ?_ ?_
        rotate_left
        · (intro w hSw; (try dsimp only at hSw); go_simp <;> with_reducible rfl)
        simp only [Act.put, List.setIfInBounds_toArray, List.set_cons_zero, List.set_cons_succ]
        refine tkU (v := ?_) 1 la1 hSU0 (by kernel_rfl) (fun _ _ _ h => h) rfl ?_ ?_
        rotate_left
        · (intro w hSw; (try dsimp only at hSw); go_simp <;> with_reducible rfl)
        simp only [Act.put, List.setIfInBounds_toArray, List.set_cons_zero, List.set_cons_succ]
        refine tkU (v := ?_) 2 la2 hSU0 (by kernel_rfl) (fun _ _ _ h => h) rfl ?_ ?_
        rotate_left
        · (intro w hSw; (try dsimp only at hSw); go_simp <;> with_reducible rfl)
        simp only [Act.put, List.setIfInBounds_toArray, List.set_cons_zero, List.set_cons_succ]
        refine tkU (v := ?_) 3 la3 hSU0 (by kernel_rfl) (fun _ _ _ h => h) rfl ?_ ?_
        rotate_left
        · (intro w hSw; (try dsimp only at hSw); go_simp <;> with_reducible rfl)
        simp only [Act.put, List.setIfInBounds_toArray, List.set_cons_zero, List.set_cons_succ]
        refine tkU (v := ?_) 4 la4 hSU0 (by kernel_rfl) (fun _ _ _ h => h) rfl ?_ ?_
        rotate_left
        · (intro w hSw; (try dsimp only at hSw); go_simp <;> with_reducible rfl)
        simp only [Act.put, List.setIfInBounds_toArray, List.set_cons_zero, List.set_cons_succ]
        refine tkU (v := ?_) 5 la5 hSU0 (by kernel_rfl) (fun _ _ _ h => h) rfl ?_ ?_
        rotate_left
        · (intro w hSw; (try dsimp only at hSw); go_simp <;> with_reducible rfl)
        simp only [Act.put, List.setIfInBounds_toArray, List.set_cons_zero, List.set_cons_succ]
        refine tkU (v := ?_) 6 la6 hSU0 (by kernel_rfl) (fun _ _ _ h => h) rfl ?_ ?_
        rotate_left
        · (intro w hSw; (try dsimp only at hSw); go_simp <;> with_reducible rfl)
        simp only [Act.put, List.setIfInBounds_toArray, List.set_cons_zero, List.set_cons_succ]
        refine tkU (v := ?_) 7 la7 hSU0 (by kernel_rfl) (fun _ _ _ h => h) rfl ?_ ?_
        rotate_left
        · (intro w hSw; (try dsimp only at hSw); go_simp <;> with_reducible rfl)
        simp only [Act.put, List.setIfInBounds_toArray, List.set_cons_zero, List.set_cons_succ]
        refine tkU (v := ?_) 8 la8 hSU0 (by kernel_rfl) (fun _ _ _ h => h) rfl ?_ ?_
        rotate_left
        · (intro w hSw; (try dsimp only at hSw); go_simp <;> with_reducible rfl)
        simp only [Act.put, List.setIfInBounds_toArray, List.set_cons_zero, List.set_cons_succ]
        refine wpAnyU_ready (rs := [9]) (by kernel_rfl) rfl ?_
        refine AllReadyU.cons la9 rfl (fun K hK => ?_) ?_
        · go_simp
          obtain ⟨u1, bI, hv, hXe, RL, hbX, ltI⟩ := alloc_pack u0 (.cells #[.slice x.mA y.m.words.length x.mc, .slice x.nA y.m.lists.length x.nc, .int .i64 y.m.tick] 39)
          rw [hv, hXe]
          have HS1 := Lib.hid (HS0.out.next hbX.out)
          have HU1 := Lib.hid (below_then HU0.out hbX.out)
          clear hv hXe hbX
          refine hK.out _ _ ?_ (fun hSU1 => ?_)
          · exact KS.out _ HU1.out
          clear hK K hSU0
          try simp only [Act.put, List.setIfInBounds_toArray, List.set_cons_zero, List.set_cons_succ]
          refine wpAnyU_ready (rs := [10]) (by kernel_rfl) rfl ?_
          refine AllReadyU.cons la10 rfl (fun K hK => ?_) ?_
          · refine step_append_s (w := u1) 42 (by kernel_rfl) Try.info_mem3 rfl (by decide) (by decide) (by rfl) _ _ (by rfl) (by rfl) HS1.out.wi.op ([.slice x.mA y.m.words.length x.mc, .slice x.nA y.m.lists.length x.nc, .int .i64 y.m.tick]) rfl (by intro u hu; simp only [List.mem_cons, List.not_mem_nil, or_false] at hu; rcases hu with rfl | rfl | rfl <;> rfl) bI (by rfl) RL.out (by rw [List.length_map]; exact Nat.le_trans hpl (by decide)) HS1.out.wi.Dw ?_
            intro v9 u2 ho9 hg9 hbk9
            obtain ⟨pA2, pc2, e9⟩ := ho9.len
            rw [List.length_append, List.length_map, List.length_singleton] at e9
            subst e9
            have HO9 := Lib.hid ho9
            have HG9 := Lib.hid hg9
            have HK9 := Lib.hid hbk9
            clear ho9 hg9 hbk9
            have hTo : Hid (∀ j, (x.vp y).ownBlock = some j → j < w.heap.size) := fun j hj => (HI.out.op.lt j hj).2
            have RB9 := Lib.hid ((HG9.out.block B HS1.out.wi.lt (fun e => by have := (HI.out.op.lt B e.symm).1; have := HI.out.BD; omega)).trans HS1.out.wi.row)
            have KX9 : Hid (∀ j, w.heap.size ≤ j → j < u1.heap.size → u2.heap[j]? = u1.heap[j]?) := fun j h1 h2 => HG9.out.block j h2 (fun e => by have := hTo.out j e.symm; omega)
            refine hK.out _ _ ?_ (fun hSU2 => ?_)
            · exact K8.out _ RB9.out
            clear hK K hSU1
            try simp only [Act.put, List.setIfInBounds_toArray, List.set_cons_zero, List.set_cons_succ]
            refine wpAnyU_takeW (v := ?_) 11 la11 (by kernel_rfl) (by kernel_rfl) (by kernel_rfl) (by kernel_rfl) (fun _ _ _ h => h) (fun _ => hSU2) rfl ?_ ?_
            rotate_left
            · (intro w; go_simp <;> with_reducible rfl)
            simp only [Act.put, List.setIfInBounds_toArray, List.set_cons_zero, List.set_cons_succ]
            refine tkU (v := ?_) 12 la12 hSU2 (by kernel_rfl) (fun _ _ _ h => h) rfl ?_ ?_
            rotate_left
            · (intro w hSw; (try dsimp only at hSw); go_simp <;> with_reducible rfl)
            simp only [Act.put, List.setIfInBounds_toArray, List.set_cons_zero, List.set_cons_succ]
            refine wpAnyU_ready (rs := [13]) (by kernel_rfl) rfl ?_
            refine AllReadyU.free la13 rfl (by kernel_rfl) (fun K hK => ?_) ?_
            · obtain ⟨x0, x1, x2, x3, x4, x5, x6, x7, x8, x9⟩ := rowc10 RB9.out
              have f8 := frozen_of_row _ _ 8 _ _ RB9.out
              go_simp
              refine hK.out _ _ ?_
              clear hK K hSU2
              try simp only [Act.put, List.setIfInBounds_toArray, List.set_cons_zero, List.set_cons_succ]
              refine wpAnyU_done (by kernel_rfl) ?_ _
              clear x0 x1 x2 x3 x4 x5 x6 x7 x8 x9 f8
              obtain ⟨HIa, HINa⟩ := HS1.out.wi.addP (z := ([.slice x.mA y.m.words.length x.mc, .slice x.nA y.m.lists.length x.nc, .int .i64 y.m.tick], y.m)) HO9.out HG9.out (by have := HK9.out; rw [WV.vp, own_addr, own_addr] at this; exact this) HS1.out.wi.mem
              have HSF := Lib.hid (HS1.out.go HIa HINa (fun j hj => (heap_setCell_other _ ⟨B, 8, none⟩ j _ (by have h1 := hP.out; have h2 := hQ.out; have h3 := HB02.out.size; show j ≠ B; rcases hj with rfl | rfl | rfl <;> omega)).trans (KX9.out j (by have h1 := hP.out; have h2 := hQ.out; have h3 := HB02.out.size; rcases hj with rfl | rfl | rfl <;> omega) (by rcases hj with rfl | rfl | rfl; exact (Array.getElem?_eq_some_iff.1 HS1.out.hp).1; exact (Array.getElem?_eq_some_iff.1 HS1.out.hq).1; exact (Array.getElem?_eq_some_iff.1 HS1.out.ha).1))))
              clear HIa HINa
              go_wp2_with fail
              go_meet
              exact ⟨pA2, pc2, HSF⟩
            exact AllReadyU.nil
          exact AllReadyU.nil
        exact AllReadyU.nil
      case rest =>
        obtain ⟨pA2, pc2, HS8⟩ := hcut
        obtain ⟨w8, rfl⟩ : ∃ w3 : World, w3 = wc := ⟨_, rfl⟩
        clear KS K8
        have rw8 := HS8.out.wi.row
        unfold WV.row at rw8
        have RW8 := Lib.hid rw8
        clear rw8
        have HM8 : Hid (StM (OffS (WV.S { x with tA := tA2, tc := tc2, pA := pA2, pc := pc2 } (some w.heap.size :: E) B) w8) (.agg #[.slice m1 mm.words.length n1, .slice m2a mm.lists.length n2, .int .i64 mm.tick]) mm) := HM4.out.sub fun w3 h3 => HS8.out.inc w3 h3
        obtain ⟨HIm, HINm⟩ := HS8.out.wi.setM HM8.out HFM.out
        have HSm := Lib.hid (HS8.out.go HIm HINm (fun j hj => (heap_setCell_other _ ⟨B, 5, none⟩ j _ (by have h1 := hP.out; have h2 := hQ.out; have h3 := HB02.out.size; show j ≠ B; rcases hj with rfl | rfl | rfl <;> omega)).trans ((heap_setCell_other _ ⟨B, 4, none⟩ j _ (by have h1 := hP.out; have h2 := hQ.out; have h3 := HB02.out.size; show j ≠ B; rcases hj with rfl | rfl | rfl <;> omega)).trans (heap_setCell_other _ ⟨B, 3, none⟩ j _ (by have h1 := hP.out; have h2 := hQ.out; have h3 := HB02.out.size; show j ≠ B; rcases hj with rfl | rfl | rfl <;> omega)))))
        clear HIm HINm
        obtain ⟨x0, x1, x2, x3, x4, x5, x6, x7, x8, x9⟩ := rowc10 RW8.out
        have f3 := frozen_of_row _ _ 3 _ _ RW8.out
        have f4 := frozen_of_row _ _ 4 _ _ RW8.out
        have f5 := frozen_of_row _ _ 5 _ _ RW8.out
        obtain ⟨p0, p1, p2⟩ := rowc3 HS8.out.hp
        obtain ⟨W9, hW9⟩ : ∃ W9, ((w8.setCell ⟨B, 3, none⟩ (.slice m1 mm.words.length n1)).setCell ⟨B, 4, none⟩ (.slice m2a mm.lists.length n2)).setCell ⟨B, 5, none⟩ (.int .i64 mm.tick) = W9 := ⟨_, rfl⟩
        rw [hW9] at HSm
        have HW9 := Lib.hid hW9
        clear hW9
        go_upto_region 10 with fail
        rw [HW9.out]
        try simp only [Act.put]
        have KL : Hid (∀ j, j ≠ B → W9.heap[j]? = w8.heap[j]?) := fun j hj => by
          rw [← HW9.out]
          exact (heap_setCell_other _ ⟨B, 5, none⟩ j _ hj).trans ((heap_setCell_other _ ⟨B, 4, none⟩ j _ hj).trans (heap_setCell_other _ ⟨B, 3, none⟩ j _ hj))
        clear HW9 x0 x1 x2 x3 x4 x5 x6 x7 x8 x9 f3 f4 f5 p0 p1 p2 HS7 HS8 HM8
        obtain ⟨w9, rfl⟩ : ∃ w3 : World, w3 = W9 := ⟨_, rfl⟩
        have HS9 := HSm
        obtain ⟨gl', lc', e1, -, -, -, hg9, -, RG9, TH9⟩ := HS9.out.wi.machAt i hi
        obtain ⟨rfl, rfl⟩ : gl = gl' ∧ lc = lc' := by
          have e2 := HVL.out
          rw [show (WV.vl { x with tA := tA2, tc := tc2, pA := pA2, pc := pc2, mA := m1, mc := n1, nA := m2a, nc := n2 } { y with t := y.t ++ [⟨i, a, bb.val, bb.ok⟩], p := y.p ++ [([.slice x.mA y.m.words.length x.mc, .slice x.nA y.m.lists.length x.nc, .int .i64 y.m.tick], y.m)], m := mm }) = x.vl y from rfl, e2] at e1
          simp only [Value.slice.injEq, Option.some.injEq, Addr.mk.injEq, and_true, true_and] at e1
          exact ⟨e1.1, e1.2⟩
        have HVL9 : Hid (WV.vl { x with tA := tA2, tc := tc2, pA := pA2, pc := pc2, mA := m1, mc := n1, nA := m2a, nc := n2 } { y with t := y.t ++ [⟨i, a, bb.val, bb.ok⟩], p := y.p ++ [([.slice x.mA y.m.words.length x.mc, .slice x.nA y.m.lists.length x.nc, .int .i64 y.m.tick], y.m)], m := mm } = .slice (some ⟨gl, 0, none⟩) y.l.length lc) := HVL.out
        rw [show (WM.l { y with t := y.t ++ [⟨i, a, bb.val, bb.ok⟩], p := y.p ++ [([.slice x.mA y.m.words.length x.mc, .slice x.nA y.m.lists.length x.nc, .int .i64 y.m.tick], y.m)], m := mm })[i] = m from HMI.out] at RG9
        unfold machL WV.vc WV.vs at RG9
        have HRG9 := Lib.hid RG9
        have HTH9 := Lib.hid TH9
        have rw9 := HS9.out.wi.row
        unfold WV.row at rw9
        dsimp only at rw9
        rw [HLA.out, HLC.out] at rw9
        have RW9 := Lib.hid rw9
        clear rw9 RG9 TH9 e1
        have TR := Lib.hid fun w' => HR w' zA zn zc
        unfold machL WV.vc WV.vs at TR
        try dsimp only at TR
        have hB9 := HS9.out.wi.lt
        have hQ9 := (Array.getElem?_eq_some_iff.1 HS9.out.hq).1
        have KS : Hid (∀ w', Below w9.heap.size w9 w' → (fun w' : World => (w'.cell? ⟨B, 6, none⟩ = some (.slice (some ⟨gl, 0, none⟩) y.l.length lc)) ∧ (w'.cell? ⟨gl, i * 14, none⟩ = some (.int .i64 m.what) ∧ w'.cell? ⟨gl, i * 14 + 1, none⟩ = some (.int .i64 m.pl) ∧ w'.cell? ⟨gl, i * 14 + 2, none⟩ = some (.slice x.cA y.c.caps.length x.cc) ∧ w'.cell? ⟨gl, i * 14 + 3, none⟩ = some (.slice x.sA y.c.starts.length x.sc) ∧ w'.cell? ⟨gl, i * 14 + 4, none⟩ = some (.int .i64 y.c.threads) ∧ w'.cell? ⟨gl, i * 14 + 5, none⟩ = some (.int .i64 m.chan) ∧ w'.cell? ⟨gl, i * 14 + 6, none⟩ = some (.int .i64 m.thr) ∧ w'.cell? ⟨gl, i * 14 + 7, none⟩ = some (.int .i64 m.idx) ∧ w'.cell? ⟨gl, i * 14 + 8, none⟩ = some (.int .i64 m.kind) ∧ w'.cell? ⟨gl, i * 14 + 9, none⟩ = some (.int .u64 m.val) ∧ w'.cell? ⟨gl, i * 14 + 10, none⟩ = some (.int .u64 m.t) ∧ w'.cell? ⟨gl, i * 14 + 11, none⟩ = some (.int .u64 m.h) ∧ w'.cell? ⟨gl, i * 14 + 12, none⟩ = some (.int .i64 m.ok) ∧ w'.cell? ⟨gl, i * 14 + 13, none⟩ = some (.int .u64 m.ov)) ∧ (w'.cell? ⟨Q, 0, none⟩ = some (.int .u64 bb.val) ∧ w'.cell? ⟨Q, 1, none⟩ = some (.bool bb.ok) ∧ w'.cell? ⟨Q, 2, none⟩ = some (.bool bb.late) ∧ w'.cell? ⟨Q, 3, none⟩ = some (.slice zA zn zc))) w') := fun w' hb => by
          obtain ⟨x0, x1, x2, x3, x4, x5, x6, x7, x8, x9⟩ := rowc10 ((hb.block B hB9).trans RW9.out)
          obtain ⟨q0, q1, q2, q3, q4, q5, q6, q7, q8, q9, q10, q11, q12, q13⟩ := range14 (range_below HRG9.out hb hg9)
          obtain ⟨z0, z1, z2, z3⟩ := rowc4 ((hb.block Q hQ9).trans HS9.out.hq)
          exact ⟨x6, ⟨q0, q1, q2, q3, q4, q5, q6, q7, q8, q9, q10, q11, q12, q13⟩, ⟨z0, z1, z2, z3⟩⟩
        go_cut [] (fun wx => Hid (StP WT w0 w4 wx (some w.heap.size :: E) B D x { x with tA := tA2, tc := tc2, pA := pA2, pc := pc2, mA := m1, mc := n1, nA := m2a, nc := n2 } { y with t := y.t ++ [⟨i, a, bb.val, bb.ok⟩], p := y.p ++ [([.slice x.mA y.m.words.length x.mc, .slice x.nA y.m.lists.length x.nc, .int .i64 y.m.tick], y.m)], m := mm, l := y.l.set i m2 } P Q w.heap.size #[.slice m1 mm.words.length n1, .slice m2a mm.lists.length n2, .int .i64 mm.tick] #[.int .u64 bb.val, .bool bb.ok, .bool bb.late, .slice zA zn zc] #[.int .u64 0, .bool false, .bool false, .slice none 0 0]))
        case first =>
          refine untilK KS 15 16 (by kernel_rfl) rfl ?_
          obtain ⟨u0, hu0, HU0⟩ := drew_pack w9
          rw [hu0]
          clear hu0
          have HS0 := Lib.hid (HS9.out.next HU0.out)
          have hSU0 := KS.out _ HU0.out
          refine tkU (v := ?_) 0 la0 hSU0 (by kernel_rfl) (fun _ _ _ h => h) rfl ?_ ?_
          rotate_left
          · (intro w hSw; (try dsimp only at hSw); go_simp <;> with_reducible rfl)
          simp only [Act.put, List.setIfInBounds_toArray, List.set_cons_zero, List.set_cons_succ]
          refine tkU (v := ?_) 1 la1 hSU0 (by kernel_rfl) (fun _ _ _ h => h) rfl ?_ ?_
          rotate_left
          · (intro w hSw; (try dsimp only at hSw); go_simp <;> with_reducible rfl)
          simp only [Act.put, List.setIfInBounds_toArray, List.set_cons_zero, List.set_cons_succ]
          refine tkU (v := ?_) 2 la2 hSU0 (by kernel_rfl) (fun _ _ _ h => h) rfl ?_ ?_
          rotate_left
          · (intro w hSw; (try dsimp only at hSw); go_simp <;> with_reducible rfl)
          simp only [Act.put, List.setIfInBounds_toArray, List.set_cons_zero, List.set_cons_succ]
          refine tkU (v := ?_) 3 la3 hSU0 (by kernel_rfl) (fun _ _ _ h => h) rfl ?_ ?_
          rotate_left
          · (intro w hSw; (try dsimp only at hSw); go_simp <;> with_reducible rfl)
          simp only [Act.put, List.setIfInBounds_toArray, List.set_cons_zero, List.set_cons_succ]
          refine tkU (v := ?_) 4 la4 hSU0 (by kernel_rfl) (fun _ _ _ h => h) rfl ?_ ?_
          rotate_left
          · (intro w hSw; (try dsimp only at hSw); go_simp <;> with_reducible rfl)
          simp only [Act.put, List.setIfInBounds_toArray, List.set_cons_zero, List.set_cons_succ]
          refine tkU (v := ?_) 5 la5 hSU0 (by kernel_rfl) (fun _ _ _ h => h) rfl ?_ ?_
          rotate_left
          · (intro w hSw; (try dsimp only at hSw); go_simp <;> with_reducible rfl)
          simp only [Act.put, List.setIfInBounds_toArray, List.set_cons_zero, List.set_cons_succ]
          refine tkU (v := ?_) 6 la6 hSU0 (by kernel_rfl) (fun _ _ _ h => h) rfl ?_ ?_
          rotate_left
          · (intro w hSw; (try dsimp only at hSw); go_simp <;> with_reducible rfl)
          simp only [Act.put, List.setIfInBounds_toArray, List.set_cons_zero, List.set_cons_succ]
          refine tkU (v := ?_) 7 la7 hSU0 (by kernel_rfl) (fun _ _ _ h => h) rfl ?_ ?_
          rotate_left
          · (intro w hSw; (try dsimp only at hSw); go_simp <;> with_reducible rfl)
          simp only [Act.put, List.setIfInBounds_toArray, List.set_cons_zero, List.set_cons_succ]
          refine tkU (v := ?_) 8 la8 hSU0 (by kernel_rfl) (fun _ _ _ h => h) rfl ?_ ?_
          rotate_left
          · (intro w hSw; (try dsimp only at hSw); go_simp <;> with_reducible rfl)
          simp only [Act.put, List.setIfInBounds_toArray, List.set_cons_zero, List.set_cons_succ]
          refine tkU (v := ?_) 9 la9 hSU0 (by kernel_rfl) (fun _ _ _ h => h) rfl ?_ ?_
          rotate_left
          · (intro w hSw; (try dsimp only at hSw); go_simp <;> with_reducible rfl)
          simp only [Act.put, List.setIfInBounds_toArray, List.set_cons_zero, List.set_cons_succ]
          refine tkU (v := ?_) 10 la10 hSU0 (by kernel_rfl) (fun _ _ _ h => h) rfl ?_ ?_
          rotate_left
          · (intro w hSw; (try dsimp only at hSw); go_simp <;> with_reducible rfl)
          simp only [Act.put, List.setIfInBounds_toArray, List.set_cons_zero, List.set_cons_succ]
          refine tkU (v := ?_) 11 la11 hSU0 (by kernel_rfl) (fun _ _ _ h => h) rfl ?_ ?_
          rotate_left
          · (intro w hSw; (try dsimp only at hSw); go_simp <;> with_reducible rfl)
          simp only [Act.put, List.setIfInBounds_toArray, List.set_cons_zero, List.set_cons_succ]
          refine tkU (v := ?_) 12 la12 hSU0 (by kernel_rfl) (fun _ _ _ h => h) rfl ?_ ?_
          rotate_left
          · (intro w hSw; (try dsimp only at hSw); go_simp <;> with_reducible rfl)
          simp only [Act.put, List.setIfInBounds_toArray, List.set_cons_zero, List.set_cons_succ]
          refine wpAnyU_ready (rs := [13]) (by kernel_rfl) rfl ?_
          refine AllReadyU.cons la13 rfl (fun K hK => ?_) ?_
          · go_simp
            go_at_call 16
            refine (TR.out _ HS0.out.wi.confV).mono ?_
            rintro e u1 ⟨rfl, hb⟩
            have HS1 := Lib.hid (HS0.out.next hb)
            have HU1 := Lib.hid (below_then HU0.out hb)
            clear hb
            refine hK.out _ _ ?_ (fun hSU1 => ?_)
            · exact KS.out _ HU1.out
            clear hK K hSU0
            try simp only [Act.put, List.setIfInBounds_toArray, List.set_cons_zero, List.set_cons_succ]
            refine tkU (v := ?_) 14 la14 hSU1 (by kernel_rfl) (fun _ _ _ h => h) rfl ?_ ?_
            rotate_left
            · (intro w hSw; (try dsimp only at hSw); go_simp <;> with_reducible rfl)
            simp only [Act.put, List.setIfInBounds_toArray, List.set_cons_zero, List.set_cons_succ]
            refine wpAnyU_ready (rs := [15]) (by kernel_rfl) rfl ?_
            refine AllReadyU.free la15 rfl (by kernel_rfl) (fun K hK => ?_) ?_
            · refine step_store_mid rfl 58 _ _ rfl gl (i * 14) _ (by rfl) (by rfl) (there_below HTH9.out HU1.out hg9) (by kernel_rfl) (by simp [Value.oneCell']) ?_
              refine hK.out _ _ ?_
              clear hK K hSU1
              try simp only [Act.put, List.setIfInBounds_toArray, List.set_cons_zero, List.set_cons_succ]
              refine wpAnyU_done (by kernel_rfl) ?_ _
              obtain ⟨HIa, HINa⟩ := HS1.out.wi.setL (b := gl) (i := i) (z := m2) (n := y.l.length) (cap := lc) HVL9.out hi rfl (by intro u hu; simp only [machL, List.mem_cons, List.not_mem_nil, or_false] at hu; rcases hu with rfl | rfl | rfl | rfl | rfl | rfl | rfl | rfl | rfl | rfl | rfl | rfl | rfl | rfl <;> rfl)
              have HSF := Lib.hid (HS1.out.go HIa HINa (fun j hj => setCells_other _ _ _ _ _ (by have h1 := hP.out; have h2 := hQ.out; have h3 := HB02.out.size; rcases hj with rfl | rfl | rfl <;> omega)))
              clear HIa HINa
              go_wp2_with fail
              go_meet
              exact HSF
            exact AllReadyU.nil
          exact AllReadyU.nil
        case rest =>
          have HS10 := hcut
          clear hcut
          obtain ⟨w10, rfl⟩ : ∃ w3 : World, w3 = wc := ⟨_, rfl⟩
          clear KS TR
          obtain ⟨z0, z1, z2, z3⟩ := rowc4 HS10.out.hq
          have HRA := Lib.hid HS10.out.ha
          go_wp2_with (refine wpList_store_row rfl 53 _ _ rfl (w.heap.size) _ rfl rfl 53 #[.int .u64 0, .bool false, .bool false, .slice none 0 0] HRA.out (by kernel_rfl) rfl (by simp [Value.oneCell']) ?_)
          refine bodyPost_ret (v := .tuple #[.agg #[.int .u64 bb.val, .bool bb.ok, .bool bb.late, .slice zA zn zc], .bool true]) (results_cell_tmp Try.results46 _ _ (w.heap.size) 53 _ (0, 0) _ rfl (setRow_heap _ _ _ _ 53 (0, 0) HRA.out) Try.underlying53 rfl (by kernel_rfl) _ rfl) rfl ?_
          obtain ⟨HIf, HINf⟩ := HS10.out.wi.settle (w2 := w10.setRow w.heap.size #[.int .u64 bb.val, .bool bb.ok, .bool bb.late, .slice zA zn zc]) HS10.out.ha hBl (row_grown _ _ _) (by decide) (by decide) (by decide) (by decide)
          exact ⟨_, zA, zn, zc, rfl, HIf, Lib.hid fun w3 h3 => (OffS.below (S := x.S E B) HB04.out).trans (HS10.out.inc w3 (HINf w3 h3)) fun j hj hm => by
            simp only [WV.S, List.cons_append, List.mem_cons, Option.some.injEq] at hm
            rcases hm with rfl | hm
            · omega
            · exact hm, rfl, rfl⟩
end Go.Proofs.Ytjnlkemdaffgbaa
