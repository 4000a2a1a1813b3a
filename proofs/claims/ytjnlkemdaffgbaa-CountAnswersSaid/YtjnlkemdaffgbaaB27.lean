
import Derived.Test.YtjnlkemdaffgbaaB26
set_option linter.unusedVariables false
set_option linter.unusedSimpArgs false
/- Layer 11: a machine is added to the law's worlds. -/
namespace Go.Proofs.Ytjnlkemdaffgbaa
open Go.ChangeShapes Go.WideShapes Go.ChangeAt Go.RowKit
set_option maxRecDepth 100000

theorem Try.info_mach : (Try.prog.info? 58).map (fun i => (i.zero, i.size, i.bytes)) = some (some (.agg #[.int .i64 0, .int .i64 0, .slice none 0 0, .slice none 0 0, .int .i64 0, .int .i64 0, .int .i64 0, .int .i64 0, .int .i64 0, .int .u64 0, .int .u64 0, .int .u64 0, .int .i64 0, .int .u64 0]), 14, 144) := by kernel_rfl
theorem Try.info_frame : (Try.prog.info? 61).map (fun i => (i.zero, i.size, i.bytes)) = some (some (.agg #[.int .i64 0, .int .i64 0, .slice none 0 0, .slice none 0 0, .slice none 0 0]), 5, 88) := by kernel_rfl
/-- a started frame -/
def Starts (R : (World → Prop) → ConfM → List Value → MachM → Prop) (c : ConfM) (m : MachM) (v2 v3 : Value) : Prop :=
  ∀ w, ConfV w (.agg #[v2, v3, .int .i64 c.threads]) c → Calls Try.prog 25 #[.agg #[v2, v3, .int .i64 c.threads], .agg (machL v2 v3 c.threads m).toArray] w fun e w' => ∃ f, e = .returned (.agg f.toArray) ∧ R (NewPart w w') c f m ∧ Below w.heap.size w w'
/-- a machine was added -/
def AddQ (R : (World → Prop) → ConfM → List Value → MachM → Prop) (w0 w : World) (E : List (Option Nat)) (B D : Nat) (x : WV) (y : WM) (m : MachM) (e : Ending) (w' : World) : Prop :=
  ∃ x2 f, e = .returned (.tuple #[]) ∧ Hid (WI 49 w0 w' E B D x2 { y with l := y.l ++ [m], f := y.f ++ [f] }) ∧ Hid (FrI R (OffS (x2.S E B) w') { y with l := y.l ++ [m], f := y.f ++ [f] }) ∧ Hid (Below B w w') ∧ Hid (∀ w3, OffS (x2.S E B) w' w3 → OffS (x.S E B) w w3)
set_option maxRecDepth 100000 in
set_option maxHeartbeats 32000000 in
theorem wadd_own {NE : ConfM → MachM → AccM} {RE : ConfM → MachM → AnsM → MachM} {R : (World → Prop) → ConfM → List Value → MachM → Prop} (hs : Sim NE RE ownM R)
    {w0 w : World} {E : List (Option Nat)} {B D : Nat} {x : WV} {y : WM} (h : WI 49 w0 w E B D x y) (hf : FrI R (OffS (x.S E B) w) y) (what ch th v : Int) (hwh : ownM ⟨what, 1, ch, th, v % 4, v % 8, v, 0, 0, 0, 0⟩ = true) (hv0 : 0 ≤ v) (hst : Starts R y.c ⟨what, 1, ch, th, v % 4, v % 8, v, 0, 0, 0, 0⟩ (x.vc y.c) (x.vs y.c)) (hl : y.l.length ≤ 1000) :
    Calls Try.prog 8 #[.pointer (some ⟨B, 0, none⟩), .int .i64 what, .int .i64 ch, .int .i64 th, .int .u64 v] w (AddQ R w0 w E B D x y ⟨what, 1, ch, th, v % 4, v % 8, v, 0, 0, 0, 0⟩) := by
  have HI := Lib.hid h
  have HF := Lib.hid hf
  have hBl := h.lt
  have hlf : y.f.length ≤ 1000 := by rw [hf.1]; exact hl
  have TW := Lib.hid fun w' => machNew_any x.cA x.sA x.cc x.sc y.c what ch th w'
  unfold machL at TW
  try dsimp only at TW
  have row0 := h.row
  unfold WV.row at row0
  have ROW := Lib.hid row0
  have HST := Lib.hid hst
  clear h hf row0 hst
  go_enter Try.func8, Try.ntmps8
  obtain ⟨x0, x1, x2, x3, x4, x5, x6, x7, x8, x9⟩ := rowc10 ROW.out
  go_wp2_with fail
  refine (TW.out _).mono ?_; rintro e w1 ⟨rfl, hb1⟩
  have HB1 := Lib.hid hb1
  clear hb1 TW x0 x1 x2 x3 x4 x5 x6 x7 x8 x9
  obtain ⟨W2, hW2⟩ : ∃ W2, (w1.alloc (.cells #[.int .i64 0, .int .i64 0, .slice none 0 0, .slice none 0 0, .int .i64 0, .int .i64 0, .int .i64 0, .int .i64 0, .int .i64 0, .int .u64 0, .int .u64 0, .int .u64 0, .int .i64 0, .int .u64 0] 58)).setRow w1.heap.size #[.int .i64 what, .int .i64 1, .slice x.cA y.c.caps.length x.cc, .slice x.sA y.c.starts.length x.sc, .int .i64 y.c.threads, .int .i64 ch, .int .i64 th, .int .i64 0, .int .i64 0, .int .u64 0, .int .u64 0, .int .u64 0, .int .i64 0, .int .u64 0] = W2 := ⟨_, rfl⟩
  have N2 : Hid ((w1.alloc (.cells #[.int .i64 0, .int .i64 0, .slice none 0 0, .slice none 0 0, .int .i64 0, .int .i64 0, .int .i64 0, .int .i64 0, .int .i64 0, .int .u64 0, .int .u64 0, .int .u64 0, .int .i64 0, .int .u64 0] 58)).heap[w1.heap.size]? = some (.cells #[.int .i64 0, .int .i64 0, .slice none 0 0, .slice none 0 0, .int .i64 0, .int .i64 0, .int .i64 0, .int .i64 0, .int .i64 0, .int .u64 0, .int .u64 0, .int .u64 0, .int .i64 0, .int .u64 0] 58 (0, 0))) := heap_alloc_new _ _
  have HB2 : Hid (Below w1.heap.size w1 W2) := hW2 ▸ row_below (below_new (Below.refl _ _) _) (Nat.le_refl _) _
  have R2 : Hid (W2.heap[w1.heap.size]? = some (.cells #[.int .i64 what, .int .i64 1, .slice x.cA y.c.caps.length x.cc, .slice x.sA y.c.starts.length x.sc, .int .i64 y.c.threads, .int .i64 ch, .int .i64 th, .int .i64 0, .int .i64 0, .int .u64 0, .int .u64 0, .int .u64 0, .int .i64 0, .int .u64 0] 58 (0, 0))) := hW2 ▸ setRow_heap _ _ _ _ _ (0, 0) N2.out
  have HW2 := Lib.hid hW2
  clear hW2
  go_upto_region 1 with (refine wpList_store_row rfl 58 _ _ rfl (w1.heap.size) _ rfl rfl 58 #[.int .i64 0, .int .i64 0, .slice none 0 0, .slice none 0 0, .int .i64 0, .int .i64 0, .int .i64 0, .int .i64 0, .int .i64 0, .int .u64 0, .int .u64 0, .int .u64 0, .int .i64 0, .int .u64 0] N2.out (by kernel_rfl) rfl (by simp [Value.oneCell']) ?_)
  rw [HW2.out]
  try simp only [Act.put]
  clear HW2 N2
  have hPw : Hid (w.heap.size ≤ w1.heap.size) := HB1.out.size
  obtain ⟨P, hP⟩ : ∃ P, w1.heap.size = P := ⟨_, rfl⟩
  rw [hP] at hPw
  rw [hP] at R2
  rw [hP]
  clear hP

  have HB02 := Lib.hid (below_then HB1.out HB2.out)
  have f1 := frozen_of_row _ _ 9 _ _ R2.out
  have f2 := frozen_of_row _ _ 7 _ _ R2.out
  have f3 := frozen_of_row _ _ 8 _ _ R2.out
  obtain ⟨q0, q1, q2, q3, q4, q5, q6, q7, q8, q9, q10, q11, q12, q13⟩ := rowc14 R2.out
  have r1 := heap_setCell_same W2 P 9 _ _ (.int .u64 v) R2.out
  simp at r1
  have r2 := heap_setCell_same _ P 7 _ _ (.int .i64 (v % 4)) r1
  simp at r2
  have r3 := heap_setCell_same _ P 8 _ _ (.int .i64 (v % 8)) r2
  simp at r3
  have R3 := Lib.hid r3
  have HB3 := Lib.hid (((HB02.out.setCell (p := ⟨P, 9, none⟩) hPw.out (.int .u64 v)).setCell (p := ⟨P, 7, none⟩) hPw.out (.int .i64 (v % 4))).setCell (p := ⟨P, 8, none⟩) hPw.out (.int .i64 (v % 8)))
  obtain ⟨W3, hW3⟩ : ∃ W3, ((W2.setCell ⟨P, 9, none⟩ (.int .u64 v)).setCell ⟨P, 7, none⟩ (.int .i64 (v % 4))).setCell ⟨P, 8, none⟩ (.int .i64 (v % 8)) = W3 := ⟨_, rfl⟩
  rw [hW3] at R3 HB3
  have HW3 := Lib.hid hW3
  clear hW3 r1 r2 r3
  go_upto_region 2 with fail
  rw [HW3.out]
  clear HW3 f1 f2 f3 q0 q1 q2 q3 q4 q5 q6 q7 q8 q9 q10 q11 q12 q13
  have HI3 := Lib.hid (HI.out.next HB3.out)
  have hP3 : P < W3.heap.size := (Array.getElem?_eq_some_iff.1 R3.out).1
  have KS : Hid (∀ w', Below W3.heap.size W3 w' → (fun w' : World => (w'.cell? ⟨B, 6, none⟩ = some (.slice x.lA y.l.length x.lc)) ∧ (w'.cell? ⟨P, 0, none⟩ = some (.int .i64 what) ∧ w'.cell? ⟨P, 1, none⟩ = some (.int .i64 1) ∧ w'.cell? ⟨P, 2, none⟩ = some (.slice x.cA y.c.caps.length x.cc) ∧ w'.cell? ⟨P, 3, none⟩ = some (.slice x.sA y.c.starts.length x.sc) ∧ w'.cell? ⟨P, 4, none⟩ = some (.int .i64 y.c.threads) ∧ w'.cell? ⟨P, 5, none⟩ = some (.int .i64 ch) ∧ w'.cell? ⟨P, 6, none⟩ = some (.int .i64 th) ∧ w'.cell? ⟨P, 7, none⟩ = some (.int .i64 (v % 4)) ∧ w'.cell? ⟨P, 8, none⟩ = some (.int .i64 (v % 8)) ∧ w'.cell? ⟨P, 9, none⟩ = some (.int .u64 v) ∧ w'.cell? ⟨P, 10, none⟩ = some (.int .u64 0) ∧ w'.cell? ⟨P, 11, none⟩ = some (.int .u64 0) ∧ w'.cell? ⟨P, 12, none⟩ = some (.int .i64 0) ∧ w'.cell? ⟨P, 13, none⟩ = some (.int .u64 0))) w') := fun w' hb => by
    obtain ⟨x0, x1, x2, x3, x4, x5, x6, x7, x8, x9⟩ := rowc10 (((below_then HB3.out hb).block B hBl).trans ROW.out)
    exact ⟨x6, rowc14 ((hb.block P hP3).trans R3.out)⟩
  have K2 : Hid (∀ w', w'.heap[B]? = some (.cells (x.row y) 49 (0, 0)) → w'.heap[P]? = some (.cells #[.int .i64 what, .int .i64 1, .slice x.cA y.c.caps.length x.cc, .slice x.sA y.c.starts.length x.sc, .int .i64 y.c.threads, .int .i64 ch, .int .i64 th, .int .i64 (v % 4), .int .i64 (v % 8), .int .u64 v, .int .u64 0, .int .u64 0, .int .i64 0, .int .u64 0] 58 (0, 0)) → (fun w' : World => (w'.cell? ⟨B, 6, none⟩ = some (.slice x.lA y.l.length x.lc)) ∧ (w'.cell? ⟨P, 0, none⟩ = some (.int .i64 what) ∧ w'.cell? ⟨P, 1, none⟩ = some (.int .i64 1) ∧ w'.cell? ⟨P, 2, none⟩ = some (.slice x.cA y.c.caps.length x.cc) ∧ w'.cell? ⟨P, 3, none⟩ = some (.slice x.sA y.c.starts.length x.sc) ∧ w'.cell? ⟨P, 4, none⟩ = some (.int .i64 y.c.threads) ∧ w'.cell? ⟨P, 5, none⟩ = some (.int .i64 ch) ∧ w'.cell? ⟨P, 6, none⟩ = some (.int .i64 th) ∧ w'.cell? ⟨P, 7, none⟩ = some (.int .i64 (v % 4)) ∧ w'.cell? ⟨P, 8, none⟩ = some (.int .i64 (v % 8)) ∧ w'.cell? ⟨P, 9, none⟩ = some (.int .u64 v) ∧ w'.cell? ⟨P, 10, none⟩ = some (.int .u64 0) ∧ w'.cell? ⟨P, 11, none⟩ = some (.int .u64 0) ∧ w'.cell? ⟨P, 12, none⟩ = some (.int .i64 0) ∧ w'.cell? ⟨P, 13, none⟩ = some (.int .u64 0))) w') := fun w' h1 h2 => by
    unfold WV.row at h1
    obtain ⟨x0, x1, x2, x3, x4, x5, x6, x7, x8, x9⟩ := rowc10 h1
    exact ⟨x6, rowc14 h2⟩
  go_cut [] (fun wx => ∃ (lA2 : Option Addr) (lc2 : Nat), Hid (WI 49 w0 wx E B D { x with lA := lA2, lc := lc2 } { y with l := y.l ++ [⟨what, 1, ch, th, v % 4, v % 8, v, 0, 0, 0, 0⟩] }) ∧ Hid (∀ w3, OffS (WV.S { x with lA := lA2, lc := lc2 } E B) wx w3 → OffS (x.S E B) w w3) ∧ Hid (wx.heap[P]? = some (.cells #[.int .i64 what, .int .i64 1, .slice x.cA y.c.caps.length x.cc, .slice x.sA y.c.starts.length x.sc, .int .i64 y.c.threads, .int .i64 ch, .int .i64 th, .int .i64 (v % 4), .int .i64 (v % 8), .int .u64 v, .int .u64 0, .int .u64 0, .int .i64 0, .int .u64 0] 58 (0, 0))) ∧ Hid (Below B w wx))
  case first =>
    refine untilK KS 12 13 (by kernel_rfl) rfl ?_
    obtain ⟨u0, hu0, HU0⟩ := drew_pack W3
    rw [hu0]
    clear hu0
    have hSU0 := KS.out _ HU0.out
    refine tkU (v := ?_) 0 la0 hSU0 (by kernel_rfl) (fun _ _ _ h => h) rfl ?_ ?_
    rotate_left
    · (intro w hSw; (try dsimp only at hSw); go_simp <;> with_reducible rfl)
    simp only [Act.put, List.setIfInBounds_toArray, List.set_cons_zero, List.set_cons_succ]
    refine tkU (v := ?_) 1 la1 hSU0 (by kernel_rfl) (fun _ _ _ h => h) rfl ?_ ?_
    rotate_left
    · (intro w hSw; (try dsimp only at hSw); go_simp <;> with_reducible rfl)
    simp only [Act.put, List.setIfInBounds_toArray, List.set_cons_zero, List.set_cons_succ]
    refine tkU (v := ?_) 2 la2 hSU0 (by kernel_rfl) (fun _ _ _ h => h) rfl ?_ ?_
    rotate_left
    · (intro w hSw; (try dsimp only at hSw); go_simp <;> with_reducible rfl)
    simp only [Act.put, List.setIfInBounds_toArray, List.set_cons_zero, List.set_cons_succ]
    refine tkU (v := ?_) 3 la3 hSU0 (by kernel_rfl) (fun _ _ _ h => h) rfl ?_ ?_
    rotate_left
    · (intro w hSw; (try dsimp only at hSw); go_simp <;> with_reducible rfl)
    simp only [Act.put, List.setIfInBounds_toArray, List.set_cons_zero, List.set_cons_succ]
    refine tkU (v := ?_) 4 la4 hSU0 (by kernel_rfl) (fun _ _ _ h => h) rfl ?_ ?_
    rotate_left
    · (intro w hSw; (try dsimp only at hSw); go_simp <;> with_reducible rfl)
    simp only [Act.put, List.setIfInBounds_toArray, List.set_cons_zero, List.set_cons_succ]
    refine tkU (v := ?_) 5 la5 hSU0 (by kernel_rfl) (fun _ _ _ h => h) rfl ?_ ?_
    rotate_left
    · (intro w hSw; (try dsimp only at hSw); go_simp <;> with_reducible rfl)
    simp only [Act.put, List.setIfInBounds_toArray, List.set_cons_zero, List.set_cons_succ]
    refine tkU (v := ?_) 6 la6 hSU0 (by kernel_rfl) (fun _ _ _ h => h) rfl ?_ ?_
    rotate_left
    · (intro w hSw; (try dsimp only at hSw); go_simp <;> with_reducible rfl)
    simp only [Act.put, List.setIfInBounds_toArray, List.set_cons_zero, List.set_cons_succ]
    refine wpAnyU_ready (rs := [7]) (by kernel_rfl) rfl ?_
    refine AllReadyU.cons la7 rfl (fun K hK => ?_) ?_
    · go_simp
      obtain ⟨u1, bI, hv, hXe, RL, hbX, ltI⟩ := alloc_pack u0 (.cells #[.int .i64 what, .int .i64 1, .slice x.cA y.c.caps.length x.cc, .slice x.sA y.c.starts.length x.sc, .int .i64 y.c.threads, .int .i64 ch, .int .i64 th, .int .i64 (v % 4), .int .i64 (v % 8), .int .u64 v, .int .u64 0, .int .u64 0, .int .i64 0, .int .u64 0] 58)
      rw [hv, hXe]
      have HU1 := Lib.hid (below_then HU0.out hbX.out)
      clear hv hXe hbX
      refine hK.out _ _ ?_ (fun hSU1 => ?_)
      · exact KS.out _ HU1.out
      clear hK K hSU0
      try simp only [Act.put, List.setIfInBounds_toArray, List.set_cons_zero, List.set_cons_succ]
      refine wpAnyU_ready (rs := [8]) (by kernel_rfl) rfl ?_
      refine AllReadyU.cons la8 rfl (fun K hK => ?_) ?_
      · refine step_append_s (w := u1) 40 (by kernel_rfl) Try.info_mach rfl (by decide) (by decide) (by rfl) _ _ (by rfl) (by rfl) (HI3.out.next HU1.out).ol (machL (x.vc y.c) (x.vs y.c) y.c.threads ⟨what, 1, ch, th, v % 4, v % 8, v, 0, 0, 0, 0⟩) rfl (by intro u hu; simp only [machL, List.mem_cons, List.not_mem_nil, or_false] at hu; rcases hu with rfl | rfl | rfl | rfl | rfl | rfl | rfl | rfl | rfl | rfl | rfl | rfl | rfl | rfl <;> rfl) bI (by rfl) RL.out (by rw [List.length_map]; omega) (HI3.out.next HU1.out).Dw ?_
        intro v9 u2 ho9 hg9 hbk9
        obtain ⟨lA2, lc2, e9⟩ := ho9.len
        rw [List.length_append, List.length_map, List.length_singleton] at e9
        subst e9
        have HO9 := Lib.hid ho9
        have HG9 := Lib.hid hg9
        have HK9 := Lib.hid hbk9
        clear ho9 hg9 hbk9
        have hLo : Hid (∀ j, (x.vl y).ownBlock = some j → j < w.heap.size ∧ D ≤ j) := fun j hj => ⟨(HI.out.ol.lt j hj).2, (HI.out.ol.lt j hj).1⟩
        have RB9 := Lib.hid ((HG9.out.block B (HI3.out.next HU1.out).lt (fun e => by have := (hLo.out B e.symm).2; have := HI.out.BD; omega)).trans (HI3.out.next HU1.out).row)
        have RP9 := Lib.hid ((HG9.out.block P (Nat.lt_of_lt_of_le hP3 HU1.out.size) (fun e => by have := (hLo.out P e.symm).1; have := hPw.out; omega)).trans ((HU1.out.block P hP3).trans R3.out))
        refine hK.out _ _ ?_ (fun hSU2 => ?_)
        · exact K2.out _ RB9.out RP9.out
        clear hK K hSU1
        try simp only [Act.put, List.setIfInBounds_toArray, List.set_cons_zero, List.set_cons_succ]
        refine wpAnyU_takeW (v := ?_) 9 la9 (by kernel_rfl) (by kernel_rfl) (by kernel_rfl) (by kernel_rfl) (fun _ _ _ h => h) (fun _ => hSU2) rfl ?_ ?_
        rotate_left
        · (intro w; go_simp <;> with_reducible rfl)
        simp only [Act.put, List.setIfInBounds_toArray, List.set_cons_zero, List.set_cons_succ]
        refine wpAnyU_takeW (v := ?_) 10 la10 (by kernel_rfl) (by kernel_rfl) (by kernel_rfl) (by kernel_rfl) (fun _ _ _ h => h) (fun _ => hSU2) rfl ?_ ?_
        rotate_left
        · (intro w; go_simp <;> with_reducible rfl)
        simp only [Act.put, List.setIfInBounds_toArray, List.set_cons_zero, List.set_cons_succ]
        refine tkU (v := ?_) 11 la11 hSU2 (by kernel_rfl) (fun _ _ _ h => h) rfl ?_ ?_
        rotate_left
        · (intro w hSw; (try dsimp only at hSw); go_simp <;> with_reducible rfl)
        simp only [Act.put, List.setIfInBounds_toArray, List.set_cons_zero, List.set_cons_succ]
        refine wpAnyU_ready (rs := [12]) (by kernel_rfl) rfl ?_
        refine AllReadyU.free la12 rfl (by kernel_rfl) (fun K hK => ?_) ?_
        · have RB9' := RB9.out
          unfold WV.row at RB9'
          obtain ⟨x0, x1, x2, x3, x4, x5, x6, x7, x8, x9⟩ := rowc10 RB9'
          have f6 := frozen_of_row _ _ 6 _ _ RB9'
          clear RB9'
          go_simp
          refine hK.out _ _ ?_
          clear hK K hSU2
          try simp only [Act.put, List.setIfInBounds_toArray, List.set_cons_zero, List.set_cons_succ]
          refine wpAnyU_done (by kernel_rfl) ?_ _
          clear x0 x1 x2 x3 x4 x5 x6 x7 x8 x9 f6
          obtain ⟨HIa, HINa⟩ := (HI3.out.next HU1.out).addL (z := ⟨what, 1, ch, th, v % 4, v % 8, v, 0, 0, 0, 0⟩) HO9.out HG9.out (by have := HK9.out; rw [WV.vl, own_addr, own_addr] at this; exact this)
          have HIF := Lib.hid HIa
          have HINF : Hid (∀ w3, OffS (WV.S { x with lA := lA2, lc := lc2 } E B) _ w3 → OffS (x.S E B) w w3) := fun w3 h3 => (OffS.below (below_then HB3.out HU1.out)).trans1 (HINa w3 h3)
          have RPF := Lib.hid ((heap_setCell_other _ ⟨B, 6, none⟩ P (.slice lA2 (y.l.length + 1) lc2) (by have := hPw.out; show P ≠ B; omega)).trans RP9.out)
          clear HIa HINa
          have HBX := Lib.hid ((((below_then HB3.out HU1.out).mono (Nat.le_of_lt hBl)).grown HG9.out (by have := HU1.out.size; have := HB3.out.size; omega) (fun j hj => by have := (hLo.out j hj).2; have := HI.out.BD; omega)).setCell (p := ⟨B, 6, none⟩) (Nat.le_refl _) (.slice lA2 (y.l.length + 1) lc2))
          go_wp2_with fail
          go_meet
          exact ⟨lA2, lc2, HIF, HINF, RPF, HBX⟩
        exact AllReadyU.nil
      exact AllReadyU.nil
    exact AllReadyU.nil
  case rest =>
    obtain ⟨lA2, lc2, HI4, HIN4, RP4, HBX4⟩ := hcut
    obtain ⟨w4, rfl⟩ : ∃ w3 : World, w3 = wc := ⟨_, rfl⟩
    clear KS K2
    have hB4 := HI4.out.lt
    have hP4 := (Array.getElem?_eq_some_iff.1 RP4.out).1
    obtain ⟨W5, hW5⟩ : ∃ W5, w4.alloc (.cells #[.int .i64 0, .int .i64 0, .slice none 0 0, .slice none 0 0, .slice none 0 0] 61) = W5 := ⟨_, rfl⟩
    have HB5 : Hid (Below w4.heap.size w4 W5) := hW5 ▸ below_new (Below.refl w4.heap.size w4) _
    have RF : Hid (W5.heap[w4.heap.size]? = some (.cells #[.int .i64 0, .int .i64 0, .slice none 0 0, .slice none 0 0, .slice none 0 0] 61 (0, 0))) := hW5 ▸ heap_alloc_new _ _
    have HW5 := Lib.hid hW5
    clear hW5
    have hFw : Hid (w.heap.size ≤ w4.heap.size) := by show w.heap.size ≤ w4.heap.size; have := HI4.out.below.size; have h2 := hPw.out; omega
    go_upto_region 4 with fail
    rw [HW5.out]
    clear HW5
    obtain ⟨F, hF⟩ : ∃ F, w4.heap.size = F := ⟨_, rfl⟩
    rw [hF] at RF hFw
    rw [hF]
    have HF4 := Lib.hid hF
    clear hF
    have TO := Lib.hid fun w' => wown_any (x.vc y.c) (x.vs y.c) ⟨_, _, _, rfl⟩ ⟨_, _, _, rfl⟩ y.c.threads ⟨what, 1, ch, th, v % 4, v % 8, v, 0, 0, 0, 0⟩ w'
    have hown2 : ownM ⟨what, 1, ch, th, v % 4, v % 8, v, 0, 0, 0, 0⟩ = true := hwh
    have HOWN : Hid (ownM ⟨what, 1, ch, th, v % 4, v % 8, v, 0, 0, 0, 0⟩ = true) := hown2
    rw [hown2] at TO
    unfold machL WV.vc WV.vs at TO
    try dsimp only at TO
    obtain ⟨q0, q1, q2, q3, q4, q5, q6, q7, q8, q9, q10, q11, q12, q13⟩ := rowc14 ((HB5.out.block P hP4).trans RP4.out)
    clear hown2
    go_wp2_with fail
    refine (TO.out _).mono ?_; rintro e w6 ⟨rfl, hb6⟩
    have HB6 := Lib.hid (below_then HB5.out hb6)
    have RF6 := Lib.hid ((hb6.block F (Array.getElem?_eq_some_iff.1 RF.out).1).trans RF.out)
    clear hb6 TO q0 q1 q2 q3 q4 q5 q6 q7 q8 q9 q10 q11 q12 q13 RF
    have RB4 := HI4.out.row
    unfold WV.row at RB4
    have RB4 := Lib.hid RB4
    have TS := Lib.hid HST.out
    unfold Starts machL WV.vc WV.vs at TS
    try dsimp only at TS
    have KS : Hid (∀ w', Below w4.heap.size w4 w' → (fun w' : World => (w'.cell? ⟨B, 0, none⟩ = some (.slice x.cA y.c.caps.length x.cc) ∧ w'.cell? ⟨B, 1, none⟩ = some (.slice x.sA y.c.starts.length x.sc) ∧ w'.cell? ⟨B, 2, none⟩ = some (.int .i64 y.c.threads)) ∧ (w'.cell? ⟨P, 0, none⟩ = some (.int .i64 what) ∧ w'.cell? ⟨P, 1, none⟩ = some (.int .i64 1) ∧ w'.cell? ⟨P, 2, none⟩ = some (.slice x.cA y.c.caps.length x.cc) ∧ w'.cell? ⟨P, 3, none⟩ = some (.slice x.sA y.c.starts.length x.sc) ∧ w'.cell? ⟨P, 4, none⟩ = some (.int .i64 y.c.threads) ∧ w'.cell? ⟨P, 5, none⟩ = some (.int .i64 ch) ∧ w'.cell? ⟨P, 6, none⟩ = some (.int .i64 th) ∧ w'.cell? ⟨P, 7, none⟩ = some (.int .i64 (v % 4)) ∧ w'.cell? ⟨P, 8, none⟩ = some (.int .i64 (v % 8)) ∧ w'.cell? ⟨P, 9, none⟩ = some (.int .u64 v) ∧ w'.cell? ⟨P, 10, none⟩ = some (.int .u64 0) ∧ w'.cell? ⟨P, 11, none⟩ = some (.int .u64 0) ∧ w'.cell? ⟨P, 12, none⟩ = some (.int .i64 0) ∧ w'.cell? ⟨P, 13, none⟩ = some (.int .u64 0))) w') := fun w' hb => by
      obtain ⟨x0, x1, x2, x3, x4, x5, x6, x7, x8, x9⟩ := rowc10 ((hb.block B hB4).trans RB4.out)
      exact ⟨⟨x0, x1, x2⟩, rowc14 ((hb.block P hP4).trans RP4.out)⟩
    go_upto_region 5 with fail
    go_cut [] (fun wx => ∃ r0 r1 s2 k2 l2 s3 k3 l3 s4 k4 l4, Hid (WI 49 w0 wx E B D { x with lA := lA2, lc := lc2 } { y with l := y.l ++ [⟨what, 1, ch, th, v % 4, v % 8, v, 0, 0, 0, 0⟩] }) ∧ Hid (∀ w3, OffS (WV.S { x with lA := lA2, lc := lc2 } E B) wx w3 → OffS (x.S E B) w w3) ∧ Hid (R (OffS (WV.S { x with lA := lA2, lc := lc2 } E B) wx) y.c [.int .i64 r0, .int .i64 r1, .slice s2 k2 l2, .slice s3 k3 l3, .slice s4 k4 l4] ⟨what, 1, ch, th, v % 4, v % 8, v, 0, 0, 0, 0⟩) ∧ Hid (wx.heap[F]? = some (.cells #[.int .i64 r0, .int .i64 r1, .slice s2 k2 l2, .slice s3 k3 l3, .slice s4 k4 l4] 61 (0, 0))) ∧ Hid (Below B w wx))
    case first =>
      refine untilK KS 7 8 (by kernel_rfl) rfl ?_
      obtain ⟨u0, hu0, HU00⟩ := drew_pack w6
      rw [hu0]
      clear hu0
      have HU0 := Lib.hid (below_then HB6.out HU00.out)
      have hSU0 := KS.out _ HU0.out
      refine tkU (v := ?_) 0 la0 hSU0 (by kernel_rfl) (fun _ _ _ h => h) rfl ?_ ?_
      rotate_left
      · (intro w hSw; (try dsimp only at hSw); go_simp <;> with_reducible rfl)
      simp only [Act.put, List.setIfInBounds_toArray, List.set_cons_zero, List.set_cons_succ]
      refine tkU (v := ?_) 1 la1 hSU0 (by kernel_rfl) (fun _ _ _ h => h) rfl ?_ ?_
      rotate_left
      · (intro w hSw; (try dsimp only at hSw); go_simp <;> with_reducible rfl)
      simp only [Act.put, List.setIfInBounds_toArray, List.set_cons_zero, List.set_cons_succ]
      refine tkU (v := ?_) 2 la2 hSU0 (by kernel_rfl) (fun _ _ _ h => h) rfl ?_ ?_
      rotate_left
      · (intro w hSw; (try dsimp only at hSw); go_simp <;> with_reducible rfl)
      simp only [Act.put, List.setIfInBounds_toArray, List.set_cons_zero, List.set_cons_succ]
      refine tkU (v := ?_) 3 la3 hSU0 (by kernel_rfl) (fun _ _ _ h => h) rfl ?_ ?_
      rotate_left
      · (intro w hSw; (try dsimp only at hSw); go_simp <;> with_reducible rfl)
      simp only [Act.put, List.setIfInBounds_toArray, List.set_cons_zero, List.set_cons_succ]
      refine tkU (v := ?_) 4 la4 hSU0 (by kernel_rfl) (fun _ _ _ h => h) rfl ?_ ?_
      rotate_left
      · (intro w hSw; (try dsimp only at hSw); go_simp <;> with_reducible rfl)
      simp only [Act.put, List.setIfInBounds_toArray, List.set_cons_zero, List.set_cons_succ]
      refine tkU (v := ?_) 5 la5 hSU0 (by kernel_rfl) (fun _ _ _ h => h) rfl ?_ ?_
      rotate_left
      · (intro w hSw; (try dsimp only at hSw); go_simp <;> with_reducible rfl)
      simp only [Act.put, List.setIfInBounds_toArray, List.set_cons_zero, List.set_cons_succ]
      refine wpAnyU_ready (rs := [6]) (by kernel_rfl) rfl ?_
      refine AllReadyU.cons la6 rfl (fun K hK => ?_) ?_
      · go_simp
        go_at_call 25
        refine (TS.out _ (HI4.out.next HU0.out).confV).mono ?_
        rintro e u1 ⟨f2, rfl, hr2, hb⟩
        obtain ⟨r0, r1, s2, k2, l2, s3, k3, l3, s4, k4, l4, rfl⟩ := hs.form hr2 HOWN.out
        have HR2 := Lib.hid hr2
        have HUb := Lib.hid hb
        have HU1 := Lib.hid (below_then HU0.out hb)
        clear hb hr2
        try dsimp only
        refine hK.out _ _ ?_ (fun hSU1 => ?_)
        · exact KS.out _ HU1.out
        clear hK K hSU0
        try simp only [Act.put, List.setIfInBounds_toArray, List.set_cons_zero, List.set_cons_succ]
        refine wpAnyU_ready (rs := [7]) (by kernel_rfl) rfl ?_
        refine AllReadyU.free la7 rfl (by kernel_rfl) (fun K hK => ?_) ?_
        · have RF8 := Lib.hid (((below_then HU00.out HUb.out).block F (Array.getElem?_eq_some_iff.1 RF6.out).1).trans RF6.out)
          refine step_store_row rfl 61 _ _ rfl F _ rfl rfl 61 #[.int .i64 0, .int .i64 0, .slice none 0 0, .slice none 0 0, .slice none 0 0] RF8.out (by kernel_rfl) rfl (by simp [Value.oneCell']) ?_
          refine hK.out _ _ ?_
          clear hK K hSU1
          try simp only [Act.put, List.setIfInBounds_toArray, List.set_cons_zero, List.set_cons_succ]
          refine wpAnyU_done (by kernel_rfl) ?_ _
          have HUF := Lib.hid (row_below HU1.out (Nat.le_of_eq HF4.out) #[.int .i64 r0, .int .i64 r1, .slice s2 k2 l2, .slice s3 k3 l3, .slice s4 k4 l4])
          have hF0 : Hid (F < u0.heap.size) := Nat.lt_of_lt_of_le (Array.getElem?_eq_some_iff.1 RF6.out).1 HU00.out.size
          have HRF : Hid (R (OffS (WV.S { x with lA := lA2, lc := lc2 } E B) (u1.setRow F #[.int .i64 r0, .int .i64 r1, .slice s2 k2 l2, .slice s3 k3 l3, .slice s4 k4 l4])) y.c [.int .i64 r0, .int .i64 r1, .slice s2 k2 l2, .slice s3 k3 l3, .slice s4 k4 l4] ⟨what, 1, ch, th, v % 4, v % 8, v, 0, 0, 0, 0⟩) := hs.sub HR2.out fun w3 h3 => ⟨Nat.le_trans (by simp [World.setRow]) h3.1, fun j h1 h2 => (h3.2 j (by simpa [World.setRow] using h2) (fun e => by have := HI4.out.Slt j e; have := HU0.out.size; omega)).trans (setRow_other _ _ _ _ (by have := hF0.out; omega))⟩
          have RFF := Lib.hid (setRow_heap u1 F _ #[.int .i64 r0, .int .i64 r1, .slice s2 k2 l2, .slice s3 k3 l3, .slice s4 k4 l4] _ (0, 0) RF8.out)
          have HBX := Lib.hid (HBX4.out.trans (HUF.out.mono (Nat.le_of_lt hB4)))
          have HIF := Lib.hid (HI4.out.next HUF.out)
          have HINF : Hid (∀ w3, OffS (WV.S { x with lA := lA2, lc := lc2 } E B) (u1.setRow F #[.int .i64 r0, .int .i64 r1, .slice s2 k2 l2, .slice s3 k3 l3, .slice s4 k4 l4]) w3 → OffS (x.S E B) w w3) := fun w3 h3 => HIN4.out w3 ((OffS.below HUF.out).trans1 h3)
          go_wp2_with fail
          go_meet
          exact ⟨r0, r1, s2, k2, l2, s3, k3, l3, s4, k4, l4, HIF, HINF, HRF, RFF, HBX⟩
        exact AllReadyU.nil
      exact AllReadyU.nil
    case rest =>
      obtain ⟨r0, r1, s2, k2, l2, s3, k3, l3, s4, k4, l4, HI7, HIN7, HR7, RF7, HBX7⟩ := hcut
      obtain ⟨w7, rfl⟩ : ∃ w3 : World, w3 = wc := ⟨_, rfl⟩
      clear KS TS RB4
      have hB7 := HI7.out.lt
      have hF7 := (Array.getElem?_eq_some_iff.1 RF7.out).1
      have K6 : Hid (∀ w', w'.heap[B]? = some (.cells (WV.row { x with lA := lA2, lc := lc2 } { y with l := y.l ++ [⟨what, 1, ch, th, v % 4, v % 8, v, 0, 0, 0, 0⟩] }) 49 (0, 0)) → w'.heap[F]? = some (.cells #[.int .i64 r0, .int .i64 r1, .slice s2 k2 l2, .slice s3 k3 l3, .slice s4 k4 l4] 61 (0, 0)) → (fun w' : World => (w'.cell? ⟨B, 9, none⟩ = some (.slice x.fA y.f.length x.fc)) ∧ (w'.cell? ⟨F, 0, none⟩ = some (.int .i64 r0) ∧ w'.cell? ⟨F, 1, none⟩ = some (.int .i64 r1) ∧ w'.cell? ⟨F, 2, none⟩ = some (.slice s2 k2 l2) ∧ w'.cell? ⟨F, 3, none⟩ = some (.slice s3 k3 l3) ∧ w'.cell? ⟨F, 4, none⟩ = some (.slice s4 k4 l4))) w') := fun w' h1 h2 => by
        unfold WV.row at h1
        obtain ⟨x0, x1, x2, x3, x4, x5, x6, x7, x8, x9⟩ := rowc10 h1
        obtain ⟨z0, z1, z2, z3, z4⟩ := rowc5 h2
        exact ⟨x9, z0, z1, z2, z3, z4⟩
      have KS : Hid (∀ w', Below w7.heap.size w7 w' → (fun w' : World => (w'.cell? ⟨B, 9, none⟩ = some (.slice x.fA y.f.length x.fc)) ∧ (w'.cell? ⟨F, 0, none⟩ = some (.int .i64 r0) ∧ w'.cell? ⟨F, 1, none⟩ = some (.int .i64 r1) ∧ w'.cell? ⟨F, 2, none⟩ = some (.slice s2 k2 l2) ∧ w'.cell? ⟨F, 3, none⟩ = some (.slice s3 k3 l3) ∧ w'.cell? ⟨F, 4, none⟩ = some (.slice s4 k4 l4))) w') := fun w' hb => K6.out w' ((hb.block B hB7).trans HI7.out.row) ((hb.block F hF7).trans RF7.out)
      have hfI : ((y.f.length : Nat) : Int) < (y.f.length : Int) + 1 := by omega
      go_upto_region 6 with fail
      have HSETE : Hid ((y.f ++ [([.int .i64 0, .int .i64 0, .slice none 0 0, .slice none 0 0, .slice none 0 0] : List Value)]).set y.f.length ([.int .i64 r0, .int .i64 r1, .slice s2 k2 l2, .slice s3 k3 l3, .slice s4 k4 l4] : List Value) = y.f ++ [([.int .i64 r0, .int .i64 r1, .slice s2 k2 l2, .slice s3 k3 l3, .slice s4 k4 l4] : List Value)]) := by show _ = _; simp
      have KFR : Hid (∀ nf fc2 wf, (∀ w3, OffS (WV.S { x with lA := lA2, lc := lc2, fA := some ⟨nf, 0, none⟩, fc := fc2 } E B) wf w3 → OffS (WV.S { x with lA := lA2, lc := lc2 } E B) w7 w3) → FrI R (OffS (WV.S { x with lA := lA2, lc := lc2, fA := some ⟨nf, 0, none⟩, fc := fc2 } E B) wf) { y with l := y.l ++ [⟨what, 1, ch, th, v % 4, v % 8, v, 0, 0, 0, 0⟩], f := y.f ++ [[.int .i64 r0, .int .i64 r1, .slice s2 k2 l2, .slice s3 k3 l3, .slice s4 k4 l4]] }) := fun nf fc2 wf hin => by
        refine ⟨by show (y.f ++ [_]).length = (y.l ++ [_]).length; simp [HF.out.1], fun j h4 h5 => ?_⟩
        have h6 : j < y.f.length + 1 := by simpa using h4
        by_cases hj : j = y.f.length
        · have e1 : (WM.f { y with l := y.l ++ [⟨what, 1, ch, th, v % 4, v % 8, v, 0, 0, 0, 0⟩], f := y.f ++ [[.int .i64 r0, .int .i64 r1, .slice s2 k2 l2, .slice s3 k3 l3, .slice s4 k4 l4]] })[j] = [.int .i64 r0, .int .i64 r1, .slice s2 k2 l2, .slice s3 k3 l3, .slice s4 k4 l4] := by subst hj; show (y.f ++ [_])[y.f.length] = _; simp
          have e2 : (WM.l { y with l := y.l ++ [⟨what, 1, ch, th, v % 4, v % 8, v, 0, 0, 0, 0⟩], f := y.f ++ [[.int .i64 r0, .int .i64 r1, .slice s2 k2 l2, .slice s3 k3 l3, .slice s4 k4 l4]] })[j] = ⟨what, 1, ch, th, v % 4, v % 8, v, 0, 0, 0, 0⟩ := by subst hj; show (y.l ++ [_])[y.f.length] = _; simp [HF.out.1]
          rw [e1, e2]
          exact hs.sub HR7.out hin
        · have h7 : j < y.f.length := by omega
          have h8 : j < y.l.length := by rw [← HF.out.1]; exact h7
          have e1 : (WM.f { y with l := y.l ++ [⟨what, 1, ch, th, v % 4, v % 8, v, 0, 0, 0, 0⟩], f := y.f ++ [[.int .i64 r0, .int .i64 r1, .slice s2 k2 l2, .slice s3 k3 l3, .slice s4 k4 l4]] })[j] = y.f[j] := by show (y.f ++ [_])[j] = _; rw [List.getElem_append_left h7]
          have e2 : (WM.l { y with l := y.l ++ [⟨what, 1, ch, th, v % 4, v % 8, v, 0, 0, 0, 0⟩], f := y.f ++ [[.int .i64 r0, .int .i64 r1, .slice s2 k2 l2, .slice s3 k3 l3, .slice s4 k4 l4]] })[j] = y.l[j] := by show (y.l ++ [_])[j] = _; rw [List.getElem_append_left h8]
          rw [e1, e2]
          exact hs.sub (HF.out.2 j h7 h8) fun w3 h3 => HIN7.out w3 (hin w3 h3)
      refine untilK KS 7 13 (by kernel_rfl) rfl ?_
      obtain ⟨u0, hu0, HU0⟩ := drew_pack w7
      rw [hu0]
      clear hu0
      have hSU0 := KS.out _ HU0.out
      refine tkU (v := ?_) 0 la0 hSU0 (by kernel_rfl) (fun _ _ _ h => h) rfl ?_ ?_
      rotate_left
      · (intro w hSw; (try dsimp only at hSw); go_simp <;> with_reducible rfl)
      simp only [Act.put, List.setIfInBounds_toArray, List.set_cons_zero, List.set_cons_succ]
      refine tkU (v := ?_) 1 la1 hSU0 (by kernel_rfl) (fun _ _ _ h => h) rfl ?_ ?_
      rotate_left
      · (intro w hSw; (try dsimp only at hSw); go_simp <;> with_reducible rfl)
      simp only [Act.put, List.setIfInBounds_toArray, List.set_cons_zero, List.set_cons_succ]
      refine tkU (v := ?_) 2 la2 hSU0 (by kernel_rfl) (fun _ _ _ h => h) rfl ?_ ?_
      rotate_left
      · (intro w hSw; (try dsimp only at hSw); go_simp <;> with_reducible rfl)
      simp only [Act.put, List.setIfInBounds_toArray, List.set_cons_zero, List.set_cons_succ]
      refine tkU (v := ?_) 3 la3 hSU0 (by kernel_rfl) (fun _ _ _ h => h) rfl ?_ ?_
      rotate_left
      · (intro w hSw; (try dsimp only at hSw); go_simp <;> with_reducible rfl)
      simp only [Act.put, List.setIfInBounds_toArray, List.set_cons_zero, List.set_cons_succ]
      refine tkU (v := ?_) 4 la4 hSU0 (by kernel_rfl) (fun _ _ _ h => h) rfl ?_ ?_
      rotate_left
      · (intro w hSw; (try dsimp only at hSw); go_simp <;> with_reducible rfl)
      simp only [Act.put, List.setIfInBounds_toArray, List.set_cons_zero, List.set_cons_succ]
      refine tkU (v := ?_) 5 la5 hSU0 (by kernel_rfl) (fun _ _ _ h => h) rfl ?_ ?_
      rotate_left
      · (intro w hSw; (try dsimp only at hSw); go_simp <;> with_reducible rfl)
      simp only [Act.put, List.setIfInBounds_toArray, List.set_cons_zero, List.set_cons_succ]
      refine wpAnyU_ready (rs := [6]) (by kernel_rfl) rfl ?_
      refine AllReadyU.cons la6 rfl (fun K hK => ?_) ?_
      · go_simp
        obtain ⟨u1, bI, hv, hXe, RL, hbX, ltI⟩ := alloc_pack u0 (.cells #[.int .i64 0, .int .i64 0, .slice none 0 0, .slice none 0 0, .slice none 0 0] 61)
        rw [hv, hXe]
        have HU1 := Lib.hid (below_then HU0.out hbX.out)
        clear hv hXe hbX
        refine hK.out _ _ ?_ (fun hSU1 => ?_)
        · exact KS.out _ HU1.out
        clear hK K hSU0
        try simp only [Act.put, List.setIfInBounds_toArray, List.set_cons_zero, List.set_cons_succ]
        refine wpAnyU_ready (rs := [7]) (by kernel_rfl) rfl ?_
        refine AllReadyU.free la7 rfl (by kernel_rfl) (fun K hK => ?_) ?_
        · refine step_append_s (w := u1) 47 (by kernel_rfl) Try.info_frame rfl (by decide) (by decide) (by rfl) _ _ (by rfl) (by rfl) (HI7.out.next HU1.out).of [.int .i64 0, .int .i64 0, .slice none 0 0, .slice none 0 0, .slice none 0 0] rfl (by intro u hu; simp only [List.mem_cons, List.not_mem_nil, or_false] at hu; rcases hu with rfl | rfl | rfl | rfl | rfl <;> rfl) bI (by rfl) RL.out (by show y.f.length ≤ 1000000; omega) (HI7.out.next HU1.out).Dw ?_
          intro v9 u2 ho9 hg9 hbk9
          obtain ⟨nf, fc2, e9, hnf, hnfs, -⟩ := ho9.open (by simp)
          rw [List.length_append, List.length_singleton] at e9
          subst e9
          have HO9 := Lib.hid ho9
          have HG9 := Lib.hid hg9
          have HK9 := Lib.hid hbk9
          have hnfD := Lib.hid hnf
          clear ho9 hg9 hbk9 hnf
          have hLo : Hid (∀ j, (x.vf y).ownBlock = some j → j < w.heap.size ∧ D ≤ j) := fun j hj => ⟨(HI.out.of.lt j hj).2, (HI.out.of.lt j hj).1⟩
          have hnF : Hid (nf ≠ F) := fun e => by have h1 := HK9.out; have h2 := HU1.out.size; rcases h1 with h1 | h1; have := (hLo.out nf h1.symm).1; have := hFw.out; omega; (simp only [Value.ownBlock, Option.some.injEq] at h1; omega)
          have RB9 := Lib.hid ((HG9.out.block B (HI7.out.next HU1.out).lt (fun e => by have := (hLo.out B e.symm).2; have := HI.out.BD; omega)).trans (HI7.out.next HU1.out).row)
          have RF9 := Lib.hid ((HG9.out.block F (Nat.lt_of_lt_of_le hF7 HU1.out.size) (fun e => by have := (hLo.out F e.symm).1; have := hFw.out; omega)).trans ((HU1.out.block F hF7).trans RF7.out))
          refine hK.out _ _ ?_
          clear hK K hSU1
          try simp only [Act.put, List.setIfInBounds_toArray, List.set_cons_zero, List.set_cons_succ]
          refine wpAnyU_takeW (v := ?_) 8 la8 (by kernel_rfl) (by kernel_rfl) (by kernel_rfl) (by kernel_rfl) (fun _ _ _ h => h) (past_k (by kernel_rfl)) rfl ?_ ?_
          rotate_left
          · (intro w; go_simp <;> with_reducible rfl)
          simp only [Act.put, List.setIfInBounds_toArray, List.set_cons_zero, List.set_cons_succ]
          refine wpAnyU_takeW (v := ?_) 10 la10 (by kernel_rfl) (by kernel_rfl) (by kernel_rfl) (by kernel_rfl) (fun _ _ _ h => h) (past_k (by kernel_rfl)) rfl ?_ ?_
          rotate_left
          · (intro w; go_simp <;> with_reducible rfl)
          simp only [Act.put, List.setIfInBounds_toArray, List.set_cons_zero, List.set_cons_succ]
          refine wpAnyU_takeW (v := ?_) 11 la11 (by kernel_rfl) (by kernel_rfl) (by kernel_rfl) (by kernel_rfl) (fun _ _ _ h => h) (past_k (by kernel_rfl)) rfl ?_ ?_
          rotate_left
          · (intro w; go_simp <;> with_reducible rfl)
          simp only [Act.put, List.setIfInBounds_toArray, List.set_cons_zero, List.set_cons_succ]
          refine wpAnyU_ready (rs := [9, 12]) (by kernel_rfl) rfl ?_
          refine AllReadyU.free la9 rfl (by kernel_rfl) (fun K hK => ?_) ?_
          · refine step_store_mid rfl 61 _ _ rfl nf (y.f.length * 5) #[.int .i64 r0, .int .i64 r1, .slice s2 k2 l2, .slice s3 k3 l3, .slice s4 k4 l4] (by rfl) (by rfl) (HO9.out.row y.f.length (by simp)).2 (by kernel_rfl) (by simp [Value.oneCell']) ?_
            refine hK.out _ _ ?_
            clear hK K
            try simp only [Act.put, List.setIfInBounds_toArray, List.set_cons_zero, List.set_cons_succ]
            refine wpAnyU_ready (rs := [12]) (by kernel_rfl) rfl ?_
            refine AllReadyU.free la12 rfl (by kernel_rfl) (fun K hK => ?_) ?_
            · have RB9' := (setCells_other nf [.int .i64 r0, .int .i64 r1, .slice s2 k2 l2, .slice s3 k3 l3, .slice s4 k4 l4] (y.f.length * 5) u2 B (by have := hnfD.out; have := HI.out.BD; omega)).trans RB9.out
              unfold WV.row at RB9'
              have RB9'' := Lib.hid RB9'
              have HG10 := Lib.hid (setCells_grown nf [.int .i64 r0, .int .i64 r1, .slice s2 k2 l2, .slice s3 k3 l3, .slice s4 k4 l4] (y.f.length * 5) u2)
              have HO10 := Lib.hid (HO9.out.setRow (r := [.int .i64 r0, .int .i64 r1, .slice s2 k2 l2, .slice s3 k3 l3, .slice s4 k4 l4]) y.f.length (by simp) rfl (by intro u hu; simp only [List.mem_cons, List.not_mem_nil, or_false] at hu; rcases hu with rfl | rfl | rfl | rfl | rfl <;> rfl))
              obtain ⟨u4, hu4⟩ : ∃ u4, u2.setCells nf (y.f.length * 5) [.int .i64 r0, .int .i64 r1, .slice s2 k2 l2, .slice s3 k3 l3, .slice s4 k4 l4] = u4 := ⟨_, rfl⟩
              rw [hu4] at RB9'' HG10 HO10
              simp only [hu4]
              clear RB9' hu4
              obtain ⟨x0, x1, x2, x3, x4, x5, x6, x7, x8, x9⟩ := rowc10 RB9''.out
              have f9 := frozen_of_row _ _ 9 _ _ RB9''.out
              go_simp
              refine hK.out _ _ ?_
              clear hK K
              try simp only [Act.put, List.setIfInBounds_toArray, List.set_cons_zero, List.set_cons_succ]
              refine wpAnyU_done (by kernel_rfl) ?_ _
              clear x0 x1 x2 x3 x4 x5 x6 x7 x8 x9 f9
              rw [HSETE.out] at HO10
              have hgr : Hid (u1.grownBy u4 (x.vf y).ownBlock) := by
                have h1 := HK9.out
                refine ⟨HG10.out.os.trans HG9.out.os, HG10.out.tape.trans HG9.out.tape, HG10.out.output.trans HG9.out.output, Nat.le_trans HG9.out.size HG10.out.size, fun j hj hn => (HG10.out.block j (Nat.lt_of_lt_of_le hj HG9.out.size) (fun e => ?_)).trans (HG9.out.block j hj hn)⟩
                cases e
                rcases h1 with h1 | h1
                · exact hn h1
                · simp only [Value.ownBlock, Option.some.injEq] at h1; omega
              obtain ⟨HIa, HINa⟩ := (HI7.out.next HU1.out).addF (z := [.int .i64 r0, .int .i64 r1, .slice s2 k2 l2, .slice s3 k3 l3, .slice s4 k4 l4]) HO10.out hgr.out (by have := HK9.out; rw [WV.vf, own_addr, own_addr] at this; exact this)
              have HIF := Lib.hid HIa
              have HINF := Lib.hid fun w3 h3 => (OffS.below (S := WV.S { x with lA := lA2, lc := lc2 } E B) HU1.out).trans1 (HINa w3 h3)
              clear HIa HINa
              have HBX := Lib.hid (((HBX7.out.trans (HU1.out.mono (Nat.le_of_lt hB7))).grown hgr (by have := HU1.out.size; omega) (fun j hj => by have := (hLo.out j hj).2; have := HI.out.BD; omega)).setCell (p := ⟨B, 9, none⟩) (Nat.le_refl _) (.slice (some ⟨nf, 0, none⟩) (y.f.length + 1) fc2))
              have HFF := Lib.hid (KFR.out _ _ _ HINF.out)
              go_wp2_with fail
              go_end0; exact ⟨_, [.int .i64 r0, .int .i64 r1, .slice s2 k2 l2, .slice s3 k3 l3, .slice s4 k4 l4], rfl, HIF, HFF, HBX, Lib.hid fun w3 h3 => HIN7.out _ (HINF.out _ h3)⟩
            exact AllReadyU.nil
          refine AllReadyU.free la12 rfl (by kernel_rfl) (fun K hK => ?_) ?_
          · have RB9' := RB9.out
            unfold WV.row at RB9'
            obtain ⟨x0, x1, x2, x3, x4, x5, x6, x7, x8, x9⟩ := rowc10 RB9'
            have f9 := frozen_of_row _ _ 9 _ _ RB9'
            clear RB9'
            go_simp
            clear x0 x1 x2 x3 x4 x5 x6 x7 x8 x9 f9
            refine hK.out _ _ ?_
            clear hK K
            try simp only [Act.put, List.setIfInBounds_toArray, List.set_cons_zero, List.set_cons_succ]
            refine wpAnyU_ready (rs := [9]) (by kernel_rfl) rfl ?_
            refine AllReadyU.free la9 rfl (by kernel_rfl) (fun K hK => ?_) ?_
            · refine step_store_mid rfl 61 _ _ rfl nf (y.f.length * 5) #[.int .i64 r0, .int .i64 r1, .slice s2 k2 l2, .slice s3 k3 l3, .slice s4 k4 l4] (by rfl) (by rfl) ((HO9.out.keptB (o := 9) (u := .slice (some ⟨nf, 0, none⟩) (y.f.length + 1) fc2) HI.out.BD).row y.f.length (by simp)).2 (by kernel_rfl) (by simp [Value.oneCell']) ?_
              refine hK.out _ _ ?_
              clear hK K
              try simp only [Act.put, List.setIfInBounds_toArray, List.set_cons_zero, List.set_cons_succ]
              refine wpAnyU_done (by kernel_rfl) ?_ _
              obtain ⟨HIa, HINa⟩ := (HI7.out.next HU1.out).addF (z := [.int .i64 0, .int .i64 0, .slice none 0 0, .slice none 0 0, .slice none 0 0]) HO9.out HG9.out (by have := HK9.out; rw [WV.vf, own_addr, own_addr] at this; exact this)
              obtain ⟨HIb, HINb⟩ := HIa.setF (b := nf) (i := y.f.length) (z := [.int .i64 r0, .int .i64 r1, .slice s2 k2 l2, .slice s3 k3 l3, .slice s4 k4 l4]) (n := y.f.length + 1) (cap := fc2) (by show Value.slice _ (y.f ++ [_]).length _ = _; simp) (by show y.f.length < (y.f ++ [_]).length; simp) rfl (by intro u hu; simp only [List.mem_cons, List.not_mem_nil, or_false] at hu; rcases hu with rfl | rfl | rfl | rfl | rfl <;> rfl)
              have HINF := Lib.hid fun w3 h3 => (OffS.below (S := WV.S { x with lA := lA2, lc := lc2 } E B) HU1.out).trans1 (HINa w3 (HINb w3 h3))
              have HBX := Lib.hid ((((HBX7.out.trans (HU1.out.mono (Nat.le_of_lt hB7))).grown HG9.out (by have := HU1.out.size; omega) (fun j hj => by have := (hLo.out j hj).2; have := HI.out.BD; omega)).setCell (p := ⟨B, 9, none⟩) (Nat.le_refl _) (.slice (some ⟨nf, 0, none⟩) (y.f.length + 1) fc2)).grown (setCells_grown nf [.int .i64 r0, .int .i64 r1, .slice s2 k2 l2, .slice s3 k3 l3, .slice s4 k4 l4] (y.f.length * 5) _) (by have := HU1.out.size; have := HG9.out.size; simp; omega) (fun j hj => by cases hj; have := hnfD.out; have := HI.out.BD; omega))
              have HIF := Lib.hid HIb
              dsimp only at HIF
              rw [HSETE.out] at HIF
              clear HIa HINa HIb HINb
              have HFF := Lib.hid (KFR.out _ _ _ HINF.out)
              go_wp2_with fail
              go_end0; exact ⟨_, [.int .i64 r0, .int .i64 r1, .slice s2 k2 l2, .slice s3 k3 l3, .slice s4 k4 l4], rfl, HIF, HFF, HBX, Lib.hid fun w3 h3 => HIN7.out _ (HINF.out _ h3)⟩
            exact AllReadyU.nil
          exact AllReadyU.nil
        exact AllReadyU.nil
      exact AllReadyU.nil
set_option maxRecDepth 100000 in
set_option maxHeartbeats 32000000 in
theorem wadd_not {NE : ConfM → MachM → AccM} {RE : ConfM → MachM → AnsM → MachM} {R : (World → Prop) → ConfM → List Value → MachM → Prop} (hs : Sim NE RE ownM R)
    {w0 w : World} {E : List (Option Nat)} {B D : Nat} {x : WV} {y : WM} (h : WI 49 w0 w E B D x y) (hf : FrI R (OffS (x.S E B) w) y) (what ch th v : Int) (hwh : ownM ⟨what, 1, ch, th, v % 4, v % 8, v, 0, 0, 0, 0⟩ = false) (hv0 : 0 ≤ v) (hl : y.l.length ≤ 1000) :
    Calls Try.prog 8 #[.pointer (some ⟨B, 0, none⟩), .int .i64 what, .int .i64 ch, .int .i64 th, .int .u64 v] w (AddQ R w0 w E B D x y ⟨what, 1, ch, th, v % 4, v % 8, v, 0, 0, 0, 0⟩) := by
  have HI := Lib.hid h
  have HF := Lib.hid hf
  have hBl := h.lt
  have hlf : y.f.length ≤ 1000 := by rw [hf.1]; exact hl
  have TW := Lib.hid fun w' => machNew_any x.cA x.sA x.cc x.sc y.c what ch th w'
  unfold machL at TW
  try dsimp only at TW
  have row0 := h.row
  unfold WV.row at row0
  have ROW := Lib.hid row0
  clear h hf row0
  go_enter Try.func8, Try.ntmps8
  obtain ⟨x0, x1, x2, x3, x4, x5, x6, x7, x8, x9⟩ := rowc10 ROW.out
  go_wp2_with fail
  refine (TW.out _).mono ?_; rintro e w1 ⟨rfl, hb1⟩
  have HB1 := Lib.hid hb1
  clear hb1 TW x0 x1 x2 x3 x4 x5 x6 x7 x8 x9
  obtain ⟨W2, hW2⟩ : ∃ W2, (w1.alloc (.cells #[.int .i64 0, .int .i64 0, .slice none 0 0, .slice none 0 0, .int .i64 0, .int .i64 0, .int .i64 0, .int .i64 0, .int .i64 0, .int .u64 0, .int .u64 0, .int .u64 0, .int .i64 0, .int .u64 0] 58)).setRow w1.heap.size #[.int .i64 what, .int .i64 1, .slice x.cA y.c.caps.length x.cc, .slice x.sA y.c.starts.length x.sc, .int .i64 y.c.threads, .int .i64 ch, .int .i64 th, .int .i64 0, .int .i64 0, .int .u64 0, .int .u64 0, .int .u64 0, .int .i64 0, .int .u64 0] = W2 := ⟨_, rfl⟩
  have N2 : Hid ((w1.alloc (.cells #[.int .i64 0, .int .i64 0, .slice none 0 0, .slice none 0 0, .int .i64 0, .int .i64 0, .int .i64 0, .int .i64 0, .int .i64 0, .int .u64 0, .int .u64 0, .int .u64 0, .int .i64 0, .int .u64 0] 58)).heap[w1.heap.size]? = some (.cells #[.int .i64 0, .int .i64 0, .slice none 0 0, .slice none 0 0, .int .i64 0, .int .i64 0, .int .i64 0, .int .i64 0, .int .i64 0, .int .u64 0, .int .u64 0, .int .u64 0, .int .i64 0, .int .u64 0] 58 (0, 0))) := heap_alloc_new _ _
  have HB2 : Hid (Below w1.heap.size w1 W2) := hW2 ▸ row_below (below_new (Below.refl _ _) _) (Nat.le_refl _) _
  have R2 : Hid (W2.heap[w1.heap.size]? = some (.cells #[.int .i64 what, .int .i64 1, .slice x.cA y.c.caps.length x.cc, .slice x.sA y.c.starts.length x.sc, .int .i64 y.c.threads, .int .i64 ch, .int .i64 th, .int .i64 0, .int .i64 0, .int .u64 0, .int .u64 0, .int .u64 0, .int .i64 0, .int .u64 0] 58 (0, 0))) := hW2 ▸ setRow_heap _ _ _ _ _ (0, 0) N2.out
  have HW2 := Lib.hid hW2
  clear hW2
  go_upto_region 1 with (refine wpList_store_row rfl 58 _ _ rfl (w1.heap.size) _ rfl rfl 58 #[.int .i64 0, .int .i64 0, .slice none 0 0, .slice none 0 0, .int .i64 0, .int .i64 0, .int .i64 0, .int .i64 0, .int .i64 0, .int .u64 0, .int .u64 0, .int .u64 0, .int .i64 0, .int .u64 0] N2.out (by kernel_rfl) rfl (by simp [Value.oneCell']) ?_)
  rw [HW2.out]
  try simp only [Act.put]
  clear HW2 N2
  have hPw : Hid (w.heap.size ≤ w1.heap.size) := HB1.out.size
  obtain ⟨P, hP⟩ : ∃ P, w1.heap.size = P := ⟨_, rfl⟩
  rw [hP] at hPw
  rw [hP] at R2
  rw [hP]
  clear hP

  have HB02 := Lib.hid (below_then HB1.out HB2.out)
  have f1 := frozen_of_row _ _ 9 _ _ R2.out
  have f2 := frozen_of_row _ _ 7 _ _ R2.out
  have f3 := frozen_of_row _ _ 8 _ _ R2.out
  obtain ⟨q0, q1, q2, q3, q4, q5, q6, q7, q8, q9, q10, q11, q12, q13⟩ := rowc14 R2.out
  have r1 := heap_setCell_same W2 P 9 _ _ (.int .u64 v) R2.out
  simp at r1
  have r2 := heap_setCell_same _ P 7 _ _ (.int .i64 (v % 4)) r1
  simp at r2
  have r3 := heap_setCell_same _ P 8 _ _ (.int .i64 (v % 8)) r2
  simp at r3
  have R3 := Lib.hid r3
  have HB3 := Lib.hid (((HB02.out.setCell (p := ⟨P, 9, none⟩) hPw.out (.int .u64 v)).setCell (p := ⟨P, 7, none⟩) hPw.out (.int .i64 (v % 4))).setCell (p := ⟨P, 8, none⟩) hPw.out (.int .i64 (v % 8)))
  obtain ⟨W3, hW3⟩ : ∃ W3, ((W2.setCell ⟨P, 9, none⟩ (.int .u64 v)).setCell ⟨P, 7, none⟩ (.int .i64 (v % 4))).setCell ⟨P, 8, none⟩ (.int .i64 (v % 8)) = W3 := ⟨_, rfl⟩
  rw [hW3] at R3 HB3
  have HW3 := Lib.hid hW3
  clear hW3 r1 r2 r3
  go_upto_region 2 with fail
  rw [HW3.out]
  clear HW3 f1 f2 f3 q0 q1 q2 q3 q4 q5 q6 q7 q8 q9 q10 q11 q12 q13
  have HI3 := Lib.hid (HI.out.next HB3.out)
  have hP3 : P < W3.heap.size := (Array.getElem?_eq_some_iff.1 R3.out).1
  have KS : Hid (∀ w', Below W3.heap.size W3 w' → (fun w' : World => (w'.cell? ⟨B, 6, none⟩ = some (.slice x.lA y.l.length x.lc)) ∧ (w'.cell? ⟨P, 0, none⟩ = some (.int .i64 what) ∧ w'.cell? ⟨P, 1, none⟩ = some (.int .i64 1) ∧ w'.cell? ⟨P, 2, none⟩ = some (.slice x.cA y.c.caps.length x.cc) ∧ w'.cell? ⟨P, 3, none⟩ = some (.slice x.sA y.c.starts.length x.sc) ∧ w'.cell? ⟨P, 4, none⟩ = some (.int .i64 y.c.threads) ∧ w'.cell? ⟨P, 5, none⟩ = some (.int .i64 ch) ∧ w'.cell? ⟨P, 6, none⟩ = some (.int .i64 th) ∧ w'.cell? ⟨P, 7, none⟩ = some (.int .i64 (v % 4)) ∧ w'.cell? ⟨P, 8, none⟩ = some (.int .i64 (v % 8)) ∧ w'.cell? ⟨P, 9, none⟩ = some (.int .u64 v) ∧ w'.cell? ⟨P, 10, none⟩ = some (.int .u64 0) ∧ w'.cell? ⟨P, 11, none⟩ = some (.int .u64 0) ∧ w'.cell? ⟨P, 12, none⟩ = some (.int .i64 0) ∧ w'.cell? ⟨P, 13, none⟩ = some (.int .u64 0))) w') := fun w' hb => by
    obtain ⟨x0, x1, x2, x3, x4, x5, x6, x7, x8, x9⟩ := rowc10 (((below_then HB3.out hb).block B hBl).trans ROW.out)
    exact ⟨x6, rowc14 ((hb.block P hP3).trans R3.out)⟩
  have K2 : Hid (∀ w', w'.heap[B]? = some (.cells (x.row y) 49 (0, 0)) → w'.heap[P]? = some (.cells #[.int .i64 what, .int .i64 1, .slice x.cA y.c.caps.length x.cc, .slice x.sA y.c.starts.length x.sc, .int .i64 y.c.threads, .int .i64 ch, .int .i64 th, .int .i64 (v % 4), .int .i64 (v % 8), .int .u64 v, .int .u64 0, .int .u64 0, .int .i64 0, .int .u64 0] 58 (0, 0)) → (fun w' : World => (w'.cell? ⟨B, 6, none⟩ = some (.slice x.lA y.l.length x.lc)) ∧ (w'.cell? ⟨P, 0, none⟩ = some (.int .i64 what) ∧ w'.cell? ⟨P, 1, none⟩ = some (.int .i64 1) ∧ w'.cell? ⟨P, 2, none⟩ = some (.slice x.cA y.c.caps.length x.cc) ∧ w'.cell? ⟨P, 3, none⟩ = some (.slice x.sA y.c.starts.length x.sc) ∧ w'.cell? ⟨P, 4, none⟩ = some (.int .i64 y.c.threads) ∧ w'.cell? ⟨P, 5, none⟩ = some (.int .i64 ch) ∧ w'.cell? ⟨P, 6, none⟩ = some (.int .i64 th) ∧ w'.cell? ⟨P, 7, none⟩ = some (.int .i64 (v % 4)) ∧ w'.cell? ⟨P, 8, none⟩ = some (.int .i64 (v % 8)) ∧ w'.cell? ⟨P, 9, none⟩ = some (.int .u64 v) ∧ w'.cell? ⟨P, 10, none⟩ = some (.int .u64 0) ∧ w'.cell? ⟨P, 11, none⟩ = some (.int .u64 0) ∧ w'.cell? ⟨P, 12, none⟩ = some (.int .i64 0) ∧ w'.cell? ⟨P, 13, none⟩ = some (.int .u64 0))) w') := fun w' h1 h2 => by
    unfold WV.row at h1
    obtain ⟨x0, x1, x2, x3, x4, x5, x6, x7, x8, x9⟩ := rowc10 h1
    exact ⟨x6, rowc14 h2⟩
  go_cut [] (fun wx => ∃ (lA2 : Option Addr) (lc2 : Nat), Hid (WI 49 w0 wx E B D { x with lA := lA2, lc := lc2 } { y with l := y.l ++ [⟨what, 1, ch, th, v % 4, v % 8, v, 0, 0, 0, 0⟩] }) ∧ Hid (∀ w3, OffS (WV.S { x with lA := lA2, lc := lc2 } E B) wx w3 → OffS (x.S E B) w w3) ∧ Hid (wx.heap[P]? = some (.cells #[.int .i64 what, .int .i64 1, .slice x.cA y.c.caps.length x.cc, .slice x.sA y.c.starts.length x.sc, .int .i64 y.c.threads, .int .i64 ch, .int .i64 th, .int .i64 (v % 4), .int .i64 (v % 8), .int .u64 v, .int .u64 0, .int .u64 0, .int .i64 0, .int .u64 0] 58 (0, 0))) ∧ Hid (Below B w wx))
  case first =>
    refine untilK KS 12 13 (by kernel_rfl) rfl ?_
    obtain ⟨u0, hu0, HU0⟩ := drew_pack W3
    rw [hu0]
    clear hu0
    have hSU0 := KS.out _ HU0.out
    refine tkU (v := ?_) 0 la0 hSU0 (by kernel_rfl) (fun _ _ _ h => h) rfl ?_ ?_
    rotate_left
    · (intro w hSw; (try dsimp only at hSw); go_simp <;> with_reducible rfl)
    simp only [Act.put, List.setIfInBounds_toArray, List.set_cons_zero, List.set_cons_succ]
    refine tkU (v := ?_) 1 la1 hSU0 (by kernel_rfl) (fun _ _ _ h => h) rfl ?_ ?_
    rotate_left
    · (intro w hSw; (try dsimp only at hSw); go_simp <;> with_reducible rfl)
    simp only [Act.put, List.setIfInBounds_toArray, List.set_cons_zero, List.set_cons_succ]
    refine tkU (v := ?_) 2 la2 hSU0 (by kernel_rfl) (fun _ _ _ h => h) rfl ?_ ?_
    rotate_left
    · (intro w hSw; (try dsimp only at hSw); go_simp <;> with_reducible rfl)
    simp only [Act.put, List.setIfInBounds_toArray, List.set_cons_zero, List.set_cons_succ]
    refine tkU (v := ?_) 3 la3 hSU0 (by kernel_rfl) (fun _ _ _ h => h) rfl ?_ ?_
    rotate_left
    · (intro w hSw; (try dsimp only at hSw); go_simp <;> with_reducible rfl)
    simp only [Act.put, List.setIfInBounds_toArray, List.set_cons_zero, List.set_cons_succ]
    refine tkU (v := ?_) 4 la4 hSU0 (by kernel_rfl) (fun _ _ _ h => h) rfl ?_ ?_
    rotate_left
    · (intro w hSw; (try dsimp only at hSw); go_simp <;> with_reducible rfl)
    simp only [Act.put, List.setIfInBounds_toArray, List.set_cons_zero, List.set_cons_succ]
    refine tkU (v := ?_) 5 la5 hSU0 (by kernel_rfl) (fun _ _ _ h => h) rfl ?_ ?_
    rotate_left
    · (intro w hSw; (try dsimp only at hSw); go_simp <;> with_reducible rfl)
    simp only [Act.put, List.setIfInBounds_toArray, List.set_cons_zero, List.set_cons_succ]
    refine tkU (v := ?_) 6 la6 hSU0 (by kernel_rfl) (fun _ _ _ h => h) rfl ?_ ?_
    rotate_left
    · (intro w hSw; (try dsimp only at hSw); go_simp <;> with_reducible rfl)
    simp only [Act.put, List.setIfInBounds_toArray, List.set_cons_zero, List.set_cons_succ]
    refine wpAnyU_ready (rs := [7]) (by kernel_rfl) rfl ?_
    refine AllReadyU.cons la7 rfl (fun K hK => ?_) ?_
    · go_simp
      obtain ⟨u1, bI, hv, hXe, RL, hbX, ltI⟩ := alloc_pack u0 (.cells #[.int .i64 what, .int .i64 1, .slice x.cA y.c.caps.length x.cc, .slice x.sA y.c.starts.length x.sc, .int .i64 y.c.threads, .int .i64 ch, .int .i64 th, .int .i64 (v % 4), .int .i64 (v % 8), .int .u64 v, .int .u64 0, .int .u64 0, .int .i64 0, .int .u64 0] 58)
      rw [hv, hXe]
      have HU1 := Lib.hid (below_then HU0.out hbX.out)
      clear hv hXe hbX
      refine hK.out _ _ ?_ (fun hSU1 => ?_)
      · exact KS.out _ HU1.out
      clear hK K hSU0
      try simp only [Act.put, List.setIfInBounds_toArray, List.set_cons_zero, List.set_cons_succ]
      refine wpAnyU_ready (rs := [8]) (by kernel_rfl) rfl ?_
      refine AllReadyU.cons la8 rfl (fun K hK => ?_) ?_
      · refine step_append_s (w := u1) 40 (by kernel_rfl) Try.info_mach rfl (by decide) (by decide) (by rfl) _ _ (by rfl) (by rfl) (HI3.out.next HU1.out).ol (machL (x.vc y.c) (x.vs y.c) y.c.threads ⟨what, 1, ch, th, v % 4, v % 8, v, 0, 0, 0, 0⟩) rfl (by intro u hu; simp only [machL, List.mem_cons, List.not_mem_nil, or_false] at hu; rcases hu with rfl | rfl | rfl | rfl | rfl | rfl | rfl | rfl | rfl | rfl | rfl | rfl | rfl | rfl <;> rfl) bI (by rfl) RL.out (by rw [List.length_map]; omega) (HI3.out.next HU1.out).Dw ?_
        intro v9 u2 ho9 hg9 hbk9
        obtain ⟨lA2, lc2, e9⟩ := ho9.len
        rw [List.length_append, List.length_map, List.length_singleton] at e9
        subst e9
        have HO9 := Lib.hid ho9
        have HG9 := Lib.hid hg9
        have HK9 := Lib.hid hbk9
        clear ho9 hg9 hbk9
        have hLo : Hid (∀ j, (x.vl y).ownBlock = some j → j < w.heap.size ∧ D ≤ j) := fun j hj => ⟨(HI.out.ol.lt j hj).2, (HI.out.ol.lt j hj).1⟩
        have RB9 := Lib.hid ((HG9.out.block B (HI3.out.next HU1.out).lt (fun e => by have := (hLo.out B e.symm).2; have := HI.out.BD; omega)).trans (HI3.out.next HU1.out).row)
        have RP9 := Lib.hid ((HG9.out.block P (Nat.lt_of_lt_of_le hP3 HU1.out.size) (fun e => by have := (hLo.out P e.symm).1; have := hPw.out; omega)).trans ((HU1.out.block P hP3).trans R3.out))
        refine hK.out _ _ ?_ (fun hSU2 => ?_)
        · exact K2.out _ RB9.out RP9.out
        clear hK K hSU1
        try simp only [Act.put, List.setIfInBounds_toArray, List.set_cons_zero, List.set_cons_succ]
        refine wpAnyU_takeW (v := ?_) 9 la9 (by kernel_rfl) (by kernel_rfl) (by kernel_rfl) (by kernel_rfl) (fun _ _ _ h => h) (fun _ => hSU2) rfl ?_ ?_
        rotate_left
        · (intro w; go_simp <;> with_reducible rfl)
        simp only [Act.put, List.setIfInBounds_toArray, List.set_cons_zero, List.set_cons_succ]
        refine wpAnyU_takeW (v := ?_) 10 la10 (by kernel_rfl) (by kernel_rfl) (by kernel_rfl) (by kernel_rfl) (fun _ _ _ h => h) (fun _ => hSU2) rfl ?_ ?_
        rotate_left
        · (intro w; go_simp <;> with_reducible rfl)
        simp only [Act.put, List.setIfInBounds_toArray, List.set_cons_zero, List.set_cons_succ]
        refine tkU (v := ?_) 11 la11 hSU2 (by kernel_rfl) (fun _ _ _ h => h) rfl ?_ ?_
        rotate_left
        · (intro w hSw; (try dsimp only at hSw); go_simp <;> with_reducible rfl)
        simp only [Act.put, List.setIfInBounds_toArray, List.set_cons_zero, List.set_cons_succ]
        refine wpAnyU_ready (rs := [12]) (by kernel_rfl) rfl ?_
        refine AllReadyU.free la12 rfl (by kernel_rfl) (fun K hK => ?_) ?_
        · have RB9' := RB9.out
          unfold WV.row at RB9'
          obtain ⟨x0, x1, x2, x3, x4, x5, x6, x7, x8, x9⟩ := rowc10 RB9'
          have f6 := frozen_of_row _ _ 6 _ _ RB9'
          clear RB9'
          go_simp
          refine hK.out _ _ ?_
          clear hK K hSU2
          try simp only [Act.put, List.setIfInBounds_toArray, List.set_cons_zero, List.set_cons_succ]
          refine wpAnyU_done (by kernel_rfl) ?_ _
          clear x0 x1 x2 x3 x4 x5 x6 x7 x8 x9 f6
          obtain ⟨HIa, HINa⟩ := (HI3.out.next HU1.out).addL (z := ⟨what, 1, ch, th, v % 4, v % 8, v, 0, 0, 0, 0⟩) HO9.out HG9.out (by have := HK9.out; rw [WV.vl, own_addr, own_addr] at this; exact this)
          have HIF := Lib.hid HIa
          have HINF : Hid (∀ w3, OffS (WV.S { x with lA := lA2, lc := lc2 } E B) _ w3 → OffS (x.S E B) w w3) := fun w3 h3 => (OffS.below (below_then HB3.out HU1.out)).trans1 (HINa w3 h3)
          have RPF := Lib.hid ((heap_setCell_other _ ⟨B, 6, none⟩ P (.slice lA2 (y.l.length + 1) lc2) (by have := hPw.out; show P ≠ B; omega)).trans RP9.out)
          clear HIa HINa
          have HBX := Lib.hid ((((below_then HB3.out HU1.out).mono (Nat.le_of_lt hBl)).grown HG9.out (by have := HU1.out.size; have := HB3.out.size; omega) (fun j hj => by have := (hLo.out j hj).2; have := HI.out.BD; omega)).setCell (p := ⟨B, 6, none⟩) (Nat.le_refl _) (.slice lA2 (y.l.length + 1) lc2))
          go_wp2_with fail
          go_meet
          exact ⟨lA2, lc2, HIF, HINF, RPF, HBX⟩
        exact AllReadyU.nil
      exact AllReadyU.nil
    exact AllReadyU.nil
  case rest =>
    obtain ⟨lA2, lc2, HI4, HIN4, RP4, HBX4⟩ := hcut
    obtain ⟨w4, rfl⟩ : ∃ w3 : World, w3 = wc := ⟨_, rfl⟩
    clear KS K2
    have hB4 := HI4.out.lt
    have hP4 := (Array.getElem?_eq_some_iff.1 RP4.out).1
    obtain ⟨W5, hW5⟩ : ∃ W5, w4.alloc (.cells #[.int .i64 0, .int .i64 0, .slice none 0 0, .slice none 0 0, .slice none 0 0] 61) = W5 := ⟨_, rfl⟩
    have HB5 : Hid (Below w4.heap.size w4 W5) := hW5 ▸ below_new (Below.refl w4.heap.size w4) _
    have RF : Hid (W5.heap[w4.heap.size]? = some (.cells #[.int .i64 0, .int .i64 0, .slice none 0 0, .slice none 0 0, .slice none 0 0] 61 (0, 0))) := hW5 ▸ heap_alloc_new _ _
    have HW5 := Lib.hid hW5
    clear hW5
    have hFw : Hid (w.heap.size ≤ w4.heap.size) := by show w.heap.size ≤ w4.heap.size; have := HI4.out.below.size; have h2 := hPw.out; omega
    go_upto_region 4 with fail
    rw [HW5.out]
    clear HW5
    obtain ⟨F, hF⟩ : ∃ F, w4.heap.size = F := ⟨_, rfl⟩
    rw [hF] at RF hFw
    rw [hF]
    have HF4 := Lib.hid hF
    clear hF
    have TO := Lib.hid fun w' => wown_any (x.vc y.c) (x.vs y.c) ⟨_, _, _, rfl⟩ ⟨_, _, _, rfl⟩ y.c.threads ⟨what, 1, ch, th, v % 4, v % 8, v, 0, 0, 0, 0⟩ w'
    have hown2 : ownM ⟨what, 1, ch, th, v % 4, v % 8, v, 0, 0, 0, 0⟩ = false := hwh
    have HOWN : Hid (ownM ⟨what, 1, ch, th, v % 4, v % 8, v, 0, 0, 0, 0⟩ = false) := hown2
    rw [hown2] at TO
    unfold machL WV.vc WV.vs at TO
    try dsimp only at TO
    obtain ⟨q0, q1, q2, q3, q4, q5, q6, q7, q8, q9, q10, q11, q12, q13⟩ := rowc14 ((HB5.out.block P hP4).trans RP4.out)
    clear hown2
    go_wp2_with fail
    refine (TO.out _).mono ?_; rintro e w6 ⟨rfl, hb6⟩
    have HB6 := Lib.hid (below_then HB5.out hb6)
    have RF6 := Lib.hid ((hb6.block F (Array.getElem?_eq_some_iff.1 RF.out).1).trans RF.out)
    clear hb6 TO q0 q1 q2 q3 q4 q5 q6 q7 q8 q9 q10 q11 q12 q13 RF
    go_upto_if 44 with (fail)
    go_cut [] (fun wx => ∃ r0 r1 s2 k2 l2 s3 k3 l3 s4 k4 l4, Hid (WI 49 w0 wx E B D { x with lA := lA2, lc := lc2 } { y with l := y.l ++ [⟨what, 1, ch, th, v % 4, v % 8, v, 0, 0, 0, 0⟩] }) ∧ Hid (∀ w3, OffS (WV.S { x with lA := lA2, lc := lc2 } E B) wx w3 → OffS (x.S E B) w w3) ∧ Hid (R (OffS (WV.S { x with lA := lA2, lc := lc2 } E B) wx) y.c [.int .i64 r0, .int .i64 r1, .slice s2 k2 l2, .slice s3 k3 l3, .slice s4 k4 l4] ⟨what, 1, ch, th, v % 4, v % 8, v, 0, 0, 0, 0⟩) ∧ Hid (wx.heap[F]? = some (.cells #[.int .i64 r0, .int .i64 r1, .slice s2 k2 l2, .slice s3 k3 l3, .slice s4 k4 l4] 61 (0, 0))) ∧ Hid (Below B w wx))
    case first =>
      have HI7 := Lib.hid (HI4.out.next HB6.out)
      have HIN7 : Hid (∀ w3, OffS (WV.S { x with lA := lA2, lc := lc2 } E B) w6 w3 → OffS (x.S E B) w w3) := fun w3 h3 => HIN4.out w3 ((OffS.below HB6.out).trans1 h3)
      have HR7 : Hid (R (OffS (WV.S { x with lA := lA2, lc := lc2 } E B) w6) y.c [.int .i64 0, .int .i64 0, .slice none 0 0, .slice none 0 0, .slice none 0 0] ⟨what, 1, ch, th, v % 4, v % 8, v, 0, 0, 0, 0⟩) := hs.others _ _ _ _ HOWN.out
      have HBX7 := Lib.hid (HBX4.out.trans (HB6.out.mono (Nat.le_of_lt hB4)))
      go_wp2_with fail
      go_meet
      exact ⟨0, 0, none, 0, 0, none, 0, 0, none, 0, 0, HI7, HIN7, HR7, RF6, HBX7⟩
    case rest =>
      obtain ⟨r0, r1, s2, k2, l2, s3, k3, l3, s4, k4, l4, HI7, HIN7, HR7, RF7, HBX7⟩ := hcut
      obtain ⟨w7, rfl⟩ : ∃ w3 : World, w3 = wc := ⟨_, rfl⟩
      have hB7 := HI7.out.lt
      have hF7 := (Array.getElem?_eq_some_iff.1 RF7.out).1
      have K6 : Hid (∀ w', w'.heap[B]? = some (.cells (WV.row { x with lA := lA2, lc := lc2 } { y with l := y.l ++ [⟨what, 1, ch, th, v % 4, v % 8, v, 0, 0, 0, 0⟩] }) 49 (0, 0)) → w'.heap[F]? = some (.cells #[.int .i64 r0, .int .i64 r1, .slice s2 k2 l2, .slice s3 k3 l3, .slice s4 k4 l4] 61 (0, 0)) → (fun w' : World => (w'.cell? ⟨B, 9, none⟩ = some (.slice x.fA y.f.length x.fc)) ∧ (w'.cell? ⟨F, 0, none⟩ = some (.int .i64 r0) ∧ w'.cell? ⟨F, 1, none⟩ = some (.int .i64 r1) ∧ w'.cell? ⟨F, 2, none⟩ = some (.slice s2 k2 l2) ∧ w'.cell? ⟨F, 3, none⟩ = some (.slice s3 k3 l3) ∧ w'.cell? ⟨F, 4, none⟩ = some (.slice s4 k4 l4))) w') := fun w' h1 h2 => by
        unfold WV.row at h1
        obtain ⟨x0, x1, x2, x3, x4, x5, x6, x7, x8, x9⟩ := rowc10 h1
        obtain ⟨z0, z1, z2, z3, z4⟩ := rowc5 h2
        exact ⟨x9, z0, z1, z2, z3, z4⟩
      have KS : Hid (∀ w', Below w7.heap.size w7 w' → (fun w' : World => (w'.cell? ⟨B, 9, none⟩ = some (.slice x.fA y.f.length x.fc)) ∧ (w'.cell? ⟨F, 0, none⟩ = some (.int .i64 r0) ∧ w'.cell? ⟨F, 1, none⟩ = some (.int .i64 r1) ∧ w'.cell? ⟨F, 2, none⟩ = some (.slice s2 k2 l2) ∧ w'.cell? ⟨F, 3, none⟩ = some (.slice s3 k3 l3) ∧ w'.cell? ⟨F, 4, none⟩ = some (.slice s4 k4 l4))) w') := fun w' hb => K6.out w' ((hb.block B hB7).trans HI7.out.row) ((hb.block F hF7).trans RF7.out)
      have hfI : ((y.f.length : Nat) : Int) < (y.f.length : Int) + 1 := by omega
      go_upto_region 6 with fail
      have HSETE : Hid ((y.f ++ [([.int .i64 0, .int .i64 0, .slice none 0 0, .slice none 0 0, .slice none 0 0] : List Value)]).set y.f.length ([.int .i64 r0, .int .i64 r1, .slice s2 k2 l2, .slice s3 k3 l3, .slice s4 k4 l4] : List Value) = y.f ++ [([.int .i64 r0, .int .i64 r1, .slice s2 k2 l2, .slice s3 k3 l3, .slice s4 k4 l4] : List Value)]) := by show _ = _; simp
      have KFR : Hid (∀ nf fc2 wf, (∀ w3, OffS (WV.S { x with lA := lA2, lc := lc2, fA := some ⟨nf, 0, none⟩, fc := fc2 } E B) wf w3 → OffS (WV.S { x with lA := lA2, lc := lc2 } E B) w7 w3) → FrI R (OffS (WV.S { x with lA := lA2, lc := lc2, fA := some ⟨nf, 0, none⟩, fc := fc2 } E B) wf) { y with l := y.l ++ [⟨what, 1, ch, th, v % 4, v % 8, v, 0, 0, 0, 0⟩], f := y.f ++ [[.int .i64 r0, .int .i64 r1, .slice s2 k2 l2, .slice s3 k3 l3, .slice s4 k4 l4]] }) := fun nf fc2 wf hin => by
        refine ⟨by show (y.f ++ [_]).length = (y.l ++ [_]).length; simp [HF.out.1], fun j h4 h5 => ?_⟩
        have h6 : j < y.f.length + 1 := by simpa using h4
        by_cases hj : j = y.f.length
        · have e1 : (WM.f { y with l := y.l ++ [⟨what, 1, ch, th, v % 4, v % 8, v, 0, 0, 0, 0⟩], f := y.f ++ [[.int .i64 r0, .int .i64 r1, .slice s2 k2 l2, .slice s3 k3 l3, .slice s4 k4 l4]] })[j] = [.int .i64 r0, .int .i64 r1, .slice s2 k2 l2, .slice s3 k3 l3, .slice s4 k4 l4] := by subst hj; show (y.f ++ [_])[y.f.length] = _; simp
          have e2 : (WM.l { y with l := y.l ++ [⟨what, 1, ch, th, v % 4, v % 8, v, 0, 0, 0, 0⟩], f := y.f ++ [[.int .i64 r0, .int .i64 r1, .slice s2 k2 l2, .slice s3 k3 l3, .slice s4 k4 l4]] })[j] = ⟨what, 1, ch, th, v % 4, v % 8, v, 0, 0, 0, 0⟩ := by subst hj; show (y.l ++ [_])[y.f.length] = _; simp [HF.out.1]
          rw [e1, e2]
          exact hs.sub HR7.out hin
        · have h7 : j < y.f.length := by omega
          have h8 : j < y.l.length := by rw [← HF.out.1]; exact h7
          have e1 : (WM.f { y with l := y.l ++ [⟨what, 1, ch, th, v % 4, v % 8, v, 0, 0, 0, 0⟩], f := y.f ++ [[.int .i64 r0, .int .i64 r1, .slice s2 k2 l2, .slice s3 k3 l3, .slice s4 k4 l4]] })[j] = y.f[j] := by show (y.f ++ [_])[j] = _; rw [List.getElem_append_left h7]
          have e2 : (WM.l { y with l := y.l ++ [⟨what, 1, ch, th, v % 4, v % 8, v, 0, 0, 0, 0⟩], f := y.f ++ [[.int .i64 r0, .int .i64 r1, .slice s2 k2 l2, .slice s3 k3 l3, .slice s4 k4 l4]] })[j] = y.l[j] := by show (y.l ++ [_])[j] = _; rw [List.getElem_append_left h8]
          rw [e1, e2]
          exact hs.sub (HF.out.2 j h7 h8) fun w3 h3 => HIN7.out w3 (hin w3 h3)
      refine untilK KS 7 13 (by kernel_rfl) rfl ?_
      obtain ⟨u0, hu0, HU0⟩ := drew_pack w7
      rw [hu0]
      clear hu0
      have hSU0 := KS.out _ HU0.out
      refine tkU (v := ?_) 0 la0 hSU0 (by kernel_rfl) (fun _ _ _ h => h) rfl ?_ ?_
      rotate_left
      · (intro w hSw; (try dsimp only at hSw); go_simp <;> with_reducible rfl)
      simp only [Act.put, List.setIfInBounds_toArray, List.set_cons_zero, List.set_cons_succ]
      refine tkU (v := ?_) 1 la1 hSU0 (by kernel_rfl) (fun _ _ _ h => h) rfl ?_ ?_
      rotate_left
      · (intro w hSw; (try dsimp only at hSw); go_simp <;> with_reducible rfl)
      simp only [Act.put, List.setIfInBounds_toArray, List.set_cons_zero, List.set_cons_succ]
      refine tkU (v := ?_) 2 la2 hSU0 (by kernel_rfl) (fun _ _ _ h => h) rfl ?_ ?_
      rotate_left
      · (intro w hSw; (try dsimp only at hSw); go_simp <;> with_reducible rfl)
      simp only [Act.put, List.setIfInBounds_toArray, List.set_cons_zero, List.set_cons_succ]
      refine tkU (v := ?_) 3 la3 hSU0 (by kernel_rfl) (fun _ _ _ h => h) rfl ?_ ?_
      rotate_left
      · (intro w hSw; (try dsimp only at hSw); go_simp <;> with_reducible rfl)
      simp only [Act.put, List.setIfInBounds_toArray, List.set_cons_zero, List.set_cons_succ]
      refine tkU (v := ?_) 4 la4 hSU0 (by kernel_rfl) (fun _ _ _ h => h) rfl ?_ ?_
      rotate_left
      · (intro w hSw; (try dsimp only at hSw); go_simp <;> with_reducible rfl)
      simp only [Act.put, List.setIfInBounds_toArray, List.set_cons_zero, List.set_cons_succ]
      refine tkU (v := ?_) 5 la5 hSU0 (by kernel_rfl) (fun _ _ _ h => h) rfl ?_ ?_
      rotate_left
      · (intro w hSw; (try dsimp only at hSw); go_simp <;> with_reducible rfl)
      simp only [Act.put, List.setIfInBounds_toArray, List.set_cons_zero, List.set_cons_succ]
      refine wpAnyU_ready (rs := [6]) (by kernel_rfl) rfl ?_
      refine AllReadyU.cons la6 rfl (fun K hK => ?_) ?_
      · go_simp
        obtain ⟨u1, bI, hv, hXe, RL, hbX, ltI⟩ := alloc_pack u0 (.cells #[.int .i64 0, .int .i64 0, .slice none 0 0, .slice none 0 0, .slice none 0 0] 61)
        rw [hv, hXe]
        have HU1 := Lib.hid (below_then HU0.out hbX.out)
        clear hv hXe hbX
        refine hK.out _ _ ?_ (fun hSU1 => ?_)
        · exact KS.out _ HU1.out
        clear hK K hSU0
        try simp only [Act.put, List.setIfInBounds_toArray, List.set_cons_zero, List.set_cons_succ]
        refine wpAnyU_ready (rs := [7]) (by kernel_rfl) rfl ?_
        refine AllReadyU.free la7 rfl (by kernel_rfl) (fun K hK => ?_) ?_
        · refine step_append_s (w := u1) 47 (by kernel_rfl) Try.info_frame rfl (by decide) (by decide) (by rfl) _ _ (by rfl) (by rfl) (HI7.out.next HU1.out).of [.int .i64 0, .int .i64 0, .slice none 0 0, .slice none 0 0, .slice none 0 0] rfl (by intro u hu; simp only [List.mem_cons, List.not_mem_nil, or_false] at hu; rcases hu with rfl | rfl | rfl | rfl | rfl <;> rfl) bI (by rfl) RL.out (by show y.f.length ≤ 1000000; omega) (HI7.out.next HU1.out).Dw ?_
          intro v9 u2 ho9 hg9 hbk9
          obtain ⟨nf, fc2, e9, hnf, hnfs, -⟩ := ho9.open (by simp)
          rw [List.length_append, List.length_singleton] at e9
          subst e9
          have HO9 := Lib.hid ho9
          have HG9 := Lib.hid hg9
          have HK9 := Lib.hid hbk9
          have hnfD := Lib.hid hnf
          clear ho9 hg9 hbk9 hnf
          have hLo : Hid (∀ j, (x.vf y).ownBlock = some j → j < w.heap.size ∧ D ≤ j) := fun j hj => ⟨(HI.out.of.lt j hj).2, (HI.out.of.lt j hj).1⟩
          have hnF : Hid (nf ≠ F) := fun e => by have h1 := HK9.out; have h2 := HU1.out.size; rcases h1 with h1 | h1; have := (hLo.out nf h1.symm).1; have := hFw.out; omega; (simp only [Value.ownBlock, Option.some.injEq] at h1; omega)
          have RB9 := Lib.hid ((HG9.out.block B (HI7.out.next HU1.out).lt (fun e => by have := (hLo.out B e.symm).2; have := HI.out.BD; omega)).trans (HI7.out.next HU1.out).row)
          have RF9 := Lib.hid ((HG9.out.block F (Nat.lt_of_lt_of_le hF7 HU1.out.size) (fun e => by have := (hLo.out F e.symm).1; have := hFw.out; omega)).trans ((HU1.out.block F hF7).trans RF7.out))
          refine hK.out _ _ ?_
          clear hK K hSU1
          try simp only [Act.put, List.setIfInBounds_toArray, List.set_cons_zero, List.set_cons_succ]
          refine wpAnyU_takeW (v := ?_) 8 la8 (by kernel_rfl) (by kernel_rfl) (by kernel_rfl) (by kernel_rfl) (fun _ _ _ h => h) (past_k (by kernel_rfl)) rfl ?_ ?_
          rotate_left
          · (intro w; go_simp <;> with_reducible rfl)
          simp only [Act.put, List.setIfInBounds_toArray, List.set_cons_zero, List.set_cons_succ]
          refine wpAnyU_takeW (v := ?_) 10 la10 (by kernel_rfl) (by kernel_rfl) (by kernel_rfl) (by kernel_rfl) (fun _ _ _ h => h) (past_k (by kernel_rfl)) rfl ?_ ?_
          rotate_left
          · (intro w; go_simp <;> with_reducible rfl)
          simp only [Act.put, List.setIfInBounds_toArray, List.set_cons_zero, List.set_cons_succ]
          refine wpAnyU_takeW (v := ?_) 11 la11 (by kernel_rfl) (by kernel_rfl) (by kernel_rfl) (by kernel_rfl) (fun _ _ _ h => h) (past_k (by kernel_rfl)) rfl ?_ ?_
          rotate_left
          · (intro w; go_simp <;> with_reducible rfl)
          simp only [Act.put, List.setIfInBounds_toArray, List.set_cons_zero, List.set_cons_succ]
          refine wpAnyU_ready (rs := [9, 12]) (by kernel_rfl) rfl ?_
          refine AllReadyU.free la9 rfl (by kernel_rfl) (fun K hK => ?_) ?_
          · refine step_store_mid rfl 61 _ _ rfl nf (y.f.length * 5) #[.int .i64 r0, .int .i64 r1, .slice s2 k2 l2, .slice s3 k3 l3, .slice s4 k4 l4] (by rfl) (by rfl) (HO9.out.row y.f.length (by simp)).2 (by kernel_rfl) (by simp [Value.oneCell']) ?_
            refine hK.out _ _ ?_
            clear hK K
            try simp only [Act.put, List.setIfInBounds_toArray, List.set_cons_zero, List.set_cons_succ]
            refine wpAnyU_ready (rs := [12]) (by kernel_rfl) rfl ?_
            refine AllReadyU.free la12 rfl (by kernel_rfl) (fun K hK => ?_) ?_
            · have RB9' := (setCells_other nf [.int .i64 r0, .int .i64 r1, .slice s2 k2 l2, .slice s3 k3 l3, .slice s4 k4 l4] (y.f.length * 5) u2 B (by have := hnfD.out; have := HI.out.BD; omega)).trans RB9.out
              unfold WV.row at RB9'
              have RB9'' := Lib.hid RB9'
              have HG10 := Lib.hid (setCells_grown nf [.int .i64 r0, .int .i64 r1, .slice s2 k2 l2, .slice s3 k3 l3, .slice s4 k4 l4] (y.f.length * 5) u2)
              have HO10 := Lib.hid (HO9.out.setRow (r := [.int .i64 r0, .int .i64 r1, .slice s2 k2 l2, .slice s3 k3 l3, .slice s4 k4 l4]) y.f.length (by simp) rfl (by intro u hu; simp only [List.mem_cons, List.not_mem_nil, or_false] at hu; rcases hu with rfl | rfl | rfl | rfl | rfl <;> rfl))
              obtain ⟨u4, hu4⟩ : ∃ u4, u2.setCells nf (y.f.length * 5) [.int .i64 r0, .int .i64 r1, .slice s2 k2 l2, .slice s3 k3 l3, .slice s4 k4 l4] = u4 := ⟨_, rfl⟩
              rw [hu4] at RB9'' HG10 HO10
              simp only [hu4]
              clear RB9' hu4
              obtain ⟨x0, x1, x2, x3, x4, x5, x6, x7, x8, x9⟩ := rowc10 RB9''.out
              have f9 := frozen_of_row _ _ 9 _ _ RB9''.out
              go_simp
              refine hK.out _ _ ?_
              clear hK K
              try simp only [Act.put, List.setIfInBounds_toArray, List.set_cons_zero, List.set_cons_succ]
              refine wpAnyU_done (by kernel_rfl) ?_ _
              clear x0 x1 x2 x3 x4 x5 x6 x7 x8 x9 f9
              rw [HSETE.out] at HO10
              have hgr : Hid (u1.grownBy u4 (x.vf y).ownBlock) := by
                have h1 := HK9.out
                refine ⟨HG10.out.os.trans HG9.out.os, HG10.out.tape.trans HG9.out.tape, HG10.out.output.trans HG9.out.output, Nat.le_trans HG9.out.size HG10.out.size, fun j hj hn => (HG10.out.block j (Nat.lt_of_lt_of_le hj HG9.out.size) (fun e => ?_)).trans (HG9.out.block j hj hn)⟩
                cases e
                rcases h1 with h1 | h1
                · exact hn h1
                · simp only [Value.ownBlock, Option.some.injEq] at h1; omega
              obtain ⟨HIa, HINa⟩ := (HI7.out.next HU1.out).addF (z := [.int .i64 r0, .int .i64 r1, .slice s2 k2 l2, .slice s3 k3 l3, .slice s4 k4 l4]) HO10.out hgr.out (by have := HK9.out; rw [WV.vf, own_addr, own_addr] at this; exact this)
              have HIF := Lib.hid HIa
              have HINF := Lib.hid fun w3 h3 => (OffS.below (S := WV.S { x with lA := lA2, lc := lc2 } E B) HU1.out).trans1 (HINa w3 h3)
              clear HIa HINa
              have HBX := Lib.hid (((HBX7.out.trans (HU1.out.mono (Nat.le_of_lt hB7))).grown hgr (by have := HU1.out.size; omega) (fun j hj => by have := (hLo.out j hj).2; have := HI.out.BD; omega)).setCell (p := ⟨B, 9, none⟩) (Nat.le_refl _) (.slice (some ⟨nf, 0, none⟩) (y.f.length + 1) fc2))
              have HFF := Lib.hid (KFR.out _ _ _ HINF.out)
              go_wp2_with fail
              go_end0; exact ⟨_, [.int .i64 r0, .int .i64 r1, .slice s2 k2 l2, .slice s3 k3 l3, .slice s4 k4 l4], rfl, HIF, HFF, HBX, Lib.hid fun w3 h3 => HIN7.out _ (HINF.out _ h3)⟩
            exact AllReadyU.nil
          refine AllReadyU.free la12 rfl (by kernel_rfl) (fun K hK => ?_) ?_
          · have RB9' := RB9.out
            unfold WV.row at RB9'
            obtain ⟨x0, x1, x2, x3, x4, x5, x6, x7, x8, x9⟩ := rowc10 RB9'
            have f9 := frozen_of_row _ _ 9 _ _ RB9'
            clear RB9'
            go_simp
            clear x0 x1 x2 x3 x4 x5 x6 x7 x8 x9 f9
            refine hK.out _ _ ?_
            clear hK K
            try simp only [Act.put, List.setIfInBounds_toArray, List.set_cons_zero, List.set_cons_succ]
            refine wpAnyU_ready (rs := [9]) (by kernel_rfl) rfl ?_
            refine AllReadyU.free la9 rfl (by kernel_rfl) (fun K hK => ?_) ?_
            · refine step_store_mid rfl 61 _ _ rfl nf (y.f.length * 5) #[.int .i64 r0, .int .i64 r1, .slice s2 k2 l2, .slice s3 k3 l3, .slice s4 k4 l4] (by rfl) (by rfl) ((HO9.out.keptB (o := 9) (u := .slice (some ⟨nf, 0, none⟩) (y.f.length + 1) fc2) HI.out.BD).row y.f.length (by simp)).2 (by kernel_rfl) (by simp [Value.oneCell']) ?_
              refine hK.out _ _ ?_
              clear hK K
              try simp only [Act.put, List.setIfInBounds_toArray, List.set_cons_zero, List.set_cons_succ]
              refine wpAnyU_done (by kernel_rfl) ?_ _
              obtain ⟨HIa, HINa⟩ := (HI7.out.next HU1.out).addF (z := [.int .i64 0, .int .i64 0, .slice none 0 0, .slice none 0 0, .slice none 0 0]) HO9.out HG9.out (by have := HK9.out; rw [WV.vf, own_addr, own_addr] at this; exact this)
              obtain ⟨HIb, HINb⟩ := HIa.setF (b := nf) (i := y.f.length) (z := [.int .i64 r0, .int .i64 r1, .slice s2 k2 l2, .slice s3 k3 l3, .slice s4 k4 l4]) (n := y.f.length + 1) (cap := fc2) (by show Value.slice _ (y.f ++ [_]).length _ = _; simp) (by show y.f.length < (y.f ++ [_]).length; simp) rfl (by intro u hu; simp only [List.mem_cons, List.not_mem_nil, or_false] at hu; rcases hu with rfl | rfl | rfl | rfl | rfl <;> rfl)
              have HINF := Lib.hid fun w3 h3 => (OffS.below (S := WV.S { x with lA := lA2, lc := lc2 } E B) HU1.out).trans1 (HINa w3 (HINb w3 h3))
              have HBX := Lib.hid ((((HBX7.out.trans (HU1.out.mono (Nat.le_of_lt hB7))).grown HG9.out (by have := HU1.out.size; omega) (fun j hj => by have := (hLo.out j hj).2; have := HI.out.BD; omega)).setCell (p := ⟨B, 9, none⟩) (Nat.le_refl _) (.slice (some ⟨nf, 0, none⟩) (y.f.length + 1) fc2)).grown (setCells_grown nf [.int .i64 r0, .int .i64 r1, .slice s2 k2 l2, .slice s3 k3 l3, .slice s4 k4 l4] (y.f.length * 5) _) (by have := HU1.out.size; have := HG9.out.size; simp; omega) (fun j hj => by cases hj; have := hnfD.out; have := HI.out.BD; omega))
              have HIF := Lib.hid HIb
              dsimp only at HIF
              rw [HSETE.out] at HIF
              clear HIa HINa HIb HINb
              have HFF := Lib.hid (KFR.out _ _ _ HINF.out)
              go_wp2_with fail
              go_end0; exact ⟨_, [.int .i64 r0, .int .i64 r1, .slice s2 k2 l2, .slice s3 k3 l3, .slice s4 k4 l4], rfl, HIF, HFF, HBX, Lib.hid fun w3 h3 => HIN7.out _ (HINF.out _ h3)⟩
            exact AllReadyU.nil
          exact AllReadyU.nil
        exact AllReadyU.nil
      exact AllReadyU.nil
end Go.Proofs.Ytjnlkemdaffgbaa
