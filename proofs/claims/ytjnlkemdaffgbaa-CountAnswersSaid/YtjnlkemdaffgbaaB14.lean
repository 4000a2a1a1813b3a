
import Derived.Test.YtjnlkemdaffgbaaB12
import Derived.Test.YtjnlkemdaffgbaaB10
import Derived.Test.YtjnlkemdaffgbaaB07
import Derived.Test.YtjnlkemdaffgbaaB13
set_option linter.unusedVariables false
set_option linter.unusedSimpArgs false
/- The document's worlds: a machine makes its access. -/
namespace Go.Proofs.Ytjnlkemdaffgbaa
open Go.ChangeShapes Go.WideShapes Go.ChangeAt Go.RowKit
set_option maxRecDepth 100000

theorem rowc10 {w : World} {g : Nat} {T : TypeId} {v0 v1 v2 v3 v4 v5 v6 v7 v8 v9 : Value} (h : w.heap[g]? = some (.cells #[v0, v1, v2, v3, v4, v5, v6, v7, v8, v9] T (0, 0))) :
    w.cell? ⟨g, 0, none⟩ = some v0 ∧ w.cell? ⟨g, 1, none⟩ = some v1 ∧ w.cell? ⟨g, 2, none⟩ = some v2 ∧ w.cell? ⟨g, 3, none⟩ = some v3 ∧ w.cell? ⟨g, 4, none⟩ = some v4 ∧ w.cell? ⟨g, 5, none⟩ = some v5 ∧ w.cell? ⟨g, 6, none⟩ = some v6 ∧ w.cell? ⟨g, 7, none⟩ = some v7 ∧ w.cell? ⟨g, 8, none⟩ = some v8 ∧ w.cell? ⟨g, 9, none⟩ = some v9 :=
  ⟨cell_of_row _ _ 0 _ _ _ h, cell_of_row _ _ 1 _ _ _ h, cell_of_row _ _ 2 _ _ _ h, cell_of_row _ _ 3 _ _ _ h, cell_of_row _ _ 4 _ _ _ h, cell_of_row _ _ 5 _ _ _ h, cell_of_row _ _ 6 _ _ _ h, cell_of_row _ _ 7 _ _ _ h, cell_of_row _ _ 8 _ _ _ h, cell_of_row _ _ 9 _ _ _ h⟩
/-- a machine of the world, as it lies -/
theorem WI.machAt {WT : TypeId} {w0 wr : World} {E : List (Option Nat)} {B D : Nat} {x : WV} {y : WM} (h : WI WT w0 wr E B D x y) (i : Nat) (hi : i < y.l.length) : ∃ gl lc, x.vl y = .slice (some ⟨gl, 0, none⟩) y.l.length lc ∧ x.lA = some ⟨gl, 0, none⟩ ∧ x.lc = lc ∧ D ≤ gl ∧ gl < wr.heap.size ∧ y.l.length ≤ lc ∧ wr.rangeAt gl (i * 14) (machL (x.vc y.c) (x.vs y.c) y.c.threads y.l[i]) ∧ wr.there gl (i * 14) 14 := by
  obtain ⟨gl, lc, e, h1, h2, h3⟩ := h.ol.open (by rw [List.length_map]; omega)
  rw [List.length_map] at e h3
  have e' := e
  simp only [WV.vl, Value.slice.injEq, true_and] at e'
  have ho := h.ol
  rw [e] at ho
  have hr := ho.row i (by rw [List.length_map]; exact hi)
  rw [List.getElem_map] at hr
  exact ⟨gl, lc, e, e'.1, e'.2, h1, h2, h3, hr.1, hr.2⟩
theorem range14 {w : World} {b o : Nat} {v0 v1 v2 v3 v4 v5 v6 v7 v8 v9 v10 v11 v12 v13 : Value} (h : w.rangeAt b o [v0, v1, v2, v3, v4, v5, v6, v7, v8, v9, v10, v11, v12, v13]) :
    w.cell? ⟨b, o, none⟩ = some v0 ∧ w.cell? ⟨b, o + 1, none⟩ = some v1 ∧ w.cell? ⟨b, o + 2, none⟩ = some v2 ∧ w.cell? ⟨b, o + 3, none⟩ = some v3 ∧ w.cell? ⟨b, o + 4, none⟩ = some v4 ∧ w.cell? ⟨b, o + 5, none⟩ = some v5 ∧ w.cell? ⟨b, o + 6, none⟩ = some v6 ∧ w.cell? ⟨b, o + 7, none⟩ = some v7 ∧ w.cell? ⟨b, o + 8, none⟩ = some v8 ∧ w.cell? ⟨b, o + 9, none⟩ = some v9 ∧ w.cell? ⟨b, o + 10, none⟩ = some v10 ∧ w.cell? ⟨b, o + 11, none⟩ = some v11 ∧ w.cell? ⟨b, o + 12, none⟩ = some v12 ∧ w.cell? ⟨b, o + 13, none⟩ = some v13 :=
  ⟨h 0 _ rfl, h 1 _ rfl, h 2 _ rfl, h 3 _ rfl, h 4 _ rfl, h 5 _ rfl, h 6 _ rfl, h 7 _ rfl, h 8 _ rfl, h 9 _ rfl, h 10 _ rfl, h 11 _ rfl, h 12 _ rfl, h 13 _ rfl⟩
theorem range_below {w w' : World} {b o : Nat} {cs : List Value} (h : w.rangeAt b o cs) (hb : Below w.heap.size w w') (hl : b < w.heap.size) : w'.rangeAt b o cs := fun j v hj => (hb.cell (p := ⟨b, o + j, none⟩) hl).trans (h j v hj)
theorem there_below {w w' : World} {b o n : Nat} (h : w.there b o n) (hb : Below w.heap.size w w') (hl : b < w.heap.size) : w'.there b o n := fun j hj => ⟨(congrArg Option.isSome (hb.cell (p := ⟨b, o + j, none⟩) hl)).trans (h j hj).1, (hb.frozen (p := ⟨b, o + j, none⟩) hl).trans (h j hj).2⟩
/-- boxes beside a call do not hurt what it made -/
theorem nx_boxes {S S0 : List (Option Nat)} {w u u1 wf : World} {P Q : Nat} (h1 : Below w.heap.size w u) (hb : Below u.heap.size u u1) (hz : u1.heap.size ≤ wf.heap.size) (hk : ∀ j, j < u1.heap.size → j ≠ P → j ≠ Q → wf.heap[j]? = u1.heap[j]?) (hP : P < u.heap.size ∨ u1.heap.size ≤ P) (hQ : Q < u.heap.size ∨ u1.heap.size ≤ Q) (hP0 : w.heap.size ≤ P) (hQ0 : w.heap.size ≤ Q) (hS : ∀ j, some j ∈ S → j < u.heap.size) (hsub : ∀ j, j < w.heap.size → some j ∈ S → some j ∈ S0) : ∀ w2, OffS S wf w2 → Nx (OffS S0 w) u u1 w2 := fun w2 h2 => by
  have z1 := h1.size
  have z2 := hb.size
  refine ⟨⟨by have := h2.1; omega, fun j hj hn => ?_⟩, ⟨by have := h2.1; omega, fun j hj hj2 => ?_⟩⟩
  · rw [h2.2 j (by omega) (fun e => hn (hsub j hj e)), hk j (by omega) (by omega) (by omega), hb.block j (by omega), h1.block j hj]
  · rw [h2.2 j (by omega) (fun e => by have := hS j e; omega), hk j hj2 (by omega) (by omega)]
set_option maxRecDepth 100000 in
set_option maxHeartbeats 16000000 in
/-- a machine that has ended makes no access -/
theorem wstep_end {WT : TypeId} {w0 w : World} {E : List (Option Nat)} {B D : Nat} {x : WV} {y : WM} (h : WI WT w0 w E B D x y) (i : Nat) (hi : i < y.l.length) (m : MachM) (hm : y.l[i] = m) (hl : y.l.length ≤ 1000) (hp : m.pl = 0) : Calls Try.prog 46 #[.pointer (some ⟨B, 0, none⟩), .int .i64 i] w fun e w' => e = .returned (.tuple #[.agg #[.int .u64 0, .bool false, .bool false, .slice none 0 0], .bool false]) ∧ Below w.heap.size w w' := by
  obtain ⟨gl, lc, hvl, hlA, hlc, hgl, hgls, hcap, RG, TH⟩ := h.machAt i hi
  rw [hm] at RG
  have HI := Lib.hid h
  have HRG := Lib.hid RG
  have HTH := Lib.hid TH
  have HVL := Lib.hid hvl
  obtain ⟨W, hW⟩ : ∃ W, w.alloc (.cells #[.int .u64 0, .bool false, .bool false, .slice none 0 0] 53) = W := ⟨_, rfl⟩
  have HBW : Hid (Below w.heap.size w W) := hW ▸ below_new (Below.refl w.heap.size w) _
  have RA : Hid (W.heap[w.heap.size]? = some (.cells #[.int .u64 0, .bool false, .bool false, .slice none 0 0] 53 (0, 0))) := hW ▸ heap_alloc_new _ _
  have hzW : w.heap.size + 1 = W.heap.size := by rw [← hW]; simp
  have HW := Lib.hid hW
  have hBl := h.lt
  have HLA := Lib.hid hlA
  have HLC := Lib.hid hlc
  have hiI : (i : Int) < (y.l.length : Int) := by omega
  have hiN : (decide ((i : Int) < 0)) = false := by simp
  clear hW hvl RG TH hm hlA hlc
  have row0 := h.row
  clear h
  unfold WV.row at row0
  rw [HLA.out, HLC.out] at row0
  have ROW := Lib.hid row0
  clear row0
  unfold machL WV.vc WV.vs at HRG
  go_enter Try.func46, Try.ntmps46
  go_upto_region 1 with fail
  rw [HW.out]
  clear HW
  obtain ⟨x0, x1, x2, x3, x4, x5, x6, x7, x8, x9⟩ := rowc10 ((HBW.out.block B hBl).trans ROW.out)
  obtain ⟨q0, q1, q2, q3, q4, q5, q6, q7, q8, q9, q10, q11, q12, q13⟩ := range14 (range_below HRG.out HBW.out hgls)
  rw [hp] at q1
  clear hp q0 q2 q3 q4 q5 q6 q7 q8 q9 q10 q11 q12 q13 x0 x1 x2 x3 x4 x5 x7 x8 x9
  have RAF := RA
  have HBF := HBW
  go_wp2_with (refine wpList_store_row rfl 53 _ _ rfl (w.heap.size) _ rfl rfl 53 #[.int .u64 0, .bool false, .bool false, .slice none 0 0] RAF.out (by kernel_rfl) rfl (by simp [Value.oneCell']) ?_)
  refine bodyPost_ret (v := .tuple #[.agg #[.int .u64 0, .bool false, .bool false, .slice none 0 0], .bool false]) (results_cell_tmp Try.results46 _ _ (w.heap.size) 53 _ (0, 0) _ rfl (setRow_heap _ _ _ _ 53 (0, 0) RAF.out) Try.underlying53 rfl (by kernel_rfl) _ rfl) rfl ?_
  exact ⟨rfl, row_below HBF.out (Nat.le_refl _) _⟩
set_option maxRecDepth 100000 in
set_option maxHeartbeats 32000000 in
theorem wstep_not {WT : TypeId} {w0 w : World} {E : List (Option Nat)} {B D : Nat} {x : WV} {y : WM} (h : WI WT w0 w E B D x y) (i : Nat) (hi : i < y.l.length) (m : MachM) (hm : y.l[i] = m) (hl : y.l.length ≤ 1000) (hp : ¬ m.pl = 0) (a : AccM) (HN : ∀ w', ConfV w' (.agg #[.slice x.cA y.c.caps.length x.cc, .slice x.sA y.c.starts.length x.sc, .int .i64 y.c.threads]) y.c → Calls Try.prog 28 #[.agg (machL (x.vc y.c) (x.vs y.c) y.c.threads m).toArray] w' fun e w2 => e = .returned (accV a) ∧ Below w'.heap.size w' w2) (ha : a.ok) {mm : MemM} {bb : AnsM} (hr : applyE y.m a = (mm, bb, false))  : Calls Try.prog 46 #[.pointer (some ⟨B, 0, none⟩), .int .i64 i] w fun e w' => e = .returned (.tuple #[.agg #[.int .u64 0, .bool false, .bool false, .slice none 0 0], .bool false]) ∧ Below w.heap.size w w' := by
  obtain ⟨gl, lc, hvl, hlA, hlc, hgl, hgls, hcap, RG, TH⟩ := h.machAt i hi
  rw [hm] at RG
  have HI := Lib.hid h
  have HRG := Lib.hid RG
  have HTH := Lib.hid TH
  have HVL := Lib.hid hvl
  obtain ⟨W, hW⟩ : ∃ W, w.alloc (.cells #[.int .u64 0, .bool false, .bool false, .slice none 0 0] 53) = W := ⟨_, rfl⟩
  have HBW : Hid (Below w.heap.size w W) := hW ▸ below_new (Below.refl w.heap.size w) _
  have RA : Hid (W.heap[w.heap.size]? = some (.cells #[.int .u64 0, .bool false, .bool false, .slice none 0 0] 53 (0, 0))) := hW ▸ heap_alloc_new _ _
  have hzW : w.heap.size + 1 = W.heap.size := by rw [← hW]; simp
  have HW := Lib.hid hW
  have hBl := h.lt
  have HLA := Lib.hid hlA
  have HLC := Lib.hid hlc
  have hiI : (i : Int) < (y.l.length : Int) := by omega
  have hiN : (decide ((i : Int) < 0)) = false := by simp
  clear hW hvl RG TH hm hlA hlc
  have row0 := h.row
  clear h
  unfold WV.row at row0
  rw [HLA.out, HLC.out] at row0
  have ROW := Lib.hid row0
  clear row0
  unfold machL WV.vc WV.vs at HRG
  have hpF : (m.pl == 0) = false := by simpa using hp
  go_enter Try.func46, Try.ntmps46
  go_upto_region 1 with fail
  rw [HW.out]
  clear HW
  obtain ⟨x0, x1, x2, x3, x4, x5, x6, x7, x8, x9⟩ := rowc10 ((HBW.out.block B hBl).trans ROW.out)
  obtain ⟨q0, q1, q2, q3, q4, q5, q6, q7, q8, q9, q10, q11, q12, q13⟩ := range14 (range_below HRG.out HBW.out hgls)
  go_upto_region 3 with fail
  have TN := Lib.hid HN
  unfold machL WV.vc WV.vs accV at TN
  try dsimp only at TN
  clear hp hpF
  go_wp2_with fail
  refine (TN.out _ ((HI.out.next HBW.out).confV)).mono ?_; rintro e w1 ⟨rfl, hb1⟩
  have HB1 := Lib.hid hb1
  clear hb1 TN x0 x1 x2 x3 x4 x5 x6 x7 x8 x9 q0 q1 q2 q3 q4 q5 q6 q7 q8 q9 q10 q11 q12 q13
  obtain ⟨W2, hW2⟩ : ∃ W2, (w1.alloc (.cells #[.int .i64 0, .int .i64 0, .int .u64 0, .int .u64 0, .int .i64 0] 69)).setRow w1.heap.size #[.int .i64 a.kind, .int .i64 a.addr, .int .u64 a.old, .int .u64 a.new, .int .i64 a.til] = W2 := ⟨_, rfl⟩
  have N2 : Hid ((w1.alloc (.cells #[.int .i64 0, .int .i64 0, .int .u64 0, .int .u64 0, .int .i64 0] 69)).heap[w1.heap.size]? = some (.cells #[.int .i64 0, .int .i64 0, .int .u64 0, .int .u64 0, .int .i64 0] 69 (0, 0))) := heap_alloc_new _ _
  have HB2 : Hid (Below w1.heap.size w1 W2) := hW2 ▸ row_below (below_new (Below.refl _ _) _) (Nat.le_refl _) _
  have R2 : Hid (W2.heap[w1.heap.size]? = some (.cells #[.int .i64 a.kind, .int .i64 a.addr, .int .u64 a.old, .int .u64 a.new, .int .i64 a.til] 69 (0, 0))) := hW2 ▸ setRow_heap _ _ _ _ _ (0, 0) N2.out
  have HW2 := Lib.hid hW2
  clear hW2
  go_upto_region 4 with (refine wpList_store_row rfl 69 _ _ rfl (w1.heap.size) _ rfl rfl 69 #[.int .i64 0, .int .i64 0, .int .u64 0, .int .u64 0, .int .i64 0] N2.out (by kernel_rfl) rfl (by simp [Value.oneCell']) ?_)
  rw [HW2.out]
  try simp only [Act.put]
  clear HW2 N2
  have hX1 := HB1.out.size
  obtain ⟨X, hX⟩ : ∃ X, w1.heap.size = X := ⟨_, rfl⟩
  have hXw : Hid (w.heap.size < X) := by show w.heap.size < X; omega
  clear hX1
  rw [hX] at R2
  rw [hX]
  clear hX

  have HB02 := Lib.hid (below_then HBW.out (below_then HB1.out HB2.out))
  have RA2 := Lib.hid (((below_then HB1.out HB2.out).block w.heap.size (by omega)).trans RA.out)
  have hX2 : X < W2.heap.size := (Array.getElem?_eq_some_iff.1 R2.out).1
  have KS : Hid (∀ w', Below W2.heap.size W2 w' → (fun w' : World => (w'.cell? ⟨B, 3, none⟩ = some (.slice x.mA y.m.words.length x.mc) ∧ w'.cell? ⟨B, 4, none⟩ = some (.slice x.nA y.m.lists.length x.nc) ∧ w'.cell? ⟨B, 5, none⟩ = some (.int .i64 y.m.tick)) ∧ (w'.cell? ⟨X, 0, none⟩ = some (.int .i64 a.kind) ∧ w'.cell? ⟨X, 1, none⟩ = some (.int .i64 a.addr) ∧ w'.cell? ⟨X, 2, none⟩ = some (.int .u64 a.old) ∧ w'.cell? ⟨X, 3, none⟩ = some (.int .u64 a.new) ∧ w'.cell? ⟨X, 4, none⟩ = some (.int .i64 a.til))) w') := fun w' hb => by
    obtain ⟨x0, x1, x2, x3, x4, x5, x6, x7, x8, x9⟩ := rowc10 (((below_then HB02.out hb).block B hBl).trans ROW.out)
    obtain ⟨y0, y1, y2, y3, y4⟩ := rowc5 ((hb.block X hX2).trans R2.out)
    exact ⟨⟨x3, x4, x5⟩, ⟨y0, y1, y2, y3, y4⟩⟩
  have TA := Lib.hid fun w' (hb : Below W2.heap.size W2 w') => rapply_any (OffS (x.S E B) w) _ y.m a w' (OffS.below (below_then HB02.out hb)) (OffS.wide _ _) HI.out.mem HI.out.fits ha
  unfold accV WV.mem at TA
  rw [hr] at TA
  have HFM : Hid mm.fits := by have := fits_apply (a := a) HI.out.fits ha; rw [hr] at this; exact this
  have HSL := Lib.hid HI.out.Slt
  clear hr
  go_cut [7, 8, 9] (fun s7 s8 s9 wx => ∃ (P Q : Nat) (m1 m2a zA : Option Addr) (n1 n2 zn zc : Nat), s7 = .pointer (some ⟨P, 0, none⟩) ∧ s8 = .pointer (some ⟨Q, 0, none⟩) ∧ s9 = .bool false ∧ Hid (wx.heap[P]? = some (.cells #[.slice m1 mm.words.length n1, .slice m2a mm.lists.length n2, .int .i64 mm.tick] 39 (0, 0))) ∧ Hid (wx.heap[Q]? = some (.cells #[.int .u64 bb.val, .bool bb.ok, .bool bb.late, .slice zA zn zc] 53 (0, 0))) ∧ Hid (W2.heap.size ≤ P) ∧ Hid (W2.heap.size ≤ Q) ∧ Hid (StM (OffS (x.S (some w.heap.size :: E) B) wx) (.agg #[.slice m1 mm.words.length n1, .slice m2a mm.lists.length n2, .int .i64 mm.tick]) mm) ∧ Hid (Below W2.heap.size W2 wx))
  case first =>
    refine untilK KS 14 15 (by kernel_rfl) rfl ?_
    obtain ⟨u0, hu0, HU0⟩ := drew_pack W2
    rw [hu0]
    clear hu0
    have hSU0 := KS.out _ HU0.out
    refine tkU (v := ?_) 0 la0 hSU0 (by kernel_rfl) (fun _ _ _ h => h) rfl ?_ ?_
    rotate_left
    · (intro w hSw; (try dsimp only at hSw); go_simp <;> with_reducible rfl)
    simp only [Act.put, List.setIfInBounds_toArray, List.set_cons_zero, List.set_cons_succ]
    refine tkU (v := ?_) 1 la1 hSU0 (by kernel_rfl) (fun _ _ _ h => h) rfl ?_ ?_
    rotate_left
    · (intro w hSw; (try dsimp only at hSw); go_simp <;> with_reducible rfl)
    simp only [Act.put, List.setIfInBounds_toArray, List.set_cons_zero, List.set_cons_succ]
    refine tkU (v := ?_) 2 la2 hSU0 (by kernel_rfl) (fun _ _ _ h => h) rfl ?_ ?_
    rotate_left
    · (intro w hSw; (try dsimp only at hSw); go_simp <;> with_reducible rfl)
    simp only [Act.put, List.setIfInBounds_toArray, List.set_cons_zero, List.set_cons_succ]
    refine tkU (v := ?_) 3 la3 hSU0 (by kernel_rfl) (fun _ _ _ h => h) rfl ?_ ?_
    rotate_left
    · (intro w hSw; (try dsimp only at hSw); go_simp <;> with_reducible rfl)
    simp only [Act.put, List.setIfInBounds_toArray, List.set_cons_zero, List.set_cons_succ]
    refine tkU (v := ?_) 4 la4 hSU0 (by kernel_rfl) (fun _ _ _ h => h) rfl ?_ ?_
    rotate_left
    · (intro w hSw; (try dsimp only at hSw); go_simp <;> with_reducible rfl)
    simp only [Act.put, List.setIfInBounds_toArray, List.set_cons_zero, List.set_cons_succ]
    refine wpAnyU_ready (rs := [5, 10, 11]) (by kernel_rfl) rfl ?_
    refine AllReadyU.cons la5 rfl (fun K hK => ?_) ?_
    · go_simp
      go_at_call 65
      refine (TA.out _ HU0.out).mono ?_
      rintro e u1 ⟨vq, zq, rfl, hs, hz, hbq⟩
      obtain ⟨m1, n1, m2a, n2, rfl⟩ : ∃ A k A2 k2, vq = .agg #[.slice A mm.words.length k, .slice A2 mm.lists.length k2, .int .i64 mm.tick] := hs.open u1 (Nx.at (OffS.below (below_then HB02.out HU0.out)) (OffS.wide _ _) hbq)
      obtain ⟨zx, zp, zq2, zA, zn, zc, rfl⟩ := hz.shape u1 (Nx.at (OffS.below (below_then HB02.out HU0.out)) (OffS.wide _ _) hbq)
      obtain ⟨rfl, rfl, rfl⟩ : zx = bb.val ∧ zp = bb.ok ∧ zq2 = bb.late := by obtain ⟨vl, e, -⟩ := hz; simp only [Value.agg.injEq, Array.mk.injEq, List.cons.injEq, Value.int.injEq, Value.bool.injEq, and_true, true_and] at e; exact ⟨e.1, e.2.1, e.2.2.1⟩
      have HSM := Lib.hid hs
      have HUC := HU0
      have HBQ := Lib.hid hbq
      have HU1 := Lib.hid (below_then HU0.out hbq)
      have HUF := Lib.hid (Below.refl u1.heap.size u1)
      clear hs hz hbq
      refine hK.out _ _ ?_ (fun hSU1 => ?_)
      · exact KS.out _ HU1.out
      clear hK K hSU0
      try simp only [Act.put, List.setIfInBounds_toArray, List.set_cons_zero, List.set_cons_succ]
      refine tkU (v := ?_) 6 la6 hSU1 (by kernel_rfl) (fun _ _ _ h => h) rfl ?_ ?_
      rotate_left
      · (intro w hSw; (try dsimp only at hSw); go_simp <;> with_reducible rfl)
      simp only [Act.put, List.setIfInBounds_toArray, List.set_cons_zero, List.set_cons_succ]
      refine tkU (v := ?_) 7 la7 hSU1 (by kernel_rfl) (fun _ _ _ h => h) rfl ?_ ?_
      rotate_left
      · (intro w hSw; (try dsimp only at hSw); go_simp <;> with_reducible rfl)
      simp only [Act.put, List.setIfInBounds_toArray, List.set_cons_zero, List.set_cons_succ]
      refine tkU (v := ?_) 8 la8 hSU1 (by kernel_rfl) (fun _ _ _ h => h) rfl ?_ ?_
      rotate_left
      · (intro w hSw; (try dsimp only at hSw); go_simp <;> with_reducible rfl)
      simp only [Act.put, List.setIfInBounds_toArray, List.set_cons_zero, List.set_cons_succ]
      refine tkU (v := ?_) 9 la9 hSU1 (by kernel_rfl) (fun _ _ _ h => h) rfl ?_ ?_
      rotate_left
      · (intro w hSw; (try dsimp only at hSw); go_simp <;> with_reducible rfl)
      simp only [Act.put, List.setIfInBounds_toArray, List.set_cons_zero, List.set_cons_succ]
      refine wpAnyU_ready (rs := [10, 11]) (by kernel_rfl) rfl ?_
      refine AllReadyU.cons la10 rfl (fun K hK => ?_) ?_
      · go_simp
        obtain ⟨u2, P, hv, hXe, RP, hbX, ltP⟩ := alloc_pack u1 (.cells #[.slice none 0 0, .slice none 0 0, .int .i64 0] 39)
        rw [hv, hXe]
        have geP : Hid (W2.heap.size ≤ P) := hXe ▸ HU1.out.size
        have HU2 := Lib.hid (below_then HU1.out hbX.out)
        have oP : Hid (P < u0.heap.size ∨ u1.heap.size ≤ P) := .inr (hXe ▸ Nat.le_refl _)
        have HUF := Lib.hid (below_then HUF.out hbX.out)
        clear hv hXe hbX
        refine hK.out _ _ ?_ (fun hSU2 => ?_)
        · exact KS.out _ HU2.out
        clear hK K hSU1
        try simp only [Act.put, List.setIfInBounds_toArray, List.set_cons_zero, List.set_cons_succ]
        refine wpAnyU_ready (rs := [11]) (by kernel_rfl) rfl ?_
        refine AllReadyU.cons la11 rfl (fun K hK => ?_) ?_
        · go_simp
          obtain ⟨u3, Q, hv, hXe, RQ, hbX, ltQ⟩ := alloc_pack u2 (.cells #[.int .u64 0, .bool false, .bool false, .slice none 0 0] 53)
          rw [hv, hXe]
          have geQ : Hid (W2.heap.size ≤ Q) := hXe ▸ HU2.out.size
          have HU3 := Lib.hid (below_then HU2.out hbX.out)
          have nePQ : Hid (P ≠ Q) := Nat.ne_of_lt (hXe ▸ ltP.out)
          have RP := Lib.hid ((hbX.out.block P ltP.out).trans RP.out)
          have ltP := Lib.hid (Nat.lt_of_lt_of_le ltP.out hbX.out.size)
          have oQ : Hid (Q < u0.heap.size ∨ u1.heap.size ≤ Q) := .inr (hXe ▸ HUF.out.size)
          have HUF := Lib.hid (below_then HUF.out hbX.out)
          clear hv hXe hbX
          refine hK.out _ _ ?_ (fun hSU3 => ?_)
          · exact KS.out _ HU3.out
          clear hK K hSU2
          try simp only [Act.put, List.setIfInBounds_toArray, List.set_cons_zero, List.set_cons_succ]
          refine wpAnyU_ready (rs := [12]) (by kernel_rfl) rfl ?_
          refine AllReadyU.cons la12 rfl (fun K hK => ?_) ?_
          · have hPQ : Hid (P ≠ Q) := nePQ.out
            refine step_store_row rfl 39 _ _ rfl P _ rfl rfl 39 #[.slice none 0 0, .slice none 0 0, .int .i64 0] RP.out (by kernel_rfl) rfl (by simp [Value.oneCell']) ?_
            have RP1 := Lib.hid (setRow_heap u3 P _ #[.slice m1 mm.words.length n1, .slice m2a mm.lists.length n2, .int .i64 mm.tick] _ (0, 0) RP.out)
            have RQ1 := Lib.hid ((setRow_other u3 P Q #[.slice m1 mm.words.length n1, .slice m2a mm.lists.length n2, .int .i64 mm.tick] hPQ.out.symm).trans RQ.out)
            have KP : Hid (∀ j, j ≠ P → (u3.setRow P #[.slice m1 mm.words.length n1, .slice m2a mm.lists.length n2, .int .i64 mm.tick]).heap[j]? = u3.heap[j]?) := fun j hj => setRow_other _ _ _ _ hj
            have zP : Hid ((u3.setRow P #[.slice m1 mm.words.length n1, .slice m2a mm.lists.length n2, .int .i64 mm.tick]).heap.size = u3.heap.size) := by show _ = _; simp [World.setRow]
            have HUP := Lib.hid (row_below HU3.out geP.out #[.slice m1 mm.words.length n1, .slice m2a mm.lists.length n2, .int .i64 mm.tick])
            generalize u3.setRow P #[.slice m1 mm.words.length n1, .slice m2a mm.lists.length n2, .int .i64 mm.tick] = uP at *
            refine hK.out _ _ ?_ (fun hSU4 => ?_)
            · exact KS.out _ HUP.out
            clear hK K hSU3
            try simp only [Act.put, List.setIfInBounds_toArray, List.set_cons_zero, List.set_cons_succ]
            refine wpAnyU_ready (rs := [13]) (by kernel_rfl) rfl ?_
            refine AllReadyU.cons la13 rfl (fun K hK => ?_) ?_
            · refine step_store_row rfl 53 _ _ rfl Q _ rfl rfl 53 #[.int .u64 0, .bool false, .bool false, .slice none 0 0] RQ1.out (by kernel_rfl) rfl (by simp [Value.oneCell']) ?_
              have RQ2 := Lib.hid (setRow_heap uP Q _ #[.int .u64 bb.val, .bool bb.ok, .bool bb.late, .slice zA zn zc] _ (0, 0) RQ1.out)
              have RP2 := Lib.hid ((setRow_other uP Q P #[.int .u64 bb.val, .bool bb.ok, .bool bb.late, .slice zA zn zc] hPQ.out).trans RP1.out)
              have KQ : Hid (∀ j, j ≠ Q → (uP.setRow Q #[.int .u64 bb.val, .bool bb.ok, .bool bb.late, .slice zA zn zc]).heap[j]? = uP.heap[j]?) := fun j hj => setRow_other _ _ _ _ hj
              have zQ : Hid ((uP.setRow Q #[.int .u64 bb.val, .bool bb.ok, .bool bb.late, .slice zA zn zc]).heap.size = uP.heap.size) := by show _ = _; simp [World.setRow]
              have HUQ := Lib.hid (row_below HUP.out geQ.out #[.int .u64 bb.val, .bool bb.ok, .bool bb.late, .slice zA zn zc])
              generalize uP.setRow Q #[.int .u64 bb.val, .bool bb.ok, .bool bb.late, .slice zA zn zc] = uQ at *
              refine hK.out _ _ ?_ (fun hSU5 => ?_)
              · exact KS.out _ HUQ.out
              clear hK K hSU4
              try simp only [Act.put, List.setIfInBounds_toArray, List.set_cons_zero, List.set_cons_succ]
              refine wpAnyU_ready (rs := [14]) (by kernel_rfl) rfl ?_
              refine AllReadyU.free la14 rfl (by kernel_rfl) (fun K hK => ?_) ?_
              · go_simp
                refine hK.out _ _ ?_
                clear hK K hSU5
                try simp only [Act.put, List.setIfInBounds_toArray, List.set_cons_zero, List.set_cons_succ]
                refine wpAnyU_done (by kernel_rfl) ?_ _
                have HG := Lib.hid (nx_boxes (S := x.S (some w.heap.size :: E) B) (S0 := x.S E B) (below_then HB02.out HUC.out) HBQ.out (wf := uQ) (by have h1 := zP.out; have h2 := zQ.out; have h3 := HUF.out.size; omega) (fun j hj hp hq => (KQ.out j hq).trans ((KP.out j hp).trans (HUF.out.block j hj))) oP.out oQ.out (Nat.le_trans HB02.out.size geP.out) (Nat.le_trans HB02.out.size geQ.out) (fun j hj => by have h1 := HB02.out.size; have h2 := HUC.out.size; have h3 := (Array.getElem?_eq_some_iff.1 RA2.out).1; simp only [WV.S, List.cons_append, List.mem_cons, Option.some.injEq] at hj; rcases hj with rfl | hj; omega; have := HSL.out j hj; omega) (fun j h1 h2 => by simp only [WV.S, List.cons_append, List.mem_cons, Option.some.injEq] at h2; rcases h2 with rfl | h2; omega; exact h2))
                have HMQ := Lib.hid (HSM.out.sub HG.out)
                go_wp2_with fail
                go_meet
                exact ⟨P, Q, m1, m2a, zA, n1, n2, zn, zc, rfl, rfl, rfl, RP2, RQ2, geP, geQ, HMQ, HUQ⟩
              exact AllReadyU.nil
            exact AllReadyU.nil
          exact AllReadyU.nil
        exact AllReadyU.nil
      refine AllReadyU.cons la11 rfl (fun K hK => ?_) ?_
      · go_simp
        obtain ⟨u2, Q, hv, hXe, RQ, hbX, ltQ⟩ := alloc_pack u1 (.cells #[.int .u64 0, .bool false, .bool false, .slice none 0 0] 53)
        rw [hv, hXe]
        have geQ : Hid (W2.heap.size ≤ Q) := hXe ▸ HU1.out.size
        have HU2 := Lib.hid (below_then HU1.out hbX.out)
        have oQ : Hid (Q < u0.heap.size ∨ u1.heap.size ≤ Q) := .inr (hXe ▸ Nat.le_refl _)
        have HUF := Lib.hid (below_then HUF.out hbX.out)
        clear hv hXe hbX
        refine hK.out _ _ ?_ (fun hSU6 => ?_)
        · exact KS.out _ HU2.out
        clear hK K hSU1
        try simp only [Act.put, List.setIfInBounds_toArray, List.set_cons_zero, List.set_cons_succ]
        refine wpAnyU_ready (rs := [10]) (by kernel_rfl) rfl ?_
        refine AllReadyU.cons la10 rfl (fun K hK => ?_) ?_
        · go_simp
          obtain ⟨u3, P, hv, hXe, RP, hbX, ltP⟩ := alloc_pack u2 (.cells #[.slice none 0 0, .slice none 0 0, .int .i64 0] 39)
          rw [hv, hXe]
          have geP : Hid (W2.heap.size ≤ P) := hXe ▸ HU2.out.size
          have HU3 := Lib.hid (below_then HU2.out hbX.out)
          have neQP : Hid (Q ≠ P) := Nat.ne_of_lt (hXe ▸ ltQ.out)
          have RQ := Lib.hid ((hbX.out.block Q ltQ.out).trans RQ.out)
          have ltQ := Lib.hid (Nat.lt_of_lt_of_le ltQ.out hbX.out.size)
          have oP : Hid (P < u0.heap.size ∨ u1.heap.size ≤ P) := .inr (hXe ▸ HUF.out.size)
          have HUF := Lib.hid (below_then HUF.out hbX.out)
          clear hv hXe hbX
          refine hK.out _ _ ?_ (fun hSU7 => ?_)
          · exact KS.out _ HU3.out
          clear hK K hSU6
          try simp only [Act.put, List.setIfInBounds_toArray, List.set_cons_zero, List.set_cons_succ]
          refine wpAnyU_ready (rs := [12]) (by kernel_rfl) rfl ?_
          refine AllReadyU.cons la12 rfl (fun K hK => ?_) ?_
          · have hPQ : Hid (P ≠ Q) := neQP.out.symm
            refine step_store_row rfl 39 _ _ rfl P _ rfl rfl 39 #[.slice none 0 0, .slice none 0 0, .int .i64 0] RP.out (by kernel_rfl) rfl (by simp [Value.oneCell']) ?_
            have RP1 := Lib.hid (setRow_heap u3 P _ #[.slice m1 mm.words.length n1, .slice m2a mm.lists.length n2, .int .i64 mm.tick] _ (0, 0) RP.out)
            have RQ1 := Lib.hid ((setRow_other u3 P Q #[.slice m1 mm.words.length n1, .slice m2a mm.lists.length n2, .int .i64 mm.tick] hPQ.out.symm).trans RQ.out)
            have KP : Hid (∀ j, j ≠ P → (u3.setRow P #[.slice m1 mm.words.length n1, .slice m2a mm.lists.length n2, .int .i64 mm.tick]).heap[j]? = u3.heap[j]?) := fun j hj => setRow_other _ _ _ _ hj
            have zP : Hid ((u3.setRow P #[.slice m1 mm.words.length n1, .slice m2a mm.lists.length n2, .int .i64 mm.tick]).heap.size = u3.heap.size) := by show _ = _; simp [World.setRow]
            have HUP := Lib.hid (row_below HU3.out geP.out #[.slice m1 mm.words.length n1, .slice m2a mm.lists.length n2, .int .i64 mm.tick])
            generalize u3.setRow P #[.slice m1 mm.words.length n1, .slice m2a mm.lists.length n2, .int .i64 mm.tick] = uP at *
            refine hK.out _ _ ?_ (fun hSU8 => ?_)
            · exact KS.out _ HUP.out
            clear hK K hSU7
            try simp only [Act.put, List.setIfInBounds_toArray, List.set_cons_zero, List.set_cons_succ]
            refine wpAnyU_ready (rs := [13]) (by kernel_rfl) rfl ?_
            refine AllReadyU.cons la13 rfl (fun K hK => ?_) ?_
            · refine step_store_row rfl 53 _ _ rfl Q _ rfl rfl 53 #[.int .u64 0, .bool false, .bool false, .slice none 0 0] RQ1.out (by kernel_rfl) rfl (by simp [Value.oneCell']) ?_
              have RQ2 := Lib.hid (setRow_heap uP Q _ #[.int .u64 bb.val, .bool bb.ok, .bool bb.late, .slice zA zn zc] _ (0, 0) RQ1.out)
              have RP2 := Lib.hid ((setRow_other uP Q P #[.int .u64 bb.val, .bool bb.ok, .bool bb.late, .slice zA zn zc] hPQ.out).trans RP1.out)
              have KQ : Hid (∀ j, j ≠ Q → (uP.setRow Q #[.int .u64 bb.val, .bool bb.ok, .bool bb.late, .slice zA zn zc]).heap[j]? = uP.heap[j]?) := fun j hj => setRow_other _ _ _ _ hj
              have zQ : Hid ((uP.setRow Q #[.int .u64 bb.val, .bool bb.ok, .bool bb.late, .slice zA zn zc]).heap.size = uP.heap.size) := by show _ = _; simp [World.setRow]
              have HUQ := Lib.hid (row_below HUP.out geQ.out #[.int .u64 bb.val, .bool bb.ok, .bool bb.late, .slice zA zn zc])
              generalize uP.setRow Q #[.int .u64 bb.val, .bool bb.ok, .bool bb.late, .slice zA zn zc] = uQ at *
              refine hK.out _ _ ?_ (fun hSU9 => ?_)
              · exact KS.out _ HUQ.out
              clear hK K hSU8
              try simp only [Act.put, List.setIfInBounds_toArray, List.set_cons_zero, List.set_cons_succ]
              refine wpAnyU_ready (rs := [14]) (by kernel_rfl) rfl ?_
              refine AllReadyU.free la14 rfl (by kernel_rfl) (fun K hK => ?_) ?_
              · go_simp
                refine hK.out _ _ ?_
                clear hK K hSU9
                try simp only [Act.put, List.setIfInBounds_toArray, List.set_cons_zero, List.set_cons_succ]
                refine wpAnyU_done (by kernel_rfl) ?_ _
                have HG := Lib.hid (nx_boxes (S := x.S (some w.heap.size :: E) B) (S0 := x.S E B) (below_then HB02.out HUC.out) HBQ.out (wf := uQ) (by have h1 := zP.out; have h2 := zQ.out; have h3 := HUF.out.size; omega) (fun j hj hp hq => (KQ.out j hq).trans ((KP.out j hp).trans (HUF.out.block j hj))) oP.out oQ.out (Nat.le_trans HB02.out.size geP.out) (Nat.le_trans HB02.out.size geQ.out) (fun j hj => by have h1 := HB02.out.size; have h2 := HUC.out.size; have h3 := (Array.getElem?_eq_some_iff.1 RA2.out).1; simp only [WV.S, List.cons_append, List.mem_cons, Option.some.injEq] at hj; rcases hj with rfl | hj; omega; have := HSL.out j hj; omega) (fun j h1 h2 => by simp only [WV.S, List.cons_append, List.mem_cons, Option.some.injEq] at h2; rcases h2 with rfl | h2; omega; exact h2))
                have HMQ := Lib.hid (HSM.out.sub HG.out)
                go_wp2_with fail
                go_meet
                exact ⟨P, Q, m1, m2a, zA, n1, n2, zn, zc, rfl, rfl, rfl, RP2, RQ2, geP, geQ, HMQ, HUQ⟩
              exact AllReadyU.nil
            exact AllReadyU.nil
          exact AllReadyU.nil
        exact AllReadyU.nil
      exact AllReadyU.nil
    refine AllReadyU.cons la10 rfl (fun K hK => ?_) ?_
    · go_simp
      obtain ⟨u1, P, hv, hXe, RP, hbX, ltP⟩ := alloc_pack u0 (.cells #[.slice none 0 0, .slice none 0 0, .int .i64 0] 39)
      rw [hv, hXe]
      have geP : Hid (W2.heap.size ≤ P) := hXe ▸ HU0.out.size
      have HU1 := Lib.hid (below_then HU0.out hbX.out)
      clear hv hXe hbX
      refine hK.out _ _ ?_ (fun hSU10 => ?_)
      · exact KS.out _ HU1.out
      clear hK K hSU0
      try simp only [Act.put, List.setIfInBounds_toArray, List.set_cons_zero, List.set_cons_succ]
      refine wpAnyU_ready (rs := [5, 11]) (by kernel_rfl) rfl ?_
      refine AllReadyU.cons la5 rfl (fun K hK => ?_) ?_
      · go_simp
        go_at_call 65
        refine (TA.out _ HU1.out).mono ?_
        rintro e u2 ⟨vq, zq, rfl, hs, hz, hbq⟩
        obtain ⟨m1, n1, m2a, n2, rfl⟩ : ∃ A k A2 k2, vq = .agg #[.slice A mm.words.length k, .slice A2 mm.lists.length k2, .int .i64 mm.tick] := hs.open u2 (Nx.at (OffS.below (below_then HB02.out HU1.out)) (OffS.wide _ _) hbq)
        obtain ⟨zx, zp, zq2, zA, zn, zc, rfl⟩ := hz.shape u2 (Nx.at (OffS.below (below_then HB02.out HU1.out)) (OffS.wide _ _) hbq)
        obtain ⟨rfl, rfl, rfl⟩ : zx = bb.val ∧ zp = bb.ok ∧ zq2 = bb.late := by obtain ⟨vl, e, -⟩ := hz; simp only [Value.agg.injEq, Array.mk.injEq, List.cons.injEq, Value.int.injEq, Value.bool.injEq, and_true, true_and] at e; exact ⟨e.1, e.2.1, e.2.2.1⟩
        have HSM := Lib.hid hs
        have HUC := HU1
        have HBQ := Lib.hid hbq
        have HU2 := Lib.hid (below_then HU1.out hbq)
        have RP := Lib.hid ((hbq.block P ltP.out).trans RP.out)
        have oP : Hid (P < u1.heap.size ∨ u2.heap.size ≤ P) := .inl ltP.out
        have ltP := Lib.hid (Nat.lt_of_lt_of_le ltP.out hbq.size)
        have HUF := Lib.hid (Below.refl u2.heap.size u2)
        clear hs hz hbq
        refine hK.out _ _ ?_ (fun hSU11 => ?_)
        · exact KS.out _ HU2.out
        clear hK K hSU10
        try simp only [Act.put, List.setIfInBounds_toArray, List.set_cons_zero, List.set_cons_succ]
        refine tkU (v := ?_) 6 la6 hSU11 (by kernel_rfl) (fun _ _ _ h => h) rfl ?_ ?_
        rotate_left
        · (intro w hSw; (try dsimp only at hSw); go_simp <;> with_reducible rfl)
        simp only [Act.put, List.setIfInBounds_toArray, List.set_cons_zero, List.set_cons_succ]
        refine tkU (v := ?_) 7 la7 hSU11 (by kernel_rfl) (fun _ _ _ h => h) rfl ?_ ?_
        rotate_left
        · (intro w hSw; (try dsimp only at hSw); go_simp <;> with_reducible rfl)
        simp only [Act.put, List.setIfInBounds_toArray, List.set_cons_zero, List.set_cons_succ]
        refine tkU (v := ?_) 8 la8 hSU11 (by kernel_rfl) (fun _ _ _ h => h) rfl ?_ ?_
        rotate_left
        · (intro w hSw; (try dsimp only at hSw); go_simp <;> with_reducible rfl)
        simp only [Act.put, List.setIfInBounds_toArray, List.set_cons_zero, List.set_cons_succ]
        refine tkU (v := ?_) 9 la9 hSU11 (by kernel_rfl) (fun _ _ _ h => h) rfl ?_ ?_
        rotate_left
        · (intro w hSw; (try dsimp only at hSw); go_simp <;> with_reducible rfl)
        simp only [Act.put, List.setIfInBounds_toArray, List.set_cons_zero, List.set_cons_succ]
        refine wpAnyU_ready (rs := [11]) (by kernel_rfl) rfl ?_
        refine AllReadyU.cons la11 rfl (fun K hK => ?_) ?_
        · go_simp
          obtain ⟨u3, Q, hv, hXe, RQ, hbX, ltQ⟩ := alloc_pack u2 (.cells #[.int .u64 0, .bool false, .bool false, .slice none 0 0] 53)
          rw [hv, hXe]
          have geQ : Hid (W2.heap.size ≤ Q) := hXe ▸ HU2.out.size
          have HU3 := Lib.hid (below_then HU2.out hbX.out)
          have nePQ : Hid (P ≠ Q) := Nat.ne_of_lt (hXe ▸ ltP.out)
          have RP := Lib.hid ((hbX.out.block P ltP.out).trans RP.out)
          have ltP := Lib.hid (Nat.lt_of_lt_of_le ltP.out hbX.out.size)
          have oQ : Hid (Q < u1.heap.size ∨ u2.heap.size ≤ Q) := .inr (hXe ▸ Nat.le_refl _)
          have HUF := Lib.hid (below_then HUF.out hbX.out)
          clear hv hXe hbX
          refine hK.out _ _ ?_ (fun hSU12 => ?_)
          · exact KS.out _ HU3.out
          clear hK K hSU11
          try simp only [Act.put, List.setIfInBounds_toArray, List.set_cons_zero, List.set_cons_succ]
          refine wpAnyU_ready (rs := [12]) (by kernel_rfl) rfl ?_
          refine AllReadyU.cons la12 rfl (fun K hK => ?_) ?_
          · have hPQ : Hid (P ≠ Q) := nePQ.out
            refine step_store_row rfl 39 _ _ rfl P _ rfl rfl 39 #[.slice none 0 0, .slice none 0 0, .int .i64 0] RP.out (by kernel_rfl) rfl (by simp [Value.oneCell']) ?_
            have RP1 := Lib.hid (setRow_heap u3 P _ #[.slice m1 mm.words.length n1, .slice m2a mm.lists.length n2, .int .i64 mm.tick] _ (0, 0) RP.out)
            have RQ1 := Lib.hid ((setRow_other u3 P Q #[.slice m1 mm.words.length n1, .slice m2a mm.lists.length n2, .int .i64 mm.tick] hPQ.out.symm).trans RQ.out)
            have KP : Hid (∀ j, j ≠ P → (u3.setRow P #[.slice m1 mm.words.length n1, .slice m2a mm.lists.length n2, .int .i64 mm.tick]).heap[j]? = u3.heap[j]?) := fun j hj => setRow_other _ _ _ _ hj
            have zP : Hid ((u3.setRow P #[.slice m1 mm.words.length n1, .slice m2a mm.lists.length n2, .int .i64 mm.tick]).heap.size = u3.heap.size) := by show _ = _; simp [World.setRow]
            have HUP := Lib.hid (row_below HU3.out geP.out #[.slice m1 mm.words.length n1, .slice m2a mm.lists.length n2, .int .i64 mm.tick])
            generalize u3.setRow P #[.slice m1 mm.words.length n1, .slice m2a mm.lists.length n2, .int .i64 mm.tick] = uP at *
            refine hK.out _ _ ?_ (fun hSU13 => ?_)
            · exact KS.out _ HUP.out
            clear hK K hSU12
            try simp only [Act.put, List.setIfInBounds_toArray, List.set_cons_zero, List.set_cons_succ]
            refine wpAnyU_ready (rs := [13]) (by kernel_rfl) rfl ?_
            refine AllReadyU.cons la13 rfl (fun K hK => ?_) ?_
            · refine step_store_row rfl 53 _ _ rfl Q _ rfl rfl 53 #[.int .u64 0, .bool false, .bool false, .slice none 0 0] RQ1.out (by kernel_rfl) rfl (by simp [Value.oneCell']) ?_
              have RQ2 := Lib.hid (setRow_heap uP Q _ #[.int .u64 bb.val, .bool bb.ok, .bool bb.late, .slice zA zn zc] _ (0, 0) RQ1.out)
              have RP2 := Lib.hid ((setRow_other uP Q P #[.int .u64 bb.val, .bool bb.ok, .bool bb.late, .slice zA zn zc] hPQ.out).trans RP1.out)
              have KQ : Hid (∀ j, j ≠ Q → (uP.setRow Q #[.int .u64 bb.val, .bool bb.ok, .bool bb.late, .slice zA zn zc]).heap[j]? = uP.heap[j]?) := fun j hj => setRow_other _ _ _ _ hj
              have zQ : Hid ((uP.setRow Q #[.int .u64 bb.val, .bool bb.ok, .bool bb.late, .slice zA zn zc]).heap.size = uP.heap.size) := by show _ = _; simp [World.setRow]
              have HUQ := Lib.hid (row_below HUP.out geQ.out #[.int .u64 bb.val, .bool bb.ok, .bool bb.late, .slice zA zn zc])
              generalize uP.setRow Q #[.int .u64 bb.val, .bool bb.ok, .bool bb.late, .slice zA zn zc] = uQ at *
              refine hK.out _ _ ?_ (fun hSU14 => ?_)
              · exact KS.out _ HUQ.out
              clear hK K hSU13
              try simp only [Act.put, List.setIfInBounds_toArray, List.set_cons_zero, List.set_cons_succ]
              refine wpAnyU_ready (rs := [14]) (by kernel_rfl) rfl ?_
              refine AllReadyU.free la14 rfl (by kernel_rfl) (fun K hK => ?_) ?_
              · go_simp
                refine hK.out _ _ ?_
                clear hK K hSU14
                try simp only [Act.put, List.setIfInBounds_toArray, List.set_cons_zero, List.set_cons_succ]
                refine wpAnyU_done (by kernel_rfl) ?_ _
                have HG := Lib.hid (nx_boxes (S := x.S (some w.heap.size :: E) B) (S0 := x.S E B) (below_then HB02.out HUC.out) HBQ.out (wf := uQ) (by have h1 := zP.out; have h2 := zQ.out; have h3 := HUF.out.size; omega) (fun j hj hp hq => (KQ.out j hq).trans ((KP.out j hp).trans (HUF.out.block j hj))) oP.out oQ.out (Nat.le_trans HB02.out.size geP.out) (Nat.le_trans HB02.out.size geQ.out) (fun j hj => by have h1 := HB02.out.size; have h2 := HUC.out.size; have h3 := (Array.getElem?_eq_some_iff.1 RA2.out).1; simp only [WV.S, List.cons_append, List.mem_cons, Option.some.injEq] at hj; rcases hj with rfl | hj; omega; have := HSL.out j hj; omega) (fun j h1 h2 => by simp only [WV.S, List.cons_append, List.mem_cons, Option.some.injEq] at h2; rcases h2 with rfl | h2; omega; exact h2))
                have HMQ := Lib.hid (HSM.out.sub HG.out)
                go_wp2_with fail
                go_meet
                exact ⟨P, Q, m1, m2a, zA, n1, n2, zn, zc, rfl, rfl, rfl, RP2, RQ2, geP, geQ, HMQ, HUQ⟩
              exact AllReadyU.nil
            exact AllReadyU.nil
          exact AllReadyU.nil
        exact AllReadyU.nil
      refine AllReadyU.cons la11 rfl (fun K hK => ?_) ?_
      · go_simp
        obtain ⟨u2, Q, hv, hXe, RQ, hbX, ltQ⟩ := alloc_pack u1 (.cells #[.int .u64 0, .bool false, .bool false, .slice none 0 0] 53)
        rw [hv, hXe]
        have geQ : Hid (W2.heap.size ≤ Q) := hXe ▸ HU1.out.size
        have HU2 := Lib.hid (below_then HU1.out hbX.out)
        have nePQ : Hid (P ≠ Q) := Nat.ne_of_lt (hXe ▸ ltP.out)
        have RP := Lib.hid ((hbX.out.block P ltP.out).trans RP.out)
        have ltP := Lib.hid (Nat.lt_of_lt_of_le ltP.out hbX.out.size)
        clear hv hXe hbX
        refine hK.out _ _ ?_ (fun hSU15 => ?_)
        · exact KS.out _ HU2.out
        clear hK K hSU10
        try simp only [Act.put, List.setIfInBounds_toArray, List.set_cons_zero, List.set_cons_succ]
        refine wpAnyU_ready (rs := [5]) (by kernel_rfl) rfl ?_
        refine AllReadyU.cons la5 rfl (fun K hK => ?_) ?_
        · go_simp
          go_at_call 65
          refine (TA.out _ HU2.out).mono ?_
          rintro e u3 ⟨vq, zq, rfl, hs, hz, hbq⟩
          obtain ⟨m1, n1, m2a, n2, rfl⟩ : ∃ A k A2 k2, vq = .agg #[.slice A mm.words.length k, .slice A2 mm.lists.length k2, .int .i64 mm.tick] := hs.open u3 (Nx.at (OffS.below (below_then HB02.out HU2.out)) (OffS.wide _ _) hbq)
          obtain ⟨zx, zp, zq2, zA, zn, zc, rfl⟩ := hz.shape u3 (Nx.at (OffS.below (below_then HB02.out HU2.out)) (OffS.wide _ _) hbq)
          obtain ⟨rfl, rfl, rfl⟩ : zx = bb.val ∧ zp = bb.ok ∧ zq2 = bb.late := by obtain ⟨vl, e, -⟩ := hz; simp only [Value.agg.injEq, Array.mk.injEq, List.cons.injEq, Value.int.injEq, Value.bool.injEq, and_true, true_and] at e; exact ⟨e.1, e.2.1, e.2.2.1⟩
          have HSM := Lib.hid hs
          have HUC := HU2
          have HBQ := Lib.hid hbq
          have HU3 := Lib.hid (below_then HU2.out hbq)
          have RP := Lib.hid ((hbq.block P ltP.out).trans RP.out)
          have oP : Hid (P < u2.heap.size ∨ u3.heap.size ≤ P) := .inl ltP.out
          have ltP := Lib.hid (Nat.lt_of_lt_of_le ltP.out hbq.size)
          have RQ := Lib.hid ((hbq.block Q ltQ.out).trans RQ.out)
          have oQ : Hid (Q < u2.heap.size ∨ u3.heap.size ≤ Q) := .inl ltQ.out
          have ltQ := Lib.hid (Nat.lt_of_lt_of_le ltQ.out hbq.size)
          have HUF := Lib.hid (Below.refl u3.heap.size u3)
          clear hs hz hbq
          refine hK.out _ _ ?_ (fun hSU16 => ?_)
          · exact KS.out _ HU3.out
          clear hK K hSU15
          try simp only [Act.put, List.setIfInBounds_toArray, List.set_cons_zero, List.set_cons_succ]
          refine tkU (v := ?_) 6 la6 hSU16 (by kernel_rfl) (fun _ _ _ h => h) rfl ?_ ?_
          rotate_left
          · (intro w hSw; (try dsimp only at hSw); go_simp <;> with_reducible rfl)
          simp only [Act.put, List.setIfInBounds_toArray, List.set_cons_zero, List.set_cons_succ]
          refine tkU (v := ?_) 7 la7 hSU16 (by kernel_rfl) (fun _ _ _ h => h) rfl ?_ ?_
          rotate_left
          · (intro w hSw; (try dsimp only at hSw); go_simp <;> with_reducible rfl)
          simp only [Act.put, List.setIfInBounds_toArray, List.set_cons_zero, List.set_cons_succ]
          refine tkU (v := ?_) 8 la8 hSU16 (by kernel_rfl) (fun _ _ _ h => h) rfl ?_ ?_
          rotate_left
          · (intro w hSw; (try dsimp only at hSw); go_simp <;> with_reducible rfl)
          simp only [Act.put, List.setIfInBounds_toArray, List.set_cons_zero, List.set_cons_succ]
          refine tkU (v := ?_) 9 la9 hSU16 (by kernel_rfl) (fun _ _ _ h => h) rfl ?_ ?_
          rotate_left
          · (intro w hSw; (try dsimp only at hSw); go_simp <;> with_reducible rfl)
          simp only [Act.put, List.setIfInBounds_toArray, List.set_cons_zero, List.set_cons_succ]
          refine wpAnyU_ready (rs := [12]) (by kernel_rfl) rfl ?_
          refine AllReadyU.cons la12 rfl (fun K hK => ?_) ?_
          · have hPQ : Hid (P ≠ Q) := nePQ.out
            refine step_store_row rfl 39 _ _ rfl P _ rfl rfl 39 #[.slice none 0 0, .slice none 0 0, .int .i64 0] RP.out (by kernel_rfl) rfl (by simp [Value.oneCell']) ?_
            have RP1 := Lib.hid (setRow_heap u3 P _ #[.slice m1 mm.words.length n1, .slice m2a mm.lists.length n2, .int .i64 mm.tick] _ (0, 0) RP.out)
            have RQ1 := Lib.hid ((setRow_other u3 P Q #[.slice m1 mm.words.length n1, .slice m2a mm.lists.length n2, .int .i64 mm.tick] hPQ.out.symm).trans RQ.out)
            have KP : Hid (∀ j, j ≠ P → (u3.setRow P #[.slice m1 mm.words.length n1, .slice m2a mm.lists.length n2, .int .i64 mm.tick]).heap[j]? = u3.heap[j]?) := fun j hj => setRow_other _ _ _ _ hj
            have zP : Hid ((u3.setRow P #[.slice m1 mm.words.length n1, .slice m2a mm.lists.length n2, .int .i64 mm.tick]).heap.size = u3.heap.size) := by show _ = _; simp [World.setRow]
            have HUP := Lib.hid (row_below HU3.out geP.out #[.slice m1 mm.words.length n1, .slice m2a mm.lists.length n2, .int .i64 mm.tick])
            generalize u3.setRow P #[.slice m1 mm.words.length n1, .slice m2a mm.lists.length n2, .int .i64 mm.tick] = uP at *
            refine hK.out _ _ ?_ (fun hSU17 => ?_)
            · exact KS.out _ HUP.out
            clear hK K hSU16
            try simp only [Act.put, List.setIfInBounds_toArray, List.set_cons_zero, List.set_cons_succ]
            refine wpAnyU_ready (rs := [13]) (by kernel_rfl) rfl ?_
            refine AllReadyU.cons la13 rfl (fun K hK => ?_) ?_
            · refine step_store_row rfl 53 _ _ rfl Q _ rfl rfl 53 #[.int .u64 0, .bool false, .bool false, .slice none 0 0] RQ1.out (by kernel_rfl) rfl (by simp [Value.oneCell']) ?_
              have RQ2 := Lib.hid (setRow_heap uP Q _ #[.int .u64 bb.val, .bool bb.ok, .bool bb.late, .slice zA zn zc] _ (0, 0) RQ1.out)
              have RP2 := Lib.hid ((setRow_other uP Q P #[.int .u64 bb.val, .bool bb.ok, .bool bb.late, .slice zA zn zc] hPQ.out).trans RP1.out)
              have KQ : Hid (∀ j, j ≠ Q → (uP.setRow Q #[.int .u64 bb.val, .bool bb.ok, .bool bb.late, .slice zA zn zc]).heap[j]? = uP.heap[j]?) := fun j hj => setRow_other _ _ _ _ hj
              have zQ : Hid ((uP.setRow Q #[.int .u64 bb.val, .bool bb.ok, .bool bb.late, .slice zA zn zc]).heap.size = uP.heap.size) := by show _ = _; simp [World.setRow]
              have HUQ := Lib.hid (row_below HUP.out geQ.out #[.int .u64 bb.val, .bool bb.ok, .bool bb.late, .slice zA zn zc])
              generalize uP.setRow Q #[.int .u64 bb.val, .bool bb.ok, .bool bb.late, .slice zA zn zc] = uQ at *
              refine hK.out _ _ ?_ (fun hSU18 => ?_)
              · exact KS.out _ HUQ.out
              clear hK K hSU17
              try simp only [Act.put, List.setIfInBounds_toArray, List.set_cons_zero, List.set_cons_succ]
              refine wpAnyU_ready (rs := [14]) (by kernel_rfl) rfl ?_
              refine AllReadyU.free la14 rfl (by kernel_rfl) (fun K hK => ?_) ?_
              · go_simp
                refine hK.out _ _ ?_
                clear hK K hSU18
                try simp only [Act.put, List.setIfInBounds_toArray, List.set_cons_zero, List.set_cons_succ]
                refine wpAnyU_done (by kernel_rfl) ?_ _
                have HG := Lib.hid (nx_boxes (S := x.S (some w.heap.size :: E) B) (S0 := x.S E B) (below_then HB02.out HUC.out) HBQ.out (wf := uQ) (by have h1 := zP.out; have h2 := zQ.out; have h3 := HUF.out.size; omega) (fun j hj hp hq => (KQ.out j hq).trans ((KP.out j hp).trans (HUF.out.block j hj))) oP.out oQ.out (Nat.le_trans HB02.out.size geP.out) (Nat.le_trans HB02.out.size geQ.out) (fun j hj => by have h1 := HB02.out.size; have h2 := HUC.out.size; have h3 := (Array.getElem?_eq_some_iff.1 RA2.out).1; simp only [WV.S, List.cons_append, List.mem_cons, Option.some.injEq] at hj; rcases hj with rfl | hj; omega; have := HSL.out j hj; omega) (fun j h1 h2 => by simp only [WV.S, List.cons_append, List.mem_cons, Option.some.injEq] at h2; rcases h2 with rfl | h2; omega; exact h2))
                have HMQ := Lib.hid (HSM.out.sub HG.out)
                go_wp2_with fail
                go_meet
                exact ⟨P, Q, m1, m2a, zA, n1, n2, zn, zc, rfl, rfl, rfl, RP2, RQ2, geP, geQ, HMQ, HUQ⟩
              exact AllReadyU.nil
            exact AllReadyU.nil
          exact AllReadyU.nil
        exact AllReadyU.nil
      exact AllReadyU.nil
    refine AllReadyU.cons la11 rfl (fun K hK => ?_) ?_
    · go_simp
      obtain ⟨u1, Q, hv, hXe, RQ, hbX, ltQ⟩ := alloc_pack u0 (.cells #[.int .u64 0, .bool false, .bool false, .slice none 0 0] 53)
      rw [hv, hXe]
      have geQ : Hid (W2.heap.size ≤ Q) := hXe ▸ HU0.out.size
      have HU1 := Lib.hid (below_then HU0.out hbX.out)
      clear hv hXe hbX
      refine hK.out _ _ ?_ (fun hSU19 => ?_)
      · exact KS.out _ HU1.out
      clear hK K hSU0
      try simp only [Act.put, List.setIfInBounds_toArray, List.set_cons_zero, List.set_cons_succ]
      refine wpAnyU_ready (rs := [5, 10]) (by kernel_rfl) rfl ?_
      refine AllReadyU.cons la5 rfl (fun K hK => ?_) ?_
      · go_simp
        go_at_call 65
        refine (TA.out _ HU1.out).mono ?_
        rintro e u2 ⟨vq, zq, rfl, hs, hz, hbq⟩
        obtain ⟨m1, n1, m2a, n2, rfl⟩ : ∃ A k A2 k2, vq = .agg #[.slice A mm.words.length k, .slice A2 mm.lists.length k2, .int .i64 mm.tick] := hs.open u2 (Nx.at (OffS.below (below_then HB02.out HU1.out)) (OffS.wide _ _) hbq)
        obtain ⟨zx, zp, zq2, zA, zn, zc, rfl⟩ := hz.shape u2 (Nx.at (OffS.below (below_then HB02.out HU1.out)) (OffS.wide _ _) hbq)
        obtain ⟨rfl, rfl, rfl⟩ : zx = bb.val ∧ zp = bb.ok ∧ zq2 = bb.late := by obtain ⟨vl, e, -⟩ := hz; simp only [Value.agg.injEq, Array.mk.injEq, List.cons.injEq, Value.int.injEq, Value.bool.injEq, and_true, true_and] at e; exact ⟨e.1, e.2.1, e.2.2.1⟩
        have HSM := Lib.hid hs
        have HUC := HU1
        have HBQ := Lib.hid hbq
        have HU2 := Lib.hid (below_then HU1.out hbq)
        have RQ := Lib.hid ((hbq.block Q ltQ.out).trans RQ.out)
        have oQ : Hid (Q < u1.heap.size ∨ u2.heap.size ≤ Q) := .inl ltQ.out
        have ltQ := Lib.hid (Nat.lt_of_lt_of_le ltQ.out hbq.size)
        have HUF := Lib.hid (Below.refl u2.heap.size u2)
        clear hs hz hbq
        refine hK.out _ _ ?_ (fun hSU20 => ?_)
        · exact KS.out _ HU2.out
        clear hK K hSU19
        try simp only [Act.put, List.setIfInBounds_toArray, List.set_cons_zero, List.set_cons_succ]
        refine tkU (v := ?_) 6 la6 hSU20 (by kernel_rfl) (fun _ _ _ h => h) rfl ?_ ?_
        rotate_left
        · (intro w hSw; (try dsimp only at hSw); go_simp <;> with_reducible rfl)
        simp only [Act.put, List.setIfInBounds_toArray, List.set_cons_zero, List.set_cons_succ]
        refine tkU (v := ?_) 7 la7 hSU20 (by kernel_rfl) (fun _ _ _ h => h) rfl ?_ ?_
        rotate_left
        · (intro w hSw; (try dsimp only at hSw); go_simp <;> with_reducible rfl)
        simp only [Act.put, List.setIfInBounds_toArray, List.set_cons_zero, List.set_cons_succ]
        refine tkU (v := ?_) 8 la8 hSU20 (by kernel_rfl) (fun _ _ _ h => h) rfl ?_ ?_
        rotate_left
        · (intro w hSw; (try dsimp only at hSw); go_simp <;> with_reducible rfl)
        simp only [Act.put, List.setIfInBounds_toArray, List.set_cons_zero, List.set_cons_succ]
        refine tkU (v := ?_) 9 la9 hSU20 (by kernel_rfl) (fun _ _ _ h => h) rfl ?_ ?_
        rotate_left
        · (intro w hSw; (try dsimp only at hSw); go_simp <;> with_reducible rfl)
        simp only [Act.put, List.setIfInBounds_toArray, List.set_cons_zero, List.set_cons_succ]
        refine wpAnyU_ready (rs := [10]) (by kernel_rfl) rfl ?_
        refine AllReadyU.cons la10 rfl (fun K hK => ?_) ?_
        · go_simp
          obtain ⟨u3, P, hv, hXe, RP, hbX, ltP⟩ := alloc_pack u2 (.cells #[.slice none 0 0, .slice none 0 0, .int .i64 0] 39)
          rw [hv, hXe]
          have geP : Hid (W2.heap.size ≤ P) := hXe ▸ HU2.out.size
          have HU3 := Lib.hid (below_then HU2.out hbX.out)
          have neQP : Hid (Q ≠ P) := Nat.ne_of_lt (hXe ▸ ltQ.out)
          have RQ := Lib.hid ((hbX.out.block Q ltQ.out).trans RQ.out)
          have ltQ := Lib.hid (Nat.lt_of_lt_of_le ltQ.out hbX.out.size)
          have oP : Hid (P < u1.heap.size ∨ u2.heap.size ≤ P) := .inr (hXe ▸ Nat.le_refl _)
          have HUF := Lib.hid (below_then HUF.out hbX.out)
          clear hv hXe hbX
          refine hK.out _ _ ?_ (fun hSU21 => ?_)
          · exact KS.out _ HU3.out
          clear hK K hSU20
          try simp only [Act.put, List.setIfInBounds_toArray, List.set_cons_zero, List.set_cons_succ]
          refine wpAnyU_ready (rs := [12]) (by kernel_rfl) rfl ?_
          refine AllReadyU.cons la12 rfl (fun K hK => ?_) ?_
          · have hPQ : Hid (P ≠ Q) := neQP.out.symm
            refine step_store_row rfl 39 _ _ rfl P _ rfl rfl 39 #[.slice none 0 0, .slice none 0 0, .int .i64 0] RP.out (by kernel_rfl) rfl (by simp [Value.oneCell']) ?_
            have RP1 := Lib.hid (setRow_heap u3 P _ #[.slice m1 mm.words.length n1, .slice m2a mm.lists.length n2, .int .i64 mm.tick] _ (0, 0) RP.out)
            have RQ1 := Lib.hid ((setRow_other u3 P Q #[.slice m1 mm.words.length n1, .slice m2a mm.lists.length n2, .int .i64 mm.tick] hPQ.out.symm).trans RQ.out)
            have KP : Hid (∀ j, j ≠ P → (u3.setRow P #[.slice m1 mm.words.length n1, .slice m2a mm.lists.length n2, .int .i64 mm.tick]).heap[j]? = u3.heap[j]?) := fun j hj => setRow_other _ _ _ _ hj
            have zP : Hid ((u3.setRow P #[.slice m1 mm.words.length n1, .slice m2a mm.lists.length n2, .int .i64 mm.tick]).heap.size = u3.heap.size) := by show _ = _; simp [World.setRow]
            have HUP := Lib.hid (row_below HU3.out geP.out #[.slice m1 mm.words.length n1, .slice m2a mm.lists.length n2, .int .i64 mm.tick])
            generalize u3.setRow P #[.slice m1 mm.words.length n1, .slice m2a mm.lists.length n2, .int .i64 mm.tick] = uP at *
            refine hK.out _ _ ?_ (fun hSU22 => ?_)
            · exact KS.out _ HUP.out
            clear hK K hSU21
            try simp only [Act.put, List.setIfInBounds_toArray, List.set_cons_zero, List.set_cons_succ]
            refine wpAnyU_ready (rs := [13]) (by kernel_rfl) rfl ?_
            refine AllReadyU.cons la13 rfl (fun K hK => ?_) ?_
            · refine step_store_row rfl 53 _ _ rfl Q _ rfl rfl 53 #[.int .u64 0, .bool false, .bool false, .slice none 0 0] RQ1.out (by kernel_rfl) rfl (by simp [Value.oneCell']) ?_
              have RQ2 := Lib.hid (setRow_heap uP Q _ #[.int .u64 bb.val, .bool bb.ok, .bool bb.late, .slice zA zn zc] _ (0, 0) RQ1.out)
              have RP2 := Lib.hid ((setRow_other uP Q P #[.int .u64 bb.val, .bool bb.ok, .bool bb.late, .slice zA zn zc] hPQ.out).trans RP1.out)
              have KQ : Hid (∀ j, j ≠ Q → (uP.setRow Q #[.int .u64 bb.val, .bool bb.ok, .bool bb.late, .slice zA zn zc]).heap[j]? = uP.heap[j]?) := fun j hj => setRow_other _ _ _ _ hj
              have zQ : Hid ((uP.setRow Q #[.int .u64 bb.val, .bool bb.ok, .bool bb.late, .slice zA zn zc]).heap.size = uP.heap.size) := by show _ = _; simp [World.setRow]
              have HUQ := Lib.hid (row_below HUP.out geQ.out #[.int .u64 bb.val, .bool bb.ok, .bool bb.late, .slice zA zn zc])
              generalize uP.setRow Q #[.int .u64 bb.val, .bool bb.ok, .bool bb.late, .slice zA zn zc] = uQ at *
              refine hK.out _ _ ?_ (fun hSU23 => ?_)
              · exact KS.out _ HUQ.out
              clear hK K hSU22
              try simp only [Act.put, List.setIfInBounds_toArray, List.set_cons_zero, List.set_cons_succ]
              refine wpAnyU_ready (rs := [14]) (by kernel_rfl) rfl ?_
              refine AllReadyU.free la14 rfl (by kernel_rfl) (fun K hK => ?_) ?_
              · go_simp
                refine hK.out _ _ ?_
                clear hK K hSU23
                try simp only [Act.put, List.setIfInBounds_toArray, List.set_cons_zero, List.set_cons_succ]
                refine wpAnyU_done (by kernel_rfl) ?_ _
                have HG := Lib.hid (nx_boxes (S := x.S (some w.heap.size :: E) B) (S0 := x.S E B) (below_then HB02.out HUC.out) HBQ.out (wf := uQ) (by have h1 := zP.out; have h2 := zQ.out; have h3 := HUF.out.size; omega) (fun j hj hp hq => (KQ.out j hq).trans ((KP.out j hp).trans (HUF.out.block j hj))) oP.out oQ.out (Nat.le_trans HB02.out.size geP.out) (Nat.le_trans HB02.out.size geQ.out) (fun j hj => by have h1 := HB02.out.size; have h2 := HUC.out.size; have h3 := (Array.getElem?_eq_some_iff.1 RA2.out).1; simp only [WV.S, List.cons_append, List.mem_cons, Option.some.injEq] at hj; rcases hj with rfl | hj; omega; have := HSL.out j hj; omega) (fun j h1 h2 => by simp only [WV.S, List.cons_append, List.mem_cons, Option.some.injEq] at h2; rcases h2 with rfl | h2; omega; exact h2))
                have HMQ := Lib.hid (HSM.out.sub HG.out)
                go_wp2_with fail
                go_meet
                exact ⟨P, Q, m1, m2a, zA, n1, n2, zn, zc, rfl, rfl, rfl, RP2, RQ2, geP, geQ, HMQ, HUQ⟩
              exact AllReadyU.nil
            exact AllReadyU.nil
          exact AllReadyU.nil
        exact AllReadyU.nil
      refine AllReadyU.cons la10 rfl (fun K hK => ?_) ?_
      · go_simp
        obtain ⟨u2, P, hv, hXe, RP, hbX, ltP⟩ := alloc_pack u1 (.cells #[.slice none 0 0, .slice none 0 0, .int .i64 0] 39)
        rw [hv, hXe]
        have geP : Hid (W2.heap.size ≤ P) := hXe ▸ HU1.out.size
        have HU2 := Lib.hid (below_then HU1.out hbX.out)
        have neQP : Hid (Q ≠ P) := Nat.ne_of_lt (hXe ▸ ltQ.out)
        have RQ := Lib.hid ((hbX.out.block Q ltQ.out).trans RQ.out)
        have ltQ := Lib.hid (Nat.lt_of_lt_of_le ltQ.out hbX.out.size)
        clear hv hXe hbX
        refine hK.out _ _ ?_ (fun hSU24 => ?_)
        · exact KS.out _ HU2.out
        clear hK K hSU19
        try simp only [Act.put, List.setIfInBounds_toArray, List.set_cons_zero, List.set_cons_succ]
        refine wpAnyU_ready (rs := [5]) (by kernel_rfl) rfl ?_
        refine AllReadyU.cons la5 rfl (fun K hK => ?_) ?_
        · go_simp
          go_at_call 65
          refine (TA.out _ HU2.out).mono ?_
          rintro e u3 ⟨vq, zq, rfl, hs, hz, hbq⟩
          obtain ⟨m1, n1, m2a, n2, rfl⟩ : ∃ A k A2 k2, vq = .agg #[.slice A mm.words.length k, .slice A2 mm.lists.length k2, .int .i64 mm.tick] := hs.open u3 (Nx.at (OffS.below (below_then HB02.out HU2.out)) (OffS.wide _ _) hbq)
          obtain ⟨zx, zp, zq2, zA, zn, zc, rfl⟩ := hz.shape u3 (Nx.at (OffS.below (below_then HB02.out HU2.out)) (OffS.wide _ _) hbq)
          obtain ⟨rfl, rfl, rfl⟩ : zx = bb.val ∧ zp = bb.ok ∧ zq2 = bb.late := by obtain ⟨vl, e, -⟩ := hz; simp only [Value.agg.injEq, Array.mk.injEq, List.cons.injEq, Value.int.injEq, Value.bool.injEq, and_true, true_and] at e; exact ⟨e.1, e.2.1, e.2.2.1⟩
          have HSM := Lib.hid hs
          have HUC := HU2
          have HBQ := Lib.hid hbq
          have HU3 := Lib.hid (below_then HU2.out hbq)
          have RQ := Lib.hid ((hbq.block Q ltQ.out).trans RQ.out)
          have oQ : Hid (Q < u2.heap.size ∨ u3.heap.size ≤ Q) := .inl ltQ.out
          have ltQ := Lib.hid (Nat.lt_of_lt_of_le ltQ.out hbq.size)
          have RP := Lib.hid ((hbq.block P ltP.out).trans RP.out)
          have oP : Hid (P < u2.heap.size ∨ u3.heap.size ≤ P) := .inl ltP.out
          have ltP := Lib.hid (Nat.lt_of_lt_of_le ltP.out hbq.size)
          have HUF := Lib.hid (Below.refl u3.heap.size u3)
          clear hs hz hbq
          refine hK.out _ _ ?_ (fun hSU25 => ?_)
          · exact KS.out _ HU3.out
          clear hK K hSU24
          try simp only [Act.put, List.setIfInBounds_toArray, List.set_cons_zero, List.set_cons_succ]
          refine tkU (v := ?_) 6 la6 hSU25 (by kernel_rfl) (fun _ _ _ h => h) rfl ?_ ?_
          rotate_left
          · (intro w hSw; (try dsimp only at hSw); go_simp <;> with_reducible rfl)
          simp only [Act.put, List.setIfInBounds_toArray, List.set_cons_zero, List.set_cons_succ]
          refine tkU (v := ?_) 7 la7 hSU25 (by kernel_rfl) (fun _ _ _ h => h) rfl ?_ ?_
          rotate_left
          · (intro w hSw; (try dsimp only at hSw); go_simp <;> with_reducible rfl)
          simp only [Act.put, List.setIfInBounds_toArray, List.set_cons_zero, List.set_cons_succ]
          refine tkU (v := ?_) 8 la8 hSU25 (by kernel_rfl) (fun _ _ _ h => h) rfl ?_ ?_
          rotate_left
          · (intro w hSw; (try dsimp only at hSw); go_simp <;> with_reducible rfl)
          simp only [Act.put, List.setIfInBounds_toArray, List.set_cons_zero, List.set_cons_succ]
          refine tkU (v := ?_) 9 la9 hSU25 (by kernel_rfl) (fun _ _ _ h => h) rfl ?_ ?_
          rotate_left
          · (intro w hSw; (try dsimp only at hSw); go_simp <;> with_reducible rfl)
          simp only [Act.put, List.setIfInBounds_toArray, List.set_cons_zero, List.set_cons_succ]
          refine wpAnyU_ready (rs := [12]) (by kernel_rfl) rfl ?_
          refine AllReadyU.cons la12 rfl (fun K hK => ?_) ?_
          · have hPQ : Hid (P ≠ Q) := neQP.out.symm
            refine step_store_row rfl 39 _ _ rfl P _ rfl rfl 39 #[.slice none 0 0, .slice none 0 0, .int .i64 0] RP.out (by kernel_rfl) rfl (by simp [Value.oneCell']) ?_
            have RP1 := Lib.hid (setRow_heap u3 P _ #[.slice m1 mm.words.length n1, .slice m2a mm.lists.length n2, .int .i64 mm.tick] _ (0, 0) RP.out)
            have RQ1 := Lib.hid ((setRow_other u3 P Q #[.slice m1 mm.words.length n1, .slice m2a mm.lists.length n2, .int .i64 mm.tick] hPQ.out.symm).trans RQ.out)
            have KP : Hid (∀ j, j ≠ P → (u3.setRow P #[.slice m1 mm.words.length n1, .slice m2a mm.lists.length n2, .int .i64 mm.tick]).heap[j]? = u3.heap[j]?) := fun j hj => setRow_other _ _ _ _ hj
            have zP : Hid ((u3.setRow P #[.slice m1 mm.words.length n1, .slice m2a mm.lists.length n2, .int .i64 mm.tick]).heap.size = u3.heap.size) := by show _ = _; simp [World.setRow]
            have HUP := Lib.hid (row_below HU3.out geP.out #[.slice m1 mm.words.length n1, .slice m2a mm.lists.length n2, .int .i64 mm.tick])
            generalize u3.setRow P #[.slice m1 mm.words.length n1, .slice m2a mm.lists.length n2, .int .i64 mm.tick] = uP at *
            refine hK.out _ _ ?_ (fun hSU26 => ?_)
            · exact KS.out _ HUP.out
            clear hK K hSU25
            try simp only [Act.put, List.setIfInBounds_toArray, List.set_cons_zero, List.set_cons_succ]
            refine wpAnyU_ready (rs := [13]) (by kernel_rfl) rfl ?_
            refine AllReadyU.cons la13 rfl (fun K hK => ?_) ?_
            · refine step_store_row rfl 53 _ _ rfl Q _ rfl rfl 53 #[.int .u64 0, .bool false, .bool false, .slice none 0 0] RQ1.out (by kernel_rfl) rfl (by simp [Value.oneCell']) ?_
              have RQ2 := Lib.hid (setRow_heap uP Q _ #[.int .u64 bb.val, .bool bb.ok, .bool bb.late, .slice zA zn zc] _ (0, 0) RQ1.out)
              have RP2 := Lib.hid ((setRow_other uP Q P #[.int .u64 bb.val, .bool bb.ok, .bool bb.late, .slice zA zn zc] hPQ.out).trans RP1.out)
              have KQ : Hid (∀ j, j ≠ Q → (uP.setRow Q #[.int .u64 bb.val, .bool bb.ok, .bool bb.late, .slice zA zn zc]).heap[j]? = uP.heap[j]?) := fun j hj => setRow_other _ _ _ _ hj
              have zQ : Hid ((uP.setRow Q #[.int .u64 bb.val, .bool bb.ok, .bool bb.late, .slice zA zn zc]).heap.size = uP.heap.size) := by show _ = _; simp [World.setRow]
              have HUQ := Lib.hid (row_below HUP.out geQ.out #[.int .u64 bb.val, .bool bb.ok, .bool bb.late, .slice zA zn zc])
              generalize uP.setRow Q #[.int .u64 bb.val, .bool bb.ok, .bool bb.late, .slice zA zn zc] = uQ at *
              refine hK.out _ _ ?_ (fun hSU27 => ?_)
              · exact KS.out _ HUQ.out
              clear hK K hSU26
              try simp only [Act.put, List.setIfInBounds_toArray, List.set_cons_zero, List.set_cons_succ]
              refine wpAnyU_ready (rs := [14]) (by kernel_rfl) rfl ?_
              refine AllReadyU.free la14 rfl (by kernel_rfl) (fun K hK => ?_) ?_
              · go_simp
                refine hK.out _ _ ?_
                clear hK K hSU27
                try simp only [Act.put, List.setIfInBounds_toArray, List.set_cons_zero, List.set_cons_succ]
                refine wpAnyU_done (by kernel_rfl) ?_ _
                have HG := Lib.hid (nx_boxes (S := x.S (some w.heap.size :: E) B) (S0 := x.S E B) (below_then HB02.out HUC.out) HBQ.out (wf := uQ) (by have h1 := zP.out; have h2 := zQ.out; have h3 := HUF.out.size; omega) (fun j hj hp hq => (KQ.out j hq).trans ((KP.out j hp).trans (HUF.out.block j hj))) oP.out oQ.out (Nat.le_trans HB02.out.size geP.out) (Nat.le_trans HB02.out.size geQ.out) (fun j hj => by have h1 := HB02.out.size; have h2 := HUC.out.size; have h3 := (Array.getElem?_eq_some_iff.1 RA2.out).1; simp only [WV.S, List.cons_append, List.mem_cons, Option.some.injEq] at hj; rcases hj with rfl | hj; omega; have := HSL.out j hj; omega) (fun j h1 h2 => by simp only [WV.S, List.cons_append, List.mem_cons, Option.some.injEq] at h2; rcases h2 with rfl | h2; omega; exact h2))
                have HMQ := Lib.hid (HSM.out.sub HG.out)
                go_wp2_with fail
                go_meet
                exact ⟨P, Q, m1, m2a, zA, n1, n2, zn, zc, rfl, rfl, rfl, RP2, RQ2, geP, geQ, HMQ, HUQ⟩
              exact AllReadyU.nil
            exact AllReadyU.nil
          exact AllReadyU.nil
        exact AllReadyU.nil
      exact AllReadyU.nil
    exact AllReadyU.nil
  case rest =>
    obtain ⟨P, Q, m1, m2a, zA, n1, n2, zn, zc, rfl, rfl, rfl, RP, RQ, hP, hQ, HM, HB4⟩ := hcut
    obtain ⟨w4, rfl⟩ : ∃ w3 : World, w3 = wc := ⟨_, rfl⟩
    have HB04 := Lib.hid (below_then HB02.out HB4.out)
    have HI4 := Lib.hid (HI.out.exempt HB04.out w.heap.size (Nat.le_refl _) (by have h1 := (Array.getElem?_eq_some_iff.1 RA2.out).1; have h2 := HB4.out.size; omega))
    clear KS TA
    go_upto_region 5 with fail
    have HBF := HB04
    have RAF := Lib.hid (((below_then (below_then HB1.out HB2.out) HB4.out).block w.heap.size (by omega)).trans RA.out)
    go_wp2_with (refine wpList_store_row rfl 53 _ _ rfl (w.heap.size) _ rfl rfl 53 #[.int .u64 0, .bool false, .bool false, .slice none 0 0] RAF.out (by kernel_rfl) rfl (by simp [Value.oneCell']) ?_)
    refine bodyPost_ret (v := .tuple #[.agg #[.int .u64 0, .bool false, .bool false, .slice none 0 0], .bool false]) (results_cell_tmp Try.results46 _ _ (w.heap.size) 53 _ (0, 0) _ rfl (setRow_heap _ _ _ _ 53 (0, 0) RAF.out) Try.underlying53 rfl (by kernel_rfl) _ rfl) rfl ?_
    exact ⟨rfl, row_below HBF.out (Nat.le_refl _) _⟩
end Go.Proofs.Ytjnlkemdaffgbaa
