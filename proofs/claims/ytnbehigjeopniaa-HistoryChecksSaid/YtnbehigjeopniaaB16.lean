import Derived.Deep.DeepCutAuto
import Derived.Deep.CutBlock
import Derived.Test.YtnbehigjeopniaaB13
set_option linter.unusedVariables false
set_option linter.unusedSimpArgs false
/- Layer 16: the law's made. -/
namespace Go.Proofs.Ytnbehigjeopniaa
open Go.ChangeShapes Go.WideShapes Go.ChangeAt Go.RowKit
set_option maxRecDepth 100000

theorem Try.info_i16 : (Try.prog.info? 3).map (fun i => (i.zero, i.size, i.bytes)) = some (some (.int .i64 0), 1, 8) := by kernel_rfl
theorem Try.info_b16 : (Try.prog.info? 4).map (fun i => (i.zero, i.size, i.bytes)) = some (some (.bool false), 1, 1) := by kernel_rfl
theorem makeI16 (m : Nat) (hm : m ≤ 8) (w' : World) : (Instr.makeSlice 37 (.int .i64 (m : Int)) (.int .i64 (m : Int))).run Try.prog w' = .ok (.slice (some ⟨w'.heap.size, 0, none⟩) m m) (w'.alloc (.cells (Array.replicate m (Value.int .i64 0)) 3)) := by
  have e := run_make_row' (P := Try.prog) 37 3 (.int .i64 0) 8 Try.underlying37 Try.info_i16 rfl .i64 .i64 m (by omega) (by omega) w'
  rw [e, show madeCells #[Value.int .i64 0] m = Array.replicate m (Value.int .i64 0) from Array.ext' (by rw [toList_madeCells_one, Array.toList_replicate])]
theorem makeB16 (m : Nat) (hm : m ≤ 8) (w' : World) : (Instr.makeSlice 51 (.int .i64 (m : Int)) (.int .i64 (m : Int))).run Try.prog w' = .ok (.slice (some ⟨w'.heap.size, 0, none⟩) m m) (w'.alloc (.cells (Array.replicate m (Value.bool false)) 4)) := by
  have e := run_make_row' (P := Try.prog) 51 4 (.bool false) 1 Try.underlying51 Try.info_b16 rfl .i64 .i64 m (by omega) (by omega) w'
  rw [e, show madeCells #[Value.bool false] m = Array.replicate m (Value.bool false) from Array.ext' (by rw [toList_madeCells_one, Array.toList_replicate])]
theorem row_below16 {a b : World} {j : Nat} {ob : Obj} (hb : Below a.heap.size a b) (h : a.heap[j]? = some ob) : b.heap[j]? = some ob := (hb.block j (Array.getElem?_eq_some_iff.1 h).1).trans h
theorem row_keep16 {a b : World} {j : Nat} {row : Option Nat} {ob : Obj} (hg : a.grownBy b row) (h : a.heap[j]? = some ob) (hj : some j ≠ row) : b.heap[j]? = some ob := (hg.block j (Array.getElem?_eq_some_iff.1 h).1 hj).trans h
/-- rows of numbers and of truth values -/
def rowI (N : List Nat) : Obj := .cells (N.map fun c => Value.int .i64 ((c : Nat) : Int)).toArray 3
def rowB (T : List Bool) : Obj := .cells (T.map Value.bool).toArray 4
theorem rowI_cell {w : World} {G : Nat} {N : List Nat} (h : w.heap[G]? = some (rowI N)) {t : Nat} (ht : t < N.length) {c : Nat} (hc : N.getD t 0 = c) : w.cell? ⟨G, t, none⟩ = some (.int .i64 (c : Int)) ∧ w.frozen? ⟨G, t, none⟩ = false := by
  refine ⟨(cell_of_row _ _ t _ _ _ h).trans ?_, frozen_of_row _ _ _ _ _ h⟩
  rw [List.getElem?_toArray, List.getElem?_map, List.getElem?_eq_getElem ht, ← hc, List.getD_eq_getElem?_getD, List.getElem?_eq_getElem ht]
  rfl
theorem rowB_cell {w : World} {G : Nat} {T : List Bool} (h : w.heap[G]? = some (rowB T)) {t : Nat} (ht : t < T.length) {c : Bool} (hc : T.getD t false = c) : w.cell? ⟨G, t, none⟩ = some (.bool c) ∧ w.frozen? ⟨G, t, none⟩ = false := by
  refine ⟨(cell_of_row _ _ t _ _ _ h).trans ?_, frozen_of_row _ _ _ _ _ h⟩
  rw [List.getElem?_toArray, List.getElem?_map, List.getElem?_eq_getElem ht, ← hc, List.getD_eq_getElem?_getD, List.getElem?_eq_getElem ht]
  rfl
theorem rowI_set {w : World} {G : Nat} {N : List Nat} (h : w.heap[G]? = some (rowI N)) (t c : Nat) : (w.setCell ⟨G, t, none⟩ (.int .i64 (c : Int))).heap[G]? = some (rowI (N.set t c)) := by
  rw [heap_setCell_same w G t _ _ _ h, List.setIfInBounds_toArray]
  unfold rowI
  rw [List.map_set]
theorem rowB_set {w : World} {G : Nat} {T : List Bool} (h : w.heap[G]? = some (rowB T)) (t : Nat) (c : Bool) : (w.setCell ⟨G, t, none⟩ (.bool c)).heap[G]? = some (rowB (T.set t c)) := by
  rw [heap_setCell_same w G t _ _ _ h, List.setIfInBounds_toArray]
  unfold rowB
  rw [List.map_set]
/-- the law's world while a history is made -/
structure MdW (w wr : World) (g X S G1 G2 B m : Nat) (crow : Array Value) (ns N : List Nat) (T : List Bool) (u : Value) (L : List EvM) : Prop where
  code : CodesE wr g
  cr : wr.heap[X]? = some (.cells crow 60 (0, 0))
  hdr : HdrO wr S ns
  rn : wr.heap[G1]? = some (rowI N)
  rt : wr.heap[G2]? = some (rowB T)
  own : OwnS wr B 34 8 u (evRows L)
  nsl : ns.length = m
  nl : N.length = m
  tl : T.length = m
  at_ : ∀ t, t < m → N.getD t 0 = cntT L (t : Int) / 2 ∧ T.getD t false = (cntT L (t : Int) % 2 == 1)
  his : histE ns L = true
  below : Below w.heap.size w wr
  gw : w.heap.size ≤ g
  gX : g < X
  XS : X < S
  S1 : S < G1
  S2 : S < G2
  g12 : G1 ≠ G2
  G1B : G1 < B
  G2B : G2 < B
  Bw : B ≤ wr.heap.size
section
variable {w wr w2 : World} {g X S G1 G2 B m : Nat} {crow : Array Value} {ns N : List Nat} {T : List Bool} {u : Value} {L : List EvM}
theorem MdW.draw (h : MdW w wr g X S G1 G2 B m crow ns N T u L) (hg : wr.grownBy w2 (some g)) (hc : CodesE w2 g) : MdW w w2 g X S G1 G2 B m crow ns N T u L := by
  have := h.gX; have := h.XS; have := h.S1; have := h.S2; have := h.G1B; have := h.G2B
  exact ⟨hc, row_keep16 hg h.cr (fun e => by simp only [Option.some.injEq] at e; omega), h.hdr.kept hg (fun e => by simp only [Option.some.injEq] at e; omega), row_keep16 hg h.rn (fun e => by simp only [Option.some.injEq] at e; omega), row_keep16 hg h.rt (fun e => by simp only [Option.some.injEq] at e; omega), h.own.kept hg (h.own.ne (by omega)), h.nsl, h.nl, h.tl, h.at_, h.his, below_grown h.below hg h.gw, h.gw, h.gX, h.XS, h.S1, h.S2, h.g12, h.G1B, h.G2B, Nat.le_trans h.Bw hg.size⟩
theorem MdW.over (h : MdW w wr g X S G1 G2 B m crow ns N T u L) (hb : Below wr.heap.size wr w2) : MdW w w2 g X S G1 G2 B m crow ns N T u L :=
  ⟨h.code.kept h.code.lt hb, row_below16 hb h.cr, h.hdr.below hb, row_below16 hb h.rn, row_below16 hb h.rt, h.own.below hb, h.nsl, h.nl, h.tl, h.at_, h.his, below_then h.below hb, h.gw, h.gX, h.XS, h.S1, h.S2, h.g12, h.G1B, h.G2B, Nat.le_trans h.Bw hb.size⟩
/-- an event is added -/
theorem MdW.add {u2 : Value} {e : EvM} (h : MdW w wr g X S G1 G2 B m crow ns N T u L) (hg : wr.grownBy w2 u.ownBlock) (ho : OwnS w2 B 34 8 u2 (evRows (L ++ [e]))) {t : Nat} (ht : t < m) (he : e.thr = t) (hok : okEv ns L e = true) {N2 : List Nat} {T2 : List Bool} {w3 : World}
    (hN : N2 = N.set t ((cntT L (t : Int) + 1) / 2)) (hT : T2 = T.set t ((cntT L (t : Int) + 1) % 2 == 1)) (h3 : w3.heap[G1]? = some (rowI N2)) (h4 : w3.heap[G2]? = some (rowB T2)) (h5 : ∀ j, j ≠ G1 → j ≠ G2 → w3.heap[j]? = w2.heap[j]?) (h6 : w3.heap.size = w2.heap.size) (h7 : w3.os = w2.os ∧ w3.tape = w2.tape ∧ w3.output = w2.output) : MdW w w3 g X S G1 G2 B m crow ns N2 T2 u2 (L ++ [e]) := by
  have g1 := h.gX; have g2 := h.XS; have g3 := h.S1; have g4 := h.S2; have g5 := h.G1B; have g6 := h.G2B; have g7 := h.gw; have g8 := h.Bw
  have hob : ∀ j, u.ownBlock = some j → B ≤ j := fun j hj => (h.own.lt j hj).1
  have k : ∀ j, j < wr.heap.size → j < B → j ≠ G1 → j ≠ G2 → w3.heap[j]? = wr.heap[j]? := fun j hj hB h1 h2 => (h5 j h1 h2).trans (hg.block j hj (fun e => by have := hob j e.symm; omega))
  have hsz := hg.size
  have hgn : w2.grownBy w3 (some G1) ∨ True := .inr trivial
  have kb : Below (G1 + 1) w3 w3 := Below.refl _ _
  have bl : Below (g + 1) wr w3 := ⟨h7.1.trans hg.os, h7.2.1.trans hg.tape, h7.2.2.trans hg.output, by omega, fun j hj => k j (by have := h.code.lt; omega) (by omega) (by omega) (by omega)⟩
  have ow : OwnS w3 B 34 8 u2 (evRows (L ++ [e])) := by
    refine ⟨ho.1, ?_⟩
    have h8 := ho.2
    refine ⟨h8.1, ?_⟩
    rcases h8.2 with h9 | ⟨g', cap, cur, e1, e2, e3, e4⟩
    · exact .inl h9
    · exact .inr ⟨g', cap, cur, e1, e2, (h5 g' (by omega) (by omega)).trans e3, e4⟩
  have cX := (Array.getElem?_eq_some_iff.1 h.cr).1
  have cS := h.hdr.lt
  refine ⟨h.code.kept (Nat.lt_succ_self g) bl, (k X cX (by omega) (by omega) (by omega)).trans h.cr, ?_, h3, h4, ow, h.nsl, by rw [hN, List.length_set]; exact h.nl, by rw [hT, List.length_set]; exact h.tl, fun s hs => ?_, histE_snoc h.his hok, ⟨h7.1.trans (hg.os.trans h.below.os), h7.2.1.trans (hg.tape.trans h.below.tape), h7.2.2.trans (hg.output.trans h.below.output), by have := h.below.size; omega, fun j hj => (k j (by have := h.below.size; omega) (by omega) (by omega) (by omega)).trans (h.below.block j hj)⟩, g7, g1, g2, g3, g4, h.g12, g5, g6, by omega⟩
  · obtain ⟨us, e1, e2⟩ := h.hdr
    exact ⟨us, (k S cS (by omega) (by omega) (by omega)).trans e1, e2⟩
  · rw [hN, hT, getD_setO, getD_setO, h.nl, h.tl, cntT_snoc, he]
    by_cases e : t = s
    · subst e
      rw [if_pos (show t = t ∧ t < m from ⟨rfl, hs⟩), if_pos (show t = t ∧ t < m from ⟨rfl, hs⟩), if_pos (show (t : Int) = t from rfl)]
      exact ⟨rfl, rfl⟩
    · rw [if_neg (show ¬ (t = s ∧ s < m) from fun h => e h.1), if_neg (show ¬ (t = s ∧ s < m) from fun h => e h.1), if_neg (show ¬ (t : Int) = s from fun h => e (Int.natCast_inj.1 h))]
      exact h.at_ s hs
end
theorem set_getD16 (N : List Nat) (t : Nat) : N.set t (N.getD t 0) = N := by
  by_cases h : t < N.length
  · rw [List.getD_eq_getElem?_getD, List.getElem?_eq_getElem h]
    exact List.set_getElem_self h
  · exact List.set_eq_of_length_le (by omega)
/-- what the events of a history are -/
theorem hist_small {ns : List Nat} {L : List EvM} (h : histE ns L = true) {i : Nat} (hi : i < L.length) : ∃ t : Nat, (L.getD i evZ).thr = t ∧ t < ns.length ∧ (L.getD i evZ).op = ((cntT (L.take i) (t : Int) / 2 : Nat) : Int) ∧ (L.getD i evZ).ret = (cntT (L.take i) (t : Int) % 2 == 1) ∧ cntT (L.take i) (t : Int) / 2 < ns.getD t 0 := by
  have h1 := histE_at h hi
  unfold okEv okF at h1
  simp only [Bool.and_eq_true, decide_eq_true_eq, beq_iff_eq] at h1
  obtain ⟨⟨h2, h3⟩, ⟨⟨h4, h5⟩, h6⟩, -⟩ := h1
  obtain ⟨t, ht⟩ : ∃ t : Nat, (L.getD i evZ).thr = t := ⟨(L.getD i evZ).thr.toNat, by omega⟩
  rw [ht] at h2 h3 h4 h5 h6
  rw [Int.toNat_natCast] at h6
  exact ⟨t, ht, by omega, h4, h5, by omega⟩
/-- what made answers -/
def MadeQ (w : World) (e : Ending) (w' : World) : Prop := ∃ vo ns u L, e = .returned (.tuple #[vo, u]) ∧ SlO w' vo ns ∧ SlS w' 8 u (evRows L) ∧ histE ns L = true ∧ L.length ≤ 30 ∧ ns.length ≤ 4 ∧ Below w.heap.size w w'
set_option maxRecDepth 100000 in
set_option maxHeartbeats 16000000 in
theorem made_any (v : Value) (codes : List Int) (w : World) (hv : SlI w .u8 v codes) : Calls Try.prog 9 #[v] w fun e w' => MadeQ w e w' := by
  have HV := Lib.hid hv
  have HQ := Lib.hid fun (e : Ending) w' (h : ∃ vo ns u L, e = .returned (.tuple #[vo, u]) ∧ SlO w' vo ns ∧ SlS w' 8 u (evRows L) ∧ histE ns L = true ∧ L.length ≤ 30 ∧ ns.length ≤ 4 ∧ Below w.heap.size w w') => (show MadeQ w e w' from h)
  obtain ⟨MQ, hmq⟩ : ∃ q, MadeQ w = q := ⟨_, rfl⟩
  rw [hmq] at HQ ⊢
  clear hv hmq
  go_enter Try.func9, Try.ntmps9
  go_wp2_with fail
  refine (new_any v codes 150 _ HV.out (by omega)).mono ?_; rintro e w2 ⟨rfl, hc2, hb2⟩
  have hC2 : Hid (CodesE w2 w.heap.size) := ⟨_, _, hc2⟩
  have HB2 := Lib.hid hb2
  obtain ⟨g, hg⟩ : ∃ g, w.heap.size = g := ⟨_, rfl⟩
  have hwg : w.heap.size ≤ g := Nat.le_of_eq hg
  rw [hg] at hC2
  rw [hg]
  clear hc2 hb2 hg HV
  go_wp2_with fail
  refine (configE g w2 hC2.out).mono ?_; rintro e w3 ⟨vx, c, rfl, hcx, -, -, hc3, ht2, ht4, hcc, hgg⟩
  have HB3 := Lib.hid (below_grown HB2.out hgg hwg)
  have HC3 := Lib.hid hcc
  have HX3 := Lib.hid hcx
  obtain ⟨vc, vs, rfl, h1, h2, -, -⟩ := hcx
  obtain ⟨a4, c4, rfl, -⟩ := h1.len
  obtain ⟨a5, c5, rfl, -⟩ := h2.len
  obtain ⟨m, hm⟩ : ∃ m : Nat, c.threads = m := ⟨c.threads.toNat, by omega⟩
  have hm1 : 1 ≤ m := by omega
  have hm4 : m ≤ 4 := by omega
  have HMM := Lib.hid hm
  have HC8 : Hid (c.caps.length ≤ 8) := by show _ ≤ _; omega
  obtain ⟨n4, hn4⟩ : ∃ n, c.caps.length = n := ⟨_, rfl⟩
  obtain ⟨n5, hn5⟩ : ∃ n, c.starts.length = n := ⟨_, rfl⟩
  rw [hn4, hn5, hm] at HX3 ⊢
  clear hcc hgg HB2 hC2 h1 h2 hn4 hn5 hm ht2 ht4 hc3
  obtain ⟨Wx, hWx⟩ : ∃ Wx, (w3.alloc (.cells #[.slice none 0 0, .slice none 0 0, .int .i64 0] 60)).setRow w3.heap.size #[.slice a4 n4 c4, .slice a5 n5 c5, .int .i64 (m : Int)] = Wx := ⟨_, rfl⟩
  have Nx : Hid ((w3.alloc (.cells #[.slice none 0 0, .slice none 0 0, .int .i64 0] 60)).heap[w3.heap.size]? = some (.cells #[.slice none 0 0, .slice none 0 0, .int .i64 0] 60 (0, 0))) := heap_alloc_new _ _
  have HBx : Hid (Below w3.heap.size w3 Wx) := hWx ▸ row_below (below_new (Below.refl _ _) _) (Nat.le_refl _) _
  have Rx : Hid (Wx.heap[w3.heap.size]? = some (.cells #[.slice a4 n4 c4, .slice a5 n5 c5, .int .i64 (m : Int)] 60 (0, 0))) := hWx ▸ setRow_heap _ _ _ _ _ (0, 0) Nx.out
  have HWx := Lib.hid hWx
  clear hWx
  go_upto_region 3 with (refine wpList_store_row rfl 60 _ _ rfl (w3.heap.size) _ rfl rfl 60 #[.slice none 0 0, .slice none 0 0, .int .i64 0] Nx.out (by kernel_rfl) rfl (by simp [Value.oneCell']) ?_)
  rw [HWx.out]
  try simp only [Act.put]
  clear HWx Nx
  obtain ⟨X, hX⟩ : ∃ X, w3.heap.size = X := ⟨_, rfl⟩
  rw [hX] at Rx
  rw [hX]
  have hX3 : w3.heap.size ≤ X := Nat.le_of_eq hX
  have hgX : g < X := by have := HC3.out.lt; omega
  clear hX
  have HC4 := Lib.hid (HC3.out.kept HC3.out.lt HBx.out)
  have HB4 := Lib.hid (below_then HB3.out HBx.out)
  have HX4 := Lib.hid (HX3.out.below HBx.out)
  obtain ⟨x0, x1, x2⟩ := rowc3 Rx.out
  have TO := Lib.hid (opsE g _ c Wx HC4.out HX4.out HC8.out m HMM.out hm1 (by omega))
  have hXl : X < Wx.heap.size := (Array.getElem?_eq_some_iff.1 Rx.out).1
  go_wp2_with fail
  refine TO.out.mono ?_; rintro e w5 ⟨S, ns, rfl, hS, hhd, hnl, hc5, hg5⟩
  have R5 := Lib.hid (row_keep16 hg5 Rx.out (fun e => by simp only [Option.some.injEq] at e; omega))
  have HC5 := Lib.hid hc5
  have HH5 := Lib.hid hhd
  have HB5 := Lib.hid (below_grown HB4.out hg5 hwg)
  have hXS : X < S := by omega
  clear x0 x1 x2 TO hhd hc5 hg5 Rx HC4 HB4 HX4 HBx HC3 HB3 HX3 HC8 HMM hXl
  obtain ⟨x0, x1, x2⟩ := rowc3 R5.out
  have hmk := makeI16 m (by omega)
  have hmkb := makeB16 m (by omega)
  have hX5 : X < w5.heap.size := (Array.getElem?_eq_some_iff.1 R5.out).1
  have KS4 : Hid (∀ w' : World, Below w5.heap.size w5 w' → (fun w' : World => w'.cell? ⟨X, 2, none⟩ = some (.int .i64 (m : Int))) w') := fun w' hb => (hb.cell (p := ⟨X, 2, none⟩) hX5).trans x2
  go_upto_region 4 with fail
  clear x0 x1 x2
  go_cut [7, 8] (fun s7 s8 wx => ∃ (G1 G2 : Nat), s7 = .slice (some ⟨G1, 0, none⟩) m m ∧ s8 = .slice (some ⟨G2, 0, none⟩) m m ∧ G1 ≠ G2 ∧ w5.heap.size ≤ G1 ∧ w5.heap.size ≤ G2 ∧ Hid (wx.heap[G1]? = some (.cells (Array.replicate m (Value.int .i64 0)) 3 (0, 0))) ∧ Hid (wx.heap[G2]? = some (.cells (Array.replicate m (Value.bool false)) 4 (0, 0))) ∧ Hid (Below w5.heap.size w5 wx))
  case first =>
    as_aux_lemma =>
    refine wp_region_until (fun w' : World => w'.cell? ⟨X, 2, none⟩ = some (.int .i64 (m : Int))) 7 8 (by kernel_rfl) rfl ?_
    obtain ⟨u0, hu0, HU0⟩ := drew_pack w5
    rw [hu0]
    clear hu0
    have hSU0 := KS4.out _ HU0.out
    refine tkU (v := ?_) 0 la0 hSU0 (by kernel_rfl) (fun _ _ _ h => h) rfl ?_ ?_
    rotate_left
    · (intro w hSw; (try dsimp only at hSw); go_simp <;> with_reducible rfl)
    simp only [Act.put, List.setIfInBounds_toArray, List.set_cons_zero, List.set_cons_succ]
    refine tkU (v := ?_) 1 la1 hSU0 (by kernel_rfl) (fun _ _ _ h => h) rfl ?_ ?_
    rotate_left
    · (intro w hSw; (try dsimp only at hSw); go_simp <;> with_reducible rfl)
    simp only [Act.put, List.setIfInBounds_toArray, List.set_cons_zero, List.set_cons_succ]
    refine tkU (v := ?_) 3 la3 hSU0 (by kernel_rfl) (fun _ _ _ h => h) rfl ?_ ?_
    rotate_left
    · (intro w hSw; (try dsimp only at hSw); go_simp <;> with_reducible rfl)
    simp only [Act.put, List.setIfInBounds_toArray, List.set_cons_zero, List.set_cons_succ]
    refine tkU (v := ?_) 4 la4 hSU0 (by kernel_rfl) (fun _ _ _ h => h) rfl ?_ ?_
    rotate_left
    · (intro w hSw; (try dsimp only at hSw); go_simp <;> with_reducible rfl)
    simp only [Act.put, List.setIfInBounds_toArray, List.set_cons_zero, List.set_cons_succ]
    refine wpAnyU_ready (rs := [2, 5]) (by kernel_rfl) rfl ?_
    refine AllReadyU.cons la2 rfl (fun K hK => ?_) ?_
    · go_simp
      obtain ⟨u1, G1, hv1, hX1, RG1, hbn, ltn⟩ := alloc_pack u0 (.cells (Array.replicate m (Value.int .i64 0)) 3)
      rw [hv1, hX1]
      have HU1 := Lib.hid (below_then HU0.out hbn.out)
      have hlG1 : w5.heap.size ≤ G1 := by have := HU0.out.size; omega
      clear hv1 hX1 hbn ltn
      refine hK.out _ _ ?_ (fun hSU1 => ?_)
      · exact KS4.out _ HU1.out
      clear hK K hSU0
      try simp only [Act.put, List.setIfInBounds_toArray, List.set_cons_zero, List.set_cons_succ]
      refine tkU (v := ?_) 6 la6 hSU1 (by kernel_rfl) (fun _ _ _ h => h) rfl ?_ ?_
      rotate_left
      · (intro w hSw; (try dsimp only at hSw); go_simp <;> with_reducible rfl)
      simp only [Act.put, List.setIfInBounds_toArray, List.set_cons_zero, List.set_cons_succ]
      refine wpAnyU_ready (rs := [5]) (by kernel_rfl) rfl ?_
      refine AllReadyU.cons la5 rfl (fun K hK => ?_) ?_
      · go_simp
        obtain ⟨u2, G2, hv1, hX1, RG2, hbn, ltn⟩ := alloc_pack u1 (.cells (Array.replicate m (Value.bool false)) 4)
        rw [hv1, hX1]
        have HU2 := Lib.hid (below_then HU1.out hbn.out)
        have hlG2 : w5.heap.size ≤ G2 := by have := HU1.out.size; omega
        have hne : G1 ≠ G2 := by have := (Array.getElem?_eq_some_iff.1 RG1.out).1; omega
        have RG1 := Lib.hid (row_below16 hbn.out RG1.out)
        clear hv1 hX1 hbn ltn
        refine hK.out _ _ ?_ (fun hSU2 => ?_)
        · exact KS4.out _ HU2.out
        clear hK K hSU1
        try simp only [Act.put, List.setIfInBounds_toArray, List.set_cons_zero, List.set_cons_succ]
        refine wpAnyU_ready (rs := [7]) (by kernel_rfl) rfl ?_
        refine AllReadyU.free la7 rfl (by kernel_rfl) (fun K hK => ?_) ?_
        · go_simp
          refine hK.out _ _ ?_
          clear hK K hSU2
          try simp only [Act.put, List.setIfInBounds_toArray, List.set_cons_zero, List.set_cons_succ]
          refine wpAnyU_done (by kernel_rfl) ?_ _
          go_wp2_with fail
          go_meet
          exact ⟨G1, G2, rfl, rfl, hne, hlG1, hlG2, RG1, RG2, HU2⟩
        exact AllReadyU.nil
      exact AllReadyU.nil
    refine AllReadyU.cons la5 rfl (fun K hK => ?_) ?_
    · go_simp
      obtain ⟨u1, G2, hv1, hX1, RG2, hbn, ltn⟩ := alloc_pack u0 (.cells (Array.replicate m (Value.bool false)) 4)
      rw [hv1, hX1]
      have HU1 := Lib.hid (below_then HU0.out hbn.out)
      have hlG2 : w5.heap.size ≤ G2 := by have := HU0.out.size; omega
      clear hv1 hX1 hbn ltn
      refine hK.out _ _ ?_ (fun hSU3 => ?_)
      · exact KS4.out _ HU1.out
      clear hK K hSU0
      try simp only [Act.put, List.setIfInBounds_toArray, List.set_cons_zero, List.set_cons_succ]
      refine wpAnyU_ready (rs := [2]) (by kernel_rfl) rfl ?_
      refine AllReadyU.cons la2 rfl (fun K hK => ?_) ?_
      · go_simp
        obtain ⟨u2, G1, hv1, hX1, RG1, hbn, ltn⟩ := alloc_pack u1 (.cells (Array.replicate m (Value.int .i64 0)) 3)
        rw [hv1, hX1]
        have HU2 := Lib.hid (below_then HU1.out hbn.out)
        have hlG1 : w5.heap.size ≤ G1 := by have := HU1.out.size; omega
        have hne : G2 ≠ G1 := by have := (Array.getElem?_eq_some_iff.1 RG2.out).1; omega
        have RG2 := Lib.hid (row_below16 hbn.out RG2.out)
        clear hv1 hX1 hbn ltn
        refine hK.out _ _ ?_ (fun hSU4 => ?_)
        · exact KS4.out _ HU2.out
        clear hK K hSU3
        try simp only [Act.put, List.setIfInBounds_toArray, List.set_cons_zero, List.set_cons_succ]
        refine tkU (v := ?_) 6 la6 hSU4 (by kernel_rfl) (fun _ _ _ h => h) rfl ?_ ?_
        rotate_left
        · (intro w hSw; (try dsimp only at hSw); go_simp <;> with_reducible rfl)
        simp only [Act.put, List.setIfInBounds_toArray, List.set_cons_zero, List.set_cons_succ]
        refine wpAnyU_ready (rs := [7]) (by kernel_rfl) rfl ?_
        refine AllReadyU.free la7 rfl (by kernel_rfl) (fun K hK => ?_) ?_
        · go_simp
          refine hK.out _ _ ?_
          clear hK K hSU4
          try simp only [Act.put, List.setIfInBounds_toArray, List.set_cons_zero, List.set_cons_succ]
          refine wpAnyU_done (by kernel_rfl) ?_ _
          go_wp2_with fail
          go_meet
          exact ⟨G1, G2, rfl, rfl, (fun e => hne e.symm), hlG1, hlG2, RG1, RG2, HU2⟩
        exact AllReadyU.nil
      exact AllReadyU.nil
    exact AllReadyU.nil
  case rest =>
    clear hmk hmkb KS4
    obtain ⟨G1, G2, rfl, rfl, hne, hl1, hl2, RG1, RG2, HBx⟩ := hcut
    obtain ⟨wd, rfl⟩ : ∃ w : World, w = wc := ⟨_, rfl⟩
    obtain ⟨B, hB⟩ : ∃ B, wd.heap.size = B := ⟨_, rfl⟩
    have hG1 : G1 < wd.heap.size := (Array.getElem?_eq_some_iff.1 RG1.out).1
    have hG2 : G2 < wd.heap.size := (Array.getElem?_eq_some_iff.1 RG2.out).1
    have hSl := HH5.out.lt
    have HI0 : Hid (MdW w wd g X S G1 G2 B m #[.slice a4 n4 c4, .slice a5 n5 c5, .int .i64 (m : Int)] ns (List.replicate m 0) (List.replicate m false) (.slice none 0 0) []) :=
      ⟨HC5.out.kept HC5.out.lt HBx.out, row_below16 HBx.out R5.out, HH5.out.below HBx.out, by rw [RG1.out]; unfold rowI; rw [List.map_replicate, List.toArray_replicate]; rfl, by rw [RG2.out]; unfold rowB; rw [List.map_replicate, List.toArray_replicate], OwnS.nil _ _ _ _, hnl, List.length_replicate, List.length_replicate, fun t ht => by simp [List.getD_eq_getElem?_getD, ht, cntT], rfl, below_then HB5.out HBx.out, hwg, hgX, hXS, by omega, by omega, hne, by omega, by omega, by omega⟩
    clear HC5 R5 HH5 RG1 RG2 HB5 HBx hB
    go_wp2_with fail
    go_loopw [9, 10] (fun u9 u10 wr => ∃ (i : Nat) (u : Value) (N : List Nat) (T : List Bool) (L : List EvM), u = u9 ∧ u10 = .int .i64 i ∧ i ≤ 30 ∧ Hid (MdW w wr g X S G1 G2 B m #[.slice a4 n4 c4, .slice a5 n5 c5, .int .i64 (m : Int)] ns N T u L) ∧ Hid (L.length ≤ i)) (fun _ u10 _ => 30 - (intOf u10).toNat)
    case atStart => exact ⟨0, _, _, _, [], rfl, rfl, by omega, HI0, Nat.le_refl _⟩
    case round =>
      clear HI0
      obtain ⟨i, u, N, T, L, rfl, rfl, hi, HI, HL⟩ := hrel
      obtain ⟨wo, rfl⟩ : ∃ wo : World, wo = wr := ⟨_, rfl⟩
      obtain ⟨ua, uc, hve⟩ := HI.out.own.lenE
      obtain ⟨ln, hln⟩ : ∃ n, L.length = n := ⟨_, rfl⟩
      have HLN := Lib.hid hln
      rw [hln] at hve
      subst hve
      clear hln
      have HEND : Hid (∀ w2, Below wo.heap.size wo w2 → MQ (.returned (.tuple #[.slice (some ⟨S, 0, none⟩) m m, .slice ua ln uc])) w2) := fun w2 hb => by
        have h := HI.out.over hb
        refine HQ.out _ _ ⟨_, ns, _, L, rfl, ?_, h.own.sls (by rw [evRows_length]; have := HL.out; omega), h.his, by have := HL.out; omega, by rw [h.nsl]; omega, h.below⟩
        have h1 := h.hdr.slO (by rw [h.nsl]; omega)
        rw [h.nsl] at h1
        exact h1
      by_cases hlt : i < 30
      · have hltI : (i : Int) < 30 := by omega
        go_wp2_with fail
        refine (leftO g wo HI.out.code).mono ?_; rintro e w1 ⟨bq, rfl, hb1⟩
        cases bq with
        | false =>
          have HF := Lib.hid (HEND.out _ hb1)
          clear hb1 HEND HI HQ
          go_wp2
          first | (go_ret2; exact HF.out) | exact HF.out
        | true =>
          have HI2 := Lib.hid (HI.out.over hb1)
          clear hb1 HEND HI
          obtain ⟨x0, x1, x2⟩ := rowc3 HI2.out.cr
          have hm256 : (m : Int) ≤ 256 := by omega
          have hm1I : (1 : Int) ≤ (m : Int) := by omega
          go_wp2_with fail
          refine (nextE g (m : Int) w1 HI2.out.code hm1I hm256).mono ?_; rintro e w6 ⟨t, rfl, ht0, htm, hc6, hg6⟩
          have HI := Lib.hid (HI2.out.draw hg6 hc6)
          obtain ⟨t, rfl⟩ : ∃ q : Nat, t = q := ⟨t.toNat, by omega⟩
          have htn : t < m := by omega
          have htI : (t : Int) < (m : Int) := by omega
          clear hc6 hg6 HI2 x0 x1 x2
          obtain ⟨wo, rfl⟩ : ∃ w : World, w = w6 := ⟨_, rfl⟩
          obtain ⟨c, hc⟩ : ∃ c, N.getD t 0 = c := ⟨_, rfl⟩
          obtain ⟨bb, hbb⟩ : ∃ c, T.getD t false = c := ⟨_, rfl⟩
          obtain ⟨k, hk⟩ : ∃ c, ns.getD t 0 = c := ⟨_, rfl⟩
          obtain ⟨e0, f0⟩ := rowI_cell HI.out.rn (by rw [HI.out.nl]; exact htn) hc
          obtain ⟨e1, f1⟩ := rowB_cell HI.out.rt (by rw [HI.out.tl]; exact htn) hbb
          obtain ⟨ox, oc, e2⟩ := HI.out.hdr.cell (by rw [HI.out.nsl]; exact htn) hk
          have hat := HI.out.at_ t htn
          rw [hc, hbb] at hat
          have HAT := Lib.hid hat
          have hcb : c ≤ 30 := by rw [hat.1]; have := cntT_le L (t : Int); have := HL.out; omega
          have HKK := Lib.hid hk
          have HLL : Hid (L.length ≤ 30) := by have := HL.out; show _ ≤ _; omega
          have HMK : Hid (∀ (b : Bool) (r : ResM), bb = b → (b = false → c < k ∧ resZB r = true) → okEv ns L ⟨t, c, b, r⟩ = true) := fun b r hb h => by
            have hbz := busy_lt (ns := ns) (l := L) (t := t) L.length (Nat.le_refl _) (fun j hj => histE_at HI.out.his hj)
            rw [List.take_length] at hbz
            unfold okEv okF
            dsimp only
            rw [HI.out.nsl, Int.toNat_natCast, HKK.out, decide_eq_true (show (0 : Int) ≤ t by omega), decide_eq_true htI, ← HAT.out.1, ← HAT.out.2, hb]
            cases b with
            | true =>
              have h3 := HAT.out.2
              rw [hb] at h3
              have h4 := hbz (by simpa using h3.symm)
              rw [← HAT.out.1, HKK.out] at h4
              simp
              exact h4
            | false =>
              obtain ⟨h3, h4⟩ := h rfl
              rw [h4]
              simp
              exact h3
          clear hat hc hbb hk
          have hG1l : G1 < wo.heap.size := (Array.getElem?_eq_some_iff.1 HI.out.rn).1
          have hG2l : G2 < wo.heap.size := (Array.getElem?_eq_some_iff.1 HI.out.rt).1
          have hSlo := HI.out.hdr.lt
          cases bb with
          | true =>
            have KSg : Hid (∀ w', wo.grownBy w' (some g) → (fun w' : World => w'.cell? ⟨G1, t, none⟩ = some (.int .i64 (c : Int))) w') := fun w' hg => (World.cell?_of_block (a := ⟨G1, t, none⟩) (hg.block G1 hG1l (fun e => by simp only [Option.some.injEq] at e; omega))).trans e0
            go_upto_region 11 with fail
            clear e0 e1 e2 f0 f1
            go_cut [9] (fun s9 wx => ∃ (wq : World) (zk : Int) (u2 : Value), u2 = s9 ∧ Hid (MdW w wq g X S G1 G2 B m #[.slice a4 n4 c4, .slice a5 n5 c5, .int .i64 (m : Int)] ns N T (.slice ua ln uc) L) ∧ Hid (OwnS wx B 34 8 u2 (evRows (L ++ [⟨t, c, true, ⟨zk, -1, 0, false, 0⟩⟩]))) ∧ Hid (wq.grownBy wx (Value.slice ua ln uc).ownBlock))
            case first =>
              refine wp_region_until (fun w' : World => w'.cell? ⟨G1, t, none⟩ = some (.int .i64 (c : Int))) 10 14 (by kernel_rfl) rfl ?_
              obtain ⟨u0, hu0, HU0⟩ := drew_pack wo
              rw [hu0]
              clear hu0
              have hSU0 := KSg.out _ (grown_of_belowO HU0.out)
              refine tkU (v := ?_) 1 la1 hSU0 (by kernel_rfl) (fun _ _ _ h => h) rfl ?_ ?_
              rotate_left
              · (intro w hSw; (try dsimp only at hSw); go_simp <;> with_reducible rfl)
              simp only [Act.put, List.setIfInBounds_toArray, List.set_cons_zero, List.set_cons_succ]
              refine wpAnyU_takeW (v := ?_) 0 la0 (by kernel_rfl) (by kernel_rfl) (by kernel_rfl) (by kernel_rfl) (fun _ _ _ h => h) (fun _ => hSU0) rfl ?_ ?_
              rotate_left
              · (intro w; go_simp <;> with_reducible rfl)
              simp only [Act.put, List.setIfInBounds_toArray, List.set_cons_zero, List.set_cons_succ]
              refine wpAnyU_takeW (v := ?_) 2 la2 (by kernel_rfl) (by kernel_rfl) (by kernel_rfl) (by kernel_rfl) (fun _ _ _ h => h) (fun _ => hSU0) rfl ?_ ?_
              rotate_left
              · (intro w; go_simp <;> with_reducible rfl)
              simp only [Act.put, List.setIfInBounds_toArray, List.set_cons_zero, List.set_cons_succ]
              refine wpAnyU_takeW (v := ?_) 3 la3 (by kernel_rfl) (by kernel_rfl) (by kernel_rfl) (by kernel_rfl) (fun _ _ _ h => h) (fun _ => hSU0) rfl ?_ ?_
              rotate_left
              · (intro w; go_simp <;> with_reducible rfl)
              simp only [Act.put, List.setIfInBounds_toArray, List.set_cons_zero, List.set_cons_succ]
              refine wpAnyU_takeW (v := ?_) 4 la4 (by kernel_rfl) (by kernel_rfl) (by kernel_rfl) (by kernel_rfl) (fun _ _ _ h => h) (fun _ => hSU0) rfl ?_ ?_
              rotate_left
              · (intro w; go_simp <;> with_reducible rfl)
              simp only [Act.put, List.setIfInBounds_toArray, List.set_cons_zero, List.set_cons_succ]
              refine tkU (v := ?_) 5 la5 hSU0 (by kernel_rfl) (fun _ _ _ h => h) rfl ?_ ?_
              rotate_left
              · (intro w hSw; (try dsimp only at hSw); go_simp <;> with_reducible rfl)
              simp only [Act.put, List.setIfInBounds_toArray, List.set_cons_zero, List.set_cons_succ]
              refine wpAnyU_takeW (v := ?_) 6 la6 (by kernel_rfl) (by kernel_rfl) (by kernel_rfl) (by kernel_rfl) (fun _ _ _ h => h) (fun _ => hSU0) rfl ?_ ?_
              rotate_left
              · (intro w; go_simp <;> with_reducible rfl)
              simp only [Act.put, List.setIfInBounds_toArray, List.set_cons_zero, List.set_cons_succ]
              refine wpAnyU_ready (rs := [7]) (by kernel_rfl) rfl ?_
              refine AllReadyU.cons la7 rfl (fun K hK => ?_) ?_
              · go_simp
                go_at_call 31
                refine (nextE g 7 u0 (HI.out.code.kept HI.out.code.lt HU0.out) (by decide) (by decide)).mono ?_
                rintro e wd ⟨z, rfl, hz0, hz7, hcd, hgd⟩
                have HI5 := Lib.hid ((HI.out.over HU0.out).draw hgd hcd)
                have HG5 : Hid (wo.grownBy wd (some g)) := grownBy_trans (grown_of_belowO HU0.out) hgd
                obtain ⟨zk, hzk⟩ : ∃ k : Int, 1 + z = k := ⟨_, rfl⟩
                have hzw : IntKind.i64.wrap zk = zk := by rw [IntKind.wrap_i64]; omega
                clear hcd hgd
                refine hK.out _ _ ?_ (fun hSU1 => ?_)
                · exact KSg.out _ HG5.out
                clear hK K hSU0
                try simp only [Act.put, List.setIfInBounds_toArray, List.set_cons_zero, List.set_cons_succ]
                refine wpAnyU_takeW (v := ?_) 8 la8 (by kernel_rfl) (by kernel_rfl) (by kernel_rfl) (by kernel_rfl) (fun _ _ _ h => h) (fun _ => hSU1) rfl ?_ ?_
                rotate_left
                · (intro w; go_simp <;> with_reducible rfl)
                simp only [Act.put, List.setIfInBounds_toArray, List.set_cons_zero, List.set_cons_succ]
                refine tkU (v := ?_) 9 la9 hSU1 (by kernel_rfl) (fun _ _ _ h => h) rfl ?_ ?_
                rotate_left
                · (intro w hSw; (try dsimp only at hSw); go_simp <;> with_reducible rfl)
                simp only [Act.put, List.setIfInBounds_toArray, List.set_cons_zero, List.set_cons_succ]
                refine wpAnyU_ready (rs := [10]) (by kernel_rfl) rfl ?_
                refine AllReadyU.free la10 rfl (by kernel_rfl) (fun K hK => ?_) ?_
                · go_simp
                  refine hK.out _ _ ?_
                  clear hK K hSU1
                  try simp only [Act.put, List.setIfInBounds_toArray, List.set_cons_zero, List.set_cons_succ]
                  refine wpAnyU_ready (rs := [11]) (by kernel_rfl) rfl ?_
                  refine AllReadyU.free la11 rfl (by kernel_rfl) (fun K hK => ?_) ?_
                  · try rw [hzk]
                    try rw [hzw]
                    go_simp
                    obtain ⟨u1, nb, hv1, hX, RN, hbn, ltn⟩ := alloc_pack wd (.cells #[.int .i64 (t : Int), .int .i64 (c : Int), .bool true, .int .i64 zk, .int .i64 (-1), .int .u64 0, .bool false, .int .i64 0] 34)
                    rw [hv1, hX]
                    have HI6 := Lib.hid (HI5.out.over hbn.out)
                    clear hv1 hX hbn ltn
                    refine hK.out _ _ ?_
                    clear hK K
                    try simp only [Act.put, List.setIfInBounds_toArray, List.set_cons_zero, List.set_cons_succ]
                    refine wpAnyU_ready (rs := [12]) (by kernel_rfl) rfl ?_
                    refine AllReadyU.free la12 rfl (by kernel_rfl) (fun K hK => ?_) ?_
                    · refine step_append_s (w := u1) 23 (by kernel_rfl) Try.info_event rfl (by decide) (by decide) (by rfl) _ _ (by rfl) (by rfl) HI6.out.own (evL ⟨t, c, true, ⟨zk, -1, 0, false, 0⟩⟩) rfl (fun u hu => evL_one _ u hu) nb (by rfl) RN.out (by have := HLL.out; rw [evRows_length]; omega) HI6.out.Bw ?_
                      intro v6 w6 ho6 hg6 hn6
                      obtain ⟨pa, pc, hv6⟩ := ho6.len
                      rw [← evRows_snoc] at ho6 hv6
                      obtain ⟨pn, hpn⟩ : ∃ n, (evRows (L ++ [(⟨t, c, true, ⟨zk, -1, 0, false, 0⟩⟩ : EvM)])).length = n := ⟨_, rfl⟩
                      rw [hpn] at hv6
                      clear hpn
                      subst hv6
                      have HO6 := Lib.hid ho6
                      have HG6 := Lib.hid hg6
                      clear ho6 hg6 hn6
                      refine hK.out _ _ ?_
                      clear hK K
                      try simp only [Act.put, List.setIfInBounds_toArray, List.set_cons_zero, List.set_cons_succ]
                      refine wpAnyU_takeW (v := ?_) 13 la13 (by kernel_rfl) (by kernel_rfl) (by kernel_rfl) (by kernel_rfl) (fun _ _ _ h => h) (past_k (by kernel_rfl)) rfl ?_ ?_
                      rotate_left
                      · (intro w; go_simp <;> with_reducible rfl)
                      simp only [Act.put, List.setIfInBounds_toArray, List.set_cons_zero, List.set_cons_succ]
                      refine wpAnyU_done (by kernel_rfl) ?_ _
                      go_wp2_with fail
                      go_meet
                      exact ⟨_, zk, _, rfl, HI6, HO6, HG6⟩
                    exact AllReadyU.nil
                  exact AllReadyU.nil
                exact AllReadyU.nil
              exact AllReadyU.nil

            case rest =>
              clear KSg HI
              obtain ⟨wq, zk, u2, rfl, HI, HO, HG⟩ := hcut
              obtain ⟨wy, rfl⟩ : ∃ w : World, w = wc := ⟨_, rfl⟩
              have hob : ∀ j, (Value.slice ua ln uc).ownBlock = some j → B ≤ j := fun j hj => (HI.out.own.lt j hj).1
              have r1 : wy.heap[G1]? = some (rowI N) := row_keep16 HG.out HI.out.rn (fun e => by have := hob G1 e.symm; have := HI.out.G1B; omega)
              have r2 : wy.heap[G2]? = some (rowB T) := row_keep16 HG.out HI.out.rt (fun e => by have := hob G2 e.symm; have := HI.out.G2B; omega)
              have hcN : N.getD t 0 = c := by rw [(HI.out.at_ t htn).1, ← HAT.out.1]
              have hcT : T.getD t false = true := by rw [(HI.out.at_ t htn).2, ← HAT.out.2]
              obtain ⟨e0, f0⟩ := rowI_cell r1 (by rw [HI.out.nl]; exact htn) hcN
              obtain ⟨pa, pc, hv6⟩ := HO.out.len
              obtain ⟨pn, hpn⟩ : ∃ n, (evRows (L ++ [(⟨t, c, true, ⟨zk, -1, 0, false, 0⟩⟩ : EvM)])).length = n := ⟨_, rfl⟩
              rw [hpn] at hv6
              subst hv6
              have r3 := rowI_set r1 t (c + 1)
              have r4 : (wy.setCell ⟨G1, t, none⟩ (.int .i64 ((c + 1 : Nat) : Int))).heap[G2]? = some (rowB T) := (heap_setCell_other wy ⟨G1, t, none⟩ G2 _ (by show G2 ≠ G1; exact fun e => hne e.symm)).trans r2
              have ec : ((c + 1 : Nat) : Int) = (c : Int) + 1 := by omega
              rw [ec] at r3 r4
              have hcw : IntKind.i64.wrap ((c : Int) + 1) = (c : Int) + 1 := by rw [IntKind.wrap_i64]; omega
              obtain ⟨wz, hwz⟩ : ∃ wz, wy.setCell ⟨G1, t, none⟩ (.int .i64 ((c : Int) + 1)) = wz := ⟨_, rfl⟩
              have hz1 : wz.heap.size = wy.heap.size := by rw [← hwz]; simp
              have hz2 : ∀ j, j ≠ G1 → wz.heap[j]? = wy.heap[j]? := fun j hj => by rw [← hwz]; exact heap_setCell_other wy ⟨G1, t, none⟩ j _ hj
              have hz3 : wz.os = wy.os ∧ wz.tape = wy.tape ∧ wz.output = wy.output := by rw [← hwz]; exact ⟨rfl, rfl, rfl⟩
              rw [hwz] at r3 r4
              obtain ⟨e4, f4⟩ := rowB_cell r4 (by rw [HI.out.tl]; exact htn) hcT
              have r5 : (wz.setCell ⟨G2, t, none⟩ (.bool false)).heap[G1]? = some (rowI (N.set t (c + 1))) := (heap_setCell_other wz ⟨G2, t, none⟩ G1 _ (by show G1 ≠ G2; exact hne)).trans r3
              have r6 := rowB_set r4 t false
              have hodd : cntT L (t : Int) % 2 = 1 := by have := HAT.out.2; simpa using this.symm
              have hcc : c = cntT L (t : Int) / 2 := HAT.out.1
              have HFIN := Lib.hid (HI.out.add HG.out HO.out htn rfl (HMK.out true _ rfl (fun h => by cases h)) (N2 := N.set t (c + 1)) (T2 := T.set t false) (by rw [show (cntT L (t : Int) + 1) / 2 = c + 1 by omega]) (by rw [show ((cntT L (t : Int) + 1) % 2 == 1) = false by rw [show (cntT L (t : Int) + 1) % 2 = 0 by omega]; rfl]) r5 r6 (fun j h1 h2 => (heap_setCell_other wz ⟨G2, t, none⟩ j _ h2).trans (hz2 j h1)) (by rw [← hz1]; simp) hz3)
              have HL2 : Hid ((L ++ [(⟨t, c, true, ⟨zk, -1, 0, false, 0⟩⟩ : EvM)]).length ≤ i + 1) := by have := HL.out; show _ ≤ _; simp; omega
              have HWZ := Lib.hid hwz
              have HE4 := Lib.hid (And.intro e4 f4)
              clear hwz r1 r2 r3 r4 r5 r6 hz1 hz2 hz3 hodd hcc hcN hcT hob e4 f4 HMK HAT HI HO HG ec hpn
              go_upto_region 13 with fail
              rw [HWZ.out]
              clear e0 f0
              obtain ⟨e4, f4⟩ := HE4.out
              go_wp2_with fail
              go_roundw
              case rel => exact ⟨i + 1, _, _, _, _, rfl, by go_num, by omega, HFIN, HL2⟩
              case measure => simp [intOf]; omega
          | false =>
            go_upto_region 14 with fail
            have Xe0 := ext_cell _ _ hG1l _ e0
            have Xe2 := ext_cell _ _ hSlo _ e2
            clear e0 e1 e2 f0 f1
            refine wp_region_ext wo (by kernel_rfl) (by kernel_rfl) (Below.refl _ _) ?_
            repeat (go_big_quiet_step (fail))
            refine wpQuiet_nil ?_
            intro _ hw'
            obtain ⟨n9, rfl⟩ := hw'
            have HN9 := Lib.hid n9.below
            generalize n9.wd = w9 at *

            clear Xe0 Xe2
            have HI3 := Lib.hid (HI.out.over HN9.out)
            have hat := HI3.out.at_ t htn
            have hcN : N.getD t 0 = c := by rw [hat.1, ← HAT.out.1]
            have hcT : T.getD t false = false := by rw [hat.2, ← HAT.out.2]
            obtain ⟨e0, f0⟩ := rowI_cell HI3.out.rn (by rw [HI3.out.nl]; exact htn) hcN
            by_cases hck : c < k
            · have hckI : (c : Int) < (k : Int) := by omega
              have HOK := Lib.hid (HMK.out false ⟨0, 0, 0, false, 0⟩ rfl (fun _ => ⟨hck, rfl⟩))
              have hBw := HI3.out.Bw
              clear hat
              go_upto_region 16 with (at_builtin; refine wp_append_s1 23 (by kernel_rfl) Try.info_event rfl (by decide) (by decide) rfl _ _ rfl rfl (HI3.out.own.below (below_new (Below.refl _ _) _)) (evL ⟨t, c, false, ⟨0, 0, 0, false, 0⟩⟩) rfl (fun u hu => evL_one _ u hu) _ rfl (by show (Array.push _ _)[_]? = _; exact Array.getElem?_push_size) (by have := HLL.out; rw [evRows_length]; omega) (by simp; omega) ?_; intro v6 wy h1 h2; have HO := Lib.hid h1; have HG := Lib.hid (grownBy_trans (grown_of_belowO (below_new (Below.refl _ _) _)) h2); clear h1 h2)
              rw [← evRows_snoc] at HO
              have hob : ∀ j, (Value.slice ua ln uc).ownBlock = some j → B ≤ j := fun j hj => (HI3.out.own.lt j hj).1
              have r1 : wy.heap[G1]? = some (rowI N) := row_keep16 HG.out HI3.out.rn (fun e => by have := hob G1 e.symm; have := HI3.out.G1B; omega)
              have r2 : wy.heap[G2]? = some (rowB T) := row_keep16 HG.out HI3.out.rt (fun e => by have := hob G2 e.symm; have := HI3.out.G2B; omega)
              obtain ⟨pa, pc, hv6⟩ := HO.out.len
              obtain ⟨pn, hpn⟩ : ∃ n, (evRows (L ++ [(⟨t, c, false, ⟨0, 0, 0, false, 0⟩⟩ : EvM)])).length = n := ⟨_, rfl⟩
              rw [hpn] at hv6
              subst hv6
              obtain ⟨e4, f4⟩ := rowB_cell r2 (by rw [HI3.out.tl]; exact htn) hcT
              have r5 : (wy.setCell ⟨G2, t, none⟩ (.bool true)).heap[G1]? = some (rowI N) := (heap_setCell_other wy ⟨G2, t, none⟩ G1 _ (by show G1 ≠ G2; exact hne)).trans r1
              have r6 := rowB_set r2 t true
              have heven : cntT L (t : Int) % 2 = 0 := by
                have := HAT.out.2
                rcases Nat.mod_two_eq_zero_or_one (cntT L (t : Int)) with h | h
                · exact h
                · rw [h] at this; cases this
              have hcc : c = cntT L (t : Int) / 2 := HAT.out.1
              have hset : N = N.set t ((cntT L (t : Int) + 1) / 2) := by
                rw [show (cntT L (t : Int) + 1) / 2 = N.getD t 0 by rw [hcN]; omega]
                exact (set_getD16 N t).symm
              have HFIN := Lib.hid (HI3.out.add HG.out HO.out htn rfl HOK.out (N2 := N) (T2 := T.set t true) hset (by rw [show ((cntT L (t : Int) + 1) % 2 == 1) = true by rw [show (cntT L (t : Int) + 1) % 2 = 1 by omega]; rfl]) r5 r6 (fun j h1 h2 => heap_setCell_other wy ⟨G2, t, none⟩ j _ h2) (by simp) ⟨rfl, rfl, rfl⟩)
              have HL2 : Hid ((L ++ [(⟨t, c, false, ⟨0, 0, 0, false, 0⟩⟩ : EvM)]).length ≤ i + 1) := by have := HL.out; show _ ≤ _; simp; omega
              clear r1 r2 r5 r6 heven hcc hset hcN hcT hob HMK HAT HI HI3 HO HG HOK hpn e0 f0
              go_wp2_with fail
              go_roundw
              case rel => exact ⟨i + 1, _, _, _, _, rfl, by go_num, by omega, HFIN, HL2⟩
              case measure => simp [intOf]; omega
            · have hckI : decide ((c : Int) < (k : Int)) = false := decide_eq_false (by omega)
              clear hat hcN hcT e0 f0
              go_wp2_with fail
              go_roundw
              case rel => exact ⟨i + 1, _, N, T, L, rfl, by go_num, by omega, HI3, by have := HL.out; show _ ≤ _; omega⟩
              case measure => simp [intOf]; omega
      · have hge : decide ((i : Int) < 30) = false := decide_eq_false (by omega)
        have HF := Lib.hid (HEND.out _ (Below.refl _ _))
        clear HEND HI HQ
        go_wp2
        first | (go_ret2; exact HF.out) | exact HF.out
end Go.Proofs.Ytnbehigjeopniaa
