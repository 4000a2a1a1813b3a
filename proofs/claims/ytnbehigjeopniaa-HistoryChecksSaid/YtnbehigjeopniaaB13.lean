import Derived.Deep.OwnRows
import Derived.Deep.DeepCutAuto
import Derived.Deep.CutBlock
import Derived.Test.YtnbehigjeopniaaB07
import Derived.Test.YtnbehigjeopniaaB12
set_option linter.unusedVariables false
set_option linter.unusedSimpArgs false
/- Layer 16: drawn operations of all threads. -/
namespace Go.Proofs.Ytnbehigjeopniaa
open Go.ChangeShapes Go.WideShapes Go.ChangeAt Go.RowKit
set_option maxRecDepth 100000

theorem leftO (g : Nat) (w : World) (h : CodesE w g) :
    Calls Try.prog 30 #[.pointer (some ⟨g, 0, none⟩)] w fun e w' => ∃ b, e = .returned (.bool b) ∧ Below w.heap.size w w' := by
  obtain ⟨r, val, h⟩ := h
  refine (left_any g r val w h).mono ?_
  rintro e w' ⟨n, rfl, rfl⟩
  exact ⟨_, rfl, below_drewN (Below.refl _ _) n⟩
theorem grown_of_belowO {a b : World} {row : Option Nat} (h : Below a.heap.size a b) : a.grownBy b row := ⟨h.os, h.tape, h.output, h.size, fun j hj _ => h.block j hj⟩
def nilO : Value := .slice none 0 0
/-- block S holds slice headers of these lengths -/
def HdrO (w : World) (S : Nat) (ns : List Nat) : Prop := ∃ us : List Value, w.heap[S]? = some (.cells us.toArray 55 (0, 0)) ∧ us.length = ns.length ∧ ∀ j, j < ns.length → ∃ x c, us.getD j nilO = .slice x (ns.getD j 0) c
theorem HdrO.kept {w w2 : World} {S : Nat} {ns : List Nat} {row : Option Nat} (h : HdrO w S ns) (hg : w.grownBy w2 row) (hr : row ≠ some S) : HdrO w2 S ns := by
  obtain ⟨us, h1, h2⟩ := h
  exact ⟨us, (hg.block S (Array.getElem?_eq_some_iff.1 h1).1 (fun e => hr e.symm)).trans h1, h2⟩
theorem HdrO.below {w w2 : World} {S : Nat} {ns : List Nat} (h : HdrO w S ns) (hb : Below w.heap.size w w2) : HdrO w2 S ns := h.kept (row := none) (grown_of_belowO hb) (by simp)
theorem HdrO.lt {w : World} {S : Nat} {ns : List Nat} (h : HdrO w S ns) : S < w.heap.size := by
  obtain ⟨us, h1, -⟩ := h
  exact (Array.getElem?_eq_some_iff.1 h1).1
theorem HdrO.cell {w : World} {S : Nat} {ns : List Nat} (h : HdrO w S ns) {j : Nat} (hj : j < ns.length) {k : Nat} (hk : ns.getD j 0 = k) : ∃ x c, w.cell? ⟨S, j, none⟩ = some (.slice x k c) := by
  obtain ⟨us, h1, h2, h3⟩ := h
  obtain ⟨x, c, h4⟩ := h3 j hj
  refine ⟨x, c, (cell_of_row _ _ j _ _ _ h1).trans ?_⟩
  rw [List.getElem?_toArray, ← hk, ← h4, List.getD_eq_getElem?_getD, List.getElem?_eq_getElem (by omega)]
  rfl
theorem HdrO.slO {w : World} {S : Nat} {ns : List Nat} (h : HdrO w S ns) (hn : ns.length ≤ 1000000) : SlO w (.slice (some ⟨S, 0, none⟩) ns.length ns.length) ns :=
  ⟨hn, _, _, rfl, fun i hi => by
    obtain ⟨x, c, hc⟩ := h.cell hi rfl
    exact ⟨S, 0, x, c, rfl, h.lt, by rw [Nat.zero_add]; exact hc⟩⟩
/-- lists of operations, each in a block of its own from B on; block S holds their slices -/
structure LsO (w : World) (S B : Nat) (us : List Value) (rs : List (List (List Value))) : Prop where
  len : us.length = rs.length
  row : w.heap[S]? = some (.cells us.toArray 55 (0, 0))
  own : ∀ j, j < rs.length → OwnS w B 54 7 (us.getD j nilO) (rs.getD j [])
  apart : ∀ a b, a ≠ b → a < rs.length → b < rs.length → (us.getD a nilO).ownBlock = none ∨ (us.getD a nilO).ownBlock ≠ (us.getD b nilO).ownBlock
  SB : S < B
theorem LsO.lt {w : World} {S B : Nat} {us : List Value} {rs : List (List (List Value))} (h : LsO w S B us rs) : S < w.heap.size := (Array.getElem?_eq_some_iff.1 h.row).1
theorem LsO.cell {w : World} {S B : Nat} {us : List Value} {rs : List (List (List Value))} (h : LsO w S B us rs) {j : Nat} (hj : j < rs.length) : w.cell? ⟨S, j, none⟩ = some (us.getD j nilO) :=
  cell_of_row _ _ j _ _ _ h.row |>.trans (by
    have hj2 : j < us.length := by rw [h.len]; exact hj
    rw [List.getElem?_toArray, List.getElem?_eq_getElem hj2, List.getD_eq_getElem?_getD, List.getElem?_eq_getElem hj2]
    rfl)
theorem LsO.kept {w w2 : World} {S B g : Nat} {us : List Value} {rs : List (List (List Value))} (h : LsO w S B us rs) (hg : w.grownBy w2 (some g)) (hS : g ≠ S) (hB : g < B) : LsO w2 S B us rs :=
  ⟨h.len, (hg.block S h.lt (fun e => hS (by simpa using e.symm))).trans h.row, fun j hj => (h.own j hj).kept hg ((h.own j hj).ne hB), h.apart, h.SB⟩
theorem LsO.below {w w2 : World} {S B : Nat} {us : List Value} {rs : List (List (List Value))} (h : LsO w S B us rs) (hb : Below w.heap.size w w2) : LsO w2 S B us rs :=
  ⟨h.len, (hb.block S h.lt).trans h.row, fun j hj => (h.own j hj).below hb, h.apart, h.SB⟩
theorem getD_setO {α : Type} (l : List α) (i j : Nat) (x d : α) : (l.set i x).getD j d = if i = j ∧ j < l.length then x else l.getD j d := by
  rw [List.getD_eq_getElem?_getD, List.getD_eq_getElem?_getD]
  by_cases h : i = j
  · subst h
    by_cases h2 : i < l.length
    · rw [List.getElem?_set_self h2, if_pos ⟨rfl, h2⟩]; rfl
    · rw [if_neg (fun e => h2 e.2), List.getElem?_eq_none (by simp; omega), List.getElem?_eq_none (by omega)]
  · rw [List.getElem?_set_ne h, if_neg (fun e => h e.1)]
/-- an operation is added to list i -/
theorem LsO.push {w u2 : World} {S B i : Nat} {us : List Value} {rs : List (List (List Value))} {v6 : Value} {rn : List (List Value)} (h : LsO w S B us rs) (hi : i < rs.length)
    (hg : w.grownBy u2 (us.getD i nilO).ownBlock) (ho : OwnS u2 B 54 7 v6 rn) (hn : v6.ownBlock = (us.getD i nilO).ownBlock ∨ v6.ownBlock = some w.heap.size) :
    LsO (u2.setCell ⟨S, i, none⟩ v6) S B (us.set i v6) (rs.set i rn) := by
  have hob : ∀ j, (us.getD i nilO).ownBlock = some j → B ≤ j := fun j hj => ((h.own i hi).lt j hj).1
  have hset := grownBy_setCell u2 ⟨S, i, none⟩ v6
  have hlen := h.len
  have hlt := h.lt
  have hSu : u2.heap[S]? = some (.cells us.toArray 55 (0, 0)) := (hg.block S hlt (fun e => by have := hob S e.symm; have := h.SB; omega)).trans h.row
  have hsw : ∀ {a b : Option Nat}, (a = none ∨ a ≠ b) → (b = none ∨ b ≠ a) := fun {a b} h1 => by
    rcases h1 with h2 | h2
    · rw [h2]
      cases b
      · exact .inl rfl
      · exact .inr (by simp)
    · exact .inr fun e => h2 e.symm
  have hnw : ∀ b, b ≠ i → b < rs.length → v6.ownBlock = none ∨ v6.ownBlock ≠ (us.getD b nilO).ownBlock := fun b hb hb2 => by
    rcases hn with h2 | h2
    · rw [h2]; exact h.apart i b (fun e => hb e.symm) hi hb2
    · rw [h2]
      refine .inr fun e => ?_
      have := ((h.own b hb2).lt _ e.symm).2
      omega
  refine ⟨by rw [List.length_set, List.length_set]; exact hlen, ?_, fun j hj => ?_, fun a b hab ha hb => ?_, h.SB⟩
  · rw [heap_setCell_same u2 S i _ _ v6 hSu, List.setIfInBounds_toArray]
  · rw [List.length_set] at hj
    rw [getD_setO, getD_setO]
    by_cases hji : i = j
    · rw [if_pos ⟨hji, by rw [hlen]; exact hj⟩, if_pos ⟨hji, hj⟩]
      exact ho.kept hset (ho.ne h.SB)
    · rw [if_neg (fun e => hji e.1), if_neg (fun e => hji e.1)]
      have h1 := (h.own j hj).kept hg (h.apart j i (fun e => hji e.symm) hj hi)
      exact h1.kept hset (h1.ne h.SB)
  · rw [List.length_set] at ha hb
    rw [getD_setO, getD_setO, hlen]
    by_cases hia : i = a
    · rw [if_pos ⟨hia, ha⟩, if_neg (fun e => hab (hia.symm.trans e.1))]
      exact hnw b (fun e => hab (hia.symm.trans e.symm)) hb
    · rw [if_neg (fun e => hia e.1)]
      by_cases hib : i = b
      · rw [if_pos ⟨hib, hb⟩]
        exact hsw (hnw a (fun e => hia e.symm) ha)
      · rw [if_neg (fun e => hib e.1)]
        exact h.apart a b hab ha hb
theorem LsO.hdr {w : World} {S B : Nat} {us : List Value} {rs : List (List (List Value))} (h : LsO w S B us rs) : HdrO w S (rs.map List.length) :=
  ⟨us, h.row, by rw [List.length_map]; exact h.len, fun j hj => by
    rw [List.length_map] at hj
    obtain ⟨a, c, e⟩ := (h.own j hj).len
    refine ⟨a, c, e.trans ?_⟩
    simp [List.getD_eq_getElem?_getD, hj]⟩
theorem Try.info_lop : (Try.prog.info? 55).map (fun i => (i.zero, i.size, i.bytes)) = some (some (.slice none 0 0), 1, 24) := by kernel_rfl
theorem Try.info_op7 : (Try.prog.info? 54).map (fun i => (i.zero, i.size, i.bytes)) = some (some (.agg zeroOp), 7, 88) := by kernel_rfl
theorem makeLO (m : Nat) (hm : m ≤ 8) (w' : World) : (Instr.makeSlice 25 (.int .i64 (m : Int)) (.int .i64 (m : Int))).run Try.prog w' = .ok (.slice (some ⟨w'.heap.size, 0, none⟩) m m) (w'.alloc (.cells (Array.replicate m nilO) 55)) := by
  have e := run_make_row' (P := Try.prog) 25 55 (.slice none 0 0) 24 Try.underlying25 Try.info_lop rfl .i64 .i64 m (by omega) (by omega) w'
  rw [e, show madeCells #[Value.slice none 0 0] m = Array.replicate m nilO from Array.ext' (by rw [toList_madeCells_one, Array.toList_replicate]; rfl)]
theorem LsO.start {w : World} {S m B : Nat} (h : w.heap[S]? = some (.cells (Array.replicate m nilO) 55 (0, 0))) (hB : S < B) : LsO w S B (List.replicate m nilO) (List.replicate m []) := by
  refine ⟨by simp, by rw [h]; simp, fun j hj => ?_, fun a b _ ha _ => ?_, hB⟩
  · rw [List.length_replicate] at hj
    have e1 : (List.replicate m nilO).getD j nilO = .slice none 0 0 := by simp [List.getD_eq_getElem?_getD, hj]; rfl
    have e2 : (List.replicate m ([] : List (List Value))).getD j [] = [] := by simp [List.getD_eq_getElem?_getD, hj]
    rw [e1, e2]
    exact OwnS.nil _ _ _ _
  · rw [List.length_replicate] at ha
    have e1 : (List.replicate m nilO).getD a nilO = .slice none 0 0 := by simp [List.getD_eq_getElem?_getD, ha]; rfl
    rw [e1]
    exact .inl rfl
set_option maxRecDepth 100000 in
set_option maxHeartbeats 16000000 in
theorem opsE (g : Nat) (v : Value) (c : ConfM) (w : World) (h : CodesE w g) (hv : ConfX w g v c) (hc : c.caps.length ≤ 8) (m : Nat) (hm : c.threads = m) (hm1 : 1 ≤ m) (hm8 : m ≤ 8) :
    Calls Try.prog 29 #[.pointer (some ⟨g, 0, none⟩), v, .int .i64 10] w fun e w' => ∃ S ns, e = .returned (.slice (some ⟨S, 0, none⟩) m m) ∧ w.heap.size ≤ S ∧ HdrO w' S ns ∧ ns.length = m ∧ CodesE w' g ∧ w.grownBy w' (some g) := by
  have hgl := h.lt
  have HC0 := Lib.hid h
  have HX0 := Lib.hid hv
  have HC8 := Lib.hid hc
  obtain ⟨vc, vs, rfl, h1, h2, -, -⟩ := hv
  obtain ⟨a4, c4, rfl, -⟩ := h1.len
  obtain ⟨a5, c5, rfl, -⟩ := h2.len
  rw [hm] at HX0 ⊢
  obtain ⟨n4, hn4⟩ : ∃ n, c.caps.length = n := ⟨_, rfl⟩
  obtain ⟨n5, hn5⟩ : ∃ n, c.starts.length = n := ⟨_, rfl⟩
  rw [hn4, hn5] at HX0 ⊢
  clear h h1 h2 hn4 hn5 hm hc
  have hmk := makeLO m hm8
  obtain ⟨W, hW, HB, R0, hz⟩ := one_new w (.cells #[.slice a4 n4 c4, .slice a5 n5 c5, .int .i64 (m : Int)] 60)
  have HW := Lib.hid hW
  clear hW
  go_enter Try.func29, Try.ntmps29
  go_upto_region 1 with fail
  rw [HW.out]
  clear HW
  obtain ⟨x0_0, x0_1, x0_2⟩ := rowc3 R0.out
  go_upto_region 2 with fail
  have R2 : Hid ((W.alloc (.cells (Array.replicate m nilO) 55)).heap[W.heap.size]? = some (.cells (Array.replicate m nilO) 55 (0, 0))) := heap_alloc_new _ _
  have HB2 : Hid (Below w.heap.size w (W.alloc (.cells (Array.replicate m nilO) 55))) := below_new HB.out _
  have R3 : Hid ((W.alloc (.cells (Array.replicate m nilO) 55)).heap[w.heap.size]? = some (.cells #[.slice a4 n4 c4, .slice a5 n5 c5, .int .i64 (m : Int)] 60 (0, 0))) := (heap_alloc_old _ _ (by omega)).trans R0.out
  have hs2 : (W.alloc (.cells (Array.replicate m nilO) 55)).heap.size = W.heap.size + 1 := by simp
  generalize W.alloc (.cells (Array.replicate m nilO) 55) = w2 at *
  obtain ⟨X, hX⟩ : ∃ X, w.heap.size = X := ⟨_, rfl⟩
  obtain ⟨S, hS⟩ : ∃ S, W.heap.size = S := ⟨_, rfl⟩
  obtain ⟨B, hB⟩ : ∃ B, S + 1 = B := ⟨_, rfl⟩
  have HXX := Lib.hid hX
  have HBS := Lib.hid hB
  rw [hX] at R3 hz hgl
  rw [hS] at R2 hs2 hz
  rw [hS, hX]
  have hgS : g < S := by omega
  have hSB : S < B := by omega
  have hXS : X < S := by omega
  have hgX : g ≠ X := by omega
  have hgB : g < B := by omega
  have hB2 : B ≤ w2.heap.size := by omega
  have HC2 := Lib.hid (HC0.out.kept HC0.out.lt HB2.out)
  have HX2 := Lib.hid (HX0.out.below HB2.out)
  have HL2 := Lib.hid (LsO.start R2.out (show S < B by omega))
  clear x0_0 x0_1 x0_2 hX hS hB hs2 hz R0 R2 HB hmk HC0
  go_wp2_with fail
  go_loopw [8] (fun u8 wr => ∃ (i : Nat) (us : List Value) (rs : List (List (List Value))), u8 = .int .i64 i ∧ i ≤ 10 ∧ Hid (LsO wr S B us rs ∧ ((∀ j, (rs.getD j []).length ≤ i) ∧ rs.length = m) ∧ CodesE wr g ∧ ConfX wr g (.agg #[.slice a4 n4 c4, .slice a5 n5 c5, .int .i64 (m : Int)]) c ∧ wr.heap[X]? = some (.cells #[.slice a4 n4 c4, .slice a5 n5 c5, .int .i64 (m : Int)] 60 (0, 0)) ∧ w.grownBy wr (some g))) (fun u8 _ => 10 - (intOf u8).toNat)
  case atStart => exact ⟨0, _, _, rfl, by omega, HL2.out, ⟨fun j => by simp [List.getD_eq_getElem?_getD, List.getElem?_replicate]; split <;> simp, by simp⟩, HC2.out, HX2.out, R3.out, grown_of_belowO HB2.out⟩
  case round =>
    clear HL2 HC2 HX2 R3 HB2
    obtain ⟨i, us, rs, rfl, hi, HI⟩ := hrel
    obtain ⟨wo, rfl⟩ : ∃ wo : World, wo = wr := ⟨_, rfl⟩
    have HEND : Hid (∀ w2, Below wo.heap.size wo w2 → ∃ S' ns, Ending.returned (Value.slice (some ⟨S, 0, none⟩) m m) = .returned (.slice (some ⟨S', 0, none⟩) m m) ∧ w.heap.size ≤ S' ∧ HdrO w2 S' ns ∧ ns.length = m ∧ CodesE w2 g ∧ w.grownBy w2 (some g)) := fun w2 hb => by
      obtain ⟨k1, ⟨k2, k3⟩, k4, k5, k6, k7⟩ := HI.out
      exact ⟨S, _, rfl, by rw [HXX.out]; omega, (k1.below hb).hdr, by rw [List.length_map]; exact k3, k4.kept k4.lt hb, grownBy_trans k7 (grown_of_belowO hb)⟩
    by_cases hlt : i < 10
    · have hltI : (i : Int) < 10 := by omega
      go_wp2_with fail
      refine (leftO g wo HI.out.2.2.1).mono ?_; rintro e w1 ⟨bq, rfl, hb1⟩
      have HB1 := Lib.hid hb1
      cases bq with
      | false =>
        clear hb1
        go_wp2
        go_ret
        exact HEND.out _ HB1.out
      | true =>
        obtain ⟨k1, k2, k4, k5, k6, k7⟩ := HI.out
        have HI2 : Hid (LsO w1 S B us rs ∧ ((∀ j, (rs.getD j []).length ≤ i) ∧ rs.length = m) ∧ CodesE w1 g ∧ ConfX w1 g (.agg #[.slice a4 n4 c4, .slice a5 n5 c5, .int .i64 (m : Int)]) c ∧ w1.heap[X]? = some (.cells #[.slice a4 n4 c4, .slice a5 n5 c5, .int .i64 (m : Int)] 60 (0, 0)) ∧ w.grownBy w1 (some g)) := ⟨k1.below hb1, k2, k4.kept k4.lt hb1, k5.below hb1, (hb1.block X (Array.getElem?_eq_some_iff.1 k6).1).trans k6, grownBy_trans k7 (grown_of_belowO hb1)⟩
        clear k1 k2 k4 k5 k6 k7 hb1 HI HEND HB1 wo
        obtain ⟨x0, x1, x2⟩ := rowc3 HI2.out.2.2.2.2.1
        have hm256 : (m : Int) ≤ 256 := by omega
        have hm1I : (1 : Int) ≤ (m : Int) := by omega
        go_wp2_with fail
        refine (nextE g (m : Int) w1 HI2.out.2.2.1 hm1I hm256).mono ?_; rintro e wo ⟨t, rfl, ht0, htm, hc2, hg2⟩
        obtain ⟨k1, k2, k4, k5, k6, k7⟩ := HI2.out
        have HI : Hid (LsO wo S B us rs ∧ ((∀ j, (rs.getD j []).length ≤ i) ∧ rs.length = m) ∧ CodesE wo g ∧ ConfX wo g (.agg #[.slice a4 n4 c4, .slice a5 n5 c5, .int .i64 (m : Int)]) c ∧ wo.heap[X]? = some (.cells #[.slice a4 n4 c4, .slice a5 n5 c5, .int .i64 (m : Int)] 60 (0, 0)) ∧ w.grownBy wo (some g)) := ⟨k1.kept hg2 (by omega) hgB, k2, hc2, k5.grown hg2, (hg2.block X (Array.getElem?_eq_some_iff.1 k6).1 (fun e => hgX (by simpa using e.symm))).trans k6, grownBy_trans k7 hg2⟩
        have hBo : B ≤ wo.heap.size := by have := k1.lt; have := HBS.out; have := hg2.size; omega
        clear k1 k2 k4 k5 k6 k7 hc2 hg2 HI2 x0 x1 x2
        obtain ⟨t, rfl⟩ : ∃ q : Nat, t = q := ⟨t.toNat, by omega⟩
        have htn : t < m := by omega
        have htI : (t : Int) < (m : Int) := by omega
        obtain ⟨x0, x1, x2⟩ := rowc3 HI.out.2.2.2.2.1
        have c0 := HI.out.1.cell (j := t) (by rw [HI.out.2.1.2]; exact htn)
        have how := HI.out.1.own t (by rw [HI.out.2.1.2]; exact htn)
        obtain ⟨oa, oc, hoe⟩ := how.len
        have hk10 := HI.out.2.1.1 t
        obtain ⟨rw', hrw⟩ : ∃ r, rs.getD t [] = r := ⟨_, rfl⟩
        rw [hrw] at how hoe hk10
        rw [hoe] at c0 how
        have HOE := Lib.hid hoe
        have HRW := Lib.hid hrw
        obtain ⟨k, hk⟩ : ∃ k, rw'.length = k := ⟨_, rfl⟩
        have HOW := Lib.hid how
        have HKK := Lib.hid hk
        rw [hk] at c0 HOE HOW hk10
        have hrl : rw'.length ≤ 1000000 := by omega
        have hSl := HI.out.1.lt
        have hXl : X < wo.heap.size := (Array.getElem?_eq_some_iff.1 HI.out.2.2.2.2.1).1
        have KSg : Hid (∀ w', wo.grownBy w' (some g) → (fun w' : World => w'.cell? ⟨S, t, none⟩ = some (.slice oa k oc) ∧ (w'.cell? ⟨X, 0, none⟩ = some (.slice a4 n4 c4) ∧ w'.cell? ⟨X, 1, none⟩ = some (.slice a5 n5 c5) ∧ w'.cell? ⟨X, 2, none⟩ = some (.int .i64 (m : Int)))) w') := fun w' hg => ⟨(World.cell?_of_block (a := ⟨S, t, none⟩) (hg.block S hSl (fun e => by simp only [Option.some.injEq] at e; omega))).trans c0, (World.cell?_of_block (a := ⟨X, 0, none⟩) (hg.block X hXl (fun e => by simp only [Option.some.injEq] at e; omega))).trans x0, (World.cell?_of_block (a := ⟨X, 1, none⟩) (hg.block X hXl (fun e => by simp only [Option.some.injEq] at e; omega))).trans x1, (World.cell?_of_block (a := ⟨X, 2, none⟩) (hg.block X hXl (fun e => by simp only [Option.some.injEq] at e; omega))).trans x2⟩
        have HF : Hid (∀ (w5 u1 w6 : World) (r : List Value) {pa : Option Addr} {pn pc : Nat}, wo.grownBy w5 (some g) → Below w5.heap.size w5 u1 → OwnS w6 B 54 7 (.slice pa pn pc) (rw' ++ [r]) → u1.grownBy w6 (Value.slice oa k oc).ownBlock → ((Value.slice pa pn pc).ownBlock = (Value.slice oa k oc).ownBlock ∨ (Value.slice pa pn pc).ownBlock = some u1.heap.size) → LsO (w6.setCell ⟨S, t, none⟩ (.slice pa pn pc)) S B (us.set t (.slice pa pn pc)) (rs.set t (rw' ++ [r]))) := fun w5 u1 w6 r pa pn pc h1 h2 h3 h4 h5 => by
          have h6 := (HI.out.1.kept h1 (by omega) hgB).below h2
          exact h6.push (by rw [HI.out.2.1.2]; exact htn) (by rw [HOE.out]; exact h4) h3 (by rw [HOE.out]; exact h5)
        have hob : ∀ j, (Value.slice oa k oc).ownBlock = some j → B ≤ j := fun j hj => (HOW.out.lt j hj).1
        have HOB := Lib.hid hob
        have HCE : Hid (∀ (w5 u1 w6 : World), wo.grownBy w5 (some g) → Below w5.heap.size w5 u1 → u1.grownBy w6 (Value.slice oa k oc).ownBlock → w6.cell? ⟨S, t, none⟩ = some (.slice oa k oc) ∧ w6.frozen? ⟨S, t, none⟩ = false) := fun w5 u1 w6 h1 h2 h4 => by
          have h6 := (HI.out.1.kept h1 (by omega) hgB).below h2
          have h7 : w6.heap[S]? = some (.cells us.toArray 55 (0, 0)) := (h4.block S h6.lt (fun e => by have := HOB.out S e.symm; have := h6.SB; omega)).trans h6.row
          exact ⟨(World.cell?_of_block (a := ⟨S, t, none⟩) (h7.trans h6.row.symm)).trans ((h6.cell (j := t) (by rw [HI.out.2.1.2]; exact htn)).trans (by rw [HOE.out])), frozen_of_row _ _ _ _ _ h7⟩
        have HLAST : Hid (∀ (w5 u1 w6 : World) (r : List Value) {pa : Option Addr} {pn pc : Nat}, wo.grownBy w5 (some g) → Below w5.heap.size w5 u1 → u1.grownBy w6 (Value.slice oa k oc).ownBlock → CodesE w5 g → LsO (w6.setCell ⟨S, t, none⟩ (.slice pa pn pc)) S B (us.set t (.slice pa pn pc)) (rs.set t (rw' ++ [r])) → LsO (w6.setCell ⟨S, t, none⟩ (.slice pa pn pc)) S B (us.set t (.slice pa pn pc)) (rs.set t (rw' ++ [r])) ∧ ((∀ j, ((rs.set t (rw' ++ [r])).getD j []).length ≤ i + 1) ∧ (rs.set t (rw' ++ [r])).length = m) ∧ CodesE (w6.setCell ⟨S, t, none⟩ (.slice pa pn pc)) g ∧ ConfX (w6.setCell ⟨S, t, none⟩ (.slice pa pn pc)) g (.agg #[.slice a4 n4 c4, .slice a5 n5 c5, .int .i64 (m : Int)]) c ∧ (w6.setCell ⟨S, t, none⟩ (.slice pa pn pc)).heap[X]? = some (.cells #[.slice a4 n4 c4, .slice a5 n5 c5, .int .i64 (m : Int)] 60 (0, 0)) ∧ w.grownBy (w6.setCell ⟨S, t, none⟩ (.slice pa pn pc)) (some g)) := fun w5 u1 w6 r pa pn pc h1 h2 h3 h4 h5 => by
          have hXl' := hXl
          have b1 : Below (g + 1) w5 u1 := h2.mono (by have := h4.lt; omega)
          have b2 : Below (g + 1) w5 w6 := b1.grown h3 (by have := h4.lt; have := h2.size; omega) (fun j hj => by have := HOB.out j hj; omega)
          have b3 := b2.setCell (p := ⟨S, t, none⟩) (by show g + 1 ≤ S; omega) (.slice pa pn pc)
          have g1 := grownBy_trans HI.out.2.2.2.2.2 h1
          have g2 := grownBy_of_new g1 (grown_of_belowO (row := none) h2) (fun k e => by cases e)
          have g3 := grownBy_of_new g2 h3 (fun j hj => by have := HOB.out j hj; have := HXX.out; omega)
          have g4 := grownBy_of_new g3 (grownBy_setCell w6 ⟨S, t, none⟩ (.slice pa pn pc)) (fun j hj => by cases hj; show _ ≤ S; have := HXX.out; omega)
          refine ⟨h5, ⟨fun j => ?_, by rw [List.length_set]; exact HI.out.2.1.2⟩, h4.kept (Nat.lt_succ_self g) b3, HX0.out.grown g4, ?_, g4⟩
          · rw [getD_setO]
            split
            · rw [List.length_append, HKK.out]; simp; omega
            · have := HI.out.2.1.1 j; omega
          · have e1 := (h1.block X hXl (fun e => by simp only [Option.some.injEq] at e; omega)).trans HI.out.2.2.2.2.1
            have e2 := (h2.block X (Array.getElem?_eq_some_iff.1 e1).1).trans e1
            have e3 := (h3.block X (Array.getElem?_eq_some_iff.1 e2).1 (fun e => by have := HOB.out X e.symm; omega)).trans e2
            exact (heap_setCell_other w6 ⟨S, t, none⟩ X _ (by show X ≠ S; omega)).trans e3
        clear how hoe hrw hk hob
        go_upto_region 6 with fail
        clear c0 x0 x1 x2
        refine wp_region_until (fun w' : World => w'.cell? ⟨S, t, none⟩ = some (.slice oa k oc) ∧ (w'.cell? ⟨X, 0, none⟩ = some (.slice a4 n4 c4) ∧ w'.cell? ⟨X, 1, none⟩ = some (.slice a5 n5 c5) ∧ w'.cell? ⟨X, 2, none⟩ = some (.int .i64 (m : Int)))) 10 13 (by kernel_rfl) rfl ?_
        obtain ⟨u0, hu0, HU0⟩ := drew_pack wo
        rw [hu0]
        clear hu0
        have hSU0 := KSg.out _ (grown_of_belowO HU0.out)
        refine wpAnyU_takeW (v := ?_) 0 la0 (by kernel_rfl) (by kernel_rfl) (by kernel_rfl) (by kernel_rfl) (fun _ _ _ h => h) (fun _ => hSU0) rfl ?_ ?_
        rotate_left
        · (intro w; go_simp <;> with_reducible rfl)
        simp only [Act.put, List.setIfInBounds_toArray, List.set_cons_zero, List.set_cons_succ]
        refine wpAnyU_takeW (v := ?_) 1 la1 (by kernel_rfl) (by kernel_rfl) (by kernel_rfl) (by kernel_rfl) (fun _ _ _ h => h) (fun _ => hSU0) rfl ?_ ?_
        rotate_left
        · (intro w; go_simp <;> with_reducible rfl)
        simp only [Act.put, List.setIfInBounds_toArray, List.set_cons_zero, List.set_cons_succ]
        refine wpAnyU_takeW (v := ?_) 2 la2 (by kernel_rfl) (by kernel_rfl) (by kernel_rfl) (by kernel_rfl) (fun _ _ _ h => h) (fun _ => hSU0) rfl ?_ ?_
        rotate_left
        · (intro w; go_simp <;> with_reducible rfl)
        simp only [Act.put, List.setIfInBounds_toArray, List.set_cons_zero, List.set_cons_succ]
        refine wpAnyU_takeW (v := ?_) 3 la3 (by kernel_rfl) (by kernel_rfl) (by kernel_rfl) (by kernel_rfl) (fun _ _ _ h => h) (fun _ => hSU0) rfl ?_ ?_
        rotate_left
        · (intro w; go_simp <;> with_reducible rfl)
        simp only [Act.put, List.setIfInBounds_toArray, List.set_cons_zero, List.set_cons_succ]
        refine wpAnyU_takeW (v := ?_) 4 la4 (by kernel_rfl) (by kernel_rfl) (by kernel_rfl) (by kernel_rfl) (fun _ _ _ h => h) (fun _ => hSU0) rfl ?_ ?_
        rotate_left
        · (intro w; go_simp <;> with_reducible rfl)
        simp only [Act.put, List.setIfInBounds_toArray, List.set_cons_zero, List.set_cons_succ]
        refine tkU (v := ?_) 5 la5 hSU0 (by kernel_rfl) (fun _ _ _ h => h) rfl ?_ ?_
        rotate_left
        · (intro w hSw; (try dsimp only at hSw); go_simp <;> with_reducible rfl)
        simp only [Act.put, List.setIfInBounds_toArray, List.set_cons_zero, List.set_cons_succ]
        refine wpAnyU_takeW (v := ?_) 6 la6 (by kernel_rfl) (by kernel_rfl) (by kernel_rfl) (by kernel_rfl) (fun _ _ _ h => h) (fun _ => hSU0) rfl ?_ ?_
        rotate_left
        · (intro w; go_simp <;> with_reducible rfl)
        simp only [Act.put, List.setIfInBounds_toArray, List.set_cons_zero, List.set_cons_succ]
        refine wpAnyU_ready (rs := [7]) (by kernel_rfl) rfl ?_
        refine AllReadyU.cons la7 rfl (fun K hK => ?_) ?_
        · go_simp
          refine hK.out _ _ ?_ (fun hSU1 => ?_)
          · exact hSU0
          clear hK K hSU0
          try simp only [Act.put, List.setIfInBounds_toArray, List.set_cons_zero, List.set_cons_succ]
          refine wpAnyU_ready (rs := [8]) (by kernel_rfl) rfl ?_
          refine AllReadyU.cons la8 rfl (fun K hK => ?_) ?_
          · go_simp
            go_at_call 36
            refine (opE g _ c u0 (HI.out.2.2.1.kept HI.out.2.2.1.lt HU0.out) (HI.out.2.2.2.1.below HU0.out) HC8.out).mono ?_
            rintro e w5 ⟨u, op, rfl, ⟨vc, vd, rfl, hsc, hsd, -, -⟩, -, hc5, hg5⟩
            obtain ⟨p6, p8, rfl⟩ := hsc.len
            obtain ⟨q6, q8, rfl, -⟩ := hsd.len
            have HC5 := Lib.hid hc5
            have HG5 : Hid (wo.grownBy w5 (some g)) := grownBy_trans (grown_of_belowO HU0.out) hg5
            clear hc5 hg5 hsc hsd
            obtain ⟨p1, p2, p3, p4, p5, pc, pd⟩ := op
            dsimp only
            generalize pc.length = p7
            generalize pd.length = q7
            refine hK.out _ _ ?_ (fun hSU2 => ?_)
            · exact KSg.out _ HG5.out
            clear hK K hSU1
            try simp only [Act.put, List.setIfInBounds_toArray, List.set_cons_zero, List.set_cons_succ]
            refine wpAnyU_ready (rs := [9]) (by kernel_rfl) rfl ?_
            refine AllReadyU.cons la9 rfl (fun K hK => ?_) ?_
            · go_simp
              obtain ⟨u1, nb, hv1, hX, RN, hbn, ltn⟩ := alloc_pack w5 (.cells #[.int .i64 p1, .int .i64 p2, .int .i64 p3, .int .u64 p4, .int .i64 p5, .slice p6 p7 p8, .slice q6 q7 q8] 54)
              rw [hv1, hX]
              have HU1 := Lib.hid hbn.out
              clear hv1 hX hbn ltn
              refine hK.out _ _ ?_ (fun hSU3 => ?_)
              · exact KSg.out _ (grownBy_trans HG5.out (grown_of_belowO HU1.out))
              clear hK K hSU2
              try simp only [Act.put, List.setIfInBounds_toArray, List.set_cons_zero, List.set_cons_succ]
              refine wpAnyU_ready (rs := [10]) (by kernel_rfl) rfl ?_
              refine AllReadyU.free la10 rfl (by kernel_rfl) (fun K hK => ?_) ?_
              · refine step_append_s (w := u1) 55 (by kernel_rfl) Try.info_op7 rfl (by decide) (by decide) (by rfl) _ _ (by rfl) (by rfl) ((HOW.out.kept HG5.out (HOW.out.ne hgB)).below HU1.out) [.int .i64 p1, .int .i64 p2, .int .i64 p3, .int .u64 p4, .int .i64 p5, .slice p6 p7 p8, .slice q6 q7 q8] rfl (by intro u hu; simp only [List.mem_cons, List.not_mem_nil, or_false] at hu; rcases hu with rfl | rfl | rfl | rfl | rfl | rfl | rfl <;> rfl) nb (by rfl) RN.out (by omega) (by have := HU1.out.size; have := HG5.out.size; omega) ?_
                intro v6 w6 ho6 hg6 hn6
                obtain ⟨pa, pc, hv6⟩ := ho6.len
                obtain ⟨pn, hpn⟩ : ∃ n, (rw' ++ [([.int .i64 p1, .int .i64 p2, .int .i64 p3, .int .u64 p4, .int .i64 p5, .slice p6 p7 p8, .slice q6 q7 q8] : List Value)]).length = n := ⟨_, rfl⟩
                rw [hpn] at hv6
                clear hpn
                subst hv6
                have HFIN := Lib.hid (HF.out _ _ _ _ HG5.out HU1.out ho6 hg6 hn6)
                have HCD := Lib.hid HC5.out
                have HU6 := Lib.hid hg6
                obtain ⟨y0, fz0⟩ := HCE.out _ _ _ HG5.out HU1.out hg6
                clear ho6 hg6 hn6
                refine hK.out _ _ ?_
                clear hK K hSU3
                try simp only [Act.put, List.setIfInBounds_toArray, List.set_cons_zero, List.set_cons_succ]
                refine wpAnyU_takeW (v := ?_) 11 la11 (by kernel_rfl) (by kernel_rfl) (by kernel_rfl) (by kernel_rfl) (fun _ _ _ h => h) (past_k (by kernel_rfl)) rfl ?_ ?_
                rotate_left
                · (intro w; go_simp <;> with_reducible rfl)
                simp only [Act.put, List.setIfInBounds_toArray, List.set_cons_zero, List.set_cons_succ]
                refine wpAnyU_ready (rs := [12]) (by kernel_rfl) rfl ?_
                refine AllReadyU.free la12 rfl (by kernel_rfl) (fun K hK => ?_) ?_
                · go_simp
                  refine hK.out _ _ ?_
                  clear hK K
                  try simp only [Act.put, List.setIfInBounds_toArray, List.set_cons_zero, List.set_cons_succ]
                  refine wpAnyU_done (by kernel_rfl) ?_ _
                  have HR := Lib.hid (HLAST.out _ _ _ _ HG5.out HU1.out HU6.out HC5.out HFIN.out)
                  go_wp2_with fail
                  go_roundw
                  case rel => exact ⟨i + 1, _, _, by go_num, by omega, HR⟩
                  case measure => simp [intOf]; omega
                exact AllReadyU.nil
              exact AllReadyU.nil
            exact AllReadyU.nil
          exact AllReadyU.nil
        exact AllReadyU.nil
    · have hge : decide ((i : Int) < 10) = false := decide_eq_false (by omega)
      clear HI
      go_wp2
      go_ret
      exact HEND.out _ (Below.refl _ _)
end Go.Proofs.Ytnbehigjeopniaa
