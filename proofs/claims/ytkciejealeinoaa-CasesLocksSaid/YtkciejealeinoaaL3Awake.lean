/- Layer 3: the chapter's example holds, and which operations are too large to be looked at. -/
import Derived.Test.YtkciejealeinoaaL3Own6
import Derived.Test.YtkciejealeinoaaL3Locks
import Derived.Test.YtkciejealeinoaaL3Single
import Derived.Test.YtkciejealeinoaaCodes2
namespace Go.Proofs.Ytkciejealeinoaa
open Go.ChangeShapes Go.WideShapes Go.ChangeAt Go.RowKit
set_option maxRecDepth 100000

def bigB (op : OpM) : Bool := decide (20 < op.cases.length) || decide (20 < op.draws.length)
theorem big_any (v : Value) (op : OpM) (w : World) (h : OpV w v op) :
    Calls Try.prog 11 #[v] w fun e w' => e = .returned (.bool (bigB op)) ∧ Below w.heap.size w w' := by
  obtain ⟨kd, md, ch, vl, dl, cs, ds⟩ := op
  obtain ⟨vc, vd, rfl, hc, hd⟩ := h
  dsimp only at *
  have hl := hc.1
  have hl2 := hd.1
  obtain ⟨a3, cap3, rfl⟩ := hc.len
  obtain ⟨a4, cap4, rfl, -⟩ := hd.len
  clear hc hd
  by_cases h : 20 < cs.length
  · have h' : (20 : Int) < cs.length := by omega
    go_enter Try.func11, Try.ntmps11
    go_wp2
    go_ret
    exact ⟨ret_bool (by simp [bigB, h]), below_new (Below.refl _ _) _⟩
  · go_enter Try.func11, Try.ntmps11
    go_wp2
    go_ret
    exact ⟨ret_bool (by unfold bigB; rw [decide_eq_false (show ¬ 20 < cs.length from h)]; by_cases h2 : 20 < ds.length <;> simp [h2] <;> omega), below_new (Below.refl _ _) _⟩
def awCases : List CaseM := [⟨false, 3, 0⟩, ⟨true, 1, 0⟩, ⟨false, 3, 0⟩]
def awOp : OpM := ⟨4, 0, 0, 0, 0, awCases, [0, 0, 0]⟩
theorem aw_ok : awOp.ok := ⟨by decide, by decide, by decide, by decide, by decide⟩
theorem aw_cok : ∀ x ∈ awCases, x.ok := by
  intro x hx
  simp only [awCases, List.mem_cons, List.not_mem_nil, or_false] at hx
  rcases hx with rfl | rfl | rfl <;> exact ⟨by decide, by decide⟩
set_option maxRecDepth 100000 in
theorem awake_any (w : World) :
    Calls Try.prog 10 #[] w fun e w' => e = .returned (.bool true) ∧ Below w.heap.size w w' := by
  have e1 : lockL 4 (concL awOp) = [1, 3] := by decide
  have e2 : checkE awOp = 0 := by decide
  have e3 : ordL 3 [0, 0, 0] = [1, 2, 0] := by decide
  have A1 := SlI.litAt w .i64 3 [0, 0, 0, 0] w.heap.size rfl (by decide) (by decide)
  obtain ⟨w2, hw2⟩ : ∃ w2, (w.alloc (.cells (([0, 0, 0, 0] : List Int).map (Value.int .i64)).toArray 3)).alloc (.cells #[.slice (some ⟨w.heap.size, 0, none⟩) 4 4, .slice none 0 0, .int .i64 0] 34) = w2 := ⟨_, rfl⟩
  have A2 := A1.below (below_new (Below.refl _ _) (.cells #[.slice (some ⟨w.heap.size, 0, none⟩) 4 4, .slice none 0 0, .int .i64 0] 34))
  rw [hw2] at A2
  have z2 : w2.heap.size = w.heap.size + 2 := by rw [← hw2]; simp
  have B2 : Below w.heap.size w w2 := hw2 ▸ below_new (below_new (Below.refl _ _) _) _
  have R2 : w2.heap[w.heap.size + 1]? = some (.cells #[.slice (some ⟨w.heap.size, 0, none⟩) 4 4, .slice none 0 0, .int .i64 0] 34 (0, 0)) := by rw [← hw2]; exact heap_alloc2_new _ _ _
  have C3 := SlC.litAt w2 awCases w2.heap.size rfl aw_cok (by decide)
  have D4 := SlI.litAt (w2.alloc (.cells (awCases.flatMap caseCells).toArray 69)) .i64 3 [0, 0, 0] (w2.heap.size + 1) (by simp) (by decide) (by decide)
  obtain ⟨w5, hw5⟩ : ∃ w5, ((w2.alloc (.cells (awCases.flatMap caseCells).toArray 69)).alloc (.cells (([0, 0, 0] : List Int).map (Value.int .i64)).toArray 3)).alloc (.cells #[.int .i64 4, .int .i64 0, .int .i64 0, .int .u64 0, .int .i64 0, .slice (some ⟨w2.heap.size, 0, none⟩) 3 3, .slice (some ⟨w2.heap.size + 1, 0, none⟩) 3 3] 26) = w5 := ⟨_, rfl⟩
  have C5 := (C3.below (below_new (Below.refl _ _) (.cells (([0, 0, 0] : List Int).map (Value.int .i64)).toArray 3))).below (below_new (Below.refl _ _) (.cells #[.int .i64 4, .int .i64 0, .int .i64 0, .int .u64 0, .int .i64 0, .slice (some ⟨w2.heap.size, 0, none⟩) 3 3, .slice (some ⟨w2.heap.size + 1, 0, none⟩) 3 3] 26))
  have D5 := D4.below (below_new (Below.refl _ _) (.cells #[.int .i64 4, .int .i64 0, .int .i64 0, .int .u64 0, .int .i64 0, .slice (some ⟨w2.heap.size, 0, none⟩) 3 3, .slice (some ⟨w2.heap.size + 1, 0, none⟩) 3 3] 26))
  rw [hw5] at C5 D5
  have B5 : Below w2.heap.size w2 w5 := hw5 ▸ below_new (below_new (below_new (Below.refl _ _) _) _) _
  have z5 : w5.heap.size = w2.heap.size + 3 := by rw [← hw5]; simp
  have R5 : w5.heap[w2.heap.size + 2]? = some (.cells #[.int .i64 4, .int .i64 0, .int .i64 0, .int .u64 0, .int .i64 0, .slice (some ⟨w2.heap.size, 0, none⟩) 3 3, .slice (some ⟨w2.heap.size + 1, 0, none⟩) 3 3] 26 (0, 0)) := by
    rw [← hw5]
    have := heap_alloc_new ((w2.alloc (.cells (awCases.flatMap caseCells).toArray 69)).alloc (.cells (([0, 0, 0] : List Int).map (Value.int .i64)).toArray 3)) (.cells #[.int .i64 4, .int .i64 0, .int .i64 0, .int .u64 0, .int .i64 0, .slice (some ⟨w2.heap.size, 0, none⟩) 3 3, .slice (some ⟨w2.heap.size + 1, 0, none⟩) 3 3] 26)
    simpa using this
  have HV : Hid (ConfV w5 (.agg #[.slice (some ⟨w.heap.size, 0, none⟩) 4 4, .slice none 0 0, .int .i64 0]) ⟨[0, 0, 0, 0], [], 0⟩) := ⟨_, _, rfl, A2.below B5, SlI.nil _ _⟩
  have HU : Hid (OpV w5 (.agg #[.int .i64 4, .int .i64 0, .int .i64 0, .int .u64 0, .int .i64 0, .slice (some ⟨w2.heap.size, 0, none⟩) 3 3, .slice (some ⟨w2.heap.size + 1, 0, none⟩) 3 3]) awOp) := ⟨_, _, rfl, C5, D5⟩
  have HB5 := Lib.hid (B2.trans (B5.mono (by omega)))
  have r5 := Lib.hid R5
  have r2 := Lib.hid ((B5.block (w.heap.size + 1) (by omega)).trans R2)
  obtain ⟨c0, c1, c2⟩ := row3 r2.out
  obtain ⟨o0, o1, o2, o3, o4, o5, o6⟩ := row7 r5.out
  have H2 := Lib.hid hw2
  have H5 := Lib.hid hw5
  have hz5 : w2.heap.size + 3 ≤ w5.heap.size := by omega
  have hz2 : w.heap.size + 2 ≤ w2.heap.size := by omega
  have E1 := Lib.hid e1
  have E2 := Lib.hid e2
  have E3 := Lib.hid e3
  clear hw2 hw5 A1 A2 C3 D4 C5 D5 B2 B5 R2 R5 z2 z5 e1 e2 e3
  go_enter Try.func10, Try.ntmps10
  go_upto_region 2 with fail
  rw [show (#[.int .i64 0, .int .i64 0, .int .i64 0, .int .i64 0] : Array Value) = (([0, 0, 0, 0] : List Int).map (Value.int .i64)).toArray from rfl, H2.out]
  go_upto_region 3 with fail
  rw [show (#[.bool false, .int .i64 3, .int .u64 0, .bool true, .int .i64 1, .int .u64 0, .bool false, .int .i64 3, .int .u64 0] : Array Value) = (awCases.flatMap caseCells).toArray from rfl,
    show (#[.int .i64 0, .int .i64 0, .int .i64 0] : Array Value) = (([0, 0, 0] : List Int).map (Value.int .i64)).toArray from rfl, H5.out, show w2.heap.size + 1 + 1 = w2.heap.size + 2 from rfl]
  clear H2 H5
  go_wp2_with fail
  refine (locks_any _ _ ⟨[0, 0, 0, 0], [], 0⟩ awOp _ HV.out HU.out (by decide) (by decide)).mono ?_; rintro e w6 ⟨r, rfl, hr, hb6⟩
  rw [show lockL ([0, 0, 0, 0] : List Int).length (concL awOp) = [1, 3] from E1.out] at hr
  have HR := Lib.hid (hr.below (below_new (Below.refl _ _) (.cells (([1, 3] : List Int).map (Value.int .i64)).toArray 3)))
  have HL := Lib.hid (SlI.litAt w6 .i64 3 [1, 3] w6.heap.size rfl (by decide) (by decide))
  have HB6 := Lib.hid (below_new (HB5.out.trans (hb6.mono (by have := HB5.out.size; omega))) (.cells (([1, 3] : List Int).map (Value.int .i64)).toArray 3))
  have HU6 := Lib.hid (HU.out.below (below_new hb6 (.cells (([1, 3] : List Int).map (Value.int .i64)).toArray 3)))
  have r6 := Lib.hid (((below_new hb6 (.cells (([1, 3] : List Int).map (Value.int .i64)).toArray 3)).block (w2.heap.size + 2) (by omega)).trans r5.out)
  clear hr hb6
  go_wp2_with fail
  rw [show (#[.int .i64 1, .int .i64 3] : Array Value) = (([1, 3] : List Int).map (Value.int .i64)).toArray from rfl]
  generalize w6.alloc _ = w7 at *
  refine (same_any _ _ [1, 3] [1, 3] _ HR.out HL.out).mono ?_; rintro e w8 ⟨n8, rfl, rfl⟩
  rw [show decide (([1, 3] : List Int) = [1, 3]) = true from rfl]
  have r8 : Hid ((w7.drewN n8).heap[w2.heap.size + 2]? = _) := r6.out
  have HU8 := Lib.hid (HU6.out.drew n8)
  have HB8 := Lib.hid (below_drewN HB6.out n8)
  clear r6 HU6 HB6 HR HL o0 o1 o2 o3 o4 o5 o6 c0 c1 c2
  generalize w7.drewN n8 = w8 at *
  obtain ⟨o0, o1, o2, o3, o4, o5, o6⟩ := row7 r8.out
  go_wp2_with fail
  refine (ownCheck_any _ awOp _ HU8.out aw_ok (by decide)).mono ?_; rintro e w9 ⟨rfl, hb9⟩
  rw [E2.out]
  have HU9 := Lib.hid (HU8.out.below hb9)
  have HB9 := Lib.hid (below_then HB8.out hb9)
  have r9 := Lib.hid ((hb9.block (w2.heap.size + 2) (Array.getElem?_eq_some_iff.1 r8.out).1).trans r8.out)
  clear hb9 o0 o1 o2 o3 o4 o5 o6
  obtain ⟨o0, o1, o2, o3, o4, o5, o6⟩ := row7 r9.out
  go_wp2_with fail
  refine (ownOrder_any _ awOp _ HU9.out).mono ?_; rintro e w10 ⟨u, rfl, hu, hb10⟩
  rw [show ordL (awOp.cases.length : Int) awOp.draws = [1, 2, 0] from E3.out] at hu
  have HR := Lib.hid (hu.below (below_new (Below.refl _ _) (.cells (([1, 2, 0] : List Int).map (Value.int .i64)).toArray 3)))
  have HL := Lib.hid (SlI.litAt w10 .i64 3 [1, 2, 0] w10.heap.size rfl (by decide) (by decide))
  have HB10 := Lib.hid (below_new (below_then HB9.out hb10) (.cells (([1, 2, 0] : List Int).map (Value.int .i64)).toArray 3))
  clear hu hb10
  go_wp2_with fail
  rw [show (#[.int .i64 1, .int .i64 2, .int .i64 0] : Array Value) = (([1, 2, 0] : List Int).map (Value.int .i64)).toArray from rfl]
  generalize w10.alloc _ = w11 at *
  refine (same_any _ _ [1, 2, 0] [1, 2, 0] _ HR.out HL.out).mono ?_; rintro e w12 ⟨n12, rfl, rfl⟩
  rw [show decide (([1, 2, 0] : List Int) = [1, 2, 0]) = true from rfl]
  go_wp2_with fail
  go_ret
  exact ⟨rfl, below_drewN HB10.out n12⟩
end Go.Proofs.Ytkciejealeinoaa
