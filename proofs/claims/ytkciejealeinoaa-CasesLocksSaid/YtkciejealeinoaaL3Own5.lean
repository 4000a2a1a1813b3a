/- Layer 3: package cases' shape of an operation is the document's, kind by kind. -/
import Derived.Test.YtkciejealeinoaaL3Own4
namespace Go.Proofs.Ytkciejealeinoaa
open Go.ChangeShapes Go.WideShapes Go.ChangeAt Go.RowKit
set_option maxRecDepth 100000

set_option maxRecDepth 100000 in
set_option maxHeartbeats 2000000 in
theorem fits_1z (md ch vl : Int) (cs : List CaseM) (ds : List Int) (vc vd : Value) (w : World) (hc : SlC w vc cs) (hd : SlI w .i64 vd ds) :
    Calls Try.prog 65 #[.agg #[.int .i64 1, .int .i64 md, .int .i64 ch, .int .u64 vl, .int .i64 0, vc, vd]] w fun e w' => e = .returned (.bool (shapeB ⟨1, md, ch, vl, 0, cs, ds⟩)) ∧ Below w.heap.size w w' := by
  obtain ⟨hl, -, a, cap, rfl, -, -⟩ := hc
  have hl2 := hd.1
  obtain ⟨ad, cd, rfl, -⟩ := hd.len
  clear hd
  by_cases n1 : cs.length = 0
  · obtain rfl := List.length_eq_zero_iff.1 n1
    clear n1
    by_cases n2 : ds.length = 0
    · obtain rfl := List.length_eq_zero_iff.1 n2
      clear n2
      have HB := Lib.hid (below_new (Below.refl w.heap.size w) (.cells #[.int .i64 1, .int .i64 md, .int .i64 ch, .int .u64 vl, .int .i64 0, .slice a ([] : List CaseM).length cap, .slice ad ([] : List Int).length cd] 26))
      go_enter Try.func65, Try.ntmps65
      go_wp2
      all_goals
        go_ret
        refine ⟨ret_bool ?_, HB.out⟩
        simp [shapeB]
    · have n3 : (0 : Int) < ds.length := by omega
      have N : Hid (ds ≠ []) := fun h => n2 (by rw [h]; rfl)
      clear n2
      have HB := Lib.hid (below_new (Below.refl w.heap.size w) (.cells #[.int .i64 1, .int .i64 md, .int .i64 ch, .int .u64 vl, .int .i64 0, .slice a ([] : List CaseM).length cap, .slice ad ds.length cd] 26))
      go_enter Try.func65, Try.ntmps65
      go_wp2
      all_goals
        go_ret
        refine ⟨ret_bool ?_, HB.out⟩
        simp [shapeB, N.out]
  · have n3 : (0 : Int) < cs.length := by omega
    have N : Hid (cs ≠ []) := fun h => n1 (by rw [h]; rfl)
    clear n1
    have HB := Lib.hid (below_new (Below.refl w.heap.size w) (.cells #[.int .i64 1, .int .i64 md, .int .i64 ch, .int .u64 vl, .int .i64 0, .slice a cs.length cap, .slice ad ds.length cd] 26))
    go_enter Try.func65, Try.ntmps65
    go_wp2
    all_goals
      go_ret
      refine ⟨ret_bool ?_, HB.out⟩
      simp [shapeB, N.out]
set_option maxRecDepth 100000 in
set_option maxHeartbeats 2000000 in
theorem fits_1m (ch vl dl : Int) (b1 : (dl != 0) = true) (cs : List CaseM) (ds : List Int) (vc vd : Value) (w : World) (hc : SlC w vc cs) (hd : SlI w .i64 vd ds) :
    Calls Try.prog 65 #[.agg #[.int .i64 1, .int .i64 2, .int .i64 ch, .int .u64 vl, .int .i64 dl, vc, vd]] w fun e w' => e = .returned (.bool (shapeB ⟨1, 2, ch, vl, dl, cs, ds⟩)) ∧ Below w.heap.size w w' := by
  obtain ⟨hl, -, a, cap, rfl, -, -⟩ := hc
  have hl2 := hd.1
  obtain ⟨ad, cd, rfl, -⟩ := hd.len
  clear hd
  by_cases n1 : cs.length = 0
  · obtain rfl := List.length_eq_zero_iff.1 n1
    clear n1
    by_cases n2 : ds.length = 0
    · obtain rfl := List.length_eq_zero_iff.1 n2
      clear n2
      have HB := Lib.hid (below_new (Below.refl w.heap.size w) (.cells #[.int .i64 1, .int .i64 2, .int .i64 ch, .int .u64 vl, .int .i64 dl, .slice a ([] : List CaseM).length cap, .slice ad ([] : List Int).length cd] 26))
      go_enter Try.func65, Try.ntmps65
      go_wp2
      all_goals
        go_ret
        refine ⟨ret_bool ?_, HB.out⟩
        simp [shapeB]
    · have n3 : (0 : Int) < ds.length := by omega
      have N : Hid (ds ≠ []) := fun h => n2 (by rw [h]; rfl)
      clear n2
      have HB := Lib.hid (below_new (Below.refl w.heap.size w) (.cells #[.int .i64 1, .int .i64 2, .int .i64 ch, .int .u64 vl, .int .i64 dl, .slice a ([] : List CaseM).length cap, .slice ad ds.length cd] 26))
      go_enter Try.func65, Try.ntmps65
      go_wp2
      all_goals
        go_ret
        refine ⟨ret_bool ?_, HB.out⟩
        simp [shapeB, N.out]
  · have n3 : (0 : Int) < cs.length := by omega
    have N : Hid (cs ≠ []) := fun h => n1 (by rw [h]; rfl)
    clear n1
    have HB := Lib.hid (below_new (Below.refl w.heap.size w) (.cells #[.int .i64 1, .int .i64 2, .int .i64 ch, .int .u64 vl, .int .i64 dl, .slice a cs.length cap, .slice ad ds.length cd] 26))
    go_enter Try.func65, Try.ntmps65
    go_wp2
    all_goals
      go_ret
      refine ⟨ret_bool ?_, HB.out⟩
      simp [shapeB, N.out]
set_option maxRecDepth 100000 in
set_option maxHeartbeats 2000000 in
theorem fits_2z (md ch vl : Int) (cs : List CaseM) (ds : List Int) (vc vd : Value) (w : World) (hc : SlC w vc cs) (hd : SlI w .i64 vd ds) :
    Calls Try.prog 65 #[.agg #[.int .i64 2, .int .i64 md, .int .i64 ch, .int .u64 vl, .int .i64 0, vc, vd]] w fun e w' => e = .returned (.bool (shapeB ⟨2, md, ch, vl, 0, cs, ds⟩)) ∧ Below w.heap.size w w' := by
  obtain ⟨hl, -, a, cap, rfl, -, -⟩ := hc
  have hl2 := hd.1
  obtain ⟨ad, cd, rfl, -⟩ := hd.len
  clear hd
  by_cases n1 : cs.length = 0
  · obtain rfl := List.length_eq_zero_iff.1 n1
    clear n1
    by_cases n2 : ds.length = 0
    · obtain rfl := List.length_eq_zero_iff.1 n2
      clear n2
      have HB := Lib.hid (below_new (Below.refl w.heap.size w) (.cells #[.int .i64 2, .int .i64 md, .int .i64 ch, .int .u64 vl, .int .i64 0, .slice a ([] : List CaseM).length cap, .slice ad ([] : List Int).length cd] 26))
      go_enter Try.func65, Try.ntmps65
      go_wp2
      all_goals
        go_ret
        refine ⟨ret_bool ?_, HB.out⟩
        simp [shapeB]
    · have n3 : (0 : Int) < ds.length := by omega
      have N : Hid (ds ≠ []) := fun h => n2 (by rw [h]; rfl)
      clear n2
      have HB := Lib.hid (below_new (Below.refl w.heap.size w) (.cells #[.int .i64 2, .int .i64 md, .int .i64 ch, .int .u64 vl, .int .i64 0, .slice a ([] : List CaseM).length cap, .slice ad ds.length cd] 26))
      go_enter Try.func65, Try.ntmps65
      go_wp2
      all_goals
        go_ret
        refine ⟨ret_bool ?_, HB.out⟩
        simp [shapeB, N.out]
  · have n3 : (0 : Int) < cs.length := by omega
    have N : Hid (cs ≠ []) := fun h => n1 (by rw [h]; rfl)
    clear n1
    have HB := Lib.hid (below_new (Below.refl w.heap.size w) (.cells #[.int .i64 2, .int .i64 md, .int .i64 ch, .int .u64 vl, .int .i64 0, .slice a cs.length cap, .slice ad ds.length cd] 26))
    go_enter Try.func65, Try.ntmps65
    go_wp2
    all_goals
      go_ret
      refine ⟨ret_bool ?_, HB.out⟩
      simp [shapeB, N.out]
set_option maxRecDepth 100000 in
set_option maxHeartbeats 2000000 in
theorem fits_2m (ch vl dl : Int) (b1 : (dl != 0) = true) (cs : List CaseM) (ds : List Int) (vc vd : Value) (w : World) (hc : SlC w vc cs) (hd : SlI w .i64 vd ds) :
    Calls Try.prog 65 #[.agg #[.int .i64 2, .int .i64 2, .int .i64 ch, .int .u64 vl, .int .i64 dl, vc, vd]] w fun e w' => e = .returned (.bool (shapeB ⟨2, 2, ch, vl, dl, cs, ds⟩)) ∧ Below w.heap.size w w' := by
  obtain ⟨hl, -, a, cap, rfl, -, -⟩ := hc
  have hl2 := hd.1
  obtain ⟨ad, cd, rfl, -⟩ := hd.len
  clear hd
  by_cases n1 : cs.length = 0
  · obtain rfl := List.length_eq_zero_iff.1 n1
    clear n1
    by_cases n2 : ds.length = 0
    · obtain rfl := List.length_eq_zero_iff.1 n2
      clear n2
      have HB := Lib.hid (below_new (Below.refl w.heap.size w) (.cells #[.int .i64 2, .int .i64 2, .int .i64 ch, .int .u64 vl, .int .i64 dl, .slice a ([] : List CaseM).length cap, .slice ad ([] : List Int).length cd] 26))
      go_enter Try.func65, Try.ntmps65
      go_wp2
      all_goals
        go_ret
        refine ⟨ret_bool ?_, HB.out⟩
        simp [shapeB]
    · have n3 : (0 : Int) < ds.length := by omega
      have N : Hid (ds ≠ []) := fun h => n2 (by rw [h]; rfl)
      clear n2
      have HB := Lib.hid (below_new (Below.refl w.heap.size w) (.cells #[.int .i64 2, .int .i64 2, .int .i64 ch, .int .u64 vl, .int .i64 dl, .slice a ([] : List CaseM).length cap, .slice ad ds.length cd] 26))
      go_enter Try.func65, Try.ntmps65
      go_wp2
      all_goals
        go_ret
        refine ⟨ret_bool ?_, HB.out⟩
        simp [shapeB, N.out]
  · have n3 : (0 : Int) < cs.length := by omega
    have N : Hid (cs ≠ []) := fun h => n1 (by rw [h]; rfl)
    clear n1
    have HB := Lib.hid (below_new (Below.refl w.heap.size w) (.cells #[.int .i64 2, .int .i64 2, .int .i64 ch, .int .u64 vl, .int .i64 dl, .slice a cs.length cap, .slice ad ds.length cd] 26))
    go_enter Try.func65, Try.ntmps65
    go_wp2
    all_goals
      go_ret
      refine ⟨ret_bool ?_, HB.out⟩
      simp [shapeB, N.out]
set_option maxRecDepth 100000 in
set_option maxHeartbeats 2000000 in
theorem fits_3z (md ch vl : Int) (cs : List CaseM) (ds : List Int) (vc vd : Value) (w : World) (hc : SlC w vc cs) (hd : SlI w .i64 vd ds) :
    Calls Try.prog 65 #[.agg #[.int .i64 3, .int .i64 md, .int .i64 ch, .int .u64 vl, .int .i64 0, vc, vd]] w fun e w' => e = .returned (.bool (shapeB ⟨3, md, ch, vl, 0, cs, ds⟩)) ∧ Below w.heap.size w w' := by
  obtain ⟨hl, -, a, cap, rfl, -, -⟩ := hc
  have hl2 := hd.1
  obtain ⟨ad, cd, rfl, -⟩ := hd.len
  clear hd
  obtain ⟨q, hq⟩ : ∃ q, (md == 0) = q := ⟨_, rfl⟩
  have HQ := Lib.hid hq
  have hq2 : (md != 0) = !q := by rw [← hq]; rfl
  have HQ2 := Lib.hid hq2
  clear hq2
  by_cases n1 : cs.length = 0
  · obtain rfl := List.length_eq_zero_iff.1 n1
    clear n1
    by_cases n2 : ds.length = 0
    · obtain rfl := List.length_eq_zero_iff.1 n2
      clear n2
      have HB := Lib.hid (below_new (Below.refl w.heap.size w) (.cells #[.int .i64 3, .int .i64 md, .int .i64 ch, .int .u64 vl, .int .i64 0, .slice a ([] : List CaseM).length cap, .slice ad ([] : List Int).length cd] 26))
      cases q
      all_goals
        go_enter Try.func65, Try.ntmps65
        go_wp2
        all_goals
          go_ret
          refine ⟨ret_bool ?_, HB.out⟩
          simp [shapeB, HQ.out, HQ2.out]
    · have n3 : (0 : Int) < ds.length := by omega
      have N : Hid (ds ≠ []) := fun h => n2 (by rw [h]; rfl)
      clear n2
      have HB := Lib.hid (below_new (Below.refl w.heap.size w) (.cells #[.int .i64 3, .int .i64 md, .int .i64 ch, .int .u64 vl, .int .i64 0, .slice a ([] : List CaseM).length cap, .slice ad ds.length cd] 26))
      cases q
      all_goals
        go_enter Try.func65, Try.ntmps65
        go_wp2
        all_goals
          go_ret
          refine ⟨ret_bool ?_, HB.out⟩
          simp [shapeB, HQ.out, HQ2.out, N.out]
  · have n3 : (0 : Int) < cs.length := by omega
    have N : Hid (cs ≠ []) := fun h => n1 (by rw [h]; rfl)
    clear n1
    have HB := Lib.hid (below_new (Below.refl w.heap.size w) (.cells #[.int .i64 3, .int .i64 md, .int .i64 ch, .int .u64 vl, .int .i64 0, .slice a cs.length cap, .slice ad ds.length cd] 26))
    cases q
    all_goals
      go_enter Try.func65, Try.ntmps65
      go_wp2
      all_goals
        go_ret
        refine ⟨ret_bool ?_, HB.out⟩
        simp [shapeB, HQ.out, HQ2.out, N.out]
set_option maxRecDepth 100000 in
set_option maxHeartbeats 2000000 in
theorem fits_3m (ch vl dl : Int) (b1 : (dl != 0) = true) (cs : List CaseM) (ds : List Int) (vc vd : Value) (w : World) (hc : SlC w vc cs) (hd : SlI w .i64 vd ds) :
    Calls Try.prog 65 #[.agg #[.int .i64 3, .int .i64 2, .int .i64 ch, .int .u64 vl, .int .i64 dl, vc, vd]] w fun e w' => e = .returned (.bool (shapeB ⟨3, 2, ch, vl, dl, cs, ds⟩)) ∧ Below w.heap.size w w' := by
  obtain ⟨hl, -, a, cap, rfl, -, -⟩ := hc
  have hl2 := hd.1
  obtain ⟨ad, cd, rfl, -⟩ := hd.len
  clear hd
  by_cases n1 : cs.length = 0
  · obtain rfl := List.length_eq_zero_iff.1 n1
    clear n1
    by_cases n2 : ds.length = 0
    · obtain rfl := List.length_eq_zero_iff.1 n2
      clear n2
      have HB := Lib.hid (below_new (Below.refl w.heap.size w) (.cells #[.int .i64 3, .int .i64 2, .int .i64 ch, .int .u64 vl, .int .i64 dl, .slice a ([] : List CaseM).length cap, .slice ad ([] : List Int).length cd] 26))
      go_enter Try.func65, Try.ntmps65
      go_wp2
      all_goals
        go_ret
        refine ⟨ret_bool ?_, HB.out⟩
        simp [shapeB]
    · have n3 : (0 : Int) < ds.length := by omega
      have N : Hid (ds ≠ []) := fun h => n2 (by rw [h]; rfl)
      clear n2
      have HB := Lib.hid (below_new (Below.refl w.heap.size w) (.cells #[.int .i64 3, .int .i64 2, .int .i64 ch, .int .u64 vl, .int .i64 dl, .slice a ([] : List CaseM).length cap, .slice ad ds.length cd] 26))
      go_enter Try.func65, Try.ntmps65
      go_wp2
      all_goals
        go_ret
        refine ⟨ret_bool ?_, HB.out⟩
        simp [shapeB, N.out]
  · have n3 : (0 : Int) < cs.length := by omega
    have N : Hid (cs ≠ []) := fun h => n1 (by rw [h]; rfl)
    clear n1
    have HB := Lib.hid (below_new (Below.refl w.heap.size w) (.cells #[.int .i64 3, .int .i64 2, .int .i64 ch, .int .u64 vl, .int .i64 dl, .slice a cs.length cap, .slice ad ds.length cd] 26))
    go_enter Try.func65, Try.ntmps65
    go_wp2
    all_goals
      go_ret
      refine ⟨ret_bool ?_, HB.out⟩
      simp [shapeB, N.out]
set_option maxRecDepth 100000 in
set_option maxHeartbeats 2000000 in
theorem fits_4z (md ch vl : Int) (cs : List CaseM) (ds : List Int) (vc vd : Value) (w : World) (hc : SlC w vc cs) (hd : SlI w .i64 vd ds) :
    Calls Try.prog 65 #[.agg #[.int .i64 4, .int .i64 md, .int .i64 ch, .int .u64 vl, .int .i64 0, vc, vd]] w fun e w' => e = .returned (.bool (shapeB ⟨4, md, ch, vl, 0, cs, ds⟩)) ∧ Below w.heap.size w w' := by
  have HV : OpV w (.agg #[.int .i64 4, .int .i64 md, .int .i64 ch, .int .u64 vl, .int .i64 0, vc, vd]) ⟨4, md, ch, vl, 0, cs, ds⟩ := ⟨vc, vd, rfl, hc, hd⟩
  rw [shapeB_sel ⟨4, md, ch, vl, 0, cs, ds⟩ rfl (by simp)]
  have FA := Lib.hid fun u w' h => fitsSelect_any u ⟨4, md, ch, vl, 0, cs, ds⟩ w' h
  generalize selB _ = fb at *
  obtain ⟨hl, -, a, cap, rfl, -, -⟩ := hc
  have hl2 := hd.1
  obtain ⟨ad, cd, rfl, -⟩ := hd.len
  clear hd
  have HB := Lib.hid (below_new (Below.refl w.heap.size w) (.cells #[.int .i64 4, .int .i64 md, .int .i64 ch, .int .u64 vl, .int .i64 0, .slice a cs.length cap, .slice ad ds.length cd] 26))
  have HV1 := Lib.hid (HV.below HB.out)
  clear HV
  go_enter Try.func65, Try.ntmps65
  go_wp2_with (go_at_call 77; refine (FA.out _ _ HV1.out).mono ?_; rintro e w1 ⟨rfl, hb⟩)
  all_goals
    go_ret
    exact ⟨rfl, below_then HB.out hb⟩
set_option maxRecDepth 100000 in
set_option maxHeartbeats 2000000 in
theorem fits_4m (ch vl dl : Int) (b1 : (dl != 0) = true) (cs : List CaseM) (ds : List Int) (vc vd : Value) (w : World) (hc : SlC w vc cs) (hd : SlI w .i64 vd ds) :
    Calls Try.prog 65 #[.agg #[.int .i64 4, .int .i64 2, .int .i64 ch, .int .u64 vl, .int .i64 dl, vc, vd]] w fun e w' => e = .returned (.bool (shapeB ⟨4, 2, ch, vl, dl, cs, ds⟩)) ∧ Below w.heap.size w w' := by
  have HV : OpV w (.agg #[.int .i64 4, .int .i64 2, .int .i64 ch, .int .u64 vl, .int .i64 dl, vc, vd]) ⟨4, 2, ch, vl, dl, cs, ds⟩ := ⟨vc, vd, rfl, hc, hd⟩
  rw [shapeB_sel ⟨4, 2, ch, vl, dl, cs, ds⟩ rfl (by simp)]
  have FA := Lib.hid fun u w' h => fitsSelect_any u ⟨4, 2, ch, vl, dl, cs, ds⟩ w' h
  generalize selB _ = fb at *
  obtain ⟨hl, -, a, cap, rfl, -, -⟩ := hc
  have hl2 := hd.1
  obtain ⟨ad, cd, rfl, -⟩ := hd.len
  clear hd
  have HB := Lib.hid (below_new (Below.refl w.heap.size w) (.cells #[.int .i64 4, .int .i64 2, .int .i64 ch, .int .u64 vl, .int .i64 dl, .slice a cs.length cap, .slice ad ds.length cd] 26))
  have HV1 := Lib.hid (HV.below HB.out)
  clear HV
  go_enter Try.func65, Try.ntmps65
  go_wp2_with (go_at_call 77; refine (FA.out _ _ HV1.out).mono ?_; rintro e w1 ⟨rfl, hb⟩)
  all_goals
    go_ret
    exact ⟨rfl, below_then HB.out hb⟩
set_option maxRecDepth 100000 in
set_option maxHeartbeats 2000000 in
theorem fits_5z (md ch vl : Int) (cs : List CaseM) (ds : List Int) (vc vd : Value) (w : World) (hc : SlC w vc cs) (hd : SlI w .i64 vd ds) :
    Calls Try.prog 65 #[.agg #[.int .i64 5, .int .i64 md, .int .i64 ch, .int .u64 vl, .int .i64 0, vc, vd]] w fun e w' => e = .returned (.bool (shapeB ⟨5, md, ch, vl, 0, cs, ds⟩)) ∧ Below w.heap.size w w' := by
  obtain ⟨hl, -, a, cap, rfl, -, -⟩ := hc
  have hl2 := hd.1
  obtain ⟨ad, cd, rfl, -⟩ := hd.len
  clear hd
  obtain ⟨q, hq⟩ : ∃ q, (md == 0) = q := ⟨_, rfl⟩
  have HQ := Lib.hid hq
  have hq2 : (md != 0) = !q := by rw [← hq]; rfl
  have HQ2 := Lib.hid hq2
  clear hq2
  by_cases n1 : cs.length = 0
  · obtain rfl := List.length_eq_zero_iff.1 n1
    clear n1
    by_cases n2 : ds.length = 0
    · obtain rfl := List.length_eq_zero_iff.1 n2
      clear n2
      have HB := Lib.hid (below_new (Below.refl w.heap.size w) (.cells #[.int .i64 5, .int .i64 md, .int .i64 ch, .int .u64 vl, .int .i64 0, .slice a ([] : List CaseM).length cap, .slice ad ([] : List Int).length cd] 26))
      cases q
      all_goals
        go_enter Try.func65, Try.ntmps65
        go_wp2
        all_goals
          go_ret
          refine ⟨ret_bool ?_, HB.out⟩
          simp [shapeB, HQ.out, HQ2.out]
    · have n3 : (0 : Int) < ds.length := by omega
      have N : Hid (ds ≠ []) := fun h => n2 (by rw [h]; rfl)
      clear n2
      have HB := Lib.hid (below_new (Below.refl w.heap.size w) (.cells #[.int .i64 5, .int .i64 md, .int .i64 ch, .int .u64 vl, .int .i64 0, .slice a ([] : List CaseM).length cap, .slice ad ds.length cd] 26))
      cases q
      all_goals
        go_enter Try.func65, Try.ntmps65
        go_wp2
        all_goals
          go_ret
          refine ⟨ret_bool ?_, HB.out⟩
          simp [shapeB, HQ.out, HQ2.out, N.out]
  · have n3 : (0 : Int) < cs.length := by omega
    have N : Hid (cs ≠ []) := fun h => n1 (by rw [h]; rfl)
    clear n1
    have HB := Lib.hid (below_new (Below.refl w.heap.size w) (.cells #[.int .i64 5, .int .i64 md, .int .i64 ch, .int .u64 vl, .int .i64 0, .slice a cs.length cap, .slice ad ds.length cd] 26))
    cases q
    all_goals
      go_enter Try.func65, Try.ntmps65
      go_wp2
      all_goals
        go_ret
        refine ⟨ret_bool ?_, HB.out⟩
        simp [shapeB, HQ.out, HQ2.out, N.out]
set_option maxRecDepth 100000 in
set_option maxHeartbeats 2000000 in
theorem fits_5m (ch vl dl : Int) (b1 : (dl != 0) = true) (cs : List CaseM) (ds : List Int) (vc vd : Value) (w : World) (hc : SlC w vc cs) (hd : SlI w .i64 vd ds) :
    Calls Try.prog 65 #[.agg #[.int .i64 5, .int .i64 2, .int .i64 ch, .int .u64 vl, .int .i64 dl, vc, vd]] w fun e w' => e = .returned (.bool (shapeB ⟨5, 2, ch, vl, dl, cs, ds⟩)) ∧ Below w.heap.size w w' := by
  obtain ⟨hl, -, a, cap, rfl, -, -⟩ := hc
  have hl2 := hd.1
  obtain ⟨ad, cd, rfl, -⟩ := hd.len
  clear hd
  by_cases n1 : cs.length = 0
  · obtain rfl := List.length_eq_zero_iff.1 n1
    clear n1
    by_cases n2 : ds.length = 0
    · obtain rfl := List.length_eq_zero_iff.1 n2
      clear n2
      have HB := Lib.hid (below_new (Below.refl w.heap.size w) (.cells #[.int .i64 5, .int .i64 2, .int .i64 ch, .int .u64 vl, .int .i64 dl, .slice a ([] : List CaseM).length cap, .slice ad ([] : List Int).length cd] 26))
      go_enter Try.func65, Try.ntmps65
      go_wp2
      all_goals
        go_ret
        refine ⟨ret_bool ?_, HB.out⟩
        simp [shapeB]
    · have n3 : (0 : Int) < ds.length := by omega
      have N : Hid (ds ≠ []) := fun h => n2 (by rw [h]; rfl)
      clear n2
      have HB := Lib.hid (below_new (Below.refl w.heap.size w) (.cells #[.int .i64 5, .int .i64 2, .int .i64 ch, .int .u64 vl, .int .i64 dl, .slice a ([] : List CaseM).length cap, .slice ad ds.length cd] 26))
      go_enter Try.func65, Try.ntmps65
      go_wp2
      all_goals
        go_ret
        refine ⟨ret_bool ?_, HB.out⟩
        simp [shapeB, N.out]
  · have n3 : (0 : Int) < cs.length := by omega
    have N : Hid (cs ≠ []) := fun h => n1 (by rw [h]; rfl)
    clear n1
    have HB := Lib.hid (below_new (Below.refl w.heap.size w) (.cells #[.int .i64 5, .int .i64 2, .int .i64 ch, .int .u64 vl, .int .i64 dl, .slice a cs.length cap, .slice ad ds.length cd] 26))
    go_enter Try.func65, Try.ntmps65
    go_wp2
    all_goals
      go_ret
      refine ⟨ret_bool ?_, HB.out⟩
      simp [shapeB, N.out]
set_option maxRecDepth 100000 in
set_option maxHeartbeats 2000000 in
theorem fits_6z (md ch vl : Int) (cs : List CaseM) (ds : List Int) (vc vd : Value) (w : World) (hc : SlC w vc cs) (hd : SlI w .i64 vd ds) :
    Calls Try.prog 65 #[.agg #[.int .i64 6, .int .i64 md, .int .i64 ch, .int .u64 vl, .int .i64 0, vc, vd]] w fun e w' => e = .returned (.bool (shapeB ⟨6, md, ch, vl, 0, cs, ds⟩)) ∧ Below w.heap.size w w' := by
  obtain ⟨hl, -, a, cap, rfl, -, -⟩ := hc
  have hl2 := hd.1
  obtain ⟨ad, cd, rfl, -⟩ := hd.len
  clear hd
  obtain ⟨q, hq⟩ : ∃ q, (md == 0) = q := ⟨_, rfl⟩
  have HQ := Lib.hid hq
  have hq2 : (md != 0) = !q := by rw [← hq]; rfl
  have HQ2 := Lib.hid hq2
  clear hq2
  by_cases n1 : cs.length = 0
  · obtain rfl := List.length_eq_zero_iff.1 n1
    clear n1
    by_cases n2 : ds.length = 0
    · obtain rfl := List.length_eq_zero_iff.1 n2
      clear n2
      have HB := Lib.hid (below_new (Below.refl w.heap.size w) (.cells #[.int .i64 6, .int .i64 md, .int .i64 ch, .int .u64 vl, .int .i64 0, .slice a ([] : List CaseM).length cap, .slice ad ([] : List Int).length cd] 26))
      cases q
      all_goals
        go_enter Try.func65, Try.ntmps65
        go_wp2
        all_goals
          go_ret
          refine ⟨ret_bool ?_, HB.out⟩
          simp [shapeB, HQ.out, HQ2.out]
    · have n3 : (0 : Int) < ds.length := by omega
      have N : Hid (ds ≠ []) := fun h => n2 (by rw [h]; rfl)
      clear n2
      have HB := Lib.hid (below_new (Below.refl w.heap.size w) (.cells #[.int .i64 6, .int .i64 md, .int .i64 ch, .int .u64 vl, .int .i64 0, .slice a ([] : List CaseM).length cap, .slice ad ds.length cd] 26))
      cases q
      all_goals
        go_enter Try.func65, Try.ntmps65
        go_wp2
        all_goals
          go_ret
          refine ⟨ret_bool ?_, HB.out⟩
          simp [shapeB, HQ.out, HQ2.out, N.out]
  · have n3 : (0 : Int) < cs.length := by omega
    have N : Hid (cs ≠ []) := fun h => n1 (by rw [h]; rfl)
    clear n1
    have HB := Lib.hid (below_new (Below.refl w.heap.size w) (.cells #[.int .i64 6, .int .i64 md, .int .i64 ch, .int .u64 vl, .int .i64 0, .slice a cs.length cap, .slice ad ds.length cd] 26))
    cases q
    all_goals
      go_enter Try.func65, Try.ntmps65
      go_wp2
      all_goals
        go_ret
        refine ⟨ret_bool ?_, HB.out⟩
        simp [shapeB, HQ.out, HQ2.out, N.out]
set_option maxRecDepth 100000 in
set_option maxHeartbeats 2000000 in
theorem fits_6m (ch vl dl : Int) (b1 : (dl != 0) = true) (cs : List CaseM) (ds : List Int) (vc vd : Value) (w : World) (hc : SlC w vc cs) (hd : SlI w .i64 vd ds) :
    Calls Try.prog 65 #[.agg #[.int .i64 6, .int .i64 2, .int .i64 ch, .int .u64 vl, .int .i64 dl, vc, vd]] w fun e w' => e = .returned (.bool (shapeB ⟨6, 2, ch, vl, dl, cs, ds⟩)) ∧ Below w.heap.size w w' := by
  obtain ⟨hl, -, a, cap, rfl, -, -⟩ := hc
  have hl2 := hd.1
  obtain ⟨ad, cd, rfl, -⟩ := hd.len
  clear hd
  by_cases n1 : cs.length = 0
  · obtain rfl := List.length_eq_zero_iff.1 n1
    clear n1
    by_cases n2 : ds.length = 0
    · obtain rfl := List.length_eq_zero_iff.1 n2
      clear n2
      have HB := Lib.hid (below_new (Below.refl w.heap.size w) (.cells #[.int .i64 6, .int .i64 2, .int .i64 ch, .int .u64 vl, .int .i64 dl, .slice a ([] : List CaseM).length cap, .slice ad ([] : List Int).length cd] 26))
      go_enter Try.func65, Try.ntmps65
      go_wp2
      all_goals
        go_ret
        refine ⟨ret_bool ?_, HB.out⟩
        simp [shapeB]
    · have n3 : (0 : Int) < ds.length := by omega
      have N : Hid (ds ≠ []) := fun h => n2 (by rw [h]; rfl)
      clear n2
      have HB := Lib.hid (below_new (Below.refl w.heap.size w) (.cells #[.int .i64 6, .int .i64 2, .int .i64 ch, .int .u64 vl, .int .i64 dl, .slice a ([] : List CaseM).length cap, .slice ad ds.length cd] 26))
      go_enter Try.func65, Try.ntmps65
      go_wp2
      all_goals
        go_ret
        refine ⟨ret_bool ?_, HB.out⟩
        simp [shapeB, N.out]
  · have n3 : (0 : Int) < cs.length := by omega
    have N : Hid (cs ≠ []) := fun h => n1 (by rw [h]; rfl)
    clear n1
    have HB := Lib.hid (below_new (Below.refl w.heap.size w) (.cells #[.int .i64 6, .int .i64 2, .int .i64 ch, .int .u64 vl, .int .i64 dl, .slice a cs.length cap, .slice ad ds.length cd] 26))
    go_enter Try.func65, Try.ntmps65
    go_wp2
    all_goals
      go_ret
      refine ⟨ret_bool ?_, HB.out⟩
      simp [shapeB, N.out]
set_option maxRecDepth 100000 in
theorem fits_bad (kd md ch vl dl : Int) (cs : List CaseM) (ds : List Int) (vc vd : Value) (w : World) (hc : SlC w vc cs) (hd : SlI w .i64 vd ds) (h1 : ¬ dl = 0) (h2 : ¬ md = 2) :
    Calls Try.prog 65 #[.agg #[.int .i64 kd, .int .i64 md, .int .i64 ch, .int .u64 vl, .int .i64 dl, vc, vd]] w fun e w' => e = .returned (.bool (shapeB ⟨kd, md, ch, vl, dl, cs, ds⟩)) ∧ Below w.heap.size w w' := by
  obtain ⟨hl, -, a, cap, rfl, -, -⟩ := hc
  have hl2 := hd.1
  obtain ⟨ad, cd, rfl, -⟩ := hd.len
  clear hd
  have HB := Lib.hid (below_new (Below.refl w.heap.size w) (.cells #[.int .i64 kd, .int .i64 md, .int .i64 ch, .int .u64 vl, .int .i64 dl, .slice a cs.length cap, .slice ad ds.length cd] 26))
  have HS : Hid (shapeB ⟨kd, md, ch, vl, dl, cs, ds⟩ = false) := by
    show _ = _
    simp [shapeB, h1, h2]
  have b1 : (dl != 0) = true := by simpa using h1
  have b2 : (md != 2) = true := by simpa using h2
  clear h1 h2
  go_enter Try.func65, Try.ntmps65
  go_wp2
  go_ret
  exact ⟨ret_bool (by rw [HS.out]), HB.out⟩
theorem fits_any (v : Value) (op : OpM) (w : World) (h : OpV w v op) (hk1 : 1 ≤ op.kind) (hk2 : op.kind ≤ 6) :
    Calls Try.prog 65 #[v] w fun e w' => e = .returned (.bool (shapeB op)) ∧ Below w.heap.size w w' := by
  obtain ⟨kd, md, ch, vl, dl, cs, ds⟩ := op
  obtain ⟨vc, vd, rfl, hc, hd⟩ := h
  dsimp only at *
  by_cases h0 : dl = 0
  · subst h0
    obtain rfl | rfl | rfl | rfl | rfl | rfl : kd = 1 ∨ kd = 2 ∨ kd = 3 ∨ kd = 4 ∨ kd = 5 ∨ kd = 6 := by omega
    · exact fits_1z _ _ _ _ _ _ _ _ hc hd
    · exact fits_2z _ _ _ _ _ _ _ _ hc hd
    · exact fits_3z _ _ _ _ _ _ _ _ hc hd
    · exact fits_4z _ _ _ _ _ _ _ _ hc hd
    · exact fits_5z _ _ _ _ _ _ _ _ hc hd
    · exact fits_6z _ _ _ _ _ _ _ _ hc hd
  · by_cases h2 : md = 2
    · subst h2
      obtain rfl | rfl | rfl | rfl | rfl | rfl : kd = 1 ∨ kd = 2 ∨ kd = 3 ∨ kd = 4 ∨ kd = 5 ∨ kd = 6 := by omega
      · exact fits_1m _ _ _ (by simpa using h0) _ _ _ _ _ hc hd
      · exact fits_2m _ _ _ (by simpa using h0) _ _ _ _ _ hc hd
      · exact fits_3m _ _ _ (by simpa using h0) _ _ _ _ _ hc hd
      · exact fits_4m _ _ _ (by simpa using h0) _ _ _ _ _ hc hd
      · exact fits_5m _ _ _ (by simpa using h0) _ _ _ _ _ hc hd
      · exact fits_6m _ _ _ (by simpa using h0) _ _ _ _ _ hc hd
    · exact fits_bad _ _ _ _ _ _ _ _ _ _ hc hd h0 h2
end Go.Proofs.Ytkciejealeinoaa
