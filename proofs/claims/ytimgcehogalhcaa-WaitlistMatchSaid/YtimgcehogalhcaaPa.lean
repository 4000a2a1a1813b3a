/- Layer 13: the program's functions (but Pairs). -/
import Derived.Test.YtimgcehogalhcaaRt
namespace Go.Proofs.Ytimgcehogalhcaa
open Go.ChangeShapes Go.WideShapes Go.ChangeAt Go.RowKit
set_option maxRecDepth 100000

set_option maxRecDepth 100000 in
set_option maxHeartbeats 4000000 in
theorem qthread_any (r : Int) (w : World) (hr : I64 r) : Calls Try.prog 11 #[.int .i64 r] w fun e w' => e = .returned (.int .i64 (threadE r)) ∧ w = w' := by
  unfold I64 at hr
  by_cases h : r < 0
  · have hh : threadE r = -1 := by unfold threadE; rw [if_pos h]
    rw [hh]
    clear hh
    go_enter Try.func11, Try.ntmps11
    go_wp2
    go_ret
    exact ⟨rfl, rfl⟩
  · have hh : threadE r = r / 6 := by unfold threadE; rw [if_neg h]
    have hw : IntKind.i64.wrap (r / 6) = r / 6 := by rw [IntKind.wrap_i64]; omega
    have hd : r.tdiv 6 = r / 6 := Int.tdiv_eq_ediv_of_nonneg (by omega)
    rw [hh]
    clear hh
    go_enter Try.func11, Try.ntmps11
    go_wp2
    go_ret
    exact ⟨rfl, rfl⟩
set_option maxRecDepth 100000 in
set_option maxHeartbeats 4000000 in
theorem qcase_any (r : Int) (w : World) (hr : I64 r) : Calls Try.prog 12 #[.int .i64 r] w fun e w' => e = .returned (.int .i64 (caseE r)) ∧ w = w' := by
  by_cases h : r < 0
  · have hh : caseE r = -1 := by unfold caseE; rw [if_pos h]
    rw [hh]
    clear hh
    go_enter Try.func12, Try.ntmps12
    go_wp2
    go_ret
    exact ⟨rfl, rfl⟩
  · have hh : caseE r = r % 6 := by unfold caseE; rw [if_neg h]
    rw [hh]
    clear hh
    go_enter Try.func12, Try.ntmps12
    go_wp2
    go_ret
    exact ⟨rfl, rfl⟩
set_option maxRecDepth 100000 in
set_option maxHeartbeats 4000000 in
theorem qrecord_any (t i : Int) (w : World) : Calls Try.prog 9 #[.int .i64 t, .int .i64 i] w fun e w' => e = .returned (.int .i64 (recordE t i)) ∧ w = w' := by
  by_cases h : t < 0 ∨ 8 ≤ t ∨ i < 0 ∨ 6 ≤ i
  · have hh : recordE t i = -1 := by unfold recordE; rw [if_pos h]
    rw [hh]
    clear hh
    by_cases h1 : t < 0
    · go_enter Try.func9, Try.ntmps9
      go_wp2
      go_ret
      exact ⟨rfl, rfl⟩
    by_cases h2 : 8 ≤ t
    · go_enter Try.func9, Try.ntmps9
      go_wp2
      go_ret
      exact ⟨rfl, rfl⟩
    by_cases h3 : i < 0
    · go_enter Try.func9, Try.ntmps9
      go_wp2
      go_ret
      exact ⟨rfl, rfl⟩
    have h4 : 6 ≤ i := by omega
    go_enter Try.func9, Try.ntmps9
    go_wp2
    go_ret
    exact ⟨rfl, rfl⟩
  · have hh : recordE t i = t * 6 + i := by unfold recordE; rw [if_neg h]
    have h1 : ¬ t < 0 := by omega
    have h2 : ¬ 8 ≤ t := by omega
    have h3 : ¬ i < 0 := by omega
    have h4 : ¬ 6 ≤ i := by omega
    have hw1 : IntKind.i64.wrap (t * 6) = t * 6 := by rw [IntKind.wrap_i64]; omega
    have hw2 : IntKind.i64.wrap (t * 6 + i) = t * 6 + i := by rw [IntKind.wrap_i64]; omega
    rw [hh]
    clear hh h
    go_enter Try.func9, Try.ntmps9
    go_wp2
    go_ret
    exact ⟨rfl, rfl⟩
set_option maxRecDepth 100000 in
set_option maxHeartbeats 4000000 in
theorem qlower_any (a b : Int) (w : World) (ha : I64 a) (hb : I64 b) : Calls Try.prog 24 #[.int .i64 a, .int .i64 b] w fun e w' => e = .returned (.tuple #[.int .i64 (lowerE a b).1, .int .i64 (lowerE a b).2]) ∧ w = w' := by
  have TA := Lib.hid fun w' => qthread_any a w' ha
  have TB := Lib.hid fun w' => qthread_any b w' hb
  obtain ⟨p, hp⟩ : ∃ p, lowerE a b = p := ⟨_, rfl⟩
  have HP := Lib.hid hp
  rw [hp]
  clear hp ha hb
  obtain ⟨x, hx⟩ : ∃ x, threadE a = x := ⟨_, rfl⟩
  obtain ⟨y, hy⟩ : ∃ y, threadE b = y := ⟨_, rfl⟩
  rw [hx] at TA
  rw [hy] at TB
  have HX := Lib.hid hx
  have HY := Lib.hid hy
  clear hx hy
  go_enter Try.func24, Try.ntmps24
  go_wp2_with fail
  refine (TB.out _).mono ?_; rintro e w' ⟨rfl, rfl⟩
  go_wp2_with fail
  refine (TA.out _).mono ?_; rintro e w' ⟨rfl, rfl⟩
  by_cases h : y < x
  · have hp : p = (b, a) := by rw [← HP.out]; unfold lowerE; rw [HX.out, HY.out, if_pos h]
    subst hp
    go_wp2
    go_ret2
    exact ⟨rfl, rfl⟩
  · have hp : p = (a, b) := by rw [← HP.out]; unfold lowerE; rw [HX.out, HY.out, if_neg h]
    subst hp
    go_wp2
    go_ret2
    exact ⟨rfl, rfl⟩
set_option maxRecDepth 100000 in
set_option maxHeartbeats 4000000 in
theorem qfirst_any (v : Value) (l : List Int) (t : Int) (w : World) (hv : SlI w .i64 v l) : Calls Try.prog 17 #[v, .int .i64 t] w fun e w' => e = .returned (.tuple #[.int .i64 ((firstE l t).getD 0), .bool (firstE l t).isSome]) ∧ w = w' := by
  have hl := hv.1
  have HV := Lib.hid hv
  obtain ⟨a, cap, rfl, -⟩ := hv.len
  have hi64 : ∀ k, I64 (l.getD k 0) := fun k => hv.i64 k
  have H64 := Lib.hid hi64
  clear hv hi64
  go_enter Try.func17, Try.ntmps17
  go_wp2_with fail
  go_loopw [10] (fun u6 wr => ∃ k : Nat, u6 = .int .i64 k ∧ k ≤ l.length ∧ wr = w ∧ Hid (∀ j, j < k → threadE (l.getD j 0) = t)) (fun u6 _ => l.length - (intOf u6).toNat)
  case atStart => exact ⟨0, rfl, by omega, rfl, fun j hj => by omega⟩
  case round =>
    obtain ⟨k, rfl, hk, rfl, HN⟩ := hrel
    by_cases hlt : k < l.length
    · have hltI : (k : Int) < (l.length : Int) := by omega
      obtain ⟨b, o, c, he, -, hb, hc⟩ := HV.out.open (by intro h0; rw [h0] at hlt; simp at hlt)
      simp only [Value.slice.injEq] at he
      obtain ⟨rfl, -, rfl⟩ := he
      have c0 := hc k hlt
      obtain ⟨y, hy⟩ : ∃ y, l.getD k 0 = y := ⟨_, rfl⟩
      rw [hy] at c0
      have HY := Lib.hid hy
      have TT := Lib.hid (qthread_any y wr (hy ▸ H64.out k))
      obtain ⟨z, hz⟩ : ∃ z, threadE y = z := ⟨_, rfl⟩
      rw [hz] at TT
      have HZ := Lib.hid hz
      clear hc hy hz
      go_wp2_with fail
      refine TT.out.mono ?_; rintro e w' ⟨rfl, rfl⟩
      by_cases h : z = t
      · have hq : (z != t) = false := by simpa using h
        go_wp2
        go_roundw
        case rel => exact ⟨k + 1, by go_num, by omega, by first | rfl | trivial, fun j hj => by
          by_cases e : j = k
          · rw [e, HY.out, HZ.out, h]
          · exact HN.out j (by omega)⟩
        case measure => simp [intOf]; omega
      · have hq : (z != t) = true := by simpa using h
        have hf : firstE l t = some y := by
          rw [← HY.out]
          exact firstE_at hlt (fun j hj => HN.out j hj) (by rw [HY.out, HZ.out]; exact h)
        have HF := Lib.hid hf
        clear hf
        go_wp2
        go_ret2
        exact ⟨by rw [HF.out]; rfl, rfl⟩
    · have hge : ¬ (k : Int) < (l.length : Int) := by omega
      have hf : firstE l t = none := firstE_all fun j hj => HN.out j (by omega)
      have HF := Lib.hid hf
      clear hf
      go_wp2
      go_ret2
      exact ⟨by rw [HF.out]; rfl, rfl⟩
set_option maxRecDepth 100000 in
set_option maxHeartbeats 4000000 in
theorem qwithout_any (v : Value) (l : List Int) (t : Int) (w : World) (hv : SlI w .i64 v l) (hl : l.length ≤ 100000) : Calls Try.prog 19 #[v, .int .i64 t] w fun e w' => ∃ u, e = .returned u ∧ OwnI w' w.heap.size 3 .i64 u (withoutE l t) ∧ Below w.heap.size w w' := by
  have HV := Lib.hid hv
  obtain ⟨a, cap, rfl, -⟩ := hv.len
  have H64 : Hid (∀ k, I64 (l.getD k 0)) := fun k => hv.i64 k
  clear hv
  go_enter Try.func19, Try.ntmps19
  go_wp2_with fail
  go_loopw [5, 10] (fun u5 u6 wr => ∃ (k : Nat) (u : Value), u = u5 ∧ u6 = .int .i64 k ∧ k ≤ l.length ∧ Hid (OwnI wr w.heap.size 3 .i64 u (withoutE (l.take k) t)) ∧ Hid (Below w.heap.size w wr)) (fun _ u6 _ => l.length - (intOf u6).toNat)
  case atStart => exact ⟨0, _, rfl, rfl, by omega, OwnI.nil _ _ _ _, Below.refl _ _⟩
  case round =>
    obtain ⟨k, u, rfl, rfl, hk, HO, HB⟩ := hrel
    obtain ⟨wo, rfl⟩ : ∃ wo : World, wo = wr := ⟨_, rfl⟩
    by_cases hlt : k < l.length
    · have hltI : (k : Int) < (l.length : Int) := by omega
      obtain ⟨b, o, c, he, -, hb, hc⟩ := (HV.out.below HB.out).open (by intro h0; rw [h0] at hlt; simp at hlt)
      simp only [Value.slice.injEq] at he
      obtain ⟨rfl, -, rfl⟩ := he
      have c0 := hc k hlt
      obtain ⟨y, hy⟩ : ∃ y, l.getD k 0 = y := ⟨_, rfl⟩
      rw [hy] at c0
      have HY := Lib.hid hy
      have HS := Lib.hid (withoutE_take (t := t) hlt)
      have TT := Lib.hid (qthread_any y wo (hy ▸ H64.out k))
      obtain ⟨z, hz⟩ : ∃ z, threadE y = z := ⟨_, rfl⟩
      rw [hz] at TT
      have HZ := Lib.hid hz
      have hlw : (withoutE (l.take k) t).length ≤ 100000 := Nat.le_trans (List.length_filter_le _ _) (by rw [List.length_take]; omega)
      have HLW := Lib.hid hlw
      have hzz := HB.out.size
      clear hc hy hz hlw
      go_wp2_with fail
      refine TT.out.mono ?_; rintro e w' ⟨rfl, rfl⟩
      by_cases h : z = t
      · have hq : (z != t) = false := by simpa using h
        have hs : withoutE (l.take (k + 1)) t = withoutE (l.take k) t := by rw [HS.out, HY.out, HZ.out, if_pos h, List.append_nil]
        have HS2 := Lib.hid hs
        clear hs
        go_wp2
        go_roundw
        case rel => exact ⟨k + 1, u, rfl, by go_num, by omega, by rw [HS2.out]; exact HO, HB⟩
        case measure => simp [intOf]; omega
      · have hq : (z != t) = true := by simpa using h
        have hs : withoutE (l.take (k + 1)) t = withoutE (l.take k) t ++ [y] := by rw [HS.out, HY.out, HZ.out, if_neg h]
        have HS2 := Lib.hid hs
        clear hs
        go_wp2_with (at_builtin; refine wp_append_i64 _ rfl _ _ rfl w.heap.size u (withoutE (l.take k) t) rfl (OwnI.alloc HO.out _) y _ rfl (World.cell?_alloc_at _ _ _ _ rfl) (by have := HLW.out; omega) (by simp; omega) ?_; intro v2 w2 h1 h2; have H1 := Lib.hid h1; have H2 := Lib.hid h2; clear h1 h2)
        have HB2 : Hid (Below w.heap.size w w2) := (below_new HB.out _).grown H2.out (by have := HB.out.size; simp; omega) (HO.out.own_ge)
        go_roundw
        case rel => exact ⟨k + 1, v2, rfl, by go_num, by omega, by rw [HS2.out]; exact H1, HB2⟩
        case measure => simp [intOf]; omega
    · have hge : ¬ (k : Int) < (l.length : Int) := by omega
      have hkl : l.take k = l := List.take_of_length_le (by omega)
      have HO2 : Hid (OwnI wo w.heap.size 3 .i64 u (withoutE l t)) := by rw [hkl] at HO; exact HO
      clear HO hkl
      go_wp2
      go_ret
      exact ⟨u, rfl, HO2.out, HB.out⟩
theorem pthread_any (r : Int) (w : World) (hr : I64 r) : Calls Try.prog 11 #[.int .i64 r] w fun e w' => e = .returned (.int .i64 (threadE r)) ∧ Below w.heap.size w w' := (qthread_any r w hr).mono fun _ _ h => ⟨h.1, h.2 ▸ Below.refl _ _⟩
theorem pcase_any (r : Int) (w : World) (hr : I64 r) : Calls Try.prog 12 #[.int .i64 r] w fun e w' => e = .returned (.int .i64 (caseE r)) ∧ Below w.heap.size w w' := (qcase_any r w hr).mono fun _ _ h => ⟨h.1, h.2 ▸ Below.refl _ _⟩
theorem precord_any (t i : Int) (w : World) : Calls Try.prog 9 #[.int .i64 t, .int .i64 i] w fun e w' => e = .returned (.int .i64 (recordE t i)) ∧ Below w.heap.size w w' := (qrecord_any t i w).mono fun _ _ h => ⟨h.1, h.2 ▸ Below.refl _ _⟩
theorem plower_any (a b : Int) (w : World) (ha : I64 a) (hb : I64 b) : Calls Try.prog 24 #[.int .i64 a, .int .i64 b] w fun e w' => e = .returned (.tuple #[.int .i64 (lowerE a b).1, .int .i64 (lowerE a b).2]) ∧ Below w.heap.size w w' := (qlower_any a b w ha hb).mono fun _ _ h => ⟨h.1, h.2 ▸ Below.refl _ _⟩
theorem pfirst_any (v : Value) (l : List Int) (t : Int) (w : World) (hv : SlI w .i64 v l) : Calls Try.prog 17 #[v, .int .i64 t] w fun e w' => e = .returned (.tuple #[.int .i64 ((firstE l t).getD 0), .bool (firstE l t).isSome]) ∧ Below w.heap.size w w' := (qfirst_any v l t w hv).mono fun _ _ h => ⟨h.1, h.2 ▸ Below.refl _ _⟩
theorem pwithout_any (v : Value) (l : List Int) (t : Int) (w : World) (hv : SlI w .i64 v l) (hl : l.length ≤ 100000) : Calls Try.prog 19 #[v, .int .i64 t] w fun e w' => ∃ u, e = .returned u ∧ SlI w' .i64 u (withoutE l t) ∧ Below w.heap.size w w' :=
  (qwithout_any v l t w hv hl).mono fun _ _ ⟨u, h1, h2, h3⟩ => ⟨u, h1, h2.read (by have := List.length_filter_le (fun r => threadE r != t) l; unfold withoutE; omega) (fun x hx => hv.2.1 x (List.mem_filter.1 hx).1), h3⟩
end Go.Proofs.Ytimgcehogalhcaa
