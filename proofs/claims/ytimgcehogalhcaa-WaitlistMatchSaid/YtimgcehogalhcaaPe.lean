/- Layer 13: where the runs of senders of one thread end (the program's runEnds). -/
import Derived.Test.YtimgcehogalhcaaPa
import Derived.Test.YtimgcehogalhcaaStill
import Derived.Test.YtimgcehogalhcaaMem
namespace Go.Proofs.Ytimgcehogalhcaa
open Go.ChangeShapes Go.WideShapes Go.ChangeAt Go.RowKit
set_option maxRecDepth 100000

/-- behind m, up to the number that is noted for m, all are of m's thread -/
def EndAt (l es : List Int) (m : Nat) : Prop := ∃ e : Nat, es.getD m 0 = (e : Int) ∧ m < e ∧ e ≤ l.length ∧ ∀ j, m ≤ j → j < e → threadE (l.getD j 0) = threadE (l.getD m 0)
def Ends (l es : List Int) : Prop := es.length = l.length ∧ ∀ m, m < l.length → EndAt l es m
theorem getD_set_same {l : List Int} {k : Nat} (x : Int) (h : k < l.length) : (l.set k x).getD k 0 = x := by
  rw [List.getD_eq_getElem?_getD, List.getElem?_set_self h]; rfl
theorem getD_set_other {l : List Int} {k m : Nat} (x : Int) (h : k ≠ m) : (l.set k x).getD m 0 = l.getD m 0 := by
  rw [List.getD_eq_getElem?_getD, List.getD_eq_getElem?_getD, List.getElem?_set_ne h]
theorem EndAt.one {l es : List Int} {k : Nat} (he : k < es.length) (hl : k < l.length) : EndAt l (es.set k ((k : Int) + 1)) k :=
  ⟨k + 1, by rw [getD_set_same _ he]; omega, by omega, by omega, fun j h1 h2 => by have : j = k := by omega
                                                                                   rw [this]⟩
theorem EndAt.keep {l es : List Int} {k m : Nat} (x : Int) (h : EndAt l es m) (hk : k ≠ m) : EndAt l (es.set k x) m := by
  obtain ⟨e, h1, h2⟩ := h
  exact ⟨e, by rw [getD_set_other _ hk]; exact h1, h2⟩
theorem EndAt.skip {l es : List Int} {k : Nat} (he : k < es.length) (h : EndAt l es (k + 1)) (ht : threadE (l.getD k 0) = threadE (l.getD (k + 1) 0)) : EndAt l (es.set k (es.getD (k + 1) 0)) k := by
  obtain ⟨e, h1, h2, h3, h4⟩ := h
  refine ⟨e, by rw [getD_set_same _ he]; exact h1, by omega, h3, fun j h5 h6 => ?_⟩
  by_cases hj : j = k
  · rw [hj]
  · rw [ht]; exact h4 j (by omega) h6
theorem Ends.i64 {l es : List Int} (h : Ends l es) (hl : l.length ≤ 100000) : ∀ x ∈ es, x = IntKind.i64.wrap x := fun x hx => by
  obtain ⟨m, hm, rfl⟩ := List.mem_iff_getElem.1 hx
  obtain ⟨e, h1, h2, h3, -⟩ := h.2 m (by rw [← h.1]; exact hm)
  rw [List.getD_eq_getElem?_getD, List.getElem?_eq_getElem hm] at h1
  rw [show es[m] = (e : Int) from h1, IntKind.wrap_i64]
  omega
set_option maxRecDepth 100000 in
set_option maxHeartbeats 4000000 in
theorem runEnds_any (v : Value) (l : List Int) (w : World) (hv : SlI w .i64 v l) (hl : l.length ≤ 100000) : Calls Try.prog 29 #[v] w fun e w' => ∃ u es, e = .returned u ∧ Ends l es ∧ OwnI w' w.heap.size 3 .i64 u es ∧ Below w.heap.size w w' := by
  have HV := Lib.hid hv
  obtain ⟨a, cap, rfl, -⟩ := hv.len
  have H64 : Hid (∀ k, I64 (l.getD k 0)) := fun k => hv.i64 k
  clear hv
  obtain ⟨n, hn⟩ : ∃ n, l.length = n := ⟨_, rfl⟩
  have HN := Lib.hid hn
  rw [hn] at hl ⊢
  clear hn
  go_enter Try.func29, Try.ntmps29
  go_wp2_with (at_make; refine wp_make_i64 w rfl _ _ rfl n _ _ rfl rfl rfl rfl ?_ ?_; omega; intro w1 h1 h2; have HO := Lib.hid h1; have HB := Lib.hid h2; clear h1 h2)
  go_loopw [4] (fun u4 wr => ∃ (q : Nat) (es : List Int), u4 = .int .i64 ((q : Int) - 1) ∧ q ≤ n ∧ Hid (es.length = n) ∧ Hid (∀ m, q ≤ m → m < n → EndAt l es m) ∧ Hid (OwnI wr w.heap.size 3 .i64 (.slice (some ⟨w.heap.size, 0, none⟩) n n) es) ∧ Hid (Below w.heap.size w wr)) (fun u4 _ => (intOf u4 + 1).toNat)
  case atStart => exact ⟨n, List.replicate n 0, by go_num, by omega, by simp [Hid], fun m h1 h2 => by omega, HO, HB⟩
  case round =>
    clear HO HB
    obtain ⟨q, es, h4, hq, HL, HE, HO, HB⟩ := hrel
    obtain ⟨wo, rfl⟩ : ∃ wo : World, wo = wr := ⟨_, rfl⟩
    cases q with
    | zero =>
      have e0 : (((0 : Nat) : Int) - 1) = -1 := rfl
      rw [e0] at h4
      clear e0
      subst h4
      go_wp2
      go_ret
      exact ⟨_, es, rfl, ⟨HL.out.trans HN.out.symm, fun m hm => HE.out m (by omega) (by have := HN.out; omega)⟩, HO.out, HB.out⟩
    | succ k =>
      have ek : (((k + 1 : Nat) : Int) - 1) = (k : Int) := by omega
      rw [ek] at h4
      clear ek
      subst h4
      have hkI : (k : Int) < (n : Int) := by omega
      have hkw : IntKind.i64.wrap ((k : Int) + 1) = (k : Int) + 1 := by rw [IntKind.wrap_i64]; omega
      have hkl : k < es.length := by have := HL.out; omega
      have hl0 : k < l.length := by have := HN.out; omega
      obtain ⟨c1, c2⟩ := HO.out.cell k hkl
      have HO1 := Lib.hid (HO.out.store k ((k : Int) + 1) HL.out.symm)
      have HB1 := Lib.hid (HB.out.setCell (p := ⟨w.heap.size, k, none⟩) (Nat.le_refl _) (.int .i64 ((k : Int) + 1)))
      have HE1 : Hid (∀ m, k ≤ m → m < n → EndAt l (es.set k ((k : Int) + 1)) m) := fun m h1 h2 => by
        by_cases hm : k = m
        · subst hm; exact EndAt.one hkl hl0
        · exact (HE.out m (by omega) h2).keep _ hm
      generalize es.getD k 0 = x0 at c1
      clear HO HB
      go_upto_region 6 with fail
      generalize wo.setCell ⟨w.heap.size, k, none⟩ (.int .i64 ((k : Int) + 1)) = w2 at *
      clear c1 c2
      obtain ⟨b, o, c, he, -, hb, hc⟩ := (HV.out.below HB1.out).open (by intro h0; rw [h0] at hl0; simp at hl0)
      rw [HN.out] at he
      simp only [Value.slice.injEq] at he
      obtain ⟨rfl, -, rfl⟩ := he
      by_cases hlt : k + 1 < n
      · have hltI : (k : Int) + 1 < (n : Int) := by omega
        have d1 := hc k hl0
        have d2 := hc (k + 1) (by have := HN.out; omega)
        obtain ⟨y1, hy1⟩ : ∃ y, l.getD k 0 = y := ⟨_, rfl⟩
        obtain ⟨y2, hy2⟩ : ∃ y, l.getD (k + 1) 0 = y := ⟨_, rfl⟩
        rw [hy1] at d1
        rw [hy2] at d2
        have T1 := Lib.hid fun w' => qthread_any y1 w' (hy1 ▸ H64.out k)
        have T2 := Lib.hid fun w' => qthread_any y2 w' (hy2 ▸ H64.out (k + 1))
        obtain ⟨z1, hz1⟩ : ∃ z, threadE y1 = z := ⟨_, rfl⟩
        obtain ⟨z2, hz2⟩ : ∃ z, threadE y2 = z := ⟨_, rfl⟩
        rw [hz1] at T1
        rw [hz2] at T2
        have HZ := Lib.hid (And.intro (And.intro hy1 hy2) (And.intro hz1 hz2))
        clear hc hy1 hy2 hz1 hz2
        have X1 := ext_cell _ _ hb _ d1
        have X2 := ext_cell _ _ hb _ d2
        clear d1 d2
        have hks : k + 1 < (es.set k ((k : Int) + 1)).length := by rw [List.length_set]; have := HL.out; omega
        refine wp_region_ext w2 (by kernel_rfl) (by kernel_rfl) (Below.refl _ _) ?_
        repeat (go_big_quiet_step (first
          | (go_at_call 11; with_reducible exact calls_ext ((T1.out _).mono (fun e w' h => ⟨h.1, h.2 ▸ Below.refl _ _⟩)))
          | (go_at_call 11; with_reducible exact calls_ext ((T2.out _).mono (fun e w' h => ⟨h.1, h.2 ▸ Below.refl _ _⟩)))))
        refine wpQuiet_nil ?_
        intro _ hw'
        obtain ⟨n9, rfl⟩ := hw'
        have HN9 := Lib.hid n9.below
        generalize n9.wd = w3 at *
        clear X1 X2 T1 T2
        have HB2 := Lib.hid (below_then HB1.out HN9.out)
        have HO2 := Lib.hid (HO1.out.below HN9.out)
        by_cases h : z1 = z2
        · have hq : (z1 == z2) = true := by simpa using h
          obtain ⟨c3, c4⟩ := HO2.out.cell (k + 1) hks
          obtain ⟨c5, c6⟩ := HO2.out.cell k (by omega)
          obtain ⟨x, hx⟩ : ∃ x, (es.set k ((k : Int) + 1)).getD (k + 1) 0 = x := ⟨_, rfl⟩
          have HO3 := Lib.hid (HO2.out.store k x (by rw [List.length_set]; exact HL.out.symm))
          have HB3 := Lib.hid (HB2.out.setCell (p := ⟨w.heap.size, k, none⟩) (Nat.le_refl _) (.int .i64 x))
          have HE2 : Hid (∀ m, k ≤ m → m < n → EndAt l ((es.set k ((k : Int) + 1)).set k x) m) := fun m h1 h2 => by
            by_cases hm : k = m
            · subst hm
              rw [← hx]
              refine EndAt.skip (by omega) (HE1.out (k + 1) (by omega) hlt) ?_
              rw [HZ.out.1.1, HZ.out.1.2, HZ.out.2.1, HZ.out.2.2, h]
            · exact (HE1.out m h1 h2).keep _ hm
          have HL2 : Hid (((es.set k ((k : Int) + 1)).set k x).length = n) := by show _ = _; rw [List.length_set, List.length_set]; exact HL.out
          rw [hx] at c3
          generalize (es.set k ((k : Int) + 1)).getD k 0 = x1 at c5
          clear hx HO2 HO1 HB1 HB2 HE1 HE hks
          generalize (es.set k ((k : Int) + 1)).set k x = es3 at *
          have ek2 : ((k + 1 : Nat) : Int) = (k : Int) + 1 := by omega
          go_wp2_with fail
          go_roundw
          case rel => exact ⟨k, es3, by go_num, by omega, HL2, HE2, HO3, HB3⟩
          case measure => simp [intOf]
        · have hq : (z1 == z2) = false := by simpa using h
          go_wp2_with fail
          go_roundw
          case rel => exact ⟨k, es.set k ((k : Int) + 1), by go_num, by omega, by show (es.set _ _).length = n; rw [List.length_set]; exact HL.out, HE1, HO2, HB2⟩
          case measure => simp [intOf]
      · have hge : ¬ (k : Int) + 1 < (n : Int) := by omega
        clear hc
        refine wp_region_ext w2 (by kernel_rfl) (by kernel_rfl) (Below.refl _ _) ?_
        repeat (go_big_quiet_step (fail))
        refine wpQuiet_nil ?_
        intro _ hw'
        obtain ⟨n9, rfl⟩ := hw'
        have HN9 := Lib.hid n9.below
        generalize n9.wd = w3 at *
        have HB2 := Lib.hid (below_then HB1.out HN9.out)
        have HO2 := Lib.hid (HO1.out.below HN9.out)
        go_wp2_with fail
        go_roundw
        case rel => exact ⟨k, es.set k ((k : Int) + 1), by go_num, by omega, by show (es.set _ _).length = n; rw [List.length_set]; exact HL.out, HE1, HO2, HB2⟩
        case measure => simp [intOf]
end Go.Proofs.Ytimgcehogalhcaa
