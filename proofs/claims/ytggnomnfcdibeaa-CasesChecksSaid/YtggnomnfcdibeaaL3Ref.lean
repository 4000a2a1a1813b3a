/- Layer 3: what the document's answers for chapter 3 return. -/
import Derived.Test.YtggnomnfcdibeaaOpP
import Derived.Deep.QuietTactic
import Derived.BigQuiet
namespace Go.Proofs.Ytggnomnfcdibeaa
open Go.ChangeShapes Go.WideShapes Go.ChangeAt Go.RowKit

theorem named_any (n : Int) (w : World) :
    Calls Try.prog 51 #[.int .i64 n] w fun e w' => e = .returned (.bool (namedB n)) ∧ w = w' := by
  by_cases h : -1 ≤ n
  · go_enter Try.func51, Try.ntmps51
    go_wp2
    go_ret
    exact ⟨ret_bool (by simp [namedB, h]), rfl⟩
  · go_enter Try.func51, Try.ntmps51
    go_wp2
    go_ret
    exact ⟨ret_bool (by simp [namedB]; omega), rfl⟩
theorem ranges_any (v : Value) (op : OpM) (w : World) (h : OpV w v op) :
    Calls Try.prog 40 #[v] w fun e w' => e = .returned (.bool (rangesB op)) ∧ Below w.heap.size w w' := by
  obtain ⟨vc, vd, rfl, hc, hd⟩ := h
  obtain ⟨hl, -, a, cap, rfl, -, h5⟩ := hc
  have hb := below_new (Below.refl w.heap.size w) (.cells #[.int .i64 op.kind, .int .i64 op.mode, .int .i64 op.chan, .int .u64 op.val, .int .i64 op.dl, .slice a op.cases.length cap, vd] 26)
  have HB := Lib.hid hb
  have NA := Lib.hid fun n w' => named_any n w'
  have HR : Hid (rangesB op = (namedB op.chan && decide (0 ≤ op.dl) && decide (op.dl ≤ 1099511627776) && op.cases.all fun c => namedB c.chan)) := rfl
  generalize op.dl = dl at *
  generalize op.chan = ch at *
  cases h1 : namedB ch with
  | false =>
    rw [h1] at HR
    have N1 := Lib.hid (fun w' => h1 ▸ named_any ch w')
    clear hb h5 h1 hd
    go_enter Try.func40, Try.ntmps40
    go_wp2_with (go_at_call 51; refine (N1.out _).mono ?_; rintro e w' ⟨rfl, rfl⟩)
    go_ret
    exact ⟨ret_bool (by rw [HR.out]; rfl), HB.out⟩
  | true =>
    rw [h1] at HR
    have N1 := Lib.hid (fun w' => h1 ▸ named_any ch w')
    clear h1 hd
    by_cases hd0 : 0 ≤ dl
    · by_cases hd1 : dl ≤ 1099511627776
      · rw [decide_eq_true hd0, decide_eq_true hd1] at HR
        obtain ⟨cs, hcs⟩ : ∃ cs, op.cases = cs := ⟨_, rfl⟩
        rw [hcs] at hl h5 HR HB hb ⊢
        clear hcs
        have H5 : Hid (∀ t, t < cs.length → ∃ b off, a = some ⟨b, off, none⟩ ∧ CaseAt (w.alloc (.cells #[.int .i64 op.kind, .int .i64 op.mode, .int .i64 ch, .int .u64 op.val, .int .i64 dl, .slice a cs.length cap, vd] 26)) b (off + t * 3) (cs.getD t noCase)) := fun t ht => by
          obtain ⟨b, off, e, hlt, hc⟩ := h5 t ht
          exact ⟨b, off, e, hc.below hlt hb⟩
        clear h5 hb
        go_enter Try.func40, Try.ntmps40
        go_wp2_with (go_at_call 51; refine (N1.out _).mono ?_; rintro e w' ⟨rfl, rfl⟩)
        go_loop [3] (fun c => ∃ k : Nat, k ≤ cs.length ∧ c = .int .i64 k ∧ Hid (cs.all (fun c => namedB c.chan) = (cs.drop k).all (fun c => namedB c.chan))) (fun c => cs.length - (intOf c).toNat)
        case atStart => exact ⟨0, by omega, rfl, rfl⟩
        case round =>
          obtain ⟨k, hk, rfl, hall⟩ := hrel
          by_cases hlt : k < cs.length
          · obtain ⟨b, off, rfl, c0, c1, c2⟩ := H5.out k hlt
            have ed : cs.drop k = cs.getD k noCase :: cs.drop (k + 1) := by
              rw [List.drop_eq_getElem_cons hlt]; simp [List.getD_eq_getElem?_getD, hlt]
            have ED := Lib.hid ed
            clear ed c0 c2
            generalize cs.getD k noCase = c at *
            generalize hn : c.chan = n at c1
            have HN := Lib.hid hn
            clear hn
            cases hb : namedB n with
            | true =>
              have N2 := Lib.hid (fun w' => hb ▸ named_any n w')
              have HB2 := Lib.hid hb
              clear hb
              go_wp2_with (go_at_call 51; refine (N2.out _).mono ?_; rintro e w' ⟨rfl, rfl⟩)
              go_round
              case rel => exact ⟨k + 1, by omega, by go_num, by rw [hall.out, ED.out, List.all_cons, HN.out, HB2.out, Bool.true_and]; rfl⟩
              case measure => simp [intOf]; omega
            | false =>
              have N2 := Lib.hid (fun w' => hb ▸ named_any n w')
              have HB2 := Lib.hid hb
              clear hb
              go_wp2_with (go_at_call 51; refine (N2.out _).mono ?_; rintro e w' ⟨rfl, rfl⟩)
              go_ret
              exact ⟨ret_bool (by rw [HR.out, hall.out, ED.out, List.all_cons, HN.out, HB2.out]; rfl), HB.out⟩
          · obtain rfl : k = cs.length := by omega
            go_wp2
            go_ret
            exact ⟨ret_bool (by rw [HR.out, hall.out, List.drop_length]; rfl), HB.out⟩
      · have hd2 : 1099511627776 < dl := by omega
        rw [decide_eq_false hd1] at HR
        clear hb h5
        go_enter Try.func40, Try.ntmps40
        go_wp2_with (go_at_call 51; refine (N1.out _).mono ?_; rintro e w' ⟨rfl, rfl⟩)
        go_ret
        exact ⟨ret_bool (by rw [HR.out]; simp), HB.out⟩
    · have hd2 : dl < 0 := by omega
      rw [decide_eq_false hd0] at HR
      clear hb h5
      go_enter Try.func40, Try.ntmps40
      go_wp2_with (go_at_call 51; refine (N1.out _).mono ?_; rintro e w' ⟨rfl, rfl⟩)
      go_ret
      exact ⟨ret_bool (by rw [HR.out]; simp), HB.out⟩
end Go.Proofs.Ytggnomnfcdibeaa
