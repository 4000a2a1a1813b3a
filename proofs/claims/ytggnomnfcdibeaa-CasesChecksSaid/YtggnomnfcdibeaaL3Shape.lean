/- Layer 3: the last error of the document's check. -/
import Derived.Test.YtggnomnfcdibeaaL3Ref
namespace Go.Proofs.Ytggnomnfcdibeaa
open Go.ChangeShapes Go.WideShapes Go.ChangeAt Go.RowKit

set_option maxRecDepth 100000 in
set_option maxHeartbeats 1000000 in
theorem shape_any (v : Value) (op : OpM) (w : World) (h : OpV w v op) :
    Calls Try.prog 41 #[v] w fun e w' => e = .returned (.bool (shapeB op)) ∧ Below w.heap.size w w' := by
  obtain ⟨kd, md, ch, vl, dl, cs, ds⟩ := op
  obtain ⟨vc, vd, rfl, hc, hd⟩ := h
  dsimp only at *
  obtain ⟨hl, -, a, cap, rfl, -, h5⟩ := hc
  have hl2 := hd.1
  obtain ⟨ad, cd, rfl, -⟩ := hd.len
  have HS : Hid (∀ t, t < cs.length → ∃ b off, a = some ⟨b, off, none⟩ ∧ b < w.heap.size ∧ CaseAt w b (off + t * 3) (cs.getD t noCase)) := h5
  clear h5 hd
  go_enter Try.func41, Try.ntmps41
  go_wp2
  all_goals first
    | (go_ret; refine ⟨ret_bool ?_, below_new (Below.refl _ _) _⟩; simp [shapeB, *]; done)
    | (go_ret; refine ⟨ret_bool ?_, below_new (Below.refl _ _) _⟩; simp_all [shapeB]; done)
    | (go_ret; refine ⟨ret_bool ?_, below_new (Below.refl _ _) _⟩; simp_all [shapeB]; omega)
    | skip
  all_goals
    have h4 : kd = 4 := by simp_all
    have hdm : dl = 0 ∨ md = 2 := by simp_all
    have hln : ds.length = cs.length := by
      have hq : ((ds.length : Int) != (cs.length : Int)) = false := by assumption
      simp at hq; omega
    have HR : Hid (shapeB ⟨kd, md, ch, vl, dl, cs, ds⟩ = cs.all fun c => c.send || c.val == 0) := by
      show _ = _
      rcases hdm with h | h <;> simp_all [shapeB]
    have hch : ch = 0 := by assumption
    have hvl : vl = 0 := by assumption
    subst hch hvl
    first | (have hdl : dl = 0 := by assumption
             subst hdl) | skip
    clear hln h4 hdm
    go_loop [4] (fun c => ∃ k : Nat, k ≤ cs.length ∧ c = .int .i64 k ∧ Hid (cs.all (fun c => c.send || c.val == 0) = (cs.drop k).all fun c => c.send || c.val == 0)) (fun c => cs.length - (intOf c).toNat)
    case atStart => exact ⟨0, by omega, rfl, rfl⟩
    case round =>
      obtain ⟨k, hk, rfl, hall⟩ := hrel
      by_cases hlt : k < cs.length
      · obtain ⟨b, off, rfl, hbl, hca⟩ := HS.out k hlt
        have c0 : ∀ o, (w.alloc o).cell? ⟨b, off + k * 3, none⟩ = some (.bool (cs.getD k noCase).send) := fun o => (hca.below hbl (below_new (Below.refl w.heap.size w) o)).1
        have c2 : ∀ o, (w.alloc o).cell? ⟨b, off + k * 3 + 2, none⟩ = some (.int .u64 (cs.getD k noCase).val) := fun o => (hca.below hbl (below_new (Below.refl w.heap.size w) o)).2.2
        have ed : cs.drop k = cs.getD k noCase :: cs.drop (k + 1) := by
          rw [List.drop_eq_getElem_cons hlt]; simp [List.getD_eq_getElem?_getD, hlt]
        have ED := Lib.hid ed
        clear ed hca hbl
        generalize cs.getD k noCase = c at *
        cases hsd : c.send with
        | true =>
          rw [hsd] at c0
          have HSD := Lib.hid hsd
          clear c2 hsd
          go_wp2
          go_round
          case rel => exact ⟨k + 1, by omega, by go_num, by rw [hall.out, ED.out, List.all_cons, HSD.out]; rfl⟩
          case measure => simp [intOf]; omega
        | false =>
          rw [hsd] at c0
          have HSD := Lib.hid hsd
          obtain ⟨x, hx⟩ : ∃ x, c.val = x := ⟨_, rfl⟩
          rw [hx] at c2
          have HX := Lib.hid hx
          clear hsd hx
          by_cases h0 : x = 0
          · subst h0
            go_wp2
            go_round
            case rel => exact ⟨k + 1, by omega, by go_num, by rw [hall.out, ED.out, List.all_cons, HSD.out, HX.out]; rfl⟩
            case measure => simp [intOf]; omega
          · have h00 : (x != 0) = true := by simpa using h0
            have h01 : (x == 0) = false := by simpa using h0
            have H01 := Lib.hid h01
            clear h01 h0
            go_wp2
            go_ret
            exact ⟨ret_bool (by rw [HR.out, hall.out, ED.out, List.all_cons, HSD.out, HX.out, H01.out]; rfl), below_new (Below.refl _ _) _⟩
      · obtain rfl : k = cs.length := by omega
        go_wp2
        go_ret
        exact ⟨ret_bool (by rw [HR.out, hall.out, List.drop_length]; rfl), below_new (Below.refl _ _) _⟩
end Go.Proofs.Ytggnomnfcdibeaa
