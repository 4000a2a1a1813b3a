/- Where everything lies: which configurations are valid. -/
import Derived.Test.YtipjfcjdefdoeaaLyB
namespace Go.Proofs.Ytipjfcjdefdoeaa
open Go.ChangeShapes Go.WideShapes Go.ChangeAt Go.RowKit
set_option maxRecDepth 100000

def capB (x : Int) : Bool := decide (0 ≤ x) && decide (x ≤ 16)
def startB (x : Int) : Bool := decide (x < 9223372036854775808)
/-- the first error of a configuration, 0 if there is none -/
def checkC (c : ConfM) : Int :=
  if 8 < c.caps.length then 3 else if c.starts.length ≠ c.caps.length then 5 else if c.caps.all capB = false then 2 else if c.starts.all startB = false then 2 else
  if c.threads < 1 ∨ 8 < c.threads then 2 else 0
theorem checkC_good {c : ConfM} (h : c.good) : checkC c = 0 := by
  have h1 := h.len
  have h2 := h.thr
  have h3 : c.caps.all capB = true := List.all_eq_true.2 fun x hx => by have := h.caps x hx; simp [capB, this]
  have h4 : c.starts.all startB = true := List.all_eq_true.2 fun x hx => by have := h.starts x hx; simp [startB, this]
  unfold checkC
  rw [if_neg (by omega), if_neg (by simp [h.same]), if_neg (by simp [h3]), if_neg (by simp [h4]), if_neg (by omega)]
theorem good_of_check {c : ConfM} (h : checkC c = 0) (hs : ∀ x ∈ c.starts, 0 ≤ x) : c.good := by
  unfold checkC at h
  split at h
  · omega
  split at h
  · omega
  split at h
  · omega
  split at h
  · omega
  split at h
  · omega
  rename_i h1 h2 h3 h4 h5
  simp only [Bool.not_eq_false] at h3 h4
  refine ⟨by omega, by simpa using h2, fun x hx => ?_, fun x hx => ?_, by omega⟩
  · have := List.all_eq_true.1 h3 x hx
    simpa [capB] using this
  · have := List.all_eq_true.1 h4 x hx
    simp [startB] at this
    exact ⟨hs x hx, this⟩
theorem checkC_many {c : ConfM} (h : 8 < c.caps.length) : checkC c = 3 := by unfold checkC; rw [if_pos h]
theorem checkC_shape {c : ConfM} (h : ¬ 8 < c.caps.length) (h2 : c.starts.length ≠ c.caps.length) : checkC c = 5 := by unfold checkC; rw [if_neg h, if_pos h2]
theorem all_bad {l : List Int} {p : Int → Bool} (j : Nat) (h : j < l.length) (hb : p (l.getD j 0) = false) : l.all p = false := by
  rw [List.all_eq_false]
  rw [List.getD_eq_getElem?_getD, List.getElem?_eq_getElem h] at hb
  exact ⟨_, List.getElem_mem h, by simpa using hb⟩
theorem all_next {l : List Int} {p : Int → Bool} (j : Nat) (h : j < l.length) (ha : (l.take j).all p = true) (hb : p (l.getD j 0) = true) : (l.take (j + 1)).all p = true := by
  rw [List.take_add_one, List.getElem?_eq_getElem h, List.all_append, ha]
  rw [List.getD_eq_getElem?_getD, List.getElem?_eq_getElem h] at hb
  simpa using hb
theorem checkC_caps {c : ConfM} (h : ¬ 8 < c.caps.length) (h2 : c.starts.length = c.caps.length) (h3 : c.caps.all capB = false) : checkC c = 2 := by
  unfold checkC; rw [if_neg h, if_neg (by simp [h2]), if_pos h3]
theorem checkC_starts {c : ConfM} (h : ¬ 8 < c.caps.length) (h2 : c.starts.length = c.caps.length) (h4 : c.starts.all startB = false) : checkC c = 2 := by
  unfold checkC; rw [if_neg h, if_neg (by simp [h2])]; simp only [h4, if_true]; split <;> rfl
theorem checkC_thr {c : ConfM} (h : ¬ 8 < c.caps.length) (h2 : c.starts.length = c.caps.length) (h3 : c.caps.all capB = true) (h4 : c.starts.all startB = true) : checkC c = if c.threads < 1 ∨ 8 < c.threads then 2 else 0 := by
  unfold checkC; rw [if_neg h, if_neg (by simp [h2]), if_neg (by simp [h3]), if_neg (by simp [h4])]
set_option maxHeartbeats 2000000 in
theorem rcheckC_any (v : Value) (c : ConfM) (w : World) (h : ConfV w v c) :
    Calls Try.prog 54 #[v] w fun e w' => e = .returned (.int .i64 (checkC c)) ∧ Below w.heap.size w w' := by
  obtain ⟨vc, vs, rfl, h1, h2⟩ := h
  have hn := h1.1
  have hm := h2.1
  obtain ⟨a, cap, rfl, -⟩ := h1.len
  obtain ⟨a2, cap2, rfl, -⟩ := h2.len
  obtain ⟨W, hW⟩ : ∃ W, w.alloc (.cells #[.slice a c.caps.length cap, .slice a2 c.starts.length cap2, .int .i64 c.threads] 52) = W := ⟨_, rfl⟩
  have HB : Hid (Below w.heap.size w W) := hW ▸ below_new (Below.refl w.heap.size w) _
  have R0 : Hid (W.heap[w.heap.size]? = some (.cells #[.slice a c.caps.length cap, .slice a2 c.starts.length cap2, .int .i64 c.threads] 52 (0, 0))) := hW ▸ heap_alloc_new _ _
  have S1 := Lib.hid (h1.below HB.out)
  have S2 := Lib.hid (h2.below HB.out)
  have HW := Lib.hid hW
  clear h1 h2 hW
  have CM := Lib.hid (checkC_many (c := c))
  have CS := Lib.hid (checkC_shape (c := c))
  have CC := Lib.hid (checkC_caps (c := c))
  have CT := Lib.hid (checkC_starts (c := c))
  have CZ := Lib.hid (checkC_thr (c := c))
  generalize hcn : c.caps.length = n at *
  generalize hcm : c.starts.length = m at *
  have HN := Lib.hid hcn
  have HM := Lib.hid hcm
  clear hcn hcm
  generalize c.threads = thr at *
  go_enter Try.func54, Try.ntmps54
  go_upto_region 1 with fail
  rw [HW.out]
  clear HW
  obtain ⟨x0, x1, x2⟩ := rowc3 R0.out
  by_cases h8 : 8 < n
  · go_wp2
    go_ret
    exact ⟨ret_i64 (CM.out h8).symm, HB.out⟩
  by_cases hs : m = n
  case neg =>
    have hsb : ((m : Int) != (n : Int)) = true := by simp; omega
    have HS := Lib.hid hs
    clear hs
    go_wp2
    go_ret
    exact ⟨ret_i64 (CS.out h8 HS.out).symm, HB.out⟩
  case pos =>
  subst hs
  go_wp2_with fail
  go_loop [3] (fun i => ∃ j : Nat, j ≤ m ∧ i = .int .i64 j ∧ Hid ((c.caps.take j).all capB = true)) (fun i => 9 - (intOf i).toNat)
  case atStart => exact ⟨0, by omega, rfl, (by simp : (c.caps.take 0).all capB = true)⟩
  case round =>
    obtain ⟨j, hj, rfl, hall⟩ := hrel
    by_cases hlt : j < m
    · obtain ⟨b, off, rfl, hb, hc⟩ := S1.out.cellAt j (by rw [HN.out]; exact hlt)
      have BD := Lib.hid fun h => all_bad (l := c.caps) (p := capB) j (by rw [HN.out]; exact hlt) h
      have NX := Lib.hid fun h => all_next (l := c.caps) (p := capB) j (by rw [HN.out]; exact hlt) hall.out h
      generalize c.caps.getD j 0 = x at *
      by_cases h0 : 0 ≤ x ∧ x ≤ 16
      · obtain ⟨h0, h1⟩ := h0
        have hx := Lib.hid (NX.out (by simp [capB, h0, h1]))
        clear BD NX
        go_wp2
        go_round
        case rel => exact ⟨j + 1, by omega, by go_num, hx⟩
        case measure => simp [intOf]; omega
      · have hx := Lib.hid (CC.out h8 (by trivial) (BD.out (by simp [capB]; omega)))
        clear BD NX
        by_cases hx0 : x < 0
        · go_wp2
          go_ret
          exact ⟨ret_i64 hx.out.symm, HB.out⟩
        · have hx1 : 16 < x := by omega
          clear h0
          go_wp2
          go_ret
          exact ⟨ret_i64 hx.out.symm, HB.out⟩
    · obtain rfl : j = m := by omega
      have HA : Hid (c.caps.all capB = true) := by
        have := hall.out
        rw [List.take_of_length_le (by rw [HN.out]; exact Nat.le_refl _)] at this
        exact this
      clear hall
      go_wp2_with fail
      go_loop [4] (fun i => ∃ t : Nat, t ≤ j ∧ i = .int .i64 t ∧ Hid ((c.starts.take t).all startB = true)) (fun i => 9 - (intOf i).toNat)
      case atStart => exact ⟨0, by omega, rfl, (by simp : (c.starts.take 0).all startB = true)⟩
      case round =>
        obtain ⟨t, ht, rfl, hall⟩ := hrel
        by_cases htl : t < j
        · obtain ⟨b, off, rfl, hb, hc⟩ := S2.out.cellAt t (by rw [HM.out]; exact htl)
          have BD := Lib.hid fun h => all_bad (l := c.starts) (p := startB) t (by rw [HM.out]; exact htl) h
          have NX := Lib.hid fun h => all_next (l := c.starts) (p := startB) t (by rw [HM.out]; exact htl) hall.out h
          generalize c.starts.getD t 0 = x at *
          by_cases h0 : x < 9223372036854775808
          · have hx := Lib.hid (NX.out (by simp [startB, h0]))
            clear BD NX
            have hxd : decide (9223372036854775808 ≤ x) = false := decide_eq_false (by omega)
            clear h0
            go_wp2
            go_round
            case rel => exact ⟨t + 1, by omega, by go_num, hx⟩
            case measure => simp [intOf]; omega
          · have hx := Lib.hid (CT.out h8 (by trivial) (BD.out (by simp [startB]; omega)))
            clear BD NX
            have hxd : decide (9223372036854775808 ≤ x) = true := decide_eq_true (by omega)
            clear h0
            go_wp2
            go_ret
            exact ⟨ret_i64 hx.out.symm, HB.out⟩
        · obtain rfl : t = j := by omega
          have HA2 : Hid (c.starts.all startB = true) := by
            have := hall.out
            rw [List.take_of_length_le (by rw [HM.out]; exact Nat.le_refl _)] at this
            exact this
          have HZ := Lib.hid (CZ.out h8 (by trivial) HA.out HA2.out)
          clear hall HA HA2
          by_cases h1 : thr < 1
          · go_wp2
            go_ret
            exact ⟨ret_i64 (by rw [HZ.out, if_pos (.inl h1)]), HB.out⟩
          · by_cases h9 : 8 < thr
            · go_wp2
              go_ret
              exact ⟨ret_i64 (by rw [HZ.out, if_pos (.inr h9)]), HB.out⟩
            · go_wp2
              go_ret
              exact ⟨ret_i64 (by rw [HZ.out, if_neg (by omega)]), HB.out⟩
end Go.Proofs.Ytipjfcjdefdoeaa
