/- Layer 3: a property of the cases of a select, asked by package slices; the shape of a select. -/
import Derived.Test.YtkciejealeinoaaL3Own2
namespace Go.Proofs.Ytkciejealeinoaa
open Go.ChangeShapes Go.WideShapes Go.ChangeAt Go.RowKit
set_option maxRecDepth 100000

/-- the first case with the property, or -1 -/
def ixC (p : CaseM → Bool) : Nat → List CaseM → Int
  | _, [] => -1
  | i, x :: l => if p x then (i : Int) else ixC p (i + 1) l
theorem ixC_any (p : CaseM → Bool) (i : Nat) (l : List CaseM) : decide (0 ≤ ixC p i l) = l.any p := by
  induction l generalizing i with
  | nil => simp [ixC]
  | cons x l ih =>
    simp only [ixC, List.any_cons]
    by_cases h : p x = true
    · simp [h]
    · simp [h, ih]
theorem drop_case (l : List CaseM) (k : Nat) (hk : k < l.length) (x : CaseM) (hx : l.getD k noCase = x) : l.drop k = x :: l.drop (k + 1) := by
  rw [List.drop_eq_getElem_cons hk]; congr 1
  simpa [List.getD_eq_getElem?_getD, hk] using hx
theorem ixC_skip (p : CaseM → Bool) (l : List CaseM) (k : Nat) (hk : k < l.length) (x : CaseM) (hx : l.getD k noCase = x) (h : p x = false) : ixC p k (l.drop k) = ixC p (k + 1) (l.drop (k + 1)) := by
  rw [drop_case l k hk x hx]; simp [ixC, h]
theorem ixC_hit (p : CaseM → Bool) (l : List CaseM) (k : Nat) (hk : k < l.length) (x : CaseM) (hx : l.getD k noCase = x) (h : p x = true) : ixC p k (l.drop k) = k := by
  rw [drop_case l k hk x hx]; simp [ixC, h]
def caseV (c : CaseM) : Value := .agg #[.bool c.send, .int .i64 c.chan, .int .u64 c.val]
theorem indexFunc_case (F : Nat) (p : CaseM → Bool) (eg : ∀ args w, (callFunc F args).run Try.prog w = .ok (.enter F args) w) (hF : ∀ c w, Calls Try.prog F #[caseV c] w fun e w' => e = .returned (.bool (p c)) ∧ Below w.heap.size w w')
    (v : Value) (l : List CaseM) (w : World) (hl : SlC w v l) :
    Calls Try.prog 102 #[v, .func (.func F) #[] #[]] w fun e w' => e = .returned (.int .i64 (ixC p 0 l)) ∧ Below w.heap.size w w' := by
  have HF := Lib.hid hF
  clear hF
  obtain ⟨hmx, -, a, cap, rfl, -, h5⟩ := hl
  have H5 := Lib.hid h5
  clear h5
  go_enter Try.func102, Try.ntmps102
  go_wp2
  go_loopw [5, 8] (fun _ c wr => ∃ k : Nat, k ≤ l.length ∧ c = .int .i64 k ∧ Hid (ixC p 0 l = ixC p k (l.drop k)) ∧ Hid (Below w.heap.size w wr)) (fun _ c _ => l.length - (intOf c).toNat)
  case atStart => exact ⟨0, by omega, rfl, rfl, Below.refl _ _⟩
  case round =>
    obtain ⟨k, hk, rfl, hix, hb⟩ := hrel
    obtain ⟨wo, rfl⟩ : ∃ wo : World, wo = wr := ⟨_, rfl⟩
    by_cases hlt : k < l.length
    · obtain ⟨b, off, rfl, hbl, hc⟩ := H5.out k hlt
      obtain ⟨c0, c1, c2⟩ := hc.below hbl hb.out
      clear hc
      obtain ⟨x, hx⟩ : ∃ x, l.getD k noCase = x := ⟨_, rfl⟩
      rw [hx] at c0 c1 c2
      have SK := Lib.hid (ixC_skip p l k hlt x hx)
      have HT := Lib.hid (ixC_hit p l k hlt x hx)
      have C := Lib.hid fun w' => HF.out x w'
      clear hx
      obtain ⟨q, hq⟩ : ∃ q, p x = q := ⟨_, rfl⟩
      have HQ := Lib.hid hq
      rw [hq] at C
      clear hq
      unfold caseV at C
      cases q with
      | true =>
        go_wp2_with (go_at_fn F; refine (C.out _).mono ?_; rintro e w' ⟨rfl, hb2⟩)
        go_ret
        exact ⟨ret_i64 (by rw [hix.out, HT.out HQ.out]), below_then hb.out hb2⟩
      | false =>
        go_wp2_with (go_at_fn F; refine (C.out _).mono ?_; rintro e w' ⟨rfl, hb2⟩)
        have HB2 := Lib.hid (below_then hb.out hb2)
        clear hb2
        go_roundw
        case rel => exact ⟨k + 1, by omega, by go_num, by rw [hix.out, SK.out HQ.out]; rfl, HB2.out⟩
        case measure => simp [intOf]; omega
    · obtain rfl : k = l.length := by omega
      go_wp2
      go_ret
      exact ⟨ret_i64 (by rw [hix.out, List.drop_length]; rfl), hb.out⟩
theorem containsFunc_case (F : Nat) (p : CaseM → Bool) (eg : ∀ args w, (callFunc F args).run Try.prog w = .ok (.enter F args) w) (hF : ∀ c w, Calls Try.prog F #[caseV c] w fun e w' => e = .returned (.bool (p c)) ∧ Below w.heap.size w w')
    (v : Value) (l : List CaseM) (w : World) (hl : SlC w v l) :
    Calls Try.prog 94 #[v, .func (.func F) #[] #[]] w fun e w' => e = .returned (.bool (l.any p)) ∧ Below w.heap.size w w' := by
  have C := Lib.hid (indexFunc_case F p eg hF v l w hl)
  have E := Lib.hid (ixC_any p 0 l)
  clear eg hF hl
  go_enter Try.func94, Try.ntmps94
  go_wp2_with (go_at_call 102; refine C.out.mono ?_; rintro e w' ⟨rfl, hb⟩)
  go_ret
  exact ⟨ret_bool (by rw [← E.out]), hb⟩
theorem receives_any (c : CaseM) (w : World) :
    Calls Try.prog 95 #[caseV c] w fun e w' => e = .returned (.bool (!c.send && c.val != 0)) ∧ Below w.heap.size w w' := by
  obtain ⟨sd, ch, vl⟩ := c
  unfold caseV
  dsimp only
  cases sd with
  | true =>
    go_enter Try.func95, Try.ntmps95
    go_wp2
    go_ret
    exact ⟨rfl, below_new (Below.refl _ _) _⟩
  | false =>
    go_enter Try.func95, Try.ntmps95
    go_wp2
    go_ret
    exact ⟨ret_bool (by simp), below_new (Below.refl _ _) _⟩
theorem anyReceives (v : Value) (l : List CaseM) (w : World) (hl : SlC w v l) :
    Calls Try.prog 94 #[v, .func (.func 95) #[] #[]] w fun e w' => e = .returned (.bool (!l.all fun c => c.send || c.val == 0)) ∧ Below w.heap.size w w' := by
  have e1 : (!l.all fun c => c.send || c.val == 0) = l.any fun c => !c.send && c.val != 0 := by
    rw [List.not_all_eq_any_not]; congr 1; funext c; simp [bne]
  rw [e1]
  exact containsFunc_case _ _ (enters_of Try.func95 (by kernel_rfl) rfl) receives_any v l w hl
end Go.Proofs.Ytkciejealeinoaa
