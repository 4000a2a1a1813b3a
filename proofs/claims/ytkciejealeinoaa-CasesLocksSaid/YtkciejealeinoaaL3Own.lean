/- Layer 3: the small functions of package cases: numbers of channels, the channels of the cases. -/
import Derived.Test.YtkciejealeinoaaL3Ref
import Derived.Test.YtkciejealeinoaaReads
import Derived.Test.YtkciejealeinoaaMem
import Derived.Deep.RegionLaw
import Derived.Shelf.Abstract
namespace Go.Proofs.Ytkciejealeinoaa
open Go.ChangeShapes Go.WideShapes Go.ChangeAt Go.RowKit
set_option maxRecDepth 100000

def wiB (n a b : Int) : Bool := decide (a ≤ n) && decide (n ≤ b)
theorem within_any (n a b : Int) (w : World) :
    Calls Try.prog 60 #[.int .i64 n, .int .i64 a, .int .i64 b] w fun e w' => e = .returned (.bool (wiB n a b)) ∧ w = w' := by
  by_cases h : a ≤ n
  · go_enter Try.func60, Try.ntmps60
    go_wp2
    go_ret
    exact ⟨ret_bool (by simp [wiB, h]), rfl⟩
  · go_enter Try.func60, Try.ntmps60
    go_wp2
    go_ret
    exact ⟨ret_bool (by simp [wiB]; omega), rfl⟩
theorem wiB_named (n : Int) : wiB n (-1) 7 = namedB n := by
  unfold wiB namedB
  congr 1
  by_cases h : n < 8 <;> simp [h] <;> omega
theorem noNumber_any (n : Int) (w : World) :
    Calls Try.prog 63 #[.int .i64 n] w fun e w' => e = .returned (.bool (!namedB n)) ∧ w = w' := by
  have NA := Lib.hid fun w' => within_any n (-1) 7 w'
  have E := Lib.hid (wiB_named n)
  go_enter Try.func63, Try.ntmps63
  go_wp2_with (go_at_call 60; refine (NA.out _).mono ?_; rintro e w' ⟨rfl, rfl⟩)
  go_ret
  exact ⟨ret_bool (by rw [E.out]), rfl⟩
/-- the first element with the property, or -1 -/
def ixI (p : Int → Bool) : Nat → List Int → Int
  | _, [] => -1
  | i, x :: l => if p x then (i : Int) else ixI p (i + 1) l
theorem ixI_any (p : Int → Bool) (i : Nat) (l : List Int) : decide (0 ≤ ixI p i l) = l.any p := by
  induction l generalizing i with
  | nil => simp [ixI]
  | cons x l ih =>
    simp only [ixI, List.any_cons]
    by_cases h : p x = true
    · simp [h]
    · simp [h, ih]
theorem ixI_skip (p : Int → Bool) (l : List Int) (k : Nat) (hk : k < l.length) (x : Int) (hx : l.getD k 0 = x) (h : p x = false) : ixI p k (l.drop k) = ixI p (k + 1) (l.drop (k + 1)) := by
  have e : l.drop k = x :: l.drop (k + 1) := by
    rw [List.drop_eq_getElem_cons hk]; congr 1
    simpa [List.getD_eq_getElem?_getD, hk] using hx
  rw [e]; simp [ixI, h]
theorem ixI_hit (p : Int → Bool) (l : List Int) (k : Nat) (hk : k < l.length) (x : Int) (hx : l.getD k 0 = x) (h : p x = true) : ixI p k (l.drop k) = k := by
  have e : l.drop k = x :: l.drop (k + 1) := by
    rw [List.drop_eq_getElem_cons hk]; congr 1
    simpa [List.getD_eq_getElem?_getD, hk] using hx
  rw [e]; simp [ixI, h]
theorem indexFunc_int (F : Nat) (p : Int → Bool) (eg : ∀ args w, (callFunc F args).run Try.prog w = .ok (.enter F args) w) (hF : ∀ x w, Calls Try.prog F #[.int .i64 x] w fun e w' => e = .returned (.bool (p x)) ∧ w = w')
    (v : Value) (l : List Int) (w : World) (hl : SlI w .i64 v l) :
    Calls Try.prog 75 #[v, .func (.func F) #[] #[]] w fun e w' => e = .returned (.int .i64 (ixI p 0 l)) ∧ w = w' := by
  have HF := Lib.hid hF
  clear hF
  obtain ⟨hmx, -, a, cap, rfl, -, h5⟩ := hl
  have H5 := Lib.hid h5
  clear h5
  go_enter Try.func75, Try.ntmps75
  go_wp2
  go_loop [5, 8] (fun _ c => ∃ k : Nat, k ≤ l.length ∧ c = .int .i64 k ∧ Hid (ixI p 0 l = ixI p k (l.drop k))) (fun _ c => l.length - (intOf c).toNat)
  case atStart => exact ⟨0, by omega, rfl, rfl⟩
  case round =>
    obtain ⟨k, hk, rfl, hix⟩ := hrel
    by_cases hlt : k < l.length
    · obtain ⟨b, off, rfl, -, hc⟩ := H5.out k hlt
      obtain ⟨x, hx⟩ : ∃ x, l.getD k 0 = x := ⟨_, rfl⟩
      rw [hx] at hc
      have SK := Lib.hid (ixI_skip p l k hlt x hx)
      have HT := Lib.hid (ixI_hit p l k hlt x hx)
      have C := Lib.hid fun w' => HF.out x w'
      clear hx
      obtain ⟨q, hq⟩ : ∃ q, p x = q := ⟨_, rfl⟩
      have HQ := Lib.hid hq
      rw [hq] at C
      clear hq
      cases q with
      | true =>
        go_wp2_with (go_at_fn F; refine (C.out _).mono ?_; rintro e w' ⟨rfl, rfl⟩)
        go_ret
        exact ⟨ret_i64 (by rw [hix.out, HT.out HQ.out]), rfl⟩
      | false =>
        go_wp2_with (go_at_fn F; refine (C.out _).mono ?_; rintro e w' ⟨rfl, rfl⟩)
        go_round
        case rel => exact ⟨k + 1, by omega, by go_num, by rw [hix.out, SK.out HQ.out]; rfl⟩
        case measure => simp [intOf]; omega
    · obtain rfl : k = l.length := by omega
      go_wp2
      go_ret
      exact ⟨ret_i64 (by rw [hix.out, List.drop_length]; rfl), rfl⟩
theorem containsFunc_int (F : Nat) (p : Int → Bool) (eg : ∀ args w, (callFunc F args).run Try.prog w = .ok (.enter F args) w) (hF : ∀ x w, Calls Try.prog F #[.int .i64 x] w fun e w' => e = .returned (.bool (p x)) ∧ w = w')
    (v : Value) (l : List Int) (w : World) (hl : SlI w .i64 v l) :
    Calls Try.prog 61 #[v, .func (.func F) #[] #[]] w fun e w' => e = .returned (.bool (l.any p)) ∧ w = w' := by
  have C := Lib.hid (indexFunc_int F p eg hF v l w hl)
  have E := Lib.hid (ixI_any p 0 l)
  clear eg hF hl
  go_enter Try.func61, Try.ntmps61
  go_wp2_with (go_at_call 75; refine C.out.mono ?_; rintro e w' ⟨rfl, rfl⟩)
  go_ret
  exact ⟨ret_bool (by rw [← E.out]), rfl⟩
theorem anyNoNumber (v : Value) (l : List Int) (w : World) (hl : SlI w .i64 v l) :
    Calls Try.prog 61 #[v, .func (.func 63) #[] #[]] w fun e w' => e = .returned (.bool (!l.all namedB)) ∧ w = w' := by
  rw [List.not_all_eq_any_not]
  exact containsFunc_int _ (fun n => !namedB n) (enters_of Try.func63 (by kernel_rfl) rfl) (fun x w => noNumber_any x w) v l w hl
/-- k channels are laid, the rest are zero -/
def chF (l : List CaseM) (k : Nat) : List Int := (l.map (·.chan)).take k ++ List.replicate (l.length - k) 0
theorem chF_zero (l : List CaseM) : chF l 0 = List.replicate l.length 0 := by simp [chF]
theorem chF_full (l : List CaseM) : chF l l.length = l.map (·.chan) := by simp [chF, List.take_of_length_le]
theorem chF_length (l : List CaseM) (k : Nat) (h : k ≤ l.length) : (chF l k).length = l.length := by simp [chF]; omega
theorem chF_step (l : List CaseM) (k : Nat) (h : k < l.length) : (chF l k).set k (l.getD k noCase).chan = chF l (k + 1) := by
  unfold chF
  have e : List.replicate (l.length - k) (0 : Int) = 0 :: List.replicate (l.length - (k + 1)) 0 := by
    rw [show l.length - k = (l.length - (k + 1)) + 1 by omega, List.replicate_succ]
  have hl : ((l.map (·.chan)).take k).length = k := by simp; omega
  rw [e, List.set_append, if_neg (by omega), hl, Nat.sub_self, List.set_cons_zero, List.take_add_one]
  simp [h, List.getD_eq_getElem?_getD]
/-- the channels of the cases -/
theorem caseChannels_any (v : Value) (l : List CaseM) (w : World) (hl : SlC w v l) (hs : l.length ≤ 1000) :
    Calls Try.prog 67 #[v] w fun e w' => e = .returned (.slice (some ⟨w.heap.size, 0, none⟩) l.length l.length) ∧ OwnI w' w.heap.size 3 .i64 (.slice (some ⟨w.heap.size, 0, none⟩) l.length l.length) (l.map (·.chan)) ∧ Below w.heap.size w w' := by
  obtain ⟨hmx, -, a, cap, rfl, -, h5⟩ := hl
  have H5 := Lib.hid h5
  clear h5
  go_enter Try.func67, Try.ntmps67
  go_wp2_with (at_make; refine wp_make_i64 w rfl _ _ rfl l.length _ _ rfl rfl rfl rfl ?_ ?_; omega; intro w1 hown hgrow)
  rw [← chF_zero] at hown
  have HO := Lib.hid hown
  have HB := Lib.hid hgrow
  have hsz : w.heap.size + 1 ≤ w1.heap.size := by
    rcases hown.shape with ⟨h, _⟩ | ⟨g, c, h, _, h2, _⟩
    · cases h
    · simp at h; omega
  clear hown hgrow
  go_loopw [4, 5, 11] (fun _ _ c wr => ∃ k : Nat, k ≤ l.length ∧ c = .int .i64 k ∧ Hid (OwnI wr w.heap.size 3 .i64 (.slice (some ⟨w.heap.size, 0, none⟩) l.length l.length) (chF l k)) ∧ Hid (Below w.heap.size w wr) ∧ w.heap.size + 1 ≤ wr.heap.size) (fun _ _ c _ => l.length - (intOf c).toNat)
  case atStart => exact ⟨0, by omega, rfl, HO, HB, hsz⟩
  case round =>
    clear HO HB hsz
    obtain ⟨k, hk, rfl, ho, hb, hsz⟩ := hrel
    obtain ⟨wo, rfl⟩ : ∃ wo : World, wo = wr := ⟨_, rfl⟩
    by_cases hlt : k < l.length
    · obtain ⟨b, off, rfl, hbl, hc⟩ := H5.out k hlt
      obtain ⟨c0, c1, c2⟩ := hc.below hbl hb.out
      obtain ⟨⟨sd, ch, vl⟩, hx⟩ : ∃ x, l.getD k noCase = x := ⟨_, rfl⟩
      rw [hx] at c0 c1 c2
      have ST := chF_step l k hlt
      rw [hx] at ST
      dsimp only at c0 c1 c2 ST
      have O1 := ho.out.alloc (.cells #[.bool sd, .int .i64 ch, .int .u64 vl] 69)
      obtain ⟨d0, d1⟩ := O1.cell k (by rw [chF_length l k hk]; exact hlt)
      have O2 := O1.store k ch (by rw [chF_length l k hk])
      rw [ST] at O2
      have O3 := Lib.hid O2
      have B3 := Lib.hid (((hb.out.alloc (by omega) (.cells #[.bool sd, .int .i64 ch, .int .u64 vl] 69)).setCell (p := ⟨w.heap.size, k, none⟩) (Nat.le_refl _) (.int .i64 ch)))
      generalize (chF l k).getD k 0 = x0 at *
      clear O1 O2 ST hx
      go_wp2
      go_roundw
      case rel => exact ⟨k + 1, by omega, by go_num, O3.out, B3.out, by simp; omega⟩
      case measure => simp [intOf]; omega
    · obtain rfl : k = l.length := by omega
      have E := Lib.hid (chF_full l)
      go_wp2
      go_ret
      exact ⟨rfl, by rw [← E.out]; exact ho.out, hb.out⟩
end Go.Proofs.Ytkciejealeinoaa
