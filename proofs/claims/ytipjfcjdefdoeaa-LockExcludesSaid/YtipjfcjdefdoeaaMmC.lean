/- The library's small functions on slices: Clone, Grow of nil, Concat, Index. -/
import Derived.Test.YtipjfcjdefdoeaaMmO
import Derived.Shelf.RegionOpenPlain
import Derived.Lib.SliceRun
import Derived.Deep.LoopGhost
import Derived.Deep.QuietTactic
import Derived.BigQuiet
namespace Go.Proofs.Ytipjfcjdefdoeaa
open Go.ChangeShapes Go.WideShapes Go.ChangeAt Go.RowKit
set_option maxRecDepth 100000

theorem SlI.nil_of {w : World} {k : IntKind} {n c : Nat} {l : List Int} (h : SlI w k (.slice none n c) l) : l = [] := by
  obtain ⟨_, _, a', cap', e, _, h5⟩ := h
  simp only [Value.slice.injEq] at e
  rcases Nat.eq_zero_or_pos l.length with h0 | h0
  · exact List.length_eq_zero_iff.1 h0
  · obtain ⟨b, off, e2, _⟩ := h5 0 h0
    rw [← e.1] at e2; cases e2
theorem SlL.nil_of {w : World} {n c : Nat} {us : List Value} {l : List (List Int)} (h : SlL w (.slice none n c) us l) : l = [] := by
  obtain ⟨_, _, a', cap', e, _, h5⟩ := h
  simp only [Value.slice.injEq] at e
  rcases Nat.eq_zero_or_pos l.length with h0 | h0
  · exact List.length_eq_zero_iff.1 h0
  · obtain ⟨b, off, e2, _⟩ := h5 0 h0
    rw [← e.1] at e2; cases e2
set_option maxHeartbeats 1000000 in
theorem cloneU_any (v : Value) (l : List Int) (w : World) (h : SlI w .u64 v l) (hl : l.length ≤ 1000000) :
    Calls Try.prog 93 #[v] w fun e w' => ∃ v', e = .returned v' ∧ OwnI w' w.heap.size 32 .u64 v' l ∧ Below w.heap.size w w' := by
  obtain ⟨a, cap, e, hcap⟩ := h.len
  have H := Lib.hid h
  have HL := Lib.hid hl
  clear h hl
  have q0 : ∀ (w : World) (a : Option Addr) (n c n' c' : Nat), (binOp .eql 26 (.slice a n c) (.slice none n' c')).run Try.prog w = .ok (.bool a.isNone) w := fun w a n c n' c' => Lib.run_eql_slice_nil w _ _ a n c n' c' Try.underlying26
  cases a with
  | none =>
    subst e
    have hl0 := H.out.nil_of
    subst hl0
    go_enter Try.func93, Try.ntmps93
    go_wp2
    go_ret
    exact ⟨_, rfl, OwnI.nil _ _ _ _, Below.refl _ _⟩
  | some p =>
    subst e
    generalize hn : l.length = n at *
    have HN := Lib.hid hn
    clear hn
    have hnew : Hid (SlI (w.alloc (.cells #[] 32)) .u64 (.slice (some p) n cap) l) := H.out.below (below_new (Below.refl _ _) _)
    obtain ⟨v', w', hr, h1, h2⟩ := run_copy_u64 (w.alloc (.cells #[] 32)) 26 w.heap.size (by simp) (.slice (some ⟨w.heap.size, 0, none⟩) 0 0) (World.ownsRow_made w #[] 0 (Nat.le_refl _) (Nat.zero_le _) rfl) _ l hnew.out (by rw [HN.out]; exact HL.out)
    have H1 := Lib.hid h1
    have H2 := Lib.hid h2
    clear h1 h2
    go_enter Try.func93, Try.ntmps93
    go_wp2_with (at_builtin; refine Lib.wpList_append_run _ rfl _ _ _ _ rfl _ _ rfl rfl _ _ hr ?_)
    go_ret
    exact ⟨v', rfl, H1.out, below_grown (below_new (Below.refl _ _) _) H2.out (Nat.le_refl _)⟩
set_option maxHeartbeats 1000000 in
theorem cloneL_any (v : Value) (us : List Value) (ll : List (List Int)) (w : World) (h : SlL w v us ll) (hl : ll.length ≤ 1000000) :
    Calls Try.prog 92 #[v] w fun e w' => ∃ v', e = .returned v' ∧ w'.ownsRow w.heap.size 36 1 v' ll.length us ∧ Below w.heap.size w w' := by
  obtain ⟨a, cap, e, hcap⟩ := h.len
  have H := Lib.hid h
  have HL := Lib.hid hl
  have hus := h.2.1
  clear h hl
  have q0 : ∀ (w : World) (a : Option Addr) (n c n' c' : Nat), (binOp .eql 27 (.slice a n c) (.slice none n' c')).run Try.prog w = .ok (.bool a.isNone) w := fun w a n c n' c' => Lib.run_eql_slice_nil w _ _ a n c n' c' Try.underlying27
  cases a with
  | none =>
    subst e
    have hl0 := H.out.nil_of
    subst hl0
    obtain rfl : us = [] := List.length_eq_zero_iff.1 hus
    go_enter Try.func92, Try.ntmps92
    go_wp2
    go_ret
    exact ⟨_, rfl, World.ownsRow_nil _ _ _ _, Below.refl _ _⟩
  | some p =>
    subst e
    clear hus
    generalize hn : ll.length = n at *
    have HN := Lib.hid hn
    clear hn
    obtain ⟨v', w', hr, h1, h2⟩ := run_copy_li (w.alloc (.cells #[] 36)) 27 w.heap.size (by simp) (.slice (some ⟨w.heap.size, 0, none⟩) 0 0) (World.ownsRow_made w #[] 0 (Nat.le_refl _) (Nat.zero_le _) rfl) _ us ll (H.out.below (below_new (Below.refl _ _) _)) (by rw [HN.out]; exact HL.out)
    rw [HN.out] at h1
    have H1 := Lib.hid h1
    have H2 := Lib.hid h2
    clear h1 h2
    go_enter Try.func92, Try.ntmps92
    go_wp2_with (at_builtin; refine Lib.wpList_append_run _ rfl _ _ _ _ rfl _ _ rfl rfl _ _ hr ?_)
    go_ret
    exact ⟨v', rfl, H1.out, below_grown (below_new (Below.refl _ _) _) H2.out (Nat.le_refl _)⟩
/-- x first lies at i -/
structure FstL (l : List Int) (x : Int) (i : Nat) : Prop where
  lt : i < l.length
  hit : l.getD i 0 = x
  miss : ∀ j, j < i → l.getD j 0 ≠ x
theorem erase_none (l : List Int) (x : Int) (h : ∀ j, j < l.length → l.getD j 0 ≠ x) : l.erase x = l := by
  refine List.erase_of_not_mem fun hm => ?_
  obtain ⟨j, hj, e⟩ := List.mem_iff_getElem.1 hm
  exact h j hj (by simpa [List.getD_eq_getElem?_getD, hj] using e)
theorem FstL.erase {l : List Int} {x : Int} {i : Nat} (h : FstL l x i) : l.erase x = l.take i ++ l.drop (i + 1) := by
  induction l generalizing i with
  | nil => exact absurd h.lt (by simp)
  | cons y l ih =>
    cases i with
    | zero =>
      have e : y = x := by simpa using h.hit
      subst e
      simp
    | succ i =>
      have e : y ≠ x := by simpa using h.miss 0 (Nat.succ_pos _)
      have hi : FstL l x i := ⟨by simpa using h.lt, by simpa using h.hit, fun j hj => by simpa using h.miss (j + 1) (by omega)⟩
      rw [List.erase_cons_tail (by simpa using e), ih hi]
      simp
def IdxR (l : List Int) (x : Int) (w : World) (e : Ending) (w' : World) : Prop :=
  ∃ r : Int, e = .returned (.int .i64 r) ∧ ((r = -1 ∧ ∀ j, j < l.length → l.getD j 0 ≠ x) ∨ ∃ i : Nat, r = i ∧ FstL l x i) ∧ w = w'
set_option maxHeartbeats 1000000 in
theorem sindex_any (v : Value) (l : List Int) (x : Int) (w : World) (h : SlI w .i64 v l) (hl : l.length ≤ 1000000) :
    Calls Try.prog 71 #[v, .int .i64 x] w (IdxR l x w) := by
  obtain ⟨a, cap, rfl, hcap⟩ := h.len
  have H := Lib.hid h
  clear h
  generalize hn : l.length = n at *
  have HN := Lib.hid hn
  clear hn
  go_enter Try.func71, Try.ntmps71
  go_wp2
  go_loop [8] (fun i => ∃ k : Nat, k ≤ n ∧ i = .int .i64 k ∧ Hid (∀ j, j < k → l.getD j 0 ≠ x)) (fun i => n - (intOf i).toNat)
  case atStart => exact ⟨0, Nat.zero_le _, rfl, fun j hj => absurd hj (Nat.not_lt_zero _)⟩
  case round =>
    obtain ⟨k, hk, rfl, hm⟩ := hrel
    by_cases hlt : k < n
    · obtain ⟨_, _, a', cap', e, _, h5⟩ := H.out
      obtain ⟨b, off, rfl, hb, hc⟩ := h5 k (by rw [HN.out]; exact hlt)
      simp only [Value.slice.injEq] at e
      obtain ⟨rfl, -, rfl⟩ := e
      clear h5
      obtain ⟨y, hy⟩ : ∃ y, l.getD k 0 = y := ⟨_, rfl⟩
      rw [hy] at hc
      by_cases hx : l.getD k 0 = x
      · have hx2 : (x == y) = true := by rw [← hy]; simpa using hx.symm
        clear hy
        have HX := Lib.hid hx
        clear hx
        go_wp2
        go_ret
        exact ⟨k, rfl, .inr ⟨k, rfl, by rw [HN.out]; exact hlt, HX.out, hm.out⟩, rfl⟩
      · have hx2 : (x == y) = false := by rw [← hy]; simpa using fun e => hx e.symm
        clear hy
        have HX := Lib.hid hx
        clear hx
        go_wp2
        go_round
        case rel => exact ⟨k + 1, by omega, by go_num, fun j hj => by
          by_cases e : j = k
          · subst e; exact HX.out
          · exact hm.out j (by omega)⟩
        case measure => simp [intOf]; omega
    · go_wp2
      go_ret
      exact ⟨-1, rfl, .inl ⟨rfl, fun j hj => hm.out j (by have := HN.out; omega)⟩, rfl⟩
/-- Grow of nil: nothing, or an empty row with some room -/
theorem grow_nil (n : Nat) (w : World) (hn : n ≤ 1000000) :
    Calls Try.prog 91 #[.slice none 0 0, .int .i64 n] w fun e w' => ∃ v', e = .returned v' ∧ OwnI w' w.heap.size 3 .i64 v' [] ∧ Below w.heap.size w w' := by
  by_cases h0 : n = 0
  · subst h0
    go_enter Try.func91, Try.ntmps91
    go_wp2
    go_ret
    exact ⟨_, rfl, OwnI.nil _ _ _ _, Below.refl _ _⟩
  · have hpos : 0 < (n : Int) := by omega
    obtain ⟨i0, hi, hz0, hz1, hz2⟩ := info_parts Try.info_i64
    have hr := fun ty => Lib.run_append_nil_zeros (P := Try.prog) w 36 3 ty 3 i0 (.int .i64 0) .i64 .i64 Try.underlying36 Try.underlying3 hi hz0 n (by omega) (by rw [hz1]; omega) (by omega) (by rw [hz2]; omega)
    have hge := grownCap_ge w n 0 3
    have hle := grownCap_le_maxLen w n 0 3 (by unfold maxLen; omega)
    generalize grownCap w n 0 3 = c at *
    have hown : Hid (OwnI (w.drew.alloc (.cells (Builtin.zeroCells (Value.int .i64 0).cells n ++ Builtin.zeroCells (Value.int .i64 0).cells (c - n)) 3)) w.heap.size 3 .i64 (.slice (some ⟨w.heap.size, 0, none⟩) 0 c) []) := by
      show OwnI _ _ _ _ _ _
      exact World.ownsRow_made w.drew _ c (Nat.le_refl _) hle (by simp [Builtin.zeroCells, Value.cells]; omega)
    have hb : Hid (Below w.heap.size w (w.drew.alloc (.cells (Builtin.zeroCells (Value.int .i64 0).cells n ++ Builtin.zeroCells (Value.int .i64 0).cells (c - n)) 3))) := below_new (below_drewN (Below.refl _ _) 1) _
    unfold maxLen at hle
    go_enter Try.func91, Try.ntmps91
    go_wp2_with (at_builtin; refine Lib.wpList_append_run _ rfl _ _ _ _ rfl _ _ rfl rfl _ _ (hr _) ?_)
    go_ret
    exact ⟨_, rfl, hown.out, hb.out⟩
theorem below_trans_grown {B : Nat} {w a b : World} {row : Option Nat} (h : Below B w a) (hg : a.grownBy b row) (hr : ∀ j, row = some j → B ≤ j) (hB : B ≤ a.heap.size := by first | exact h.size | omega) : Below B w b := h.grown hg hB hr
theorem flat_take (ll : List (List Int)) (k : Nat) (hk : k < ll.length) : (ll.take (k + 1)).flatten = (ll.take k).flatten ++ ll.getD k [] := by
  rw [List.take_succ_eq_append_getElem hk, List.flatten_append]
  simp [List.getD_eq_getElem?_getD, hk]
set_option maxHeartbeats 4000000 in
theorem concat_any (v : Value) (us : List Value) (ll : List (List Int)) (w : World) (h : SlL w v us ll) (hl : ll.length ≤ 10) (hf : ll.flatten.length ≤ 900000) :
    Calls Try.prog 69 #[v] w fun e w' => ∃ v', e = .returned v' ∧ OwnI w' w.heap.size 3 .i64 v' ll.flatten ∧ Below w.heap.size w w' := by
  obtain ⟨a, cap, rfl, hcap⟩ := h.len
  have H := Lib.hid h
  have HF : Hid (∀ k, k < ll.length → (ll.take (k + 1)).flatten.length = (ll.take k).flatten.length + (ll.getD k []).length ∧ (ll.take (k + 1)).flatten.length ≤ 900000 ∧ (ll.take (k + 1)).flatten = (ll.take k).flatten ++ ll.getD k []) := fun k hk => by
    have e := flat_take ll k hk
    refine ⟨by rw [e, List.length_append], ?_, e⟩
    refine Nat.le_trans ?_ hf
    conv => rhs; rw [← List.take_append_drop (k + 1) ll, List.flatten_append, List.length_append]
    omega
  have HA : Hid ((ll.take ll.length).flatten = ll.flatten) := by show _ = _; rw [List.take_length]
  have HZ : Hid ((ll.take 0).flatten = []) := by show _ = _; simp
  clear h
  generalize hn : ll.length = n at *
  have HN := Lib.hid hn
  clear hn
  go_enter Try.func69, Try.ntmps69
  go_wp2
  go_loop [3, 11] (fun s i => ∃ k : Nat, k ≤ n ∧ i = .int .i64 k ∧ s = .int .i64 ((ll.take k).flatten.length : Nat)) (fun _ i => n - (intOf i).toNat)
  case atStart => exact ⟨0, Nat.zero_le _, rfl, by rw [HZ.out]; rfl⟩
  case round =>
    obtain ⟨k, hk, rfl, rfl⟩ := hrel
    by_cases hlt : k < n
    · obtain ⟨hf1, hf2, hf3⟩ := HF.out k hlt
      obtain ⟨_, _, a', cap', e, _, h5⟩ := H.out
      obtain ⟨b, off, rfl, hb, hc, hu⟩ := h5 k (by rw [HN.out]; exact hlt)
      generalize us.getD k (.slice none 0 0) = u at *
      simp only [Value.slice.injEq] at e
      obtain ⟨rfl, -, rfl⟩ := e
      obtain ⟨ua, uc, rfl, -⟩ := hu.len
      clear h5 hu hf3
      have HF1 := Lib.hid hf1
      have h12 : (ll.take k).flatten.length + (ll.getD k []).length ≤ 900000 := by omega
      clear hf1 hf2
      generalize (ll.take k).flatten.length = s1 at *
      generalize (ll.getD k []).length = s3 at *
      go_wp2
      go_round
      case rel => exact ⟨k + 1, by omega, by go_num, by rw [HF1.out]; go_num⟩
      case measure => simp [intOf]; omega
    · obtain rfl : k = n := by omega
      have hf' : (ll.take k).flatten.length ≤ 900000 := by rw [HA.out]; exact hf
      generalize (ll.take k).flatten.length = tot at *
      go_wp2_with fail
      refine (grow_nil tot _ (by omega)).mono ?_; rintro e w1 ⟨v', rfl, ho, hb⟩
      have HO := Lib.hid ho
      have HB := Lib.hid hb
      clear ho hb
      go_wp2_with fail
      go_loopw [6, 27] (fun r i wr => ∃ j : Nat, j ≤ k ∧ i = .int .i64 j ∧ Hid (OwnI wr w.heap.size 3 .i64 r (ll.take j).flatten) ∧ Hid (Below w.heap.size w wr)) (fun _ i _ => k - (intOf i).toNat)
      case atStart => exact ⟨0, Nat.zero_le _, rfl, by rw [HZ.out]; exact HO, HB⟩
      case round =>
        obtain ⟨j, hj, rfl, hO, hB⟩ := hrel
        obtain ⟨wo, rfl⟩ : ∃ wo : World, wo = wr := ⟨_, rfl⟩
        by_cases hlt : j < k
        · have hf3 := (HF.out j hlt).2
          obtain ⟨_, _, a', cap', e, _, h5⟩ := H.out.below hB.out
          obtain ⟨b, off, rfl, hb, hc, hu⟩ := h5 j (by rw [HN.out]; exact hlt)
          generalize us.getD j (.slice none 0 0) = u at *
          simp only [Value.slice.injEq] at e
          obtain ⟨rfl, -, rfl⟩ := e
          have HU := Lib.hid hu
          have HE := Lib.hid hf3.2
          have L1 : Hid ((ll.take j).flatten.length ≤ 1000000 ∧ (ll.getD j []).length ≤ 1000000) := by
            have h1 := hf3.1
            have h2 := (HF.out j hlt).1
            show _ ∧ _
            omega
          have hz := hB.out.size
          clear h5 hu hf3
          go_wp2_with (at_builtin; refine wp_app_i64 _ rfl _ _ rfl w.heap.size _ _ rfl hO.out _ _ rfl HU.out L1.out.1 L1.out.2 hz ?_; intro v2 w2 h1 h2; have H1 := Lib.hid h1; have H2 := Lib.hid h2; clear h1 h2)
          go_roundw
          case rel => exact ⟨j + 1, by omega, by go_num, by rw [HE.out]; exact H1, below_trans_grown hB.out H2.out hO.out.own_ge⟩
          case measure => simp [intOf]; omega
        · obtain rfl : j = k := by omega
          go_wp2
          go_ret
          exact ⟨_, rfl, by rw [← HA.out]; exact hO.out, hB.out⟩
end Go.Proofs.Ytipjfcjdefdoeaa
