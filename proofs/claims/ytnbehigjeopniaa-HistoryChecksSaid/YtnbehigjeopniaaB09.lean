import Derived.Deep.RegionHeld3
import Derived.Deep.RegionLaw
import Derived.Test.YtnbehigjeopniaaB08
import Derived.Test.YtnbehigjeopniaaB02
import Derived.Test.YtnbehigjeopniaaB01
set_option linter.unusedVariables false
set_option linter.unusedSimpArgs false
/- The reader of choices: configurations. -/
namespace Go.Proofs.Ytnbehigjeopniaa
open Go.ChangeShapes Go.WideShapes Go.ChangeAt Go.RowKit
set_option maxRecDepth 100000
def capsArr : Array Value := #[.int .i64 0, .int .i64 1, .int .i64 2, .int .i64 0, .int .i64 1, .int .i64 3]
def startsArr : Array Value := #[.int .u64 0, .int .u64 1, .int .u64 9223372036854775807, .int .u64 9223372036854775806, .int .u64 4611686018427387904, .int .u64 5]
/-- while a configuration is built: the reader, the two tables, the variable in block R + 3 with its two lists -/
structure CfgInv (w0 w : World) (g : Nat) (val : Int) (R : Nat) (vc vs : Value) (caps starts r : List Int) : Prop where
  lt : g < R
  eq : R = w0.heap.size
  codes : CodesAt w g r val
  grown : w0.grownBy w (some g)
  res : w.heap[R]? = some (.cells #[.slice none 0 0, .slice none 0 0, .int .i64 0] 60 (0, 0))
  lc : w.heap[R + 1]? = some (.cells capsArr 3 (0, 0))
  ls : w.heap[R + 2]? = some (.cells startsArr 30 (0, 0))
  box : w.heap[R + 3]? = some (.cells #[vc, vs, .int .i64 0] 60 (0, 0))
  oc : OwnI w (R + 4) 3 .i64 vc caps
  os : OwnI w (R + 4) 30 .u64 vs starts
theorem CfgInv.size {w0 w : World} {g : Nat} {val : Int} {R : Nat} {vc vs : Value} {caps starts r : List Int} (h : CfgInv w0 w g val R vc vs caps starts r) : R + 4 ≤ w.heap.size :=
  (Array.getElem?_eq_some_iff.1 h.box).1
theorem CfgInv.next {w0 w w' : World} {g : Nat} {val : Int} {R : Nat} {vc vs : Value} {caps starts r r' : List Int} (h : CfgInv w0 w g val R vc vs caps starts r) (hc : CodesAt w' g r' val) (hg : w.grownBy w' (some g)) :
    CfgInv w0 w' g val R vc vs caps starts r' := by
  have hs := h.size
  have hl := h.lt
  have b : ∀ j, R ≤ j → j < R + 4 → w'.heap[j]? = w.heap[j]? := fun j h1 h2 => hg.block j (by omega) (by simp; omega)
  exact ⟨hl, h.eq, hc, grownBy_trans h.grown hg, (b R (by omega) (by omega)).trans h.res, (b (R + 1) (by omega) (by omega)).trans h.lc, (b (R + 2) (by omega) (by omega)).trans h.ls, (b (R + 3) (by omega) (by omega)).trans h.box,
    h.oc.kept hg (h.oc.ne (by omega)), h.os.kept hg (h.os.ne (by omega))⟩
theorem own_apart {w : World} {b1 b2 : Nat} {e1 e2 : TypeId} {k1 k2 : IntKind} {v1 v2 : Value} {l1 l2 : List Int} (h1 : OwnI w b1 e1 k1 v1 l1) (h2 : OwnI w b2 e2 k2 v2 l2) (he : e1 ≠ e2) : v1.ownBlock = none ∨ v1.ownBlock ≠ v2.ownBlock := by
  rcases h1.2 with ⟨rfl, _⟩ | ⟨g, cap, cur, rfl, _, hg, _⟩
  · exact .inl rfl
  · rcases h2.2 with ⟨rfl, _⟩ | ⟨g', cap', cur', rfl, _, hg', _⟩
    · exact .inr (by simp [Value.ownBlock])
    · refine .inr ?_
      simp only [Value.ownBlock, ne_eq, Option.some.injEq]
      intro e
      rw [e, hg'] at hg
      simp at hg
      exact he hg.2.symm
theorem CfgInv.spot {w0 w w1 : World} {g : Nat} {val : Int} {R : Nat} {vc vs : Value} {caps starts r : List Int} {row : Option Nat} (h : CfgInv w0 w g val R vc vs caps starts r) (o : Obj) (hg : (w.alloc o).grownBy w1 row) (hge : ∀ j, row = some j → R + 4 ≤ j) :
    (w1.cell? ⟨R + 3, 0, none⟩ = some vc ∧ w1.frozen? ⟨R + 3, 0, none⟩ = false) ∧ (w1.cell? ⟨R + 3, 1, none⟩ = some vs ∧ w1.frozen? ⟨R + 3, 1, none⟩ = false) := by
  have hs := h.size
  have hb : Below (R + 4) w w1 := ((Below.refl (R + 4) w).alloc hs o).grown hg (by simp; omega) hge
  have hbox := (hb.block (R + 3) (by omega)).trans h.box
  exact ⟨⟨cell_of_row w1 (R + 3) 0 _ _ _ hbox, frozen_of_row w1 (R + 3) 0 _ _ hbox⟩, ⟨cell_of_row w1 (R + 3) 1 _ _ _ hbox, frozen_of_row w1 (R + 3) 1 _ _ hbox⟩⟩
theorem OwnI.shape_ne {w : World} {base : Nat} {e : TypeId} {k : IntKind} {v : Value} {l : List Int} {y : Int} (h : OwnI w base e k v (l ++ [y])) : ∃ g cap, v = .slice (some ⟨g, 0, none⟩) (l.length + 1) cap := by
  rcases h.shape with ⟨_, h1⟩ | ⟨g, cap, h1, _⟩
  · exact absurd h1 (by simp)
  · exact ⟨g, cap, by simpa using h1⟩
/-- one more capacity: what was appended is stored in the variable -/
theorem CfgInv.addCap {w0 w w1 : World} {g : Nat} {val : Int} {R : Nat} {vc vs vc' : Value} {caps starts r caps' : List Int} (h : CfgInv w0 w g val R vc vs caps starts r) (o : Obj) (ho : OwnI w1 (R + 4) 3 .i64 vc' caps') (hg : (w.alloc o).grownBy w1 vc.ownBlock) :
    CfgInv w0 (w1.setCell ⟨R + 3, 0, none⟩ vc') g val R vc' vs caps' starts r := by
  have hs := h.size
  have hl := h.lt
  have hge : ∀ j, vc.ownBlock = some j → R + 4 ≤ j := h.oc.own_ge
  have hb : Below (R + 4) w w1 := ((Below.refl (R + 4) w).alloc hs o).grown hg (by simp; omega) hge
  have b : ∀ j, j < R + 4 → w1.heap[j]? = w.heap[j]? := fun j h1 => hb.block j h1
  have b2 : ∀ j, j ≠ R + 3 → (w1.setCell ⟨R + 3, 0, none⟩ vc').heap[j]? = w1.heap[j]? := fun j hj => heap_setCell_other w1 ⟨R + 3, 0, none⟩ j _ hj
  have hbox := (b (R + 3) (by omega)).trans h.box
  have hos : OwnI w1 (R + 4) 30 .u64 vs starts := (h.os.alloc o).kept hg (own_apart (h.os.alloc o) (h.oc.alloc o) (by decide))
  have hsb : Below (R + 3) w1 (w1.setCell ⟨R + 3, 0, none⟩ vc') := (Below.refl (R + 3) w1).setCell (p := ⟨R + 3, 0, none⟩) (Nat.le_refl _) _
  refine ⟨hl, h.eq, (h.codes.kept (B := R + 4) (by omega) hb).kept (B := R + 3) (by omega) hsb, ?_, (b2 R (by omega)).trans ((b R (by omega)).trans h.res), (b2 (R + 1) (by omega)).trans ((b (R + 1) (by omega)).trans h.lc), (b2 (R + 2) (by omega)).trans ((b (R + 2) (by omega)).trans h.ls), ?_,
    ho.kept (grownBy_setCell w1 ⟨R + 3, 0, none⟩ vc') (ho.ne (by simp)), hos.kept (grownBy_setCell w1 ⟨R + 3, 0, none⟩ vc') (hos.ne (by simp))⟩
  · have e := h.eq
    exact grownBy_of_below (grownBy_of_below h.grown (hb.mono (by omega))) ((hsb).mono (by omega))
  · have := heap_setCell_same w1 (R + 3) 0 _ _ vc' hbox
    simpa using this
theorem CfgInv.addStart {w0 w w1 : World} {g : Nat} {val : Int} {R : Nat} {vc vs vs' : Value} {caps starts r starts' : List Int} (h : CfgInv w0 w g val R vc vs caps starts r) (o : Obj) (ho : OwnI w1 (R + 4) 30 .u64 vs' starts') (hg : (w.alloc o).grownBy w1 vs.ownBlock) :
    CfgInv w0 (w1.setCell ⟨R + 3, 1, none⟩ vs') g val R vc vs' caps starts' r := by
  have hs := h.size
  have hl := h.lt
  have hge : ∀ j, vs.ownBlock = some j → R + 4 ≤ j := h.os.own_ge
  have hb : Below (R + 4) w w1 := ((Below.refl (R + 4) w).alloc hs o).grown hg (by simp; omega) hge
  have b : ∀ j, j < R + 4 → w1.heap[j]? = w.heap[j]? := fun j h1 => hb.block j h1
  have b2 : ∀ j, j ≠ R + 3 → (w1.setCell ⟨R + 3, 1, none⟩ vs').heap[j]? = w1.heap[j]? := fun j hj => heap_setCell_other w1 ⟨R + 3, 1, none⟩ j _ hj
  have hbox := (b (R + 3) (by omega)).trans h.box
  have hoc : OwnI w1 (R + 4) 3 .i64 vc caps := (h.oc.alloc o).kept hg (own_apart (h.oc.alloc o) (h.os.alloc o) (by decide))
  have hsb : Below (R + 3) w1 (w1.setCell ⟨R + 3, 1, none⟩ vs') := (Below.refl (R + 3) w1).setCell (p := ⟨R + 3, 1, none⟩) (Nat.le_refl _) _
  refine ⟨hl, h.eq, (h.codes.kept (B := R + 4) (by omega) hb).kept (B := R + 3) (by omega) hsb, ?_, (b2 R (by omega)).trans ((b R (by omega)).trans h.res), (b2 (R + 1) (by omega)).trans ((b (R + 1) (by omega)).trans h.lc), (b2 (R + 2) (by omega)).trans ((b (R + 2) (by omega)).trans h.ls), ?_,
    hoc.kept (grownBy_setCell w1 ⟨R + 3, 1, none⟩ vs') (hoc.ne (by simp)), ho.kept (grownBy_setCell w1 ⟨R + 3, 1, none⟩ vs') (ho.ne (by simp))⟩
  · have e := h.eq
    exact grownBy_of_below (grownBy_of_below h.grown (hb.mono (by omega))) ((hsb).mono (by omega))
  · have := heap_setCell_same w1 (R + 3) 1 _ _ vs' hbox
    simpa using this
theorem undrew {a b : World} {row : Option Nat} (h : a.drew.grownBy b row) : a.grownBy b row := ⟨h.os, h.tape, h.output, h.size, h.block⟩
theorem nxt_nat (r : List Int) (n : Int) (h : 1 ≤ n) : ∃ p : Nat, nxt r n = p ∧ (p : Int) < n := by
  have := nxt_bd r n (by omega)
  exact ⟨(nxt r n).toNat, by omega, by omega⟩
theorem caps_at (w : World) (b p : Nat) (hp : p < 6) (h : w.heap[b]? = some (.cells capsArr 3 (0, 0))) : ∃ q : Int, w.cell? ⟨b, p, none⟩ = some (.int .i64 q) ∧ 0 ≤ q ∧ q ≤ 3 := by
  rw [cell_of_row w b p _ _ _ h]
  obtain rfl | rfl | rfl | rfl | rfl | rfl : p = 0 ∨ p = 1 ∨ p = 2 ∨ p = 3 ∨ p = 4 ∨ p = 5 := by omega
  all_goals exact ⟨_, rfl, by decide, by decide⟩
theorem starts_at (w : World) (b p : Nat) (hp : p < 6) (h : w.heap[b]? = some (.cells startsArr 30 (0, 0))) : ∃ q : Int, w.cell? ⟨b, p, none⟩ = some (.int .u64 q) ∧ Hid (0 ≤ q ∧ q < 9223372036854775808) := by
  rw [cell_of_row w b p _ _ _ h]
  obtain rfl | rfl | rfl | rfl | rfl | rfl : p = 0 ∨ p = 1 ∨ p = 2 ∨ p = 3 ∨ p = 4 ∨ p = 5 := by omega
  all_goals exact ⟨_, rfl, Lib.hid (by decide)⟩
def CfgOk (caps starts : List Int) (k : Nat) : Prop := caps.length = k ∧ starts.length = k ∧ (∀ x ∈ caps, 0 ≤ x ∧ x ≤ 3) ∧ ∀ x ∈ starts, 0 ≤ x ∧ x < 9223372036854775808
theorem CfgOk.snoc {caps starts : List Int} {k : Nat} (h : CfgOk caps starts k) (q s : Int) (hq : 0 ≤ q ∧ q ≤ 3) (hs : 0 ≤ s ∧ s < 9223372036854775808) : CfgOk (caps ++ [q]) (starts ++ [s]) (k + 1) := by
  obtain ⟨h1, h2, h3, h4⟩ := h
  refine ⟨by simp [h1], by simp [h2], fun x hx => ?_, fun x hx => ?_⟩
  · simp at hx; rcases hx with hx | rfl
    · exact h3 x hx
    · exact hq
  · simp at hx; rcases hx with hx | rfl
    · exact h4 x hx
    · exact hs
theorem CfgInv.start (w : World) (g : Nat) (r : List Int) (val : Int) (h : CodesAt w g r val) :
    CfgInv w ((((w.alloc (.cells #[.slice none 0 0, .slice none 0 0, .int .i64 0] 60)).alloc (.cells capsArr 3)).alloc (.cells startsArr 30)).alloc (.cells #[.slice none 0 0, .slice none 0 0, .int .i64 0] 60))
      g val w.heap.size (.slice none 0 0) (.slice none 0 0) [] [] r := by
  have hb : Below w.heap.size w ((((w.alloc (.cells #[.slice none 0 0, .slice none 0 0, .int .i64 0] 60)).alloc (.cells capsArr 3)).alloc (.cells startsArr 30)).alloc (.cells #[.slice none 0 0, .slice none 0 0, .int .i64 0] 60)) :=
    below_new (below_new (below_new (below_new (Below.refl _ _) _) _) _) _
  refine ⟨h.lt, rfl, h.kept h.lt hb, grownBy_of_below (grownBy_refl _ _) hb, ?_, ?_, ?_, ?_, OwnI.nil _ _ _ _, OwnI.nil _ _ _ _⟩
  · rw [heap_alloc_old _ _ (by simp <;> omega), heap_alloc_old _ _ (by simp <;> omega), heap_alloc_old _ _ (by simp <;> omega), heap_alloc_new]
  · rw [heap_alloc_old _ _ (by simp <;> omega), heap_alloc_old _ _ (by simp <;> omega)]
    have := heap_alloc_new (w.alloc (.cells #[.slice none 0 0, .slice none 0 0, .int .i64 0] 60)) (.cells capsArr 3)
    simpa using this
  · rw [heap_alloc_old _ _ (by simp <;> omega)]
    have := heap_alloc_new ((w.alloc (.cells #[.slice none 0 0, .slice none 0 0, .int .i64 0] 60)).alloc (.cells capsArr 3)) (.cells startsArr 30)
    simpa using this
  · have := heap_alloc_new (((w.alloc (.cells #[.slice none 0 0, .slice none 0 0, .int .i64 0] 60)).alloc (.cells capsArr 3)).alloc (.cells startsArr 30)) (.cells #[.slice none 0 0, .slice none 0 0, .int .i64 0] 60)
    simpa using this
theorem CfgInv.fin {w0 w : World} {g : Nat} {val : Int} {R k : Nat} {vc vs : Value} {caps starts r : List Int} (h : CfgInv w0 w g val R vc vs caps starts r) (hok : CfgOk caps starts k) (hk : k ≤ 100) (a b c d : Value) :
    SlI ((((w.setCell ⟨R + 3, 2, none⟩ a).setCell ⟨R, 0, none⟩ b).setCell ⟨R, 1, none⟩ c).setCell ⟨R, 2, none⟩ d) .i64 vc caps ∧
    SlI ((((w.setCell ⟨R + 3, 2, none⟩ a).setCell ⟨R, 0, none⟩ b).setCell ⟨R, 1, none⟩ c).setCell ⟨R, 2, none⟩ d) .u64 vs starts ∧
    CodesAt ((((w.setCell ⟨R + 3, 2, none⟩ a).setCell ⟨R, 0, none⟩ b).setCell ⟨R, 1, none⟩ c).setCell ⟨R, 2, none⟩ d) g r val ∧
    w0.grownBy ((((w.setCell ⟨R + 3, 2, none⟩ a).setCell ⟨R, 0, none⟩ b).setCell ⟨R, 1, none⟩ c).setCell ⟨R, 2, none⟩ d) (some g) ∧
    OwnI ((((w.setCell ⟨R + 3, 2, none⟩ a).setCell ⟨R, 0, none⟩ b).setCell ⟨R, 1, none⟩ c).setCell ⟨R, 2, none⟩ d) (R + 4) 3 .i64 vc caps ∧ OwnI ((((w.setCell ⟨R + 3, 2, none⟩ a).setCell ⟨R, 0, none⟩ b).setCell ⟨R, 1, none⟩ c).setCell ⟨R, 2, none⟩ d) (R + 4) 30 .u64 vs starts := by
  obtain ⟨o1, o2, o3, o4⟩ := hok
  have hb : Below R w ((((w.setCell ⟨R + 3, 2, none⟩ a).setCell ⟨R, 0, none⟩ b).setCell ⟨R, 1, none⟩ c).setCell ⟨R, 2, none⟩ d) :=
    ((((Below.refl R w).setCell (p := ⟨R + 3, 2, none⟩) (by simp) a).setCell (p := ⟨R, 0, none⟩) (Nat.le_refl _) b).setCell (p := ⟨R, 1, none⟩) (Nat.le_refl _) c).setCell (p := ⟨R, 2, none⟩) (Nat.le_refl _) d
  have keep : ∀ {e k v l}, OwnI w (R + 4) e k v l → OwnI ((((w.setCell ⟨R + 3, 2, none⟩ a).setCell ⟨R, 0, none⟩ b).setCell ⟨R, 1, none⟩ c).setCell ⟨R, 2, none⟩ d) (R + 4) e k v l := fun ho => by
    have h1 := ho.kept (grownBy_setCell w ⟨R + 3, 2, none⟩ a) (ho.ne (by simp))
    have h2 := h1.kept (grownBy_setCell _ ⟨R, 0, none⟩ b) (h1.ne (by simp))
    have h3 := h2.kept (grownBy_setCell _ ⟨R, 1, none⟩ c) (h2.ne (by simp))
    exact h3.kept (grownBy_setCell _ ⟨R, 2, none⟩ d) (h3.ne (by simp))
  refine ⟨(keep h.oc).read (by omega) fun x hx => ?_, (keep h.os).read (by omega) fun x hx => ?_, h.codes.kept h.lt hb, grownBy_of_below h.grown (hb.mono (by rw [h.eq]; exact Nat.le_refl _)), keep h.oc, keep h.os⟩
  · have := o3 x hx; exact i64_ok x (by omega) (by omega)
  · have := o4 x hx; rw [IntKind.wrap_u64]; omega
set_option maxRecDepth 100000 in
set_option maxHeartbeats 1000000 in
theorem config_own (g : Nat) (r : List Int) (val : Int) (w : World) (h : CodesAt w g r val) :
    Calls Try.prog 28 #[.pointer (some ⟨g, 0, none⟩)] w fun e w' => ∃ vc vs t caps starts r', e = .returned (.agg #[vc, vs, .int .i64 t]) ∧
      SlI w' .i64 vc caps ∧ SlI w' .u64 vs starts ∧ caps.length = starts.length ∧ 1 ≤ caps.length ∧ caps.length ≤ 3 ∧ 2 ≤ t ∧ t ≤ 4 ∧ CodesAt w' g r' val ∧ w.grownBy w' (some g) ∧ offB g vc ∧ offB g vs ∧ CfgOk caps starts caps.length ∧ OwnI w' w.heap.size 3 .i64 vc caps ∧ OwnI w' w.heap.size 30 .u64 vs starts := by
  have hgl := h.lt
  go_enter Try.func28, Try.ntmps28
  have ST := Lib.hid (CfgInv.start w g r val h)
  go_wp2_with fail
  rw [show w.heap.size + 1 + 1 + 1 = w.heap.size + 3 from rfl, show w.heap.size + 1 + 1 = w.heap.size + 2 from rfl]
  generalize hRR : w.heap.size = R at *
  clear hRR
  go_loopw [6] (fun c wr => ∃ k : Nat, ∃ vc vs caps starts r', k ≤ 3 ∧ c = .int .i64 k ∧ Hid (CfgInv w wr g val R vc vs caps starts r') ∧ Hid (CfgOk caps starts k)) (fun c _ => 4 - (intOf c).toNat)
  case atStart => exact ⟨0, _, _, _, _, _, by omega, rfl, ST, rfl, rfl, by simp, by simp⟩
  case round =>
    clear ST
    obtain ⟨k, vc, vs, caps, starts, r', hk, rfl, hI, hL⟩ := hrel
    obtain ⟨wo, rfl⟩ : ∃ wo : World, wo = wr := ⟨_, rfl⟩
    go_wp2_with fail
    refine (next_any g r' val 3 _ hI.out.codes (by omega) (by omega)).mono ?_; rintro e w1 ⟨rfl, hc1, hg1⟩
    have nb := nxt_bd r' 3 (by omega)
    generalize nxt r' 3 = y at *
    have hI1 := Lib.hid (hI.out.next hc1 hg1)
    clear hI hc1 hg1
    by_cases hlt : (k : Int) ≤ y
    · go_wp2_with fail
      have c0 := cell_of_row w1 (R + 3) 0 _ _ _ hI1.out.box
      simp at c0
      go_region_law (first
          | (refine step_append_i64 (by rfl) _ _ (by rfl) (R + 4) vc caps (by rfl) (hI2.out.oc.alloc _) q _ (by rfl) (by exact World.cell?_alloc_at _ _ _ _ rfl) (by rw [hL.out.1]; omega) (by have := hI2.out.size; simp; omega) ?_; intro vc2 w3 ho3 hg3; obtain ⟨gg, cg, hvc2⟩ := OwnI.shape_ne ho3; obtain ⟨⟨c3, f3⟩, -⟩ := hI2.out.spot _ hg3 hI2.out.oc.own_ge; subst hvc2)
          | (go_simp; go_at_call 31; refine (next_any g _ val 6 _ (by exact hI1.out.codes) (by omega) (by omega)).mono ?_; rintro e w2 ⟨rfl, hc2, hg2⟩; have hI2 := Lib.hid (hI1.out.next hc2 (undrew hg2)); obtain ⟨p, hp, hp6⟩ := nxt_nat (List.tail r') 6 (by omega); rw [hp]; obtain ⟨q, hq, hq3⟩ := caps_at w2 (R + 1) p (by omega) hI2.out.lc; have c0 := cell_of_row w2 (R + 3) 0 _ _ _ hI2.out.box; have f0 := frozen_of_row w2 (R + 3) 0 _ _ hI2.out.box; have z2 : R + 3 < w2.heap.size := (by have := hI2.out.size; omega); simp at c0))
      all_goals
        have hI3 := Lib.hid (hI2.out.addCap _ ho3 hg3)
        have HQ3 := Lib.hid hq3
        generalize hc2e : caps ++ [q] = caps2 at *
        have HC2 := Lib.hid hc2e
        generalize (Value.slice (some ⟨gg, 0, none⟩) (caps.length + 1) cg) = vc2 at *
        clear hI1 hI2 ho3 hg3 hc2 hg2 c0 f0 c3 f3 z2 hq hq3 hp hp6 hc2e
        go_wp2_with fail
        generalize w3.setCell ⟨R + 3, 0, none⟩ vc2 = W3 at *
        have d0 := cell_of_row W3 (R + 3) 1 _ _ _ hI3.out.box
        simp at d0
        go_region_law (first
          | (refine step_append_u64 (by rfl) _ _ (by rfl) (R + 4) vs starts (by rfl) (hI4.out.os.alloc _) q4 _ (by rfl) (by exact World.cell?_alloc_at _ _ _ _ rfl) (by rw [hL.out.2.1]; omega) (by have := hI4.out.size; simp; omega) ?_; intro vs2 w5 ho5 hg5; obtain ⟨gg5, cg5, hvs2⟩ := OwnI.shape_ne ho5; obtain ⟨-, ⟨c5, f5⟩⟩ := hI4.out.spot _ hg5 hI4.out.os.own_ge; subst hvs2)
          | (go_simp; go_at_call 31; refine (next_any g _ val 6 _ (by exact hI3.out.codes) (by omega) (by omega)).mono ?_; rintro e w4 ⟨rfl, hc4, hg4⟩; have hI4 := Lib.hid (hI3.out.next hc4 (undrew hg4)); obtain ⟨p4, hp4, hp64⟩ := nxt_nat (List.tail (List.tail r')) 6 (by omega); rw [hp4]; obtain ⟨q4, hq4, hq43⟩ := starts_at w4 (R + 2) p4 (by omega) hI4.out.ls; have d0 := cell_of_row w4 (R + 3) 1 _ _ _ hI4.out.box; have f0 := frozen_of_row w4 (R + 3) 1 _ _ hI4.out.box; have z4 : R + 3 < w4.heap.size := (by have := hI4.out.size; omega); simp at d0))
        all_goals
          have hI5 := Lib.hid (hI4.out.addStart _ ho5 hg5)
          have hL5 := Lib.hid (hL.out.snoc q q4 HQ3.out hq43.out)
          rw [HC2.out] at hL5
          clear hI4 ho5 hg5 hc4 hg4 d0 f0 c5 f5 z4 hq4 hp4 hp64
          go_wp2
          go_roundw
          case rel => exact ⟨k + 1, _, _, _, _, _, by omega, by go_num, hI5, hL5⟩
          case measure => simp [intOf]; omega
    · have hk1 : 1 ≤ k := by omega
      go_wp2_with fail
      refine (next_any g _ val 3 _ hI1.out.codes (by omega) (by omega)).mono ?_; rintro e w2 ⟨rfl, hc2, hg2⟩
      have nb2 := nxt_bd r'.tail 3 (by omega)
      generalize nxt r'.tail 3 = t at *
      have hI2 := Lib.hid (hI1.out.next hc2 hg2)
      have c0 := cell_of_row w2 (R + 3) 0 _ _ _ hI2.out.box
      have c1 := cell_of_row w2 (R + 3) 1 _ _ _ hI2.out.box
      have c2 := cell_of_row w2 (R + 3) 2 _ _ _ hI2.out.box
      have f2 := frozen_of_row w2 (R + 3) 2 _ _ hI2.out.box
      have d0 := cell_of_row w2 R 0 _ _ _ hI2.out.res
      have d1 := cell_of_row w2 R 1 _ _ _ hI2.out.res
      have d2 := cell_of_row w2 R 2 _ _ _ hI2.out.res
      have g0 := frozen_of_row w2 R 0 _ _ hI2.out.res
      have g1 := frozen_of_row w2 R 1 _ _ hI2.out.res
      have g2 := frozen_of_row w2 R 2 _ _ hI2.out.res
      simp at c0 c1 c2 d0 d1 d2
      have hRR : ¬ R = R + 3 := by omega
      have hR3 : ¬ R + 3 = R := by omega
      obtain ⟨ac, cc, rfl⟩ : ∃ ac cc, vc = .slice ac caps.length cc := by
        rcases hI2.out.oc.shape with ⟨rfl, h⟩ | ⟨g', cap', rfl, _⟩
        · exact ⟨none, 0, by rw [h]; rfl⟩
        · exact ⟨_, _, rfl⟩
      obtain ⟨ast, cst, rfl⟩ : ∃ ac cc, vs = .slice ac starts.length cc := by
        rcases hI2.out.os.shape with ⟨rfl, h⟩ | ⟨g', cap', rfl, _⟩
        · exact ⟨none, 0, by rw [h]; rfl⟩
        · exact ⟨_, _, rfl⟩
      clear hc2 hg2 hI1
      have HI := Lib.hid hI2.out
      go_wp2
      refine bodyPost_ret (v := .agg #[.slice ac caps.length cc, .slice ast starts.length cst, .int .i64 (2 + t)]) (by simp [results, Try.results28, go_sem, *]) rfl ?_
      obtain ⟨s1, s2, s3, s4, s5, s6⟩ := HI.out.fin hL.out (by omega) (.int .i64 (2 + t)) (.slice ac caps.length cc) (.slice ast starts.length cst) (.int .i64 (2 + t))
      have hl := hL.out
      exact ⟨_, _, _, caps, starts, _, rfl, s1, s2, by rw [hl.1, hl.2.1], by rw [hl.1]; exact hk1, by rw [hl.1]; exact hk, by omega, by omega, s3, s4, HI.out.oc.off (by omega), HI.out.os.off (by omega), by rw [hl.1]; exact hl, s5.mono_base (by have := HI.out.eq; omega), s6.mono_base (by have := HI.out.eq; omega)⟩
theorem config_any (g : Nat) (r : List Int) (val : Int) (w : World) (h : CodesAt w g r val) :
    Calls Try.prog 28 #[.pointer (some ⟨g, 0, none⟩)] w fun e w' => ∃ vc vs t caps starts r', e = .returned (.agg #[vc, vs, .int .i64 t]) ∧
      SlI w' .i64 vc caps ∧ SlI w' .u64 vs starts ∧ caps.length = starts.length ∧ 1 ≤ caps.length ∧ caps.length ≤ 3 ∧ 2 ≤ t ∧ t ≤ 4 ∧ CodesAt w' g r' val ∧ w.grownBy w' (some g) ∧ offB g vc ∧ offB g vs ∧ CfgOk caps starts caps.length := by
  refine (config_own g r val w h).mono ?_
  rintro e w' ⟨vc, vs, t, caps, starts, r', h0, h1, h2, h3, h4, h5, h6, h7, h8, h9, h10, h11, h12, -, -⟩
  exact ⟨vc, vs, t, caps, starts, r', h0, h1, h2, h3, h4, h5, h6, h7, h8, h9, h10, h11, h12⟩
end Go.Proofs.Ytnbehigjeopniaa
/- The reader of choices: what its methods return, whatever the choices are. -/
namespace Go.Proofs.Ytnbehigjeopniaa
open Go.ChangeShapes Go.WideShapes Go.ChangeAt Go.RowKit
set_option maxRecDepth 100000

theorem SlC.offOf {w : World} {v : Value} {l : List CaseM} (h : SlC w v l) {g : Nat} (hg : w.heap.size ≤ g) : offB g v := by
  intro a n c e
  obtain ⟨_, _, a', cap, rfl, _, h5⟩ := h
  rcases Nat.eq_zero_or_pos l.length with h0 | h0
  · simp only [Value.slice.injEq] at e; exact .inl (by omega)
  · obtain ⟨b, off, rfl, hlt, _⟩ := h5 0 h0
    simp only [Value.slice.injEq, Option.some.injEq] at e
    obtain ⟨rfl, _⟩ := e
    exact .inr (by simp; omega)
theorem SlC.grown {w w' : World} {v : Value} {l : List CaseM} {g : Nat} (h : SlC w v l) (hg : w.grownBy w' (some g)) (ho : offB g v) : SlC w' v l := by
  obtain ⟨h1, h2, a, cap, rfl, h4, h5⟩ := h
  refine ⟨h1, h2, a, cap, rfl, h4, fun t ht => ?_⟩
  obtain ⟨b, off, rfl, hlt, c0, c1, c2⟩ := h5 t ht
  have hb : b ≠ g := (ho _ _ _ rfl).resolve_left (by omega)
  have k : ∀ j, w'.cell? ⟨b, j, none⟩ = w.cell? ⟨b, j, none⟩ := fun j => World.cell?_of_block (a := ⟨b, j, none⟩) (hg.block b hlt (by simpa using hb))
  exact ⟨b, off, rfl, Nat.lt_of_lt_of_le hlt hg.size, (k _).trans c0, (k _).trans c1, (k _).trans c2⟩
theorem OwnC.off {w : World} {base : Nat} {v : Value} {l : List CaseM} (h : OwnC w base v l) {g : Nat} (hg : g < base) : offB g v := by
  intro a n c e
  subst e
  have := h.own_ge a.block rfl
  exact .inr (by omega)
/-- a configuration, an operation, that lie beside the reader's block -/
def ConfX (w : World) (g : Nat) (v : Value) (c : ConfM) : Prop :=
  ∃ vc vs, v = .agg #[vc, vs, .int .i64 c.threads] ∧ SlI w .i64 vc c.caps ∧ SlI w .u64 vs c.starts ∧ offB g vc ∧ offB g vs
theorem ConfX.conf {w : World} {g : Nat} {v : Value} {c : ConfM} (h : ConfX w g v c) : ConfV w v c := by
  obtain ⟨vc, vs, e, h1, h2, _⟩ := h; exact ⟨vc, vs, e, h1, h2⟩
theorem ConfX.below {w w' : World} {g : Nat} {v : Value} {c : ConfM} (h : ConfX w g v c) (hb : Below w.heap.size w w') : ConfX w' g v c := by
  obtain ⟨vc, vs, e, h1, h2, h3⟩ := h; exact ⟨vc, vs, e, h1.below hb, h2.below hb, h3⟩
theorem ConfX.grown {w w' : World} {g : Nat} {v : Value} {c : ConfM} (h : ConfX w g v c) (hg : w.grownBy w' (some g)) : ConfX w' g v c := by
  obtain ⟨vc, vs, e, h1, h2, h3, h4⟩ := h; exact ⟨vc, vs, e, h1.grown hg h3, h2.grown hg h4, h3, h4⟩
def OpX (w : World) (g : Nat) (v : Value) (op : OpM) : Prop :=
  ∃ vc vd, v = .agg #[.int .i64 op.kind, .int .i64 op.mode, .int .i64 op.chan, .int .u64 op.val, .int .i64 op.dl, vc, vd] ∧ SlC w vc op.cases ∧ SlI w .i64 vd op.draws ∧ offB g vc ∧ offB g vd
theorem OpX.opv {w : World} {g : Nat} {v : Value} {op : OpM} (h : OpX w g v op) : OpV w v op := by
  obtain ⟨vc, vs, e, h1, h2, _⟩ := h; exact ⟨vc, vs, e, h1, h2⟩
theorem OpX.below {w w' : World} {g : Nat} {v : Value} {op : OpM} (h : OpX w g v op) (hb : Below w.heap.size w w') : OpX w' g v op := by
  obtain ⟨vc, vs, e, h1, h2, h3⟩ := h; exact ⟨vc, vs, e, h1.below hb, h2.below hb, h3⟩
theorem OpX.grown {w w' : World} {g : Nat} {v : Value} {op : OpM} (h : OpX w g v op) (hg : w.grownBy w' (some g)) : OpX w' g v op := by
  obtain ⟨vc, vs, e, h1, h2, h3, h4⟩ := h; exact ⟨vc, vs, e, h1.grown hg h3, h2.grown hg h4, h3, h4⟩
theorem OpV.opx {w : World} {g : Nat} {v : Value} {op : OpM} (h : OpV w v op) (hg : w.heap.size ≤ g) : OpX w g v op := by
  obtain ⟨vc, vs, e, h1, h2⟩ := h; exact ⟨vc, vs, e, h1, h2, h1.offOf hg, h2.offOf hg⟩
theorem configE (g : Nat) (w : World) (h : CodesE w g) :
    Calls Try.prog 28 #[.pointer (some ⟨g, 0, none⟩)] w fun e w' => ∃ v c, e = .returned v ∧ ConfX w' g v c ∧ c.caps.length = c.starts.length ∧ 1 ≤ c.caps.length ∧ c.caps.length ≤ 3 ∧ 2 ≤ c.threads ∧ c.threads ≤ 4 ∧ CodesE w' g ∧ w.grownBy w' (some g) := by
  obtain ⟨r, val, h⟩ := h
  refine (config_any g r val w h).mono ?_
  rintro e w' ⟨vc, vs, t, caps, starts, r', rfl, h1, h2, h3, h4, h5, h6, h7, h8, h9, h10, h11, -⟩
  exact ⟨_, ⟨caps, starts, t⟩, rfl, ⟨vc, vs, rfl, h1, h2, h10, h11⟩, h3, h4, h5, h6, h7, ⟨_, _, h8⟩, h9⟩
set_option maxRecDepth 100000 in
theorem channelE (g : Nat) (v : Value) (c : ConfM) (w : World) (h : CodesE w g) (hv : ConfX w g v c) (hc : c.caps.length ≤ 8) :
    Calls Try.prog 40 #[.pointer (some ⟨g, 0, none⟩), v] w fun e w' => ∃ x : Int, e = .returned (.int .i64 x) ∧ -1 ≤ x ∧ x < 8 ∧ CodesE w' g ∧ w.grownBy w' (some g) := by
  have hlt := h.lt
  have HC := Lib.hid h
  obtain ⟨vc, vs, rfl, h1, h2, _⟩ := hv
  obtain ⟨a, cap, rfl, -⟩ := h1.len
  obtain ⟨a2, cap2, rfl, -⟩ := h2.len
  clear h h1 h2
  obtain ⟨W, hW⟩ : ∃ W, w.alloc (.cells #[.slice a c.caps.length cap, .slice a2 c.starts.length cap2, .int .i64 c.threads] 60) = W := ⟨_, rfl⟩
  have HB : Hid (Below w.heap.size w W) := hW ▸ below_new (Below.refl w.heap.size w) _
  have hz : w.heap.size + 1 ≤ W.heap.size := by rw [← hW]; simp
  have R0 : Hid (W.heap[w.heap.size]? = some (.cells #[.slice a c.caps.length cap, .slice a2 c.starts.length cap2, .int .i64 c.threads] 60 (0, 0))) := by
    show _ = _
    rw [← hW]; exact heap_alloc_new _ _
  have HCW := Lib.hid (HC.out.kept hlt HB.out)
  have HW := Lib.hid hW
  clear hW
  generalize c.caps.length = n at *
  go_enter Try.func40, Try.ntmps40
  go_wp2_with fail
  rw [HW.out]
  refine (nextE g 16 _ HCW.out (by omega) (by omega)).mono ?_; rintro e w1 ⟨x, rfl, hx0, hx1, hc1, hg1⟩
  have HC1 := Lib.hid hc1
  have HG1 := Lib.hid (grownBy_trans (⟨HB.out.os, HB.out.tape, HB.out.output, HB.out.size, fun j hj _ => HB.out.block j hj⟩ : w.grownBy W (some g)) hg1)
  have bx := (hg1.block w.heap.size (by omega) (by simp; omega)).trans R0.out
  have c0 := cell_of_row _ _ 0 _ _ _ bx
  simp at c0
  clear hc1 hg1 bx
  by_cases h9 : x = 9
  · subst h9
    go_wp2_with fail
    refine (nextE g 9 _ HC1.out (by omega) (by omega)).mono ?_; rintro e w2 ⟨y, rfl, hy0, hy1, hc2, hg2⟩
    have HC2 := Lib.hid hc2
    have HG2 := Lib.hid (grownBy_trans HG1.out hg2)
    clear hc2 hg2
    go_wp2
    go_ret
    exact ⟨y - 1, rfl, by omega, by omega, HC2.out, HG2.out⟩
  · have h9b : (x == 9) = false := by simpa using h9
    clear h9
    by_cases h0 : n = 0
    · subst h0
      go_wp2
      go_ret
      exact ⟨-1, rfl, by omega, by omega, HC1.out, HG1.out⟩
    · have h0b : ((n : Int) == 0) = false := by simpa using h0
      go_wp2_with fail
      refine (nextE g n _ HC1.out (by omega) (by omega)).mono ?_; rintro e w2 ⟨y, rfl, hy0, hy1, hc2, hg2⟩
      have HC2 := Lib.hid hc2
      have HG2 := Lib.hid (grownBy_trans HG1.out hg2)
      clear hc2 hg2
      go_wp2
      go_ret
      exact ⟨y, rfl, by omega, by omega, HC2.out, HG2.out⟩
end Go.Proofs.Ytnbehigjeopniaa
/- A valid configuration, plainly. -/
namespace Go.Proofs.Ytnbehigjeopniaa
open Go.ChangeShapes Go.WideShapes Go.ChangeAt Go.RowKit
set_option maxRecDepth 100000

/-- a valid configuration -/
structure ConfM.good (c : ConfM) : Prop where
  len : c.caps.length ≤ 8
  same : c.starts.length = c.caps.length
  caps : ∀ x ∈ c.caps, 0 ≤ x ∧ x ≤ 16
  starts : ∀ x ∈ c.starts, 0 ≤ x ∧ x < 9223372036854775808
  thr : 1 ≤ c.threads ∧ c.threads ≤ 8
theorem below_setRow {B g : Nat} {a w : World} (h : Below B a w) (hB : B ≤ g) (cs : Array Value) : Below B a (w.setRow g cs) :=
  ⟨h.os, h.tape, h.output, by simpa [World.setRow] using h.size, fun k hk => (setRow_other w g k cs (by omega)).trans (h.block k hk)⟩
end Go.Proofs.Ytnbehigjeopniaa
