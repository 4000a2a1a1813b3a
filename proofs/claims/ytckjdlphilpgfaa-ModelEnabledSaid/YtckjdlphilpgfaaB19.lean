import Derived.Deep.RegionHeld3
import Derived.Deep.RegionLaw
import Derived.Laws.AppendOwnNone
import Derived.Test.YtckjdlphilpgfaaB18
import Derived.Test.YtckjdlphilpgfaaB02
import Derived.Test.YtckjdlphilpgfaaB08
import Derived.Test.YtckjdlphilpgfaaB04
set_option linter.unusedVariables false
set_option linter.unusedSimpArgs false
/- The reader of choices: configurations. -/
namespace Go.Proofs.Ytckjdlphilpgfaa
open Go.ChangeShapes Go.WideShapes Go.ChangeAt Go.RowKit
set_option maxRecDepth 100000
def capsArr : Array Value := #[.int .i64 0, .int .i64 1, .int .i64 2, .int .i64 0, .int .i64 1, .int .i64 3]
def startsArr : Array Value := #[.int .u64 0, .int .u64 1, .int .u64 9223372036854775807, .int .u64 9223372036854775806, .int .u64 4611686018427387904, .int .u64 5]
/-- while a configuration is built: the reader, the two tables, the variable in block R + 3 with its two lists -/
structure CfgInv (w0 w : World) (g : Nat) (val : Int) (R : Nat) (vc vs : Value) (caps starts r : List Int) : Prop where
  lt : g < R
  eq : R = w0.heap.size
  codes : CodesAt w g r val
  grown : w0.grownBy w (some g)
  res : w.heap[R]? = some (.cells #[.slice none 0 0, .slice none 0 0, .int .i64 0] 34 (0, 0))
  lc : w.heap[R + 1]? = some (.cells capsArr 3 (0, 0))
  ls : w.heap[R + 2]? = some (.cells startsArr 23 (0, 0))
  box : w.heap[R + 3]? = some (.cells #[vc, vs, .int .i64 0] 34 (0, 0))
  oc : OwnI w (R + 4) 3 .i64 vc caps
  os : OwnI w (R + 4) 23 .u64 vs starts
theorem CfgInv.size {w0 w : World} {g : Nat} {val : Int} {R : Nat} {vc vs : Value} {caps starts r : List Int} (h : CfgInv w0 w g val R vc vs caps starts r) : R + 4 ≤ w.heap.size :=
  (Array.getElem?_eq_some_iff.1 h.box).1
theorem CfgInv.next {w0 w w' : World} {g : Nat} {val : Int} {R : Nat} {vc vs : Value} {caps starts r r' : List Int} (h : CfgInv w0 w g val R vc vs caps starts r) (hc : CodesAt w' g r' val) (hg : w.grownBy w' (some g)) :
    CfgInv w0 w' g val R vc vs caps starts r' := by
  have hs := h.size
  have hl := h.lt
  have b : ∀ j, R ≤ j → j < R + 4 → w'.heap[j]? = w.heap[j]? := fun j h1 h2 => hg.block j (by omega) (by simp; omega)
  exact ⟨hl, h.eq, hc, grownBy_trans h.grown hg, (b R (by omega) (by omega)).trans h.res, (b (R + 1) (by omega) (by omega)).trans h.lc, (b (R + 2) (by omega) (by omega)).trans h.ls, (b (R + 3) (by omega) (by omega)).trans h.box,
    h.oc.kept hg (h.oc.ne (by omega)), h.os.kept hg (h.os.ne (by omega))⟩
theorem own_apart {w : World} {b1 b2 : Nat} {e1 e2 : TypeId} {k1 k2 : IntKind} {v1 v2 : Value} {l1 l2 : List Int} (h1 : OwnI w b1 e1 k1 v1 l1) (h2 : OwnI w b2 e2 k2 v2 l2) (he : e1 ≠ e2) : v1.ownBlock = none ∨ v1.ownBlock ≠ v2.ownBlock := by
  rcases h1.2 with ⟨rfl, _⟩ | ⟨g, cap, cur, rfl, _, hg, _⟩
  · exact .inl rfl
  · rcases h2.2 with ⟨rfl, _⟩ | ⟨g', cap', cur', rfl, _, hg', _⟩
    · exact .inr (by simp [Value.ownBlock])
    · refine .inr ?_
      simp only [Value.ownBlock, ne_eq, Option.some.injEq]
      intro e
      rw [e, hg'] at hg
      simp at hg
      exact he hg.2.symm
theorem CfgInv.spot {w0 w w1 : World} {g : Nat} {val : Int} {R : Nat} {vc vs : Value} {caps starts r : List Int} {row : Option Nat} (h : CfgInv w0 w g val R vc vs caps starts r) (o : Obj) (hg : (w.alloc o).grownBy w1 row) (hge : ∀ j, row = some j → R + 4 ≤ j) :
    (w1.cell? ⟨R + 3, 0, none⟩ = some vc ∧ w1.frozen? ⟨R + 3, 0, none⟩ = false) ∧ (w1.cell? ⟨R + 3, 1, none⟩ = some vs ∧ w1.frozen? ⟨R + 3, 1, none⟩ = false) := by
  have hs := h.size
  have hb : Below (R + 4) w w1 := ((Below.refl (R + 4) w).alloc hs o).grown hg (by simp; omega) hge
  have hbox := (hb.block (R + 3) (by omega)).trans h.box
  exact ⟨⟨cell_of_row w1 (R + 3) 0 _ _ _ hbox, frozen_of_row w1 (R + 3) 0 _ _ hbox⟩, ⟨cell_of_row w1 (R + 3) 1 _ _ _ hbox, frozen_of_row w1 (R + 3) 1 _ _ hbox⟩⟩
theorem OwnI.shape_ne {w : World} {base : Nat} {e : TypeId} {k : IntKind} {v : Value} {l : List Int} {y : Int} (h : OwnI w base e k v (l ++ [y])) : ∃ g cap, v = .slice (some ⟨g, 0, none⟩) (l.length + 1) cap := by
  rcases h.shape with ⟨_, h1⟩ | ⟨g, cap, h1, _⟩
  · exact absurd h1 (by simp)
  · exact ⟨g, cap, by simpa using h1⟩
/-- one more capacity: what was appended is stored in the variable -/
theorem CfgInv.addCap {w0 w w1 : World} {g : Nat} {val : Int} {R : Nat} {vc vs vc' : Value} {caps starts r caps' : List Int} (h : CfgInv w0 w g val R vc vs caps starts r) (o : Obj) (ho : OwnI w1 (R + 4) 3 .i64 vc' caps') (hg : (w.alloc o).grownBy w1 vc.ownBlock) :
    CfgInv w0 (w1.setCell ⟨R + 3, 0, none⟩ vc') g val R vc' vs caps' starts r := by
  have hs := h.size
  have hl := h.lt
  have hge : ∀ j, vc.ownBlock = some j → R + 4 ≤ j := h.oc.own_ge
  have hb : Below (R + 4) w w1 := ((Below.refl (R + 4) w).alloc hs o).grown hg (by simp; omega) hge
  have b : ∀ j, j < R + 4 → w1.heap[j]? = w.heap[j]? := fun j h1 => hb.block j h1
  have b2 : ∀ j, j ≠ R + 3 → (w1.setCell ⟨R + 3, 0, none⟩ vc').heap[j]? = w1.heap[j]? := fun j hj => heap_setCell_other w1 ⟨R + 3, 0, none⟩ j _ hj
  have hbox := (b (R + 3) (by omega)).trans h.box
  have hos : OwnI w1 (R + 4) 23 .u64 vs starts := (h.os.alloc o).kept hg (own_apart (h.os.alloc o) (h.oc.alloc o) (by decide))
  have hsb : Below (R + 3) w1 (w1.setCell ⟨R + 3, 0, none⟩ vc') := (Below.refl (R + 3) w1).setCell (p := ⟨R + 3, 0, none⟩) (Nat.le_refl _) _
  refine ⟨hl, h.eq, (h.codes.kept (B := R + 4) (by omega) hb).kept (B := R + 3) (by omega) hsb, ?_, (b2 R (by omega)).trans ((b R (by omega)).trans h.res), (b2 (R + 1) (by omega)).trans ((b (R + 1) (by omega)).trans h.lc), (b2 (R + 2) (by omega)).trans ((b (R + 2) (by omega)).trans h.ls), ?_,
    ho.kept (grownBy_setCell w1 ⟨R + 3, 0, none⟩ vc') (ho.ne (by simp)), hos.kept (grownBy_setCell w1 ⟨R + 3, 0, none⟩ vc') (hos.ne (by simp))⟩
  · have e := h.eq
    exact grownBy_of_below (grownBy_of_below h.grown (hb.mono (by omega))) ((hsb).mono (by omega))
  · have := heap_setCell_same w1 (R + 3) 0 _ _ vc' hbox
    simpa using this
theorem CfgInv.addStart {w0 w w1 : World} {g : Nat} {val : Int} {R : Nat} {vc vs vs' : Value} {caps starts r starts' : List Int} (h : CfgInv w0 w g val R vc vs caps starts r) (o : Obj) (ho : OwnI w1 (R + 4) 23 .u64 vs' starts') (hg : (w.alloc o).grownBy w1 vs.ownBlock) :
    CfgInv w0 (w1.setCell ⟨R + 3, 1, none⟩ vs') g val R vc vs' caps starts' r := by
  have hs := h.size
  have hl := h.lt
  have hge : ∀ j, vs.ownBlock = some j → R + 4 ≤ j := h.os.own_ge
  have hb : Below (R + 4) w w1 := ((Below.refl (R + 4) w).alloc hs o).grown hg (by simp; omega) hge
  have b : ∀ j, j < R + 4 → w1.heap[j]? = w.heap[j]? := fun j h1 => hb.block j h1
  have b2 : ∀ j, j ≠ R + 3 → (w1.setCell ⟨R + 3, 1, none⟩ vs').heap[j]? = w1.heap[j]? := fun j hj => heap_setCell_other w1 ⟨R + 3, 1, none⟩ j _ hj
  have hbox := (b (R + 3) (by omega)).trans h.box
  have hoc : OwnI w1 (R + 4) 3 .i64 vc caps := (h.oc.alloc o).kept hg (own_apart (h.oc.alloc o) (h.os.alloc o) (by decide))
  have hsb : Below (R + 3) w1 (w1.setCell ⟨R + 3, 1, none⟩ vs') := (Below.refl (R + 3) w1).setCell (p := ⟨R + 3, 1, none⟩) (Nat.le_refl _) _
  refine ⟨hl, h.eq, (h.codes.kept (B := R + 4) (by omega) hb).kept (B := R + 3) (by omega) hsb, ?_, (b2 R (by omega)).trans ((b R (by omega)).trans h.res), (b2 (R + 1) (by omega)).trans ((b (R + 1) (by omega)).trans h.lc), (b2 (R + 2) (by omega)).trans ((b (R + 2) (by omega)).trans h.ls), ?_,
    hoc.kept (grownBy_setCell w1 ⟨R + 3, 1, none⟩ vs') (hoc.ne (by simp)), ho.kept (grownBy_setCell w1 ⟨R + 3, 1, none⟩ vs') (ho.ne (by simp))⟩
  · have e := h.eq
    exact grownBy_of_below (grownBy_of_below h.grown (hb.mono (by omega))) ((hsb).mono (by omega))
  · have := heap_setCell_same w1 (R + 3) 1 _ _ vs' hbox
    simpa using this
theorem undrew {a b : World} {row : Option Nat} (h : a.drew.grownBy b row) : a.grownBy b row := ⟨h.os, h.tape, h.output, h.size, h.block⟩
theorem nxt_nat (r : List Int) (n : Int) (h : 1 ≤ n) : ∃ p : Nat, nxt r n = p ∧ (p : Int) < n := by
  have := nxt_bd r n (by omega)
  exact ⟨(nxt r n).toNat, by omega, by omega⟩
theorem caps_at (w : World) (b p : Nat) (hp : p < 6) (h : w.heap[b]? = some (.cells capsArr 3 (0, 0))) : ∃ q : Int, w.cell? ⟨b, p, none⟩ = some (.int .i64 q) ∧ 0 ≤ q ∧ q ≤ 3 := by
  rw [cell_of_row w b p _ _ _ h]
  obtain rfl | rfl | rfl | rfl | rfl | rfl : p = 0 ∨ p = 1 ∨ p = 2 ∨ p = 3 ∨ p = 4 ∨ p = 5 := by omega
  all_goals exact ⟨_, rfl, by decide, by decide⟩
theorem starts_at (w : World) (b p : Nat) (hp : p < 6) (h : w.heap[b]? = some (.cells startsArr 23 (0, 0))) : ∃ q : Int, w.cell? ⟨b, p, none⟩ = some (.int .u64 q) ∧ Hid (0 ≤ q ∧ q < 9223372036854775808) := by
  rw [cell_of_row w b p _ _ _ h]
  obtain rfl | rfl | rfl | rfl | rfl | rfl : p = 0 ∨ p = 1 ∨ p = 2 ∨ p = 3 ∨ p = 4 ∨ p = 5 := by omega
  all_goals exact ⟨_, rfl, Lib.hid (by decide)⟩
def CfgOk (caps starts : List Int) (k : Nat) : Prop := caps.length = k ∧ starts.length = k ∧ (∀ x ∈ caps, 0 ≤ x ∧ x ≤ 3) ∧ ∀ x ∈ starts, 0 ≤ x ∧ x < 9223372036854775808
theorem CfgOk.snoc {caps starts : List Int} {k : Nat} (h : CfgOk caps starts k) (q s : Int) (hq : 0 ≤ q ∧ q ≤ 3) (hs : 0 ≤ s ∧ s < 9223372036854775808) : CfgOk (caps ++ [q]) (starts ++ [s]) (k + 1) := by
  obtain ⟨h1, h2, h3, h4⟩ := h
  refine ⟨by simp [h1], by simp [h2], fun x hx => ?_, fun x hx => ?_⟩
  · simp at hx; rcases hx with hx | rfl
    · exact h3 x hx
    · exact hq
  · simp at hx; rcases hx with hx | rfl
    · exact h4 x hx
    · exact hs
theorem CfgInv.start (w : World) (g : Nat) (r : List Int) (val : Int) (h : CodesAt w g r val) :
    CfgInv w ((((w.alloc (.cells #[.slice none 0 0, .slice none 0 0, .int .i64 0] 34)).alloc (.cells capsArr 3)).alloc (.cells startsArr 23)).alloc (.cells #[.slice none 0 0, .slice none 0 0, .int .i64 0] 34))
      g val w.heap.size (.slice none 0 0) (.slice none 0 0) [] [] r := by
  have hb : Below w.heap.size w ((((w.alloc (.cells #[.slice none 0 0, .slice none 0 0, .int .i64 0] 34)).alloc (.cells capsArr 3)).alloc (.cells startsArr 23)).alloc (.cells #[.slice none 0 0, .slice none 0 0, .int .i64 0] 34)) :=
    below_new (below_new (below_new (below_new (Below.refl _ _) _) _) _) _
  refine ⟨h.lt, rfl, h.kept h.lt hb, grownBy_of_below (grownBy_refl _ _) hb, ?_, ?_, ?_, ?_, OwnI.nil _ _ _ _, OwnI.nil _ _ _ _⟩
  · rw [heap_alloc_old _ _ (by simp <;> omega), heap_alloc_old _ _ (by simp <;> omega), heap_alloc_old _ _ (by simp <;> omega), heap_alloc_new]
  · rw [heap_alloc_old _ _ (by simp <;> omega), heap_alloc_old _ _ (by simp <;> omega)]
    have := heap_alloc_new (w.alloc (.cells #[.slice none 0 0, .slice none 0 0, .int .i64 0] 34)) (.cells capsArr 3)
    simpa using this
  · rw [heap_alloc_old _ _ (by simp <;> omega)]
    have := heap_alloc_new ((w.alloc (.cells #[.slice none 0 0, .slice none 0 0, .int .i64 0] 34)).alloc (.cells capsArr 3)) (.cells startsArr 23)
    simpa using this
  · have := heap_alloc_new (((w.alloc (.cells #[.slice none 0 0, .slice none 0 0, .int .i64 0] 34)).alloc (.cells capsArr 3)).alloc (.cells startsArr 23)) (.cells #[.slice none 0 0, .slice none 0 0, .int .i64 0] 34)
    simpa using this
theorem CfgInv.fin {w0 w : World} {g : Nat} {val : Int} {R k : Nat} {vc vs : Value} {caps starts r : List Int} (h : CfgInv w0 w g val R vc vs caps starts r) (hok : CfgOk caps starts k) (hk : k ≤ 100) (a b c d : Value) :
    SlI ((((w.setCell ⟨R + 3, 2, none⟩ a).setCell ⟨R, 0, none⟩ b).setCell ⟨R, 1, none⟩ c).setCell ⟨R, 2, none⟩ d) .i64 vc caps ∧
    SlI ((((w.setCell ⟨R + 3, 2, none⟩ a).setCell ⟨R, 0, none⟩ b).setCell ⟨R, 1, none⟩ c).setCell ⟨R, 2, none⟩ d) .u64 vs starts ∧
    CodesAt ((((w.setCell ⟨R + 3, 2, none⟩ a).setCell ⟨R, 0, none⟩ b).setCell ⟨R, 1, none⟩ c).setCell ⟨R, 2, none⟩ d) g r val ∧
    w0.grownBy ((((w.setCell ⟨R + 3, 2, none⟩ a).setCell ⟨R, 0, none⟩ b).setCell ⟨R, 1, none⟩ c).setCell ⟨R, 2, none⟩ d) (some g) ∧
    OwnI ((((w.setCell ⟨R + 3, 2, none⟩ a).setCell ⟨R, 0, none⟩ b).setCell ⟨R, 1, none⟩ c).setCell ⟨R, 2, none⟩ d) (R + 4) 3 .i64 vc caps ∧ OwnI ((((w.setCell ⟨R + 3, 2, none⟩ a).setCell ⟨R, 0, none⟩ b).setCell ⟨R, 1, none⟩ c).setCell ⟨R, 2, none⟩ d) (R + 4) 23 .u64 vs starts := by
  obtain ⟨o1, o2, o3, o4⟩ := hok
  have hb : Below R w ((((w.setCell ⟨R + 3, 2, none⟩ a).setCell ⟨R, 0, none⟩ b).setCell ⟨R, 1, none⟩ c).setCell ⟨R, 2, none⟩ d) :=
    ((((Below.refl R w).setCell (p := ⟨R + 3, 2, none⟩) (by simp) a).setCell (p := ⟨R, 0, none⟩) (Nat.le_refl _) b).setCell (p := ⟨R, 1, none⟩) (Nat.le_refl _) c).setCell (p := ⟨R, 2, none⟩) (Nat.le_refl _) d
  have keep : ∀ {e k v l}, OwnI w (R + 4) e k v l → OwnI ((((w.setCell ⟨R + 3, 2, none⟩ a).setCell ⟨R, 0, none⟩ b).setCell ⟨R, 1, none⟩ c).setCell ⟨R, 2, none⟩ d) (R + 4) e k v l := fun ho => by
    have h1 := ho.kept (grownBy_setCell w ⟨R + 3, 2, none⟩ a) (ho.ne (by simp))
    have h2 := h1.kept (grownBy_setCell _ ⟨R, 0, none⟩ b) (h1.ne (by simp))
    have h3 := h2.kept (grownBy_setCell _ ⟨R, 1, none⟩ c) (h2.ne (by simp))
    exact h3.kept (grownBy_setCell _ ⟨R, 2, none⟩ d) (h3.ne (by simp))
  refine ⟨(keep h.oc).read (by omega) fun x hx => ?_, (keep h.os).read (by omega) fun x hx => ?_, h.codes.kept h.lt hb, grownBy_of_below h.grown (hb.mono (by rw [h.eq]; exact Nat.le_refl _)), keep h.oc, keep h.os⟩
  · have := o3 x hx; exact i64_ok x (by omega) (by omega)
  · have := o4 x hx; rw [IntKind.wrap_u64]; omega
set_option maxRecDepth 100000 in
set_option maxHeartbeats 1000000 in
theorem config_own (g : Nat) (r : List Int) (val : Int) (w : World) (h : CodesAt w g r val) :
    Calls Try.prog 34 #[.pointer (some ⟨g, 0, none⟩)] w fun e w' => ∃ vc vs t caps starts r', e = .returned (.agg #[vc, vs, .int .i64 t]) ∧
      SlI w' .i64 vc caps ∧ SlI w' .u64 vs starts ∧ caps.length = starts.length ∧ 1 ≤ caps.length ∧ caps.length ≤ 3 ∧ 2 ≤ t ∧ t ≤ 4 ∧ CodesAt w' g r' val ∧ w.grownBy w' (some g) ∧ offB g vc ∧ offB g vs ∧ CfgOk caps starts caps.length ∧ OwnI w' w.heap.size 3 .i64 vc caps ∧ OwnI w' w.heap.size 23 .u64 vs starts := by
  have hgl := h.lt
  go_enter Try.func34, Try.ntmps34
  have ST := Lib.hid (CfgInv.start w g r val h)
  go_wp2_with fail
  rw [show w.heap.size + 1 + 1 + 1 = w.heap.size + 3 from rfl, show w.heap.size + 1 + 1 = w.heap.size + 2 from rfl]
  generalize hRR : w.heap.size = R at *
  clear hRR
  go_loopw [6] (fun c wr => ∃ k : Nat, ∃ vc vs caps starts r', k ≤ 3 ∧ c = .int .i64 k ∧ Hid (CfgInv w wr g val R vc vs caps starts r') ∧ Hid (CfgOk caps starts k)) (fun c _ => 4 - (intOf c).toNat)
  case atStart => exact ⟨0, _, _, _, _, _, by omega, rfl, ST, rfl, rfl, by simp, by simp⟩
  case round =>
    clear ST
    obtain ⟨k, vc, vs, caps, starts, r', hk, rfl, hI, hL⟩ := hrel
    obtain ⟨wo, rfl⟩ : ∃ wo : World, wo = wr := ⟨_, rfl⟩
    go_wp2_with fail
    refine (next_any g r' val 3 _ hI.out.codes (by omega) (by omega)).mono ?_; rintro e w1 ⟨rfl, hc1, hg1⟩
    have nb := nxt_bd r' 3 (by omega)
    generalize nxt r' 3 = y at *
    have hI1 := Lib.hid (hI.out.next hc1 hg1)
    clear hI hc1 hg1
    by_cases hlt : (k : Int) ≤ y
    · go_wp2_with fail
      have c0 := cell_of_row w1 (R + 3) 0 _ _ _ hI1.out.box
      simp at c0
      go_region_law (first
          | (refine step_append_i64 (by rfl) _ _ (by rfl) (R + 4) vc caps (by rfl) (hI2.out.oc.alloc _) q _ (by rfl) (by exact World.cell?_alloc_at _ _ _ _ rfl) (by rw [hL.out.1]; omega) (by have := hI2.out.size; simp; omega) ?_; intro vc2 w3 ho3 hg3; obtain ⟨gg, cg, hvc2⟩ := OwnI.shape_ne ho3; obtain ⟨⟨c3, f3⟩, -⟩ := hI2.out.spot _ hg3 hI2.out.oc.own_ge; subst hvc2)
          | (go_simp; go_at_call 23; refine (next_any g _ val 6 _ (by exact hI1.out.codes) (by omega) (by omega)).mono ?_; rintro e w2 ⟨rfl, hc2, hg2⟩; have hI2 := Lib.hid (hI1.out.next hc2 (undrew hg2)); obtain ⟨p, hp, hp6⟩ := nxt_nat (List.tail r') 6 (by omega); rw [hp]; obtain ⟨q, hq, hq3⟩ := caps_at w2 (R + 1) p (by omega) hI2.out.lc; have c0 := cell_of_row w2 (R + 3) 0 _ _ _ hI2.out.box; have f0 := frozen_of_row w2 (R + 3) 0 _ _ hI2.out.box; have z2 : R + 3 < w2.heap.size := (by have := hI2.out.size; omega); simp at c0))
      all_goals
        have hI3 := Lib.hid (hI2.out.addCap _ ho3 hg3)
        have HQ3 := Lib.hid hq3
        generalize hc2e : caps ++ [q] = caps2 at *
        have HC2 := Lib.hid hc2e
        generalize (Value.slice (some ⟨gg, 0, none⟩) (caps.length + 1) cg) = vc2 at *
        clear hI1 hI2 ho3 hg3 hc2 hg2 c0 f0 c3 f3 z2 hq hq3 hp hp6 hc2e
        go_wp2_with fail
        generalize w3.setCell ⟨R + 3, 0, none⟩ vc2 = W3 at *
        have d0 := cell_of_row W3 (R + 3) 1 _ _ _ hI3.out.box
        simp at d0
        go_region_law (first
          | (refine step_append_u64 (by rfl) _ _ (by rfl) (R + 4) vs starts (by rfl) (hI4.out.os.alloc _) q4 _ (by rfl) (by exact World.cell?_alloc_at _ _ _ _ rfl) (by rw [hL.out.2.1]; omega) (by have := hI4.out.size; simp; omega) ?_; intro vs2 w5 ho5 hg5; obtain ⟨gg5, cg5, hvs2⟩ := OwnI.shape_ne ho5; obtain ⟨-, ⟨c5, f5⟩⟩ := hI4.out.spot _ hg5 hI4.out.os.own_ge; subst hvs2)
          | (go_simp; go_at_call 23; refine (next_any g _ val 6 _ (by exact hI3.out.codes) (by omega) (by omega)).mono ?_; rintro e w4 ⟨rfl, hc4, hg4⟩; have hI4 := Lib.hid (hI3.out.next hc4 (undrew hg4)); obtain ⟨p4, hp4, hp64⟩ := nxt_nat (List.tail (List.tail r')) 6 (by omega); rw [hp4]; obtain ⟨q4, hq4, hq43⟩ := starts_at w4 (R + 2) p4 (by omega) hI4.out.ls; have d0 := cell_of_row w4 (R + 3) 1 _ _ _ hI4.out.box; have f0 := frozen_of_row w4 (R + 3) 1 _ _ hI4.out.box; have z4 : R + 3 < w4.heap.size := (by have := hI4.out.size; omega); simp at d0))
        all_goals
          have hI5 := Lib.hid (hI4.out.addStart _ ho5 hg5)
          have hL5 := Lib.hid (hL.out.snoc q q4 HQ3.out hq43.out)
          rw [HC2.out] at hL5
          clear hI4 ho5 hg5 hc4 hg4 d0 f0 c5 f5 z4 hq4 hp4 hp64
          go_wp2
          go_roundw
          case rel => exact ⟨k + 1, _, _, _, _, _, by omega, by go_num, hI5, hL5⟩
          case measure => simp [intOf]; omega
    · have hk1 : 1 ≤ k := by omega
      go_wp2_with fail
      refine (next_any g _ val 3 _ hI1.out.codes (by omega) (by omega)).mono ?_; rintro e w2 ⟨rfl, hc2, hg2⟩
      have nb2 := nxt_bd r'.tail 3 (by omega)
      generalize nxt r'.tail 3 = t at *
      have hI2 := Lib.hid (hI1.out.next hc2 hg2)
      have c0 := cell_of_row w2 (R + 3) 0 _ _ _ hI2.out.box
      have c1 := cell_of_row w2 (R + 3) 1 _ _ _ hI2.out.box
      have c2 := cell_of_row w2 (R + 3) 2 _ _ _ hI2.out.box
      have f2 := frozen_of_row w2 (R + 3) 2 _ _ hI2.out.box
      have d0 := cell_of_row w2 R 0 _ _ _ hI2.out.res
      have d1 := cell_of_row w2 R 1 _ _ _ hI2.out.res
      have d2 := cell_of_row w2 R 2 _ _ _ hI2.out.res
      have g0 := frozen_of_row w2 R 0 _ _ hI2.out.res
      have g1 := frozen_of_row w2 R 1 _ _ hI2.out.res
      have g2 := frozen_of_row w2 R 2 _ _ hI2.out.res
      simp at c0 c1 c2 d0 d1 d2
      have hRR : ¬ R = R + 3 := by omega
      have hR3 : ¬ R + 3 = R := by omega
      obtain ⟨ac, cc, rfl⟩ : ∃ ac cc, vc = .slice ac caps.length cc := by
        rcases hI2.out.oc.shape with ⟨rfl, h⟩ | ⟨g', cap', rfl, _⟩
        · exact ⟨none, 0, by rw [h]; rfl⟩
        · exact ⟨_, _, rfl⟩
      obtain ⟨ast, cst, rfl⟩ : ∃ ac cc, vs = .slice ac starts.length cc := by
        rcases hI2.out.os.shape with ⟨rfl, h⟩ | ⟨g', cap', rfl, _⟩
        · exact ⟨none, 0, by rw [h]; rfl⟩
        · exact ⟨_, _, rfl⟩
      clear hc2 hg2 hI1
      have HI := Lib.hid hI2.out
      go_wp2
      refine bodyPost_ret (v := .agg #[.slice ac caps.length cc, .slice ast starts.length cst, .int .i64 (2 + t)]) (by simp [results, Try.results34, go_sem, *]) rfl ?_
      obtain ⟨s1, s2, s3, s4, s5, s6⟩ := HI.out.fin hL.out (by omega) (.int .i64 (2 + t)) (.slice ac caps.length cc) (.slice ast starts.length cst) (.int .i64 (2 + t))
      have hl := hL.out
      exact ⟨_, _, _, caps, starts, _, rfl, s1, s2, by rw [hl.1, hl.2.1], by rw [hl.1]; exact hk1, by rw [hl.1]; exact hk, by omega, by omega, s3, s4, HI.out.oc.off (by omega), HI.out.os.off (by omega), by rw [hl.1]; exact hl, s5.mono_base (by have := HI.out.eq; omega), s6.mono_base (by have := HI.out.eq; omega)⟩
theorem config_any (g : Nat) (r : List Int) (val : Int) (w : World) (h : CodesAt w g r val) :
    Calls Try.prog 34 #[.pointer (some ⟨g, 0, none⟩)] w fun e w' => ∃ vc vs t caps starts r', e = .returned (.agg #[vc, vs, .int .i64 t]) ∧
      SlI w' .i64 vc caps ∧ SlI w' .u64 vs starts ∧ caps.length = starts.length ∧ 1 ≤ caps.length ∧ caps.length ≤ 3 ∧ 2 ≤ t ∧ t ≤ 4 ∧ CodesAt w' g r' val ∧ w.grownBy w' (some g) ∧ offB g vc ∧ offB g vs ∧ CfgOk caps starts caps.length := by
  refine (config_own g r val w h).mono ?_
  rintro e w' ⟨vc, vs, t, caps, starts, r', h0, h1, h2, h3, h4, h5, h6, h7, h8, h9, h10, h11, h12, -, -⟩
  exact ⟨vc, vs, t, caps, starts, r', h0, h1, h2, h3, h4, h5, h6, h7, h8, h9, h10, h11, h12⟩
end Go.Proofs.Ytckjdlphilpgfaa
/- The reader of choices: a drawn configuration is valid; it reads on while the reader goes on. -/
namespace Go.Proofs.Ytckjdlphilpgfaa
open Go.ChangeShapes Go.WideShapes Go.ChangeAt Go.RowKit
set_option maxRecDepth 100000

theorem CfgOk.good {caps starts : List Int} {t : Int} (h : CfgOk caps starts caps.length) (hl : caps.length ≤ 3) (ht : 1 ≤ t ∧ t ≤ 8) : ConfM.good ⟨caps, starts, t⟩ :=
  ⟨by show caps.length ≤ 8; omega, h.2.1, fun x hx => by have := h.2.2.1 x hx; omega, h.2.2.2, ht⟩
theorem configG (g : Nat) (w : World) (h : CodesE w g) :
    Calls Try.prog 34 #[.pointer (some ⟨g, 0, none⟩)] w fun e w' => ∃ (vc vs : Value) (c : ConfM), e = .returned (.agg #[vc, vs, .int .i64 c.threads]) ∧ SlI w' .i64 vc c.caps ∧ SlI w' .u64 vs c.starts ∧ offB g vc ∧ offB g vs ∧ c.good ∧ 1 ≤ c.caps.length ∧ c.caps.length ≤ 3 ∧ CodesE w' g ∧ w.grownBy w' (some g) := by
  obtain ⟨r, val, h⟩ := h
  refine (config_any g r val w h).mono ?_
  rintro e w' ⟨vc, vs, t, caps, starts, r', rfl, h1, h2, h3, h4, h5, h6, h7, h8, h9, h10, h11, h12⟩
  exact ⟨vc, vs, ⟨caps, starts, t⟩, rfl, h1, h2, h10, h11, h12.good h5 (by omega), h4, h5, ⟨_, _, h8⟩, h9⟩
end Go.Proofs.Ytckjdlphilpgfaa
/- Lists of cases (three cells each) and of numbers that the call owns: append, copies; nothing of the reader's block lies in them. -/
namespace Go.Proofs.Ytckjdlphilpgfaa
open Go.ChangeShapes Go.WideShapes Go.ChangeAt Go.RowKit
set_option maxRecDepth 100000

def caseCells (c : CaseM) : List Value := [.bool c.send, .int .i64 c.chan, .int .u64 c.val]
/-- The slice value v owns, among the blocks from base on, a row of cases that reads as l. -/
def OwnC (w : World) (base : Nat) (v : Value) (l : List CaseM) : Prop :=
  w.ownsRow base 63 3 v l.length (l.flatMap caseCells)
theorem flat_length (l : List CaseM) : (l.flatMap caseCells).length = l.length * 3 := by
  induction l with
  | nil => rfl
  | cons x l ih => rw [List.flatMap_cons, List.length_append, ih, List.length_cons]; simp [caseCells]; omega
theorem flat_get (l : List CaseM) (t j : Nat) (ht : t < l.length) (hj : j < 3) : (l.flatMap caseCells)[t * 3 + j]? = (caseCells (l.getD t noCase))[j]? := by
  induction l generalizing t with
  | nil => simp at ht
  | cons x l ih =>
    rw [List.flatMap_cons]
    have hx : (caseCells x).length = 3 := rfl
    cases t with
    | zero => rw [List.getElem?_append_left (by rw [hx]; omega)]; simp
    | succ t =>
      rw [List.getElem?_append_right (by rw [hx]; omega), hx, show (t + 1) * 3 + j - 3 = t * 3 + j by omega, ih t (by simpa using ht)]
      simp
theorem OwnC.nil (w : World) (base : Nat) : OwnC w base (.slice none 0 0) [] := World.ownsRow_nil w base _ 3
theorem OwnC.shape {w : World} {base : Nat} {v : Value} {l : List CaseM} (h : OwnC w base v l) :
    (v = .slice none 0 0 ∧ l = []) ∨ ∃ g cap, v = .slice (some ⟨g, 0, none⟩) l.length cap ∧ base ≤ g ∧ g < w.heap.size ∧ l.length ≤ cap := by
  rcases h.2 with ⟨rfl, h2⟩ | ⟨g, cap, cur, rfl, h3, h4, h5, h6, _, _⟩
  · exact .inl ⟨rfl, List.length_eq_zero_iff.1 h2⟩
  · exact .inr ⟨g, cap, rfl, h3, (Array.getElem?_eq_some_iff.1 h4).1, h5⟩
theorem OwnC.len {w : World} {base : Nat} {v : Value} {l : List CaseM} (h : OwnC w base v l) : ∃ a cap, v = .slice a l.length cap := by
  rcases h.shape with ⟨rfl, rfl⟩ | ⟨g, cap, rfl, _⟩
  · exact ⟨_, _, rfl⟩
  · exact ⟨_, _, rfl⟩
theorem OwnC.read {w : World} {base : Nat} {v : Value} {l : List CaseM} (h : OwnC w base v l) (hl : l.length ≤ 140737488351232) (hw : ∀ x ∈ l, x.ok) : SlC w v l := by
  have h0 := h
  rcases h.shape with ⟨rfl, rfl⟩ | ⟨g, cap, rfl, h1, h2, h3⟩
  · exact SlC.nil w
  · refine ⟨hl, hw, some ⟨g, 0, none⟩, cap, rfl, h3, fun t ht => ⟨g, 0, rfl, h2, ?_⟩⟩
    have hc : ∀ j, j < 3 → w.cell? ⟨g, t * 3 + j, none⟩ = (caseCells (l.getD t noCase))[j]? := fun j hj => by
      rw [World.ownsRow.cellAt h0 (t * 3 + j) (by omega), flat_get l t j ht hj]
    have c0 := hc 0 (by omega)
    have c1 := hc 1 (by omega)
    have c2 := hc 2 (by omega)
    rw [Nat.zero_add]
    exact ⟨by simpa [caseCells] using c0, by simpa [caseCells] using c1, by simpa [caseCells] using c2⟩
theorem OwnC.kept {w w' : World} {base : Nat} {v : Value} {l : List CaseM} {row : Option Nat} (h : OwnC w base v l) (hg : w.grownBy w' row) (hne : v.ownBlock = none ∨ v.ownBlock ≠ row) : OwnC w' base v l := World.ownsRow.kept h hg hne
theorem OwnC.alloc {w : World} {base : Nat} {v : Value} {l : List CaseM} (h : OwnC w base v l) (o : Obj) : OwnC (w.alloc o) base v l := World.ownsRow.alloc h o
theorem OwnC.own_ge {w : World} {base : Nat} {v : Value} {l : List CaseM} (h : OwnC w base v l) : ∀ j, v.ownBlock = some j → base ≤ j := fun j hj => (World.ownsRow.lt h j hj).1
theorem OwnC.ne {w : World} {base : Nat} {v : Value} {l : List CaseM} (h : OwnC w base v l) {g : Nat} (hg : g < base) : v.ownBlock = none ∨ v.ownBlock ≠ some g := by
  cases hv : v.ownBlock with
  | none => exact .inl rfl
  | some b => exact .inr fun e => by have := h.own_ge b hv; cases e; omega
theorem OwnC.below {w w' : World} {base : Nat} {v : Value} {l : List CaseM} (h : OwnC w base v l) (hb : Below w.heap.size w w') : OwnC w' base v l := by
  refine h.kept (row := none) ⟨hb.os, hb.tape, hb.output, hb.size, fun j hj _ => hb.block j hj⟩ ?_
  cases hv : v.ownBlock with
  | none => exact .inl rfl
  | some x => exact .inr (by simp)
theorem OwnC.mono_base {w : World} {base b' : Nat} {v : Value} {l : List CaseM} (h : OwnC w base v l) (hb : b' ≤ base) : OwnC w b' v l := by
  refine ⟨h.1, ?_⟩
  rcases h.2 with h1 | ⟨g, cap, cur, h1, h2, h3⟩
  · exact .inl h1
  · exact .inr ⟨g, cap, cur, h1, Nat.le_trans hb h2, h3⟩
theorem rows_apart {w : World} {b1 b2 n1 n2 s1 s2 : Nat} {e1 e2 : TypeId} {v1 v2 : Value} {l1 l2 : List Value} (h1 : w.ownsRow b1 e1 s1 v1 n1 l1) (h2 : w.ownsRow b2 e2 s2 v2 n2 l2) (he : e1 ≠ e2) : v1.ownBlock = none ∨ v1.ownBlock ≠ v2.ownBlock := by
  rcases h1.2 with ⟨rfl, _⟩ | ⟨g, cap, cur, rfl, _, hg, _⟩
  · exact .inl rfl
  · rcases h2.2 with ⟨rfl, _⟩ | ⟨g', cap', cur', rfl, _, hg', _⟩
    · exact .inr (by simp [Value.ownBlock])
    · refine .inr ?_
      simp only [Value.ownBlock, ne_eq, Option.some.injEq]
      intro e
      rw [e, hg'] at hg
      simp at hg
      exact he hg.2.symm
theorem Try.info_case : (Try.prog.info? 63).map (fun i => (i.zero, i.size, i.bytes)) = some (some (.agg #[.bool false, .int .i64 0, .int .u64 0]), 3, 24) := by kernel_rfl
section
variable (w : World) {ops : Array Oper} {rest : List Oper} {o : Oper} {a : Act} {Q : Exit → Act → World → Prop}
theorem wp_append_case (hg : o.guard = none) (s x : Operand) (hop : o.op = Op.call { callee := Callee.builtin Builtin.append, args := #[s, x], argTypes := #[36, 36] })
    (base : Nat) (v : Value) (l : List CaseM) (hs : a.eval s = v) (hown : OwnC w base v l) (y : CaseM) (g : Nat)
    (hx : a.eval x = .slice (some ⟨g, 0, none⟩) 1 1) (hcell : CaseAt w g 0 y) (hl : l.length ≤ 1000000) (hb : base ≤ w.heap.size)
    (hK : ∀ v' w', OwnC w' base v' (l ++ [y]) → w.grownBy w' v.ownBlock → wpList Try.prog ops Q rest (a.put o.dst v') w') :
    wpList Try.prog ops Q (o :: rest) a w := by
  obtain ⟨i0, hi, hz0, hz1, hz2⟩ := info_parts Try.info_case
  refine wpList_append_own w hg s x _ hop base _ i0 _ 3 _ (by kernel_rfl) hi hz0 hz1 rfl rfl (by decide) v l.length _ hs hown ⟨g, 0, none⟩ 1 1 (caseCells y) hx rfl ?_ ?_ (by unfold maxLen; omega) (by rw [hz2]; omega) hb fun v' w' h1 h2 h3 => hK v' w' ?_ h2
  · obtain ⟨c0, c1, c2⟩ := hcell
    intro j u hj
    match j, hj with
    | 0, hj => simp [caseCells] at hj; subst hj; simpa [Addr.add] using c0
    | 1, hj => simp [caseCells] at hj; subst hj; simpa [Addr.add] using c1
    | 2, hj => simp [caseCells] at hj; subst hj; simpa [Addr.add] using c2
  · intro u hu
    simp only [caseCells, List.mem_cons, List.not_mem_nil, or_false] at hu
    rcases hu with rfl | rfl | rfl <;> rfl
  · unfold OwnC
    rw [List.length_append, List.flatMap_append, List.flatMap_cons, List.flatMap_nil, List.append_nil]
    exact h1
end
theorem step_append_case {w : World} {ops : Array Oper} {o : Oper} {a : Act} {K : Act → World → Prop} {Q : Exit → Act → World → Prop} {E : Prop}
    (hgd : o.guard = none) (s x : Operand) (hop : o.op = Op.call { callee := Callee.builtin Builtin.append, args := #[s, x], argTypes := #[36, 36] })
    (base : Nat) (v : Value) (l : List CaseM) (hs : a.eval s = v) (hown : OwnC w base v l) (y : CaseM) (g : Nat)
    (hx : a.eval x = .slice (some ⟨g, 0, none⟩) 1 1) (hcell : CaseAt w g 0 y) (hl : l.length ≤ 1000000) (hb : base ≤ w.heap.size)
    (hK : ∀ v' w', OwnC w' base v' (l ++ [y]) → w.grownBy w' v.ownBlock → K (a.put o.dst v') w') :
    if Region.wanted o (yielded ops a.tmps) = true then Oper.wp Try.prog o a w K Q else E := by
  have hw : Region.wanted o (yielded ops a.tmps) = true := by simp [Region.wanted, hgd]
  rw [if_pos hw]
  obtain ⟨i0, hi, hz0, hz1, hz2⟩ := info_parts Try.info_case
  refine wp_append_own w s x _ hop base _ i0 _ 3 _ (by kernel_rfl) hi hz0 hz1 rfl rfl (by decide) v l.length _ hs hown ⟨g, 0, none⟩ 1 1 (caseCells y) hx rfl ?_ ?_ (by unfold maxLen; omega) (by rw [hz2]; omega) hb fun v' w' h1 h2 _ => hK v' w' ?_ h2
  · obtain ⟨c0, c1, c2⟩ := hcell
    intro j u hj
    match j, hj with
    | 0, hj => simp [caseCells] at hj; subst hj; simpa [Addr.add] using c0
    | 1, hj => simp [caseCells] at hj; subst hj; simpa [Addr.add] using c1
    | 2, hj => simp [caseCells] at hj; subst hj; simpa [Addr.add] using c2
  · intro u hu
    simp only [caseCells, List.mem_cons, List.not_mem_nil, or_false] at hu
    rcases hu with rfl | rfl | rfl <;> rfl
  · unfold OwnC
    rw [List.length_append, List.flatMap_append, List.flatMap_cons, List.flatMap_nil, List.append_nil]
    exact h1
/-- append(nil, l...) of nothing stays nil -/
theorem wp_copy_none (w : World) {ops : Array Oper} {rest : List Oper} {o : Oper} {a : Act} {Q : Exit → Act → World → Prop} (hg : o.guard = none) (s x : Operand) (T e : TypeId) (i : TypeInfo)
    (hop : o.op = Op.call { callee := Callee.builtin Builtin.append, args := #[s, x], argTypes := #[T, T] }) (ht : Try.prog.underlying T = some (.slice e)) (hi : Try.prog.info? e = some i)
    (hs : a.eval s = .slice none 0 0) (A : Option Addr) (c : Nat) (hx : a.eval x = .slice A 0 c) (h : wpList Try.prog ops Q rest (a.put o.dst (.slice none 0 0)) w) :
    wpList Try.prog ops Q (o :: rest) a w := by
  refine wpList_plain hg fun K hK => ?_
  have hrun : (Builtin.append_ #[T, T] o.type #[.slice none 0 0, .slice A 0 c]).run Try.prog w = .ok (.slice none 0 0) w := by
    cases A <;> simp [Builtin.append_, run_underlying ht, sizeOf, typeInfo, hi, Builtin.lenOf, Builtin.firstCells, storeCells, loadCells, loadCellsFrom, Result.andThen]
  unfold Oper.wp
  simp [execOp, hop, resolve, invoke, builtin, hs, hx, hrun, Result.andThen]
  exact hK _ _ h
theorem wp_copy_i64_any (w : World) {ops : Array Oper} {rest : List Oper} {o : Oper} {a : Act} {Q : Exit → Act → World → Prop}
    (hg : o.guard = none) (s x : Operand) (hop : o.op = Op.call { callee := Callee.builtin Builtin.append, args := #[s, x], argTypes := #[31, 31] })
    (xv : Value) (l : List Int) (hs : a.eval s = .slice none 0 0) (hx : a.eval x = xv) (hS : SlI w .i64 xv l) (hl : l.length ≤ 1000000) (B : Nat) (hB : B ≤ w.heap.size)
    (hK : ∀ v' w', OwnI w' B 3 .i64 v' l → Below w.heap.size w w' → wpList Try.prog ops Q rest (a.put o.dst v') w') :
    wpList Try.prog ops Q (o :: rest) a w := by
  by_cases hne : l = []
  · subst hne
    obtain ⟨i0, hi, -⟩ := info_parts Try.info_i64
    obtain ⟨A, cap, rfl, -⟩ := hS.len
    exact wp_copy_none w hg s x _ _ i0 hop (by kernel_rfl) hi hs A cap hx (hK _ _ (OwnI.nil _ _ _ _) (Below.refl _ _))
  · exact wp_copy_i64 w hg s x hop xv l hs hx hS hne hl fun g cap w' h1 h2 _ => hK _ _ (h1.mono_base hB) h2
theorem wp_copy_case_any (w : World) {ops : Array Oper} {rest : List Oper} {o : Oper} {a : Act} {Q : Exit → Act → World → Prop}
    (hg : o.guard = none) (s x : Operand) (hop : o.op = Op.call { callee := Callee.builtin Builtin.append, args := #[s, x], argTypes := #[36, 36] })
    (xv : Value) (l : List CaseM) (hs : a.eval s = .slice none 0 0) (hx : a.eval x = xv) (hS : SlC w xv l) (hl : l.length ≤ 1000000) (B : Nat) (hB : B ≤ w.heap.size)
    (hK : ∀ v' w', OwnC w' B v' l → Below w.heap.size w w' → wpList Try.prog ops Q rest (a.put o.dst v') w') :
    wpList Try.prog ops Q (o :: rest) a w := by
  obtain ⟨i0, hi, hz0, hz1, hz2⟩ := info_parts Try.info_case
  obtain ⟨m1, m2, A, cap, rfl, hcap, h5⟩ := hS
  by_cases hne : l = []
  · subst hne
    exact wp_copy_none w hg s x _ _ i0 hop (by kernel_rfl) hi hs A cap hx (hK _ _ (OwnC.nil _ _) (Below.refl _ _))
  · obtain ⟨b, off, rfl, hb, -⟩ := h5 0 (List.length_pos_iff.2 hne)
    refine wpList_append_own w hg s x _ hop w.heap.size _ i0 _ 3 _ (by kernel_rfl) hi hz0 hz1 rfl rfl (by decide) (.slice none 0 0) 0 [] hs (World.ownsRow_nil _ _ _ _) ⟨b, off, none⟩ l.length cap (l.flatMap caseCells) hx (flat_length l) ?_ ?_ (by unfold maxLen; omega) (by rw [hz2]; omega) (Nat.le_refl _) fun v' w' h1 h2 _ => ?_
    · intro j u hj
      have hjl : j < l.length * 3 := by rw [← flat_length]; exact (List.getElem?_eq_some_iff.1 hj).1
      obtain ⟨q, m, hm, rfl⟩ : ∃ q m, m < 3 ∧ j = q * 3 + m := ⟨j / 3, j % 3, by omega, by omega⟩
      obtain ⟨b', off', e, -, c0, c1, c2⟩ := h5 q (by omega)
      simp only [Option.some.injEq, Addr.mk.injEq, and_true] at e
      obtain ⟨rfl, rfl⟩ := e
      rw [flat_get l q m (by omega) hm] at hj
      rw [add_plain]
      obtain rfl | rfl | rfl : m = 0 ∨ m = 1 ∨ m = 2 := by omega
      · simp [caseCells] at hj; subst hj; simpa using c0
      · simp [caseCells] at hj; subst hj; simpa [Nat.add_assoc] using c1
      · simp [caseCells] at hj; subst hj; simpa [Nat.add_assoc] using c2
    · intro u hu
      simp only [List.mem_flatMap, caseCells, List.mem_cons, List.not_mem_nil, or_false] at hu
      obtain ⟨c, -, hu⟩ := hu
      rcases hu with rfl | rfl | rfl <;> rfl
    · have ho : OwnC w' w.heap.size v' l := by unfold OwnC; simpa using h1
      exact hK _ _ (ho.mono_base hB) ((Below.refl _ _).grown h2 (Nat.le_refl _) (fun j hj => by cases hj))
theorem SlC.litAt (w : World) (l : List CaseM) (g : Nat) (hg : g = w.heap.size) (hw : ∀ x ∈ l, x.ok) (hl : l.length ≤ 140737488351232) :
    SlC (w.alloc (.cells (l.flatMap caseCells).toArray 63)) (.slice (some ⟨g, 0, none⟩) l.length l.length) l := by
  subst hg
  refine ⟨hl, hw, _, _, rfl, Nat.le_refl _, fun t ht => ⟨_, 0, rfl, by simp, ?_⟩⟩
  have hc : ∀ j, j < 3 → (w.alloc (.cells (l.flatMap caseCells).toArray 63)).cell? ⟨w.heap.size, 0 + t * 3 + j, none⟩ = (caseCells (l.getD t noCase))[j]? := fun j hj => by
    rw [World.cell?_alloc_at _ _ _ _ rfl, Nat.zero_add, ← flat_get l t j ht hj]; simp
  have c0 := hc 0 (by omega)
  have c1 := hc 1 (by omega)
  have c2 := hc 2 (by omega)
  exact ⟨by simpa [caseCells] using c0, by simpa [caseCells] using c1, by simpa [caseCells] using c2⟩
end Go.Proofs.Ytckjdlphilpgfaa
