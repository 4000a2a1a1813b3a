/- The reader of choices: configurations of any size. -/
import Derived.Test.YtkpnakomlfjndaaCodes3
import Derived.Test.YtkpnakomlfjndaaPerm2
import Derived.Test.YtkpnakomlfjndaaConf
import Derived.Deep.DeepCutAuto
namespace Go.Proofs.Ytkpnakomlfjndaa
open Go.ChangeShapes Go.WideShapes Go.ChangeAt Go.RowKit
set_option maxRecDepth 100000

def zeroConf : Array Value := #[.slice none 0 0, .slice none 0 0, .int .i64 0]
/-- while a configuration is made: the reader, the result's block, the variable with its two lists -/
structure WideInv (w0 w : World) (g : Nat) (vc vs : Value) (caps starts : List Int) : Prop where
  lt : g < w0.heap.size
  size : w0.heap.size + 2 ≤ w.heap.size
  codes : CodesE w g
  grown : w0.grownBy w (some g)
  res : w.heap[w0.heap.size]? = some (.cells zeroConf 46 (0, 0))
  var : w.heap[w0.heap.size + 1]? = some (.cells #[vc, vs, .int .i64 0] 46 (0, 0))
  oc : OwnI w (w0.heap.size + 2) 3 .i64 vc caps
  os : OwnI w (w0.heap.size + 2) 26 .u64 vs starts
theorem WideInv.start {w : World} {g : Nat} (h : CodesE w g) : WideInv w ((w.alloc (.cells zeroConf 46)).alloc (.cells zeroConf 46)) g (.slice none 0 0) (.slice none 0 0) [] [] := by
  have hb := below_new (below_new (Below.refl w.heap.size w) (.cells zeroConf 46)) (.cells zeroConf 46)
  exact ⟨h.lt, by simp, h.kept h.lt hb, grown_of_below hb, heap_alloc2_old _ _ _, heap_alloc2_new _ _ _, OwnI.nil _ _ _ _, OwnI.nil _ _ _ _⟩
theorem WideInv.next {w0 w w' : World} {g : Nat} {vc vs : Value} {caps starts : List Int} (h : WideInv w0 w g vc vs caps starts) (hc : CodesE w' g) (hg : w.grownBy w' (some g)) : WideInv w0 w' g vc vs caps starts := by
  have hs := h.size
  have hl := h.lt
  exact ⟨hl, Nat.le_trans hs hg.size, hc, grownBy_trans h.grown hg, (hg.block _ (by omega) (by simp; omega)).trans h.res, (hg.block _ (by omega) (by simp; omega)).trans h.var, h.oc.kept hg (h.oc.ne (by omega)), h.os.kept hg (h.os.ne (by omega))⟩
theorem WideInv.below {w0 w w' : World} {g : Nat} {vc vs : Value} {caps starts : List Int} (h : WideInv w0 w g vc vs caps starts) (hb : Below w.heap.size w w') : WideInv w0 w' g vc vs caps starts :=
  h.next (h.codes.kept h.codes.lt hb) (grown_of_below hb)
theorem WideInv.varAt {w0 w w1 : World} {g : Nat} {vc vs : Value} {caps starts : List Int} {row : Option Nat} (h : WideInv w0 w g vc vs caps starts) (hg : w.grownBy w1 row) (hr : ∀ j, row = some j → w0.heap.size + 2 ≤ j) :
    w1.heap[w0.heap.size + 1]? = some (.cells #[vc, vs, .int .i64 0] 46 (0, 0)) :=
  (hg.block _ (by have := h.size; omega) (fun e => by have := hr _ e.symm; omega)).trans h.var
theorem WideInv.addCap {w0 w w1 : World} {g : Nat} {vc vs vc' : Value} {caps caps' starts : List Int} (h : WideInv w0 w g vc vs caps starts) (ho : OwnI w1 (w0.heap.size + 2) 3 .i64 vc' caps') (hg : w.grownBy w1 vc.ownBlock) :
    WideInv w0 (w1.setCell ⟨w0.heap.size + 1, 0, none⟩ vc') g vc' vs caps' starts := by
  have hs := h.size
  have hl := h.lt
  have hge := h.oc.own_ge
  have b : ∀ j, j < w0.heap.size + 2 → w1.heap[j]? = w.heap[j]? := fun j hj => hg.block j (by omega) (fun e => by have := hge j e.symm; omega)
  have b2 : ∀ j, j ≠ w0.heap.size + 1 → (w1.setCell ⟨w0.heap.size + 1, 0, none⟩ vc').heap[j]? = w1.heap[j]? := fun j hj => heap_setCell_other w1 ⟨w0.heap.size + 1, 0, none⟩ j _ hj
  have hb : Below (w0.heap.size + 1) w (w1.setCell ⟨w0.heap.size + 1, 0, none⟩ vc') := by
    refine ⟨hg.os, hg.tape, hg.output, by simpa using hg.size, fun k hk => (b2 k (by omega)).trans (b k (by omega))⟩
  have hv := heap_setCell_same w1 (w0.heap.size + 1) 0 _ _ vc' ((b _ (by omega)).trans h.var)
  have h1 := h.os.kept hg (rows_apart h.os h.oc (by decide))
  refine ⟨hl, by simpa using Nat.le_trans hs hg.size, h.codes.kept (by omega) hb, ?_, (b2 _ (by omega)).trans ((b _ (by omega)).trans h.res), by simpa using hv, ?_, ?_⟩
  · exact grownBy_of_new (grownBy_of_new h.grown hg (fun k hk => by have := hge k hk; omega)) (grownBy_setCell w1 ⟨w0.heap.size + 1, 0, none⟩ vc') (fun k hk => by cases hk; simp)
  · exact ho.kept (grownBy_setCell w1 ⟨w0.heap.size + 1, 0, none⟩ vc') (ho.ne (Nat.lt_succ_self _))
  · exact h1.kept (grownBy_setCell w1 ⟨w0.heap.size + 1, 0, none⟩ vc') (h1.ne (Nat.lt_succ_self _))
theorem WideInv.addStart {w0 w w1 : World} {g : Nat} {vc vs vs' : Value} {caps starts starts' : List Int} (h : WideInv w0 w g vc vs caps starts) (ho : OwnI w1 (w0.heap.size + 2) 26 .u64 vs' starts') (hg : w.grownBy w1 vs.ownBlock) :
    WideInv w0 (w1.setCell ⟨w0.heap.size + 1, 1, none⟩ vs') g vc vs' caps starts' := by
  have hs := h.size
  have hl := h.lt
  have hge := h.os.own_ge
  have b : ∀ j, j < w0.heap.size + 2 → w1.heap[j]? = w.heap[j]? := fun j hj => hg.block j (by omega) (fun e => by have := hge j e.symm; omega)
  have b2 : ∀ j, j ≠ w0.heap.size + 1 → (w1.setCell ⟨w0.heap.size + 1, 1, none⟩ vs').heap[j]? = w1.heap[j]? := fun j hj => heap_setCell_other w1 ⟨w0.heap.size + 1, 1, none⟩ j _ hj
  have hb : Below (w0.heap.size + 1) w (w1.setCell ⟨w0.heap.size + 1, 1, none⟩ vs') := by
    refine ⟨hg.os, hg.tape, hg.output, by simpa using hg.size, fun k hk => (b2 k (by omega)).trans (b k (by omega))⟩
  have hv := heap_setCell_same w1 (w0.heap.size + 1) 1 _ _ vs' ((b _ (by omega)).trans h.var)
  have h1 := h.oc.kept hg (rows_apart h.oc h.os (by decide))
  refine ⟨hl, by simpa using Nat.le_trans hs hg.size, h.codes.kept (by omega) hb, ?_, (b2 _ (by omega)).trans ((b _ (by omega)).trans h.res), by simpa using hv, ?_, ?_⟩
  · exact grownBy_of_new (grownBy_of_new h.grown hg (fun k hk => by have := hge k hk; omega)) (grownBy_setCell w1 ⟨w0.heap.size + 1, 1, none⟩ vs') (fun k hk => by cases hk; simp)
  · exact h1.kept (grownBy_setCell w1 ⟨w0.heap.size + 1, 1, none⟩ vs') (h1.ne (Nat.lt_succ_self _))
  · exact ho.kept (grownBy_setCell w1 ⟨w0.heap.size + 1, 1, none⟩ vs') (ho.ne (Nat.lt_succ_self _))
/-- the lists that were made -/
structure WideOk (caps starts : List Int) (k : Nat) : Prop where
  nc : caps.length = k
  ns : starts.length = k
  rc : ∀ x ∈ caps, 0 ≤ x ∧ x ≤ 16
  rs : ∀ x ∈ starts, 0 ≤ x ∧ x < 9223372036854775808
theorem WideOk.snoc {caps starts : List Int} {k : Nat} (h : WideOk caps starts k) (x y : Int) (hx : 0 ≤ x ∧ x < 17) (hy : 0 ≤ y ∧ y < 9223372036854775808) : WideOk (caps ++ [x]) (starts ++ [y]) (k + 1) := by
  refine ⟨by simp [h.nc], by simp [h.ns], fun z hz => ?_, fun z hz => ?_⟩
  · rw [List.mem_append, List.mem_singleton] at hz
    rcases hz with hz | rfl
    · exact h.rc z hz
    · omega
  · rw [List.mem_append, List.mem_singleton] at hz
    rcases hz with hz | rfl
    · exact h.rs z hz
    · exact hy
theorem WideInv.fin {w0 w : World} {g k : Nat} {vc vs : Value} {caps starts : List Int} (h : WideInv w0 w g vc vs caps starts) (hk : WideOk caps starts k) (hk8 : k ≤ 8) (a : Value) (cells : Array Value) (t : Int) :
    ConfX ((w.setCell ⟨w0.heap.size + 1, 2, none⟩ a).setRow w0.heap.size cells) g (.agg #[vc, vs, .int .i64 t]) ⟨caps, starts, t⟩ ∧ CodesE ((w.setCell ⟨w0.heap.size + 1, 2, none⟩ a).setRow w0.heap.size cells) g ∧ w0.grownBy ((w.setCell ⟨w0.heap.size + 1, 2, none⟩ a).setRow w0.heap.size cells) (some g) := by
  have hl := h.lt
  have g1 := grownBy_setCell w ⟨w0.heap.size + 1, 2, none⟩ a
  have g2 := grownBy_setRow (w.setCell ⟨w0.heap.size + 1, 2, none⟩ a) w0.heap.size cells
  have o1 := h.oc.kept g1 (h.oc.ne (Nat.lt_succ_self _))
  have o2 := o1.kept g2 (o1.ne (by omega))
  have p1 := h.os.kept g1 (h.os.ne (Nat.lt_succ_self _))
  have p2 := p1.kept g2 (p1.ne (by omega))
  refine ⟨⟨vc, vs, rfl, o2.read (by show caps.length ≤ _; rw [hk.nc]; omega) fun x hx => i64_ok x (by have := hk.rc x hx; omega) (by have := hk.rc x hx; omega), p2.read (by show starts.length ≤ _; rw [hk.ns]; omega) (fun x hx => u64_ok x (by have := hk.rs x hx; omega) (by have := hk.rs x hx; omega)), o2.off (by omega), p2.off (by omega)⟩, ?_, ?_⟩
  · exact h.codes.kept (B := w0.heap.size) hl (below_setRow ((Below.refl _ w).setCell (p := ⟨w0.heap.size + 1, 2, none⟩) (by simp) a) (Nat.le_refl _) cells)
  · exact grownBy_of_new (grownBy_of_new h.grown g1 (fun k hk => by cases hk; simp)) g2 (fun k hk => by cases hk; omega)
theorem all3 {k : IntKind} {n : Int} {u v : Value} (hu : u.oneCell' = true) (hv : v.oneCell' = true) : (#[u, v, .int k n] : Array Value).all (·.oneCell') = true := by
  have hi : ∀ k n, (Value.int k n).oneCell' = true := fun _ _ => rfl
  simp [hi, hu, hv]
/-- a start that is drawn -/
def wideV (a b : Int) : Int := (IntKind.u64.wrap (IntKind.u64.wrap (IntKind.u64.wrap a * 36028797018963968) + IntKind.u64.wrap b)).tmod 9223372036854775808
theorem wideV_ok (a b : Int) : 0 ≤ wideV a b ∧ wideV a b < 9223372036854775808 := by
  have hz : 0 ≤ IntKind.u64.wrap (IntKind.u64.wrap (IntKind.u64.wrap a * 36028797018963968) + IntKind.u64.wrap b) := by
    rw [IntKind.wrap_u64]; exact Int.emod_nonneg _ (by omega)
  unfold wideV
  rw [Int.tmod_eq_emod_of_nonneg hz]
  generalize IntKind.u64.wrap (IntKind.u64.wrap (IntKind.u64.wrap a * 36028797018963968) + IntKind.u64.wrap b) = z at *
  omega
theorem WideOk.good {caps starts : List Int} {k : Nat} (h : WideOk caps starts k) (hk : k ≤ 8) (t : Int) (h0 : 0 ≤ t) (h1 : t < 8) : ConfM.good ⟨caps, starts, 1 + t⟩ :=
  ⟨by show caps.length ≤ 8; rw [h.nc]; exact hk, by show starts.length = caps.length; rw [h.nc, h.ns], h.rc, h.rs, by show 1 ≤ 1 + t ∧ 1 + t ≤ 8; omega⟩
set_option maxRecDepth 100000 in
set_option maxHeartbeats 8000000 in
theorem wideE2 (g : Nat) (w : World) (h : CodesE w g) :
    Calls Try.prog 22 #[.pointer (some ⟨g, 0, none⟩)] w fun e w' => ∃ u c, e = .returned u ∧ ConfX w' g u c ∧ c.good ∧ CodesE w' g ∧ w.grownBy w' (some g) := by
  have ST := Lib.hid (WideInv.start h)
  have HOK : Hid (WideOk [] [] 0) := ⟨rfl, rfl, by simp, by simp⟩
  obtain ⟨W, hW⟩ : ∃ W, (w.alloc (.cells zeroConf 46)).alloc (.cells zeroConf 46) = W := ⟨_, rfl⟩
  rw [hW] at ST
  have HW := Lib.hid hW
  clear hW h
  go_enter Try.func22, Try.ntmps22
  go_wp2_with fail
  rw [show (#[.slice none 0 0, .slice none 0 0, .int .i64 0] : Array Value) = zeroConf from rfl, HW.out]
  clear HW
  go_loopw [4] (fun i wr => ∃ k : Nat, ∃ vc vs caps starts, k ≤ 8 ∧ i = .int .i64 k ∧ Hid (WideInv w wr g vc vs caps starts) ∧ Hid (WideOk caps starts k)) (fun i _ => 9 - (intOf i).toNat)
  case atStart => exact ⟨0, _, _, _, _, by omega, rfl, ST, HOK⟩
  case round =>
    clear ST HOK
    obtain ⟨k, vc, vs, caps, starts, hk, rfl, hI, hO⟩ := hrel
    obtain ⟨wo, rfl⟩ : ∃ wo : World, wo = wr := ⟨_, rfl⟩
    go_wp2_with fail
    refine (nextE g 9 _ hI.out.codes (by omega) (by omega)).mono ?_; rintro e w1 ⟨x, rfl, hx0, hx1, hc1, hg1⟩
    have hI1 := Lib.hid (hI.out.next hc1 hg1)
    clear hI hc1 hg1
    by_cases hlt : (k : Int) < x
    · go_upto_region 5 with fail
      go_cut [] (fun wx => ∃ (vc' : Value) (y : Int), 0 ≤ y ∧ y < 17 ∧ Hid (WideInv w wx g vc' vs (caps ++ [y]) starts))
      case first =>
        obtain ⟨v0, v1, v2⟩ := row3 hI1.out.var
        have q1 : w.heap.size + 1 < w1.heap.size := by have := hI1.out.size; omega
        go_region_law (first
          | (refine step_append_i64 (by rfl) _ _ (by rfl) (w.heap.size + 2) vc caps (by rfl) (hI2.out.oc.alloc _) y _ (by rfl) (by exact World.cell?_alloc_at _ _ _ _ rfl) (by rw [hO.out.nc]; omega) (by have := hI2.out.size; simp; omega) ?_; intro vc8 w8 ho8 hg8; obtain ⟨g8, cap8, e8⟩ := OwnI.shape_ne ho8; subst e8; have hr8 := WideInv.varAt (hI2.out.below (below_new (Below.refl _ _) _)) hg8 hI2.out.oc.own_ge; have hF8 := frozen_of_row _ _ 0 _ _ hr8; obtain ⟨v0, v1, v2⟩ := row3 hr8; clear hr8)
          | (go_simp; go_at_call 23; refine (nextE g 17 _ (by exact hI1.out.codes) (by omega) (by omega)).mono ?_; rintro e w2 ⟨y, rfl, hy0, hy1, hc2, hg2⟩; have hI2 := Lib.hid (hI1.out.next hc2 (undrewG hg2)); obtain ⟨v0, v1, v2⟩ := row3 hI2.out.var; have q2 : w.heap.size + 1 < w2.heap.size := (by have := hI2.out.size; omega); clear hc2 hg2))
        all_goals
          have hI3 := Lib.hid (WideInv.addCap (hI2.out.below (below_new (Below.refl _ _) _)) ho8 hg8)
          clear v0 v1 v2 ho8 hg8 hF8
          go_wp2_with fail
          go_meet
          exact ⟨_, _, hy0, hy1, hI3⟩
      case rest =>
        obtain ⟨vc', y, hy0, hy1, hI3⟩ := hcut
        clear hI1
        obtain ⟨v0, v1, v2⟩ := row3 hI3.out.var
        have q3 : w.heap.size + 1 < wc.heap.size := by have := hI3.out.size; omega
        have HY := Lib.hid (And.intro hy0 hy1)
        clear hy0 hy1
        go_upto_region 6 with fail
        go_region_law (first
          | (refine step_append_u64 (by rfl) _ _ (by rfl) (w.heap.size + 2) vs starts (by rfl) (hI5.out.os.alloc _) (wideV a b) _ (by rfl) (by exact World.cell?_alloc_at _ _ _ _ rfl) (by rw [hO.out.ns]; omega) (by have := hI5.out.size; simp; omega) ?_; intro vs8 w8 ho8 hg8; obtain ⟨g8, cap8, e8⟩ := OwnI.shape_ne ho8; subst e8; have hr8 := WideInv.varAt (hI5.out.below (below_new (Below.refl _ _) _)) hg8 hI5.out.os.own_ge; have hF8 := frozen_of_row _ _ 1 _ _ hr8; obtain ⟨v0, v1, v2⟩ := row3 hr8; clear hr8)
          | (go_simp; go_at_call 23; refine (nextE g 256 _ (by exact hI4.out.codes) (by omega) (by omega)).mono ?_; rintro e w5 ⟨b, rfl, hb0, hb1, hc5, hg5⟩; have hI5 := Lib.hid (hI4.out.next hc5 hg5); obtain ⟨v0, v1, v2⟩ := row3 hI5.out.var; have q5 : w.heap.size + 1 < w5.heap.size := (by have := hI5.out.size; omega); clear hc5 hg5)
          | (go_simp; go_at_call 23; refine (nextE g 256 _ (by exact hI3.out.codes) (by omega) (by omega)).mono ?_; rintro e w4 ⟨a, rfl, ha0, ha1, hc4, hg4⟩; have hI4 := Lib.hid (hI3.out.next hc4 (undrewG hg4)); obtain ⟨v0, v1, v2⟩ := row3 hI4.out.var; have q4 : w.heap.size + 1 < w4.heap.size := (by have := hI4.out.size; omega); clear hc4 hg4))
        all_goals
          have hI6 := Lib.hid (WideInv.addStart (hI5.out.below (below_new (Below.refl _ _) _)) ho8 hg8)
          have hO6 := Lib.hid (hO.out.snoc y (wideV a b) HY.out (wideV_ok a b))
          clear v0 v1 v2 ho8 hg8 hF8
          go_wp2
          go_roundw
          case rel => exact ⟨k + 1, _, _, _, _, by omega, by go_num, hI6, hO6⟩
          case measure => simp [intOf]; omega
    · go_wp2_with fail
      refine (nextE g 8 _ hI1.out.codes (by omega) (by omega)).mono ?_; rintro e w2 ⟨t, rfl, ht0, ht1, hc2, hg2⟩
      have hI2 := Lib.hid (hI1.out.next hc2 hg2)
      clear hc2 hg2 hI1
      obtain ⟨v0, v1, v2⟩ := row3 hI2.out.var
      have ff2 := frozen_of_row _ _ 2 _ _ hI2.out.var
      have R2 := heap_setCell_same w2 (w.heap.size + 1) 2 _ _ (.int .i64 (1 + t)) hI2.out.var
      simp at R2
      obtain ⟨u0, u1, u2⟩ := row3 R2
      clear R2
      have e1 := hI2.out.oc.one
      have e2 := hI2.out.os.one
      have RES := Lib.hid ((heap_setCell_other w2 ⟨w.heap.size + 1, 2, none⟩ w.heap.size (.int .i64 (1 + t)) (by simp)).trans hI2.out.res)
      go_wp2_with (refine wpList_store_row rfl 46 _ _ rfl (w.heap.size) _ rfl rfl 46 zeroConf RES.out (by kernel_rfl) rfl (all3 e1 e2) ?_)
      refine bodyPost_ret (v := .agg #[vc, vs, .int .i64 (1 + t)]) (results_cell_row Try.results22 _ _ (w.heap.size) 46 _ (0, 0) _ rfl (setRow_heap _ _ _ _ 46 (0, 0) RES.out) Try.underlying46 rfl (by kernel_rfl)) rfl ?_
      obtain ⟨f1, f2, f3⟩ := hI2.out.fin hO.out (by omega) (.int .i64 (1 + t)) #[vc, vs, .int .i64 (1 + t)] (1 + t)
      first
      | exact ⟨_, ⟨caps, starts, 1 + t⟩, rfl, f1, hO.out.good (by omega) t ht0 ht1, f2, f3⟩
      | exact ⟨_, rfl, ⟨caps, starts, 1 + t⟩, f1, hO.out.good (by omega) t ht0 ht1, f2, f3⟩
theorem wideE (g : Nat) (w : World) (h : CodesE w g) :
    Calls Try.prog 22 #[.pointer (some ⟨g, 0, none⟩)] w fun e w' => ∃ u c, e = .returned u ∧ ConfX w' g u c ∧ c.caps.length ≤ 8 ∧ CodesE w' g ∧ w.grownBy w' (some g) :=
  (wideE2 g w h).mono fun _ _ ⟨u, c, e1, e2, e3, e4⟩ => ⟨u, c, e1, e2, e3.len, e4⟩
end Go.Proofs.Ytkpnakomlfjndaa
