import Derived.Deep.DeepCutAuto
import Derived.Test.YtckjdlphilpgfaaB22
import Derived.Test.YtckjdlphilpgfaaB23
set_option linter.unusedVariables false
set_option linter.unusedSimpArgs false
/- The reader of choices: a select. -/
namespace Go.Proofs.Ytckjdlphilpgfaa
open Go.ChangeShapes Go.WideShapes Go.ChangeAt Go.RowKit
set_option maxRecDepth 100000

/-- the cases and the draws that were made -/
structure SelOk (cs : List CaseM) (ds : List Int) (k : Nat) : Prop where
  nc : cs.length = k
  nd : ds.length = k
  good : ∀ c ∈ cs, c.ok ∧ (-1 ≤ c.chan ∧ c.chan < 8) ∧ (c.send = true ∨ c.val = 0)
  dok : okD 0 ds = true
  dsm : ∀ x ∈ ds, 0 ≤ x ∧ x < 100
theorem SelOk.snoc {cs : List CaseM} {ds : List Int} {k : Nat} (h : SelOk cs ds k) (hk : k < 50) (c : CaseM) (d : Int) (h1 : c.ok) (h2 : -1 ≤ c.chan ∧ c.chan < 8) (h3 : c.send = true ∨ c.val = 0) (h4 : 0 ≤ d ∧ d ≤ k) : SelOk (cs ++ [c]) (ds ++ [d]) (k + 1) := by
  refine ⟨by simp [h.nc], by simp [h.nd], ?_, ?_, ?_⟩
  · intro x hx
    rw [List.mem_append, List.mem_singleton] at hx
    rcases hx with hx | rfl
    · exact h.good x hx
    · exact ⟨h1, h2, h3⟩
  · rw [okD_snoc, h.dok, h.nd]; simp; omega
  · intro x hx
    rw [List.mem_append, List.mem_singleton] at hx
    rcases hx with hx | rfl
    · exact h.dsm x hx
    · omega
theorem SelOk.goodOp {cs : List CaseM} {ds : List Int} {k : Nat} (h : SelOk cs ds k) (hk : k ≤ 6) (m d : Int) (hm : (m = 0 ∧ d = 0) ∨ (m = 1 ∧ d = 0) ∨ (m = 2 ∧ 0 ≤ d ∧ d < 5)) : OpM.good ⟨4, m, 0, 0, d, cs, ds⟩ := by
  have hm2 : 0 ≤ m ∧ m ≤ 2 := by omega
  have hd2 : 0 ≤ d ∧ d < 5 := by omega
  refine ⟨?_, ⟨i64_small _ (by simp only; omega) (by simp only; omega), i64_small _ (by simp only; omega) (by simp only; omega), i64_small _ (by simp only; omega) (by simp only; omega), u64_ok _ (by simp only; omega) (by simp only; omega), i64_small _ (by simp only; omega) (by simp only; omega)⟩, by simp only; rw [h.nc]; omega, by simp only; rw [h.nd]; omega, fun c hc => (h.good c hc).1⟩
  have k1 : kindB ⟨4, m, 0, 0, d, cs, ds⟩ = true := by simp [kindB]; omega
  have k2 : rangesB ⟨4, m, 0, 0, d, cs, ds⟩ = true := by
    simp only [rangesB, Bool.and_eq_true, decide_eq_true_eq, List.all_eq_true]
    refine ⟨⟨⟨by decide, by omega⟩, by omega⟩, fun c hc => ?_⟩
    have := (h.good c hc).2.1
    simp [namedB]; omega
  have k3 : shapeB ⟨4, m, 0, 0, d, cs, ds⟩ = true := by
    unfold shapeB
    have a3 : (((4 : Int) == 3 || (4 : Int) == 5 || (4 : Int) == 6) && m != 0 || (d != 0 && m != 2)) = false := by
      rcases hm with ⟨rfl, rfl⟩ | ⟨rfl, rfl⟩ | ⟨rfl, _⟩ <;> simp
    simp only [a3, Bool.false_eq_true, if_false]
    have a4 : ((4 : Int) != 4) = false := by decide
    have a5 : decide (ds.length ≠ cs.length) = false := by simp [h.nc, h.nd]
    simp only [a4, a5, Bool.false_eq_true, if_false]
    simp only [bne_self_eq_false, Bool.or_false, Bool.false_eq_true, if_false, List.all_eq_true, Bool.or_eq_true, beq_iff_eq]
    exact fun c hc => (h.good c hc).2.2
  have k4 : ¬ (6 < cs.length ∨ 6 < ds.length) := by rw [h.nc, h.nd]; omega
  show checkE ⟨4, m, 0, 0, d, cs, ds⟩ = 0
  unfold checkE
  rw [if_neg (by rw [k1]; simp), if_neg (by rw [k2]; simp), if_neg k4, if_neg (by rw [show okD 0 ds = true from h.dok]; simp), if_neg (by rw [k3]; simp)]
theorem SelInv.start {w : World} {g : Nat} (cc : Array Value) (h : CodesE w g) :
    SelInv w (((w.alloc (.cells cc 34)).alloc (.cells zeroOp 38)).alloc (.cells #[.int .i64 4, .int .i64 0, .int .i64 0, .int .u64 0, .int .i64 0, .slice none 0 0, .slice none 0 0] 38)) g cc (.slice none 0 0) (.slice none 0 0) [] [] := by
  have hb := below_new (below_new (below_new (Below.refl w.heap.size w) (.cells cc 34)) (.cells zeroOp 38)) (.cells #[.int .i64 4, .int .i64 0, .int .i64 0, .int .u64 0, .int .i64 0, .slice none 0 0, .slice none 0 0] 38)
  refine ⟨h.lt, by simp, h.kept h.lt hb, grown_of_below hb, ?_, ?_, ?_, OwnC.nil _ _, OwnI.nil _ _ _ _⟩
  · rw [heap_alloc_old _ _ (by simp; omega)]; exact heap_alloc2_old _ _ _
  · rw [heap_alloc_old _ _ (by simp)]; exact heap_alloc2_new _ _ _
  · have := heap_alloc_new ((w.alloc (.cells cc 34)).alloc (.cells zeroOp 38)) (.cells #[.int .i64 4, .int .i64 0, .int .i64 0, .int .u64 0, .int .i64 0, .slice none 0 0, .slice none 0 0] 38)
    simpa using this
set_option maxRecDepth 100000 in
set_option maxHeartbeats 8000000 in
theorem selectE (g most : Nat) (v : Value) (c : ConfM) (w : World) (h : CodesE w g) (hv : ConfX w g v c) (hc : c.caps.length ≤ 8) (hm : most ≤ 6) :
    Calls Try.prog 38 #[.pointer (some ⟨g, 0, none⟩), v, .int .i64 most] w fun e w' => ∃ u op, e = .returned u ∧ OpN w' w.heap.size u op ∧ op.good ∧ CodesE w' g ∧ w.grownBy w' (some g) := by
  have HX := Lib.hid hv
  obtain ⟨vc, vs, rfl, h1, h2, -⟩ := hv
  have ST := Lib.hid (SelInv.start #[vc, vs, .int .i64 c.threads] h)
  have HOK : Hid (SelOk [] [] 0) := ⟨rfl, rfl, by simp, rfl, by simp⟩
  obtain ⟨a, cap, rfl, -⟩ := h1.len
  obtain ⟨a2, cap2, rfl, -⟩ := h2.len
  have hlt := h.lt
  clear h1 h2 h
  obtain ⟨W, hW⟩ : ∃ W, (((w.alloc (.cells #[.slice a c.caps.length cap, .slice a2 c.starts.length cap2, .int .i64 c.threads] 34)).alloc (.cells zeroOp 38)).alloc (.cells #[.int .i64 4, .int .i64 0, .int .i64 0, .int .u64 0, .int .i64 0, .slice none 0 0, .slice none 0 0] 38)) = W := ⟨_, rfl⟩
  rw [hW] at ST
  have HW := Lib.hid hW
  clear hW
  go_enter Try.func38, Try.ntmps38
  go_wp2_with fail
  rw [show (#[.int .i64 0, .int .i64 0, .int .i64 0, .int .u64 0, .int .i64 0, .slice none 0 0, .slice none 0 0] : Array Value) = zeroOp from rfl, HW.out, show w.heap.size + 1 + 1 = w.heap.size + 2 from rfl]
  clear HW
  go_loopw [8, 9] (fun i _ wr => ∃ k : Nat, ∃ vcs vds cs ds, k ≤ most ∧ i = .int .i64 k ∧ Hid (SelInv w wr g #[.slice a c.caps.length cap, .slice a2 c.starts.length cap2, .int .i64 c.threads] vcs vds cs ds) ∧ Hid (SelOk cs ds k)) (fun i _ _ => most + 1 - (intOf i).toNat)
  case atStart => exact ⟨0, _, _, _, _, by omega, rfl, ST, HOK⟩
  case round =>
    obtain ⟨k, vcs, vds, cs, ds, hk, rfl, hI, hO⟩ := hrel
    obtain ⟨wo, rfl⟩ : ∃ wo : World, wo = wr := ⟨_, rfl⟩
    go_wp2_with fail
    refine (nextE g _ _ hI.out.codes (by omega) (by omega)).mono ?_; rintro e w1 ⟨x, rfl, hx0, hx1, hc1, hg1⟩
    have hI1 := Lib.hid (hI.out.next hc1 hg1)
    clear hI hc1 hg1
    by_cases hlt : (k : Int) < x
    · go_upto_region 5 with fail
      go_cut [9] (fun s9 wx => ∃ (Y : Nat) (sd : Bool) (z : Int), s9 = .pointer (some ⟨Y, 0, none⟩) ∧ -1 ≤ z ∧ z < 8 ∧ Hid (YInv w wx g #[.slice a c.caps.length cap, .slice a2 c.starts.length cap2, .int .i64 c.threads] vcs vds cs ds Y #[.bool sd, .int .i64 z, .int .u64 0]))
      case first =>
        obtain ⟨b0, b1, b2⟩ := row3 hI1.out.box
        have q1 : w.heap.size < w1.heap.size := by have := hI1.out.size; omega
        go_region_law (first
          | (go_simp; go_at_call 37; refine (channelE g _ c _ (by exact hY2.out.inv.codes) (by exact HX.out.grown hY2.out.inv.grown) hc).mono ?_; rintro e w3 ⟨z, rfl, hz0, hz1, hc3, hg3⟩; have hY3 := Lib.hid (hY2.out.next hc3 hg3); obtain ⟨y0, y1, y2⟩ := row3 hY3.out.row; obtain ⟨z0, z1, z2⟩ := hY3.out.frozen)
          | (go_simp; go_at_call 37; refine (channelE g _ c _ (by exact hI2.out.codes) (by exact HX.out.grown hI2.out.grown) hc).mono ?_; rintro e w3 ⟨z, rfl, hz0, hz1, hc3, hg3⟩; have hI3 := Lib.hid (hI2.out.next hc3 hg3))
          | (go_simp; go_at_call 37; refine (channelE g _ c _ (by exact (YInv.new hI2.out).inv.codes) (by exact HX.out.grown (YInv.new hI2.out).inv.grown) hc).mono ?_; rintro e w3 ⟨z, rfl, hz0, hz1, hc3, hg3⟩; have hY3 := Lib.hid ((YInv.new hI2.out).next hc3 hg3); obtain ⟨y0, y1, y2⟩ := row3 hY3.out.row; obtain ⟨z0, z1, z2⟩ := hY3.out.frozen)
          | (go_simp; go_at_call 23; refine (nextE g 2 _ (by exact hI1.out.codes) (by omega) (by omega)).mono ?_; rintro e w2 ⟨y, rfl, hy0, hy1, hc2, hg2⟩; have hI2 := Lib.hid (hI1.out.next hc2 (undrewG hg2)); obtain ⟨b0, b1, b2⟩ := row3 hI2.out.box; have q2 : w.heap.size < w2.heap.size := (by have := hI2.out.size; omega))
          | (go_simp; go_at_call 23; refine (nextE g 2 _ (by exact (YInv.new hI1.out).inv.codes) (by omega) (by omega)).mono ?_; rintro e w2 ⟨y, rfl, hy0, hy1, hc2, hg2⟩; have hY2 := Lib.hid ((YInv.new hI1.out).next hc2 (undrewG hg2)); obtain ⟨b0, b1, b2⟩ := row3 hY2.out.inv.box))
        all_goals
          go_wp2_with fail
          go_meet
          exact ⟨_, _, _, rfl, hz0, hz1, by first | exact hY3.out.set3 _ _ _ | exact YInv.lit hI3.out _⟩
      case rest =>
        obtain ⟨Y, sd, z, rfl, hz0, hz1, hY⟩ := hcut
        obtain ⟨y0, y1, y2⟩ := row3 hY.out.row
        clear hI1
        cases sd with
        | true =>
          go_wp2_with fail
          refine (valueE g _ hY.out.inv.codes).mono ?_; rintro e w4 ⟨val, rfl, hval, hc4, hg4⟩
          have hY4 := Lib.hid (hY.out.next hc4 hg4)
          obtain ⟨z0, z1, z2⟩ := hY4.out.frozen
          obtain ⟨y0, y1, y2⟩ := row3 hY4.out.row
          have hY5' := hY4.out.set 2 (.int .u64 val)
          simp at hY5'
          have hY5 := Lib.hid hY5'
          have HCS : Hid ((⟨true, z, val⟩ : CaseM).ok) := ⟨i64_small _ (by simp only; omega) (by simp only; omega), hval⟩
          clear hval hc4 hg4 hY5' hY4
          obtain ⟨y0, y1, y2⟩ := row3 hY5.out.row
          obtain ⟨v0, v1, v2, v3, v4, v5, v6⟩ := row7 hY5.out.inv.var
          go_upto_region 9 with (at_builtin; refine wp_append_case _ rfl _ _ rfl (w.heap.size + 3) vcs cs rfl (hY5.out.inv.oc.alloc _) ⟨true, z, val⟩ _ rfl ?_ ?_ ?_ ?_; exact ⟨World.cell?_alloc_at _ _ _ _ (by simp), World.cell?_alloc_at _ _ _ _ (by simp), World.cell?_alloc_at _ _ _ _ (by simp)⟩; (rw [hO.out.nc]; omega); (have := hY5.out.inv.size; simp at this ⊢; omega); (intro vcs2 w6 ho6 hg6; obtain ⟨g6, cap6, e6⟩ := OwnC.shape_ne ho6; subst e6; have hV6 := row7 (SelInv.varAt (hY5.out.inv.below (below_new (Below.refl _ _) _)) hg6 hY5.out.inv.oc.own_ge); have hF6 := frozen_of_row _ _ 5 _ _ (SelInv.varAt (hY5.out.inv.below (below_new (Below.refl _ _) _)) hg6 hY5.out.inv.oc.own_ge); obtain ⟨x0, x1, x2, x3, x4, x5, x6⟩ := hV6))
          have hI6 := Lib.hid (SelInv.addCase (hY5.out.inv.below (below_new (Below.refl _ _) _)) ho6 hg6)
          generalize (Value.slice (some ⟨g6, 0, none⟩) (cs.length + 1) cap6) = vcs2 at *
          clear ho6 hg6 hY5 hY
          generalize w6.setCell ⟨w.heap.size + 2, 5, none⟩ vcs2 = W6 at *
          clear x0 x1 x2 x3 x4 x5 x6 hF6
          obtain ⟨x0, x1, x2, x3, x4, x5, x6⟩ := row7 hI6.out.var
          have q9a : (0 : Int) ≤ (k : Int) + 1 := by omega
          have q9b : (1 : Int) ≤ (k : Int) + 1 := by omega
          have q9c : (k : Int) + 1 ≤ 256 := by omega
          have e9 : IntKind.i64.wrap ((k : Int) + 1) = (k : Int) + 1 := (i64_small _ (by omega) (by omega)).symm
          go_region_law (first
            | (refine step_append_i64 (by rfl) _ _ (by rfl) (w.heap.size + 3) vds ds (by rfl) (hI7.out.od.alloc _) d _ (by rfl) (by exact World.cell?_alloc_at _ _ _ _ rfl) (by rw [hO.out.nd]; omega) (by have := hI7.out.size; simp; omega) ?_; intro vds2 w8 ho8 hg8; obtain ⟨g8, cap8, e8⟩ := OwnI.shape_ne ho8; subst e8; have hr8 := SelInv.varAt (hI7.out.below (below_new (Below.refl _ _) _)) hg8 hI7.out.od.own_ge; have hF8 := frozen_of_row _ _ 6 _ _ hr8; obtain ⟨x0, x1, x2, x3, x4, x5, x6⟩ := row7 hr8; clear hr8)
            | (go_simp; go_at_call 23; refine (nextE g ((k : Int) + 1) _ (by exact hI6.out.codes) q9b q9c).mono ?_; rintro e w7 ⟨d, rfl, hd0, hd1, hc7, hg7⟩; have hI7 := Lib.hid (hI6.out.next hc7 (undrewG hg7)); obtain ⟨x0, x1, x2, x3, x4, x5, x6⟩ := row7 hI7.out.var; have q7 : w.heap.size + 2 < w7.heap.size := (by have := hI7.out.size; omega)))
          all_goals
            have hI8 := Lib.hid (SelInv.addDraw (hI7.out.below (below_new (Below.refl _ _) _)) ho8 hg8)
            clear e9 q7 ho8 hg8 hc7 hg7 x0 x1 x2 x3 x4 x5 x6
            have hO8 := Lib.hid (hO.out.snoc (by omega) ⟨true, z, val⟩ d HCS.out ⟨hz0, hz1⟩ (.inl rfl) ⟨hd0, by omega⟩)
            go_wp2
            go_roundw
            case rel => exact ⟨k + 1, vcs2, _, _, _, by omega, by go_num, hI8, hO8⟩
            case measure => simp [intOf]; omega
        | false =>
          have hY5 := hY
          obtain ⟨val, hv0⟩ : ∃ val : Int, val = 0 := ⟨0, rfl⟩
          rw [← hv0] at hY5 y2
          have HCS : Hid ((⟨false, z, val⟩ : CaseM).ok) := ⟨i64_small _ (by simp only; omega) (by simp only; omega), u64_ok _ (by simp only; omega) (by simp only; omega)⟩
          have HV0 := Lib.hid hv0
          clear hv0
          obtain ⟨v0, v1, v2, v3, v4, v5, v6⟩ := row7 hY5.out.inv.var
          go_upto_region 9 with (at_builtin; refine wp_append_case _ rfl _ _ rfl (w.heap.size + 3) vcs cs rfl (hY5.out.inv.oc.alloc _) ⟨false, z, val⟩ _ rfl ?_ ?_ ?_ ?_; exact ⟨World.cell?_alloc_at _ _ _ _ rfl, World.cell?_alloc_at _ _ _ _ rfl, World.cell?_alloc_at _ _ _ _ rfl⟩; (rw [hO.out.nc]; omega); (have := hY5.out.inv.size; simp at this ⊢; omega); (intro vcs2 w6 ho6 hg6; obtain ⟨g6, cap6, e6⟩ := OwnC.shape_ne ho6; subst e6; have hV6 := row7 (SelInv.varAt (hY5.out.inv.below (below_new (Below.refl _ _) _)) hg6 hY5.out.inv.oc.own_ge); have hF6 := frozen_of_row _ _ 5 _ _ (SelInv.varAt (hY5.out.inv.below (below_new (Below.refl _ _) _)) hg6 hY5.out.inv.oc.own_ge); obtain ⟨x0, x1, x2, x3, x4, x5, x6⟩ := hV6))
          have hI6 := Lib.hid (SelInv.addCase (hY5.out.inv.below (below_new (Below.refl _ _) _)) ho6 hg6)
          generalize (Value.slice (some ⟨g6, 0, none⟩) (cs.length + 1) cap6) = vcs2 at *
          clear ho6 hg6 hY5 hY
          generalize w6.setCell ⟨w.heap.size + 2, 5, none⟩ vcs2 = W6 at *
          clear x0 x1 x2 x3 x4 x5 x6 hF6
          obtain ⟨x0, x1, x2, x3, x4, x5, x6⟩ := row7 hI6.out.var
          have q9a : (0 : Int) ≤ (k : Int) + 1 := by omega
          have q9b : (1 : Int) ≤ (k : Int) + 1 := by omega
          have q9c : (k : Int) + 1 ≤ 256 := by omega
          have e9 : IntKind.i64.wrap ((k : Int) + 1) = (k : Int) + 1 := (i64_small _ (by omega) (by omega)).symm
          go_region_law (first
            | (refine step_append_i64 (by rfl) _ _ (by rfl) (w.heap.size + 3) vds ds (by rfl) (hI7.out.od.alloc _) d _ (by rfl) (by exact World.cell?_alloc_at _ _ _ _ rfl) (by rw [hO.out.nd]; omega) (by have := hI7.out.size; simp; omega) ?_; intro vds2 w8 ho8 hg8; obtain ⟨g8, cap8, e8⟩ := OwnI.shape_ne ho8; subst e8; have hr8 := SelInv.varAt (hI7.out.below (below_new (Below.refl _ _) _)) hg8 hI7.out.od.own_ge; have hF8 := frozen_of_row _ _ 6 _ _ hr8; obtain ⟨x0, x1, x2, x3, x4, x5, x6⟩ := row7 hr8; clear hr8)
            | (go_simp; go_at_call 23; refine (nextE g ((k : Int) + 1) _ (by exact hI6.out.codes) q9b q9c).mono ?_; rintro e w7 ⟨d, rfl, hd0, hd1, hc7, hg7⟩; have hI7 := Lib.hid (hI6.out.next hc7 (undrewG hg7)); obtain ⟨x0, x1, x2, x3, x4, x5, x6⟩ := row7 hI7.out.var; have q7 : w.heap.size + 2 < w7.heap.size := (by have := hI7.out.size; omega)))
          all_goals
            have hI8 := Lib.hid (SelInv.addDraw (hI7.out.below (below_new (Below.refl _ _) _)) ho8 hg8)
            clear e9 q7 ho8 hg8 hc7 hg7 x0 x1 x2 x3 x4 x5 x6
            have hO8 := Lib.hid (hO.out.snoc (by omega) ⟨false, z, val⟩ d HCS.out ⟨hz0, hz1⟩ (.inr HV0.out) ⟨hd0, by omega⟩)
            go_wp2
            go_roundw
            case rel => exact ⟨k + 1, vcs2, _, _, _, by omega, by go_num, hI8, hO8⟩
            case measure => simp [intOf]; omega
    · obtain ⟨v0, v1, v2, v3, v4, v5, v6⟩ := row7 hI1.out.var
      have hdr : ∀ x ∈ ds, x = IntKind.i64.wrap x := fun x hx => i64_ok x (by have := hO.out.dsm x hx; omega) (by have := hO.out.dsm x hx; omega)
      have HDR := Lib.hid hdr
      have HSC := Lib.hid (hI1.out.oc.read (by rw [hO.out.nc]; omega) fun x hx => (hO.out.good x hx).1)
      have HSD := Lib.hid (hI1.out.od.read (by rw [hO.out.nd]; omega) hdr)
      have one5 := hI1.out.oc.one
      have one6 := hI1.out.od.one
      clear hdr
      go_wp2_with fail
      refine (modeE g 4 0 0 0 0 vcs vds cs ds _ hI1.out.codes HSC.out HSD.out).mono ?_; rintro e w2 ⟨m, d, rfl, hmd, hc2, hg2⟩
      have hI2 := Lib.hid (hI1.out.next hc2 hg2)
      have HMD := Lib.hid hmd
      clear hmd hc2 hg2
      go_wp2_with (refine wpList_store_row rfl 38 _ _ rfl (w.heap.size + 1) _ rfl rfl 38 zeroOp hI2.out.res (by kernel_rfl) rfl (all7 one5 one6) ?_)
      refine bodyPost_ret (v := .agg #[.int .i64 4, .int .i64 m, .int .i64 0, .int .u64 0, .int .i64 d, vcs, vds]) (results_cell_row Try.results38 _ _ (w.heap.size + 1) 38 _ (0, 0) _ rfl (setRow_heap _ _ _ _ 38 (0, 0) hI2.out.res) Try.underlying38 rfl (by kernel_rfl)) rfl ?_
      obtain ⟨f1, f2, f3⟩ := hI2.out.fin (by rw [hO.out.nc]; omega) (fun x hx => (hO.out.good x hx).1) (by rw [hO.out.nd]; omega) HDR.out #[.int .i64 4, .int .i64 m, .int .i64 0, .int .u64 0, .int .i64 d, vcs, vds] 4 m 0 0 d
      exact ⟨_, _, rfl, f1, hO.out.goodOp (by omega) m d HMD.out, f2, f3⟩
end Go.Proofs.Ytckjdlphilpgfaa
/- The reader of choices: numbers at limits, operations. -/
namespace Go.Proofs.Ytckjdlphilpgfaa
open Go.ChangeShapes Go.WideShapes Go.ChangeAt Go.RowKit
set_option maxRecDepth 100000

/-- while an operation is made: the reader, the configuration's box, the result's block -/
structure OpInv (w0 w : World) (g : Nat) (cc : Array Value) : Prop where
  lt : g < w0.heap.size
  size : w0.heap.size + 2 ≤ w.heap.size
  codes : CodesE w g
  grown : w0.grownBy w (some g)
  box : w.heap[w0.heap.size]? = some (.cells cc 34 (0, 0))
  res : w.heap[w0.heap.size + 1]? = some (.cells zeroOp 38 (0, 0))
theorem OpInv.next {w0 w w' : World} {g : Nat} {cc : Array Value} (h : OpInv w0 w g cc) (hc : CodesE w' g) (hg : w.grownBy w' (some g)) : OpInv w0 w' g cc := by
  have hs := h.size
  have hl := h.lt
  exact ⟨hl, Nat.le_trans hs hg.size, hc, grownBy_trans h.grown hg, (hg.block _ (by omega) (by simp; omega)).trans h.box, (hg.block _ (by omega) (by simp; omega)).trans h.res⟩
theorem OpInv.start {w : World} {g : Nat} (cc : Array Value) (h : CodesE w g) : OpInv w ((w.alloc (.cells cc 34)).alloc (.cells zeroOp 38)) g cc := by
  have hb := below_new (below_new (Below.refl w.heap.size w) (.cells cc 34)) (.cells zeroOp 38)
  exact ⟨h.lt, by simp, h.kept h.lt hb, grown_of_below hb, heap_alloc2_old _ _ _, heap_alloc2_new _ _ _⟩
theorem OpInv.fin {w0 w : World} {g : Nat} {cc : Array Value} (h : OpInv w0 w g cc) (cells : Array Value) : CodesE (w.setRow (w0.heap.size + 1) cells) g ∧ w0.grownBy (w.setRow (w0.heap.size + 1) cells) (some g) :=
  ⟨h.codes.kept (B := w0.heap.size) h.lt (below_setRow (Below.refl _ w) (by omega) cells), grownBy_of_new h.grown (grownBy_setRow w _ cells) (fun k hk => by cases hk; omega)⟩
theorem OpN.bare (w : World) (B : Nat) (kd m ch vl d : Int) : OpN w B (.agg #[.int .i64 kd, .int .i64 m, .int .i64 ch, .int .u64 vl, .int .i64 d, .slice none 0 0, .slice none 0 0]) ⟨kd, m, ch, vl, d, [], []⟩ :=
  ⟨_, _, rfl, SlC.nil _, SlI.nil _ _, newB.nil _, newB.nil _⟩
set_option maxRecDepth 100000 in
set_option maxHeartbeats 4000000 in
theorem opE (g : Nat) (v : Value) (c : ConfM) (w : World) (h : CodesE w g) (hv : ConfX w g v c) (hc : c.caps.length ≤ 8) :
    Calls Try.prog 13 #[.pointer (some ⟨g, 0, none⟩), v] w fun e w' => ∃ u op, e = .returned u ∧ OpN w' w.heap.size u op ∧ op.good ∧ CodesE w' g ∧ w.grownBy w' (some g) := by
  have HX := Lib.hid hv
  obtain ⟨vc, vs, rfl, h1, h2, -⟩ := hv
  have ST := Lib.hid (OpInv.start #[vc, vs, .int .i64 c.threads] h)
  obtain ⟨a, cap, rfl, -⟩ := h1.len
  obtain ⟨a2, cap2, rfl, -⟩ := h2.len
  have hlt := h.lt
  clear h1 h2 h
  obtain ⟨W, hW⟩ : ∃ W, ((w.alloc (.cells #[.slice a c.caps.length cap, .slice a2 c.starts.length cap2, .int .i64 c.threads] 34)).alloc (.cells zeroOp 38)) = W := ⟨_, rfl⟩
  rw [hW] at ST
  have HW := Lib.hid hW
  clear hW
  go_enter Try.func13, Try.ntmps13
  go_wp2_with fail
  rw [show (#[.int .i64 0, .int .i64 0, .int .i64 0, .int .u64 0, .int .i64 0, .slice none 0 0, .slice none 0 0] : Array Value) = zeroOp from rfl, HW.out]
  clear HW
  refine (nextE g 20 _ ST.out.codes (by omega) (by omega)).mono ?_; rintro e w1 ⟨k, rfl, hk0, hk1, hc1, hg1⟩
  have hI1 := Lib.hid (ST.out.next hc1 hg1)
  clear hc1 hg1 ST
  obtain ⟨b0, b1, b2⟩ := row3 hI1.out.box
  have CHA := Lib.hid fun w' h h2 => channelE g (.agg #[.slice a c.caps.length cap, .slice a2 c.starts.length cap2, .int .i64 c.threads]) c w' h h2 hc
  rcases (show k < 7 ∨ (¬ k < 7 ∧ k < 14) ∨ (¬ k < 7 ∧ ¬ k < 14 ∧ k < 17) ∨ k = 17 ∨ k = 18 ∨ k = 19 by omega) with h | ⟨h, h'⟩ | ⟨h, h', h''⟩ | rfl | rfl | rfl
  · skip
    go_wp2_with fail
    refine (CHA.out _ hI1.out.codes (HX.out.grown hI1.out.grown)).mono ?_; rintro e w2 ⟨z, rfl, hz0, hz1, hc2, hg2⟩
    have hI2 := Lib.hid (hI1.out.next hc2 hg2)
    clear hc2 hg2
    obtain ⟨b0, b1, b2⟩ := row3 hI2.out.box
    go_wp2_with fail
    refine (valueE g _ hI2.out.codes).mono ?_; rintro e w3 ⟨val, rfl, hval, hc3, hg3⟩
    have hI3 := Lib.hid (hI2.out.next hc3 hg3)
    have HVL := Lib.hid hval
    clear hval hc3 hg3
    go_wp2_with fail
    refine (modeE g 1 0 z val 0 (.slice none 0 0) (.slice none 0 0) [] [] _ hI3.out.codes (SlC.nil _) (SlI.nil _ _)).mono ?_; rintro e w4 ⟨m, d, rfl, hmd, hc4, hg4⟩
    have hI4 := Lib.hid (hI3.out.next hc4 hg4)
    have HMD := Lib.hid hmd
    clear hmd hc4 hg4
    go_wp2_with (refine wpList_store_row rfl 38 _ _ rfl (w.heap.size + 1) _ rfl rfl 38 zeroOp hI4.out.res (by kernel_rfl) rfl (all7 rfl rfl) ?_)
    refine bodyPost_ret (v := .agg #[.int .i64 1, .int .i64 m, .int .i64 z, .int .u64 val, .int .i64 d, .slice none 0 0, .slice none 0 0]) (results_cell_row Try.results13 _ _ (w.heap.size + 1) 38 _ (0, 0) _ rfl (setRow_heap _ _ _ _ 38 (0, 0) hI4.out.res) Try.underlying38 rfl (by kernel_rfl)) rfl ?_
    obtain ⟨f2, f3⟩ := hI4.out.fin #[.int .i64 1, .int .i64 m, .int .i64 z, .int .u64 val, .int .i64 d, .slice none 0 0, .slice none 0 0]
    exact ⟨_, _, rfl, OpN.bare _ _ 1 m z val d, good_one 1 m z val d (by omega) (by omega) (HMD.out.imp id fun h => ⟨by omega, h⟩) ⟨hz0, hz1⟩ (HVL.out) (.inl rfl), f2, f3⟩
  · skip
    go_wp2_with fail
    refine (CHA.out _ hI1.out.codes (HX.out.grown hI1.out.grown)).mono ?_; rintro e w2 ⟨z, rfl, hz0, hz1, hc2, hg2⟩
    have hI2 := Lib.hid (hI1.out.next hc2 hg2)
    clear hc2 hg2
    obtain ⟨b0, b1, b2⟩ := row3 hI2.out.box
    go_wp2_with fail
    refine (modeE g 2 0 z 0 0 (.slice none 0 0) (.slice none 0 0) [] [] _ hI2.out.codes (SlC.nil _) (SlI.nil _ _)).mono ?_; rintro e w4 ⟨m, d, rfl, hmd, hc4, hg4⟩
    have hI4 := Lib.hid (hI2.out.next hc4 hg4)
    have HMD := Lib.hid hmd
    clear hmd hc4 hg4
    go_wp2_with (refine wpList_store_row rfl 38 _ _ rfl (w.heap.size + 1) _ rfl rfl 38 zeroOp hI4.out.res (by kernel_rfl) rfl (all7 rfl rfl) ?_)
    refine bodyPost_ret (v := .agg #[.int .i64 2, .int .i64 m, .int .i64 z, .int .u64 0, .int .i64 d, .slice none 0 0, .slice none 0 0]) (results_cell_row Try.results13 _ _ (w.heap.size + 1) 38 _ (0, 0) _ rfl (setRow_heap _ _ _ _ 38 (0, 0) hI4.out.res) Try.underlying38 rfl (by kernel_rfl)) rfl ?_
    obtain ⟨f2, f3⟩ := hI4.out.fin #[.int .i64 2, .int .i64 m, .int .i64 z, .int .u64 0, .int .i64 d, .slice none 0 0, .slice none 0 0]
    exact ⟨_, _, rfl, OpN.bare _ _ 2 m z 0 d, good_one 2 m z 0 d (by omega) (by omega) (HMD.out.imp id fun h => ⟨by omega, h⟩) ⟨hz0, hz1⟩ (u64_ok 0 (by omega) (by omega)) (.inr rfl), f2, f3⟩
  · go_wp2_with fail
    refine (selectE g 4 _ c _ hI1.out.codes (HX.out.grown hI1.out.grown) hc (by omega)).mono ?_; rintro e w2 ⟨u, op, rfl, ho, hgood, hc2, hg2⟩
    have hI2 := Lib.hid (hI1.out.next hc2 hg2)
    have HO := Lib.hid ho
    have HGD := Lib.hid hgood
    obtain ⟨vc2, vd2, rfl, hsc, hsd, -⟩ := ho
    obtain ⟨a7, c7, rfl⟩ := hsc.len
    obtain ⟨a8, c8, rfl, -⟩ := hsd.len
    have hz1 := hI1.out.size
    clear hsc hsd hgood hc2 hg2
    go_wp2_with (refine wpList_store_row rfl 38 _ _ rfl (w.heap.size + 1) _ rfl rfl 38 zeroOp hI2.out.res (by kernel_rfl) rfl (all7 rfl rfl) ?_)
    refine bodyPost_ret (v := .agg #[.int .i64 op.kind, .int .i64 op.mode, .int .i64 op.chan, .int .u64 op.val, .int .i64 op.dl, .slice a7 op.cases.length c7, .slice a8 op.draws.length c8]) (results_cell_row Try.results13 _ _ (w.heap.size + 1) 38 _ (0, 0) _ rfl (setRow_heap _ _ _ _ 38 (0, 0) hI2.out.res) Try.underlying38 rfl (by kernel_rfl)) rfl ?_
    obtain ⟨f2, f3⟩ := hI2.out.fin #[.int .i64 op.kind, .int .i64 op.mode, .int .i64 op.chan, .int .u64 op.val, .int .i64 op.dl, .slice a7 op.cases.length c7, .slice a8 op.draws.length c8]
    exact ⟨_, op, rfl, (HO.out.grown (grownBy_setRow w2 (w.heap.size + 1) _) (by omega)).mono (by omega), HGD.out, f2, f3⟩
  · skip
    go_wp2_with fail
    refine (CHA.out _ hI1.out.codes (HX.out.grown hI1.out.grown)).mono ?_; rintro e w2 ⟨z, rfl, hz0, hz1, hc2, hg2⟩
    have hI2 := Lib.hid (hI1.out.next hc2 hg2)
    clear hc2 hg2
    obtain ⟨b0, b1, b2⟩ := row3 hI2.out.box
    go_wp2_with (refine wpList_store_row rfl 38 _ _ rfl (w.heap.size + 1) _ rfl rfl 38 zeroOp hI2.out.res (by kernel_rfl) rfl (all7 rfl rfl) ?_)
    refine bodyPost_ret (v := .agg #[.int .i64 3, .int .i64 0, .int .i64 z, .int .u64 0, .int .i64 0, .slice none 0 0, .slice none 0 0]) (results_cell_row Try.results13 _ _ (w.heap.size + 1) 38 _ (0, 0) _ rfl (setRow_heap _ _ _ _ 38 (0, 0) hI2.out.res) Try.underlying38 rfl (by kernel_rfl)) rfl ?_
    obtain ⟨f2, f3⟩ := hI2.out.fin #[.int .i64 3, .int .i64 0, .int .i64 z, .int .u64 0, .int .i64 0, .slice none 0 0, .slice none 0 0]
    exact ⟨_, _, rfl, OpN.bare _ _ 3 0 z 0 0, good_one 3 0 z 0 0 (by omega) (by omega) (.inl ⟨rfl, rfl⟩) ⟨hz0, hz1⟩ (u64_ok 0 (by omega) (by omega)) (.inr rfl), f2, f3⟩
  · skip
    go_wp2_with fail
    refine (CHA.out _ hI1.out.codes (HX.out.grown hI1.out.grown)).mono ?_; rintro e w2 ⟨z, rfl, hz0, hz1, hc2, hg2⟩
    have hI2 := Lib.hid (hI1.out.next hc2 hg2)
    clear hc2 hg2
    obtain ⟨b0, b1, b2⟩ := row3 hI2.out.box
    go_wp2_with (refine wpList_store_row rfl 38 _ _ rfl (w.heap.size + 1) _ rfl rfl 38 zeroOp hI2.out.res (by kernel_rfl) rfl (all7 rfl rfl) ?_)
    refine bodyPost_ret (v := .agg #[.int .i64 5, .int .i64 0, .int .i64 z, .int .u64 0, .int .i64 0, .slice none 0 0, .slice none 0 0]) (results_cell_row Try.results13 _ _ (w.heap.size + 1) 38 _ (0, 0) _ rfl (setRow_heap _ _ _ _ 38 (0, 0) hI2.out.res) Try.underlying38 rfl (by kernel_rfl)) rfl ?_
    obtain ⟨f2, f3⟩ := hI2.out.fin #[.int .i64 5, .int .i64 0, .int .i64 z, .int .u64 0, .int .i64 0, .slice none 0 0, .slice none 0 0]
    exact ⟨_, _, rfl, OpN.bare _ _ 5 0 z 0 0, good_one 5 0 z 0 0 (by omega) (by omega) (.inl ⟨rfl, rfl⟩) ⟨hz0, hz1⟩ (u64_ok 0 (by omega) (by omega)) (.inr rfl), f2, f3⟩
  · skip
    go_wp2_with fail
    refine (CHA.out _ hI1.out.codes (HX.out.grown hI1.out.grown)).mono ?_; rintro e w2 ⟨z, rfl, hz0, hz1, hc2, hg2⟩
    have hI2 := Lib.hid (hI1.out.next hc2 hg2)
    clear hc2 hg2
    obtain ⟨b0, b1, b2⟩ := row3 hI2.out.box
    go_wp2_with (refine wpList_store_row rfl 38 _ _ rfl (w.heap.size + 1) _ rfl rfl 38 zeroOp hI2.out.res (by kernel_rfl) rfl (all7 rfl rfl) ?_)
    refine bodyPost_ret (v := .agg #[.int .i64 6, .int .i64 0, .int .i64 z, .int .u64 0, .int .i64 0, .slice none 0 0, .slice none 0 0]) (results_cell_row Try.results13 _ _ (w.heap.size + 1) 38 _ (0, 0) _ rfl (setRow_heap _ _ _ _ 38 (0, 0) hI2.out.res) Try.underlying38 rfl (by kernel_rfl)) rfl ?_
    obtain ⟨f2, f3⟩ := hI2.out.fin #[.int .i64 6, .int .i64 0, .int .i64 z, .int .u64 0, .int .i64 0, .slice none 0 0, .slice none 0 0]
    exact ⟨_, _, rfl, OpN.bare _ _ 6 0 z 0 0, good_one 6 0 z 0 0 (by omega) (by omega) (.inl ⟨rfl, rfl⟩) ⟨hz0, hz1⟩ (u64_ok 0 (by omega) (by omega)) (.inr rfl), f2, f3⟩
end Go.Proofs.Ytckjdlphilpgfaa
