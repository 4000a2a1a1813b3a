import Derived.Deep.DeepCutAuto
import Derived.Deep.CutBlock
import Derived.Test.YtnbehigjeopniaaB07
import Derived.Test.YtnbehigjeopniaaB12
set_option linter.unusedVariables false
set_option linter.unusedSimpArgs false
/- Layer 16: the reference's Check. -/
namespace Go.Proofs.Ytnbehigjeopniaa
open Go.ChangeShapes Go.WideShapes Go.ChangeAt Go.RowKit
set_option maxRecDepth 100000

theorem ownB_below {w w' : World} {base : Nat} {e : TypeId} {v : Value} {l : List Bool} (h : OwnB w base e v l) (hb : Below w.heap.size w w') : OwnB w' base e v l := by
  refine World.ownsRow.kept (row := none) h ⟨hb.os, hb.tape, hb.output, hb.size, fun j hj _ => hb.block j hj⟩ ?_
  cases hv : v.ownBlock with
  | none => exact .inl rfl
  | some x => exact .inr (by simp)
theorem ownB_setOther {w : World} {base : Nat} {e : TypeId} {g n cap : Nat} {l : List Bool} (h : OwnB w base e (.slice (some ⟨g, 0, none⟩) n cap) l) (a : Addr) (hne : g ≠ a.block) (u : Value) : OwnB (w.setCell a u) base e (.slice (some ⟨g, 0, none⟩) n cap) l :=
  World.ownsRow.kept h (grownBy_setCell w a u) (.inr (by simpa [Value.ownBlock] using hne))
theorem ownB_lt {w : World} {base : Nat} {e : TypeId} {g n cap : Nat} {l : List Bool} (h : OwnB w base e (.slice (some ⟨g, 0, none⟩) n cap) l) : g < w.heap.size := (World.ownsRow.lt h g rfl).2
set_option maxRecDepth 100000 in
set_option maxHeartbeats 16000000 in
theorem ercheck_any (v vo : Value) (l : List EvM) (ns : List Nat) (w : World) (hv : SlS w 8 v (evRows l)) (ho : SlO w vo ns) (hl : l.length ≤ 1000000) : Calls Try.prog 11 #[v, vo] w fun e w' => e = .returned (.bool (histE ns l)) ∧ Below w.heap.size w w' := by
  have HV := Lib.hid hv
  have HO := Lib.hid ho
  have hn6 := ho.1
  obtain ⟨a, cap, rfl, -⟩ := hv.lenE
  obtain ⟨ao, co, rfl⟩ := ho.len
  have HNO := Lib.hid fun (i : Nat) (hi : i < l.length) h => histE_no (ns := ns) (l := l) (i := i) hi h
  have HYES := Lib.hid fun h => histE_yes (ns := ns) (l := l) h
  obtain ⟨rb, hrb⟩ : ∃ b, histE ns l = b := ⟨_, rfl⟩
  rw [hrb] at HNO HYES ⊢
  obtain ⟨n, hn⟩ : ∃ n, ns.length = n := ⟨_, rfl⟩
  have HN := Lib.hid hn
  rw [hn] at hn6 HO ⊢
  clear hv ho hrb hn
  go_enter Try.func11, Try.ntmps11
  go_upto_region 2 with (at_make; refine wp_make_i64 w rfl _ _ rfl n _ _ rfl rfl rfl rfl ?_ ?_; omega; intro w1 h1 h2; have HS := Lib.hid h1; have HB1 := Lib.hid h2; clear h1 h2)
  have hgg : w.heap.size < w1.heap.size := by have := HS.out.shape; rcases this with ⟨h, -⟩ | ⟨g', c', h, -, h2, -⟩ <;> simp at h; obtain ⟨rfl, -⟩ := h; exact h2
  obtain ⟨g, hg⟩ : ∃ g, w.heap.size = g := ⟨_, rfl⟩
  rw [hg] at HS hgg
  rw [hg]
  go_wp2_with (at_make; refine wp_make_bool w1 rfl _ _ rfl n _ _ rfl rfl rfl rfl ?_ ?_; omega; intro w2 h1 h2; have HT := Lib.hid h1; have HB2 := Lib.hid h2; clear h1 h2)
  have HG := Lib.hid hg
  clear hg
  have HS2 := Lib.hid (HS.out.below HB2.out)
  have HB := Lib.hid (below_then HB1.out HB2.out)
  obtain ⟨g2, hg2⟩ : ∃ g, w1.heap.size = g := ⟨_, rfl⟩
  rw [hg2] at HT hgg
  rw [hg2]
  have HG2 := Lib.hid (And.intro hgg (show w.heap.size ≤ g2 by rw [← hg2]; exact HB1.out.size))
  have hg12 : g ≠ g2 := by omega
  clear hg2 hgg HS HB1 HB2
  go_loopw [7] (fun u7 wr => ∃ (i : Nat) (S : List Int) (T : List Bool), u7 = .int .i64 i ∧ i ≤ l.length ∧ Hid ((S.length = n ∧ T.length = n) ∧ ∀ t, t < n → S.getD t 0 = ((cntT (l.take i) t / 2 : Nat) : Int) ∧ T.getD t false = (cntT (l.take i) t % 2 == 1)) ∧ Hid (OwnI wr g 3 .i64 (.slice (some ⟨g, 0, none⟩) n n) S) ∧ Hid (OwnB wr g2 4 (.slice (some ⟨g2, 0, none⟩) n n) T) ∧ Hid (∀ j, j < i → okEv ns (l.take j) (l.getD j evZ) = true) ∧ Hid (Below w.heap.size w wr)) (fun u7 _ => l.length - (intOf u7).toNat)
  case atStart => exact ⟨0, List.replicate n 0, List.replicate n false, rfl, by omega, ⟨⟨List.length_replicate, List.length_replicate⟩, fun t ht => by simp [List.getD_eq_getElem?_getD, ht, cntT]⟩, HS2, HT, fun j hj => by omega, HB⟩
  case round =>
    clear HS2 HT HB
    obtain ⟨i, S, T, rfl, hi, HSn, HS, HT, HM, HB⟩ := hrel
    obtain ⟨wo, rfl⟩ : ∃ wo : World, wo = wr := ⟨_, rfl⟩
    by_cases hlt : i < l.length
    · have hltI : (i : Int) < (l.length : Int) := by omega
      obtain ⟨⟨et, eo, er, ⟨rk, rc, rv, ro, rn⟩⟩, he⟩ : ∃ e, l.getD i evZ = e := ⟨_, rfl⟩
      have HE := Lib.hid he
      obtain ⟨b, off, cp, hve, hb, c0, c1, c2, c3, c4, c5, c6, c7⟩ := (HV.out.below HB.out).ev i hlt he
      simp only [Value.slice.injEq] at hve
      obtain ⟨rfl, -, rfl⟩ := hve
      dsimp only at c0 c1 c2 c3 c4 c5 c6 c7
      clear he

      have HNi := Lib.hid fun h => HNO.out i hlt (by rw [HE.out]; exact h)
      obtain ⟨Wy, hWy⟩ : ∃ Wy, (wo.alloc (.cells #[.int .i64 0, .int .i64 0, .bool false, .int .i64 0, .int .i64 0, .int .u64 0, .bool false, .int .i64 0] 34)).setRow wo.heap.size #[.int .i64 et, .int .i64 eo, .bool er, .int .i64 rk, .int .i64 rc, .int .u64 rv, .bool ro, .int .i64 rn] = Wy := ⟨_, rfl⟩
      have Ny : Hid ((wo.alloc (.cells #[.int .i64 0, .int .i64 0, .bool false, .int .i64 0, .int .i64 0, .int .u64 0, .bool false, .int .i64 0] 34)).heap[wo.heap.size]? = some (.cells #[.int .i64 0, .int .i64 0, .bool false, .int .i64 0, .int .i64 0, .int .u64 0, .bool false, .int .i64 0] 34 (0, 0))) := heap_alloc_new _ _
      have HBy : Hid (Below wo.heap.size wo Wy) := hWy ▸ row_below (below_new (Below.refl _ _) _) (Nat.le_refl _) _
      have Ry : Hid (Wy.heap[wo.heap.size]? = some (.cells #[.int .i64 et, .int .i64 eo, .bool er, .int .i64 rk, .int .i64 rc, .int .u64 rv, .bool ro, .int .i64 rn] 34 (0, 0))) := hWy ▸ setRow_heap _ _ _ _ _ (0, 0) Ny.out
      have HWy := Lib.hid hWy
      clear hWy
      go_upto_region 7 with (refine wpList_store_row rfl 34 _ _ rfl (wo.heap.size) _ rfl rfl 34 #[.int .i64 0, .int .i64 0, .bool false, .int .i64 0, .int .i64 0, .int .u64 0, .bool false, .int .i64 0] Ny.out (by kernel_rfl) rfl (by simp [Value.oneCell']) ?_)
      rw [HWy.out]
      try simp only [Act.put]
      clear HWy Ny
      obtain ⟨Y, hY⟩ : ∃ Y, wo.heap.size = Y := ⟨_, rfl⟩
      rw [hY] at Ry
      rw [hY]
      clear hY
      have HS2 := Lib.hid (HS.out.below HBy.out)
      have HT2 := Lib.hid (ownB_below HT.out HBy.out)
      have HB2 := Lib.hid (below_then HB.out HBy.out)
      obtain ⟨y0, y1, y2, y3, y4, y5, y6, y7⟩ := rowc8 Ry.out
      have hY : Y < Wy.heap.size := (Array.getElem?_eq_some_iff.1 Ry.out).1
      clear c0 c1 c2 c3 c4 c5 c6 c7 HS HT HBy HB
      go_upto_region 8 with fail
      by_cases h0 : et < 0
      · have hr := HNi.out (by unfold okEv; dsimp only; rw [decide_eq_false (show ¬ 0 ≤ et by omega)]; rfl)
        subst hr
        clear HNi HNO HYES HM
        have Xy0 := ext_cell _ _ hY _ y0
        have Xy1 := ext_cell _ _ hY _ y1
        have Xy2 := ext_cell _ _ hY _ y2
        have Xy3 := ext_cell _ _ hY _ y3
        have Xy4 := ext_cell _ _ hY _ y4
        have Xy5 := ext_cell _ _ hY _ y5
        have Xy6 := ext_cell _ _ hY _ y6
        have Xy7 := ext_cell _ _ hY _ y7
        have HZy0 := Lib.hid y0
        have HZy1 := Lib.hid y1
        have HZy2 := Lib.hid y2
        have HZy3 := Lib.hid y3
        have HZy4 := Lib.hid y4
        have HZy5 := Lib.hid y5
        have HZy6 := Lib.hid y6
        have HZy7 := Lib.hid y7
        clear y0 y1 y2 y3 y4 y5 y6 y7
        refine wp_region_ext Wy (by kernel_rfl) (by kernel_rfl) (Below.refl _ _) ?_
        repeat (go_big_quiet_step (fail))
        refine wpQuiet_nil ?_
        intro _ hw'
        obtain ⟨n9, rfl⟩ := hw'
        have HN9 := Lib.hid n9.below
        generalize n9.wd = w9 at *
        clear Xy0 Xy1 Xy2 Xy3 Xy4 Xy5 Xy6 Xy7
        have y0 := (HN9.out.cell (p := ⟨Y, 0, none⟩) hY).trans HZy0.out
        have y1 := (HN9.out.cell (p := ⟨Y, 1, none⟩) hY).trans HZy1.out
        have y2 := (HN9.out.cell (p := ⟨Y, 2, none⟩) hY).trans HZy2.out
        have y3 := (HN9.out.cell (p := ⟨Y, 3, none⟩) hY).trans HZy3.out
        have y4 := (HN9.out.cell (p := ⟨Y, 4, none⟩) hY).trans HZy4.out
        have y5 := (HN9.out.cell (p := ⟨Y, 5, none⟩) hY).trans HZy5.out
        have y6 := (HN9.out.cell (p := ⟨Y, 6, none⟩) hY).trans HZy6.out
        have y7 := (HN9.out.cell (p := ⟨Y, 7, none⟩) hY).trans HZy7.out
        clear HZy0 HZy1 HZy2 HZy3 HZy4 HZy5 HZy6 HZy7

        have HB3 := Lib.hid (below_then HB2.out HN9.out)
        go_wp2_with fail
        go_ret
        exact ⟨rfl, HB3.out⟩
      by_cases h1 : et ≥ (n : Int)
      · have hr := HNi.out (by unfold okEv; dsimp only; rw [HN.out, decide_eq_false (show ¬ et < (n : Int) by omega), Bool.and_false]; rfl)
        subst hr
        clear HNi HNO HYES HM
        have hq0 : decide (et < 0) = false := decide_eq_false h0
        have Xy0 := ext_cell _ _ hY _ y0
        have Xy1 := ext_cell _ _ hY _ y1
        have Xy2 := ext_cell _ _ hY _ y2
        have Xy3 := ext_cell _ _ hY _ y3
        have Xy4 := ext_cell _ _ hY _ y4
        have Xy5 := ext_cell _ _ hY _ y5
        have Xy6 := ext_cell _ _ hY _ y6
        have Xy7 := ext_cell _ _ hY _ y7
        have HZy0 := Lib.hid y0
        have HZy1 := Lib.hid y1
        have HZy2 := Lib.hid y2
        have HZy3 := Lib.hid y3
        have HZy4 := Lib.hid y4
        have HZy5 := Lib.hid y5
        have HZy6 := Lib.hid y6
        have HZy7 := Lib.hid y7
        clear y0 y1 y2 y3 y4 y5 y6 y7
        refine wp_region_ext Wy (by kernel_rfl) (by kernel_rfl) (Below.refl _ _) ?_
        repeat (go_big_quiet_step (fail))
        refine wpQuiet_nil ?_
        intro _ hw'
        obtain ⟨n9, rfl⟩ := hw'
        have HN9 := Lib.hid n9.below
        generalize n9.wd = w9 at *
        clear Xy0 Xy1 Xy2 Xy3 Xy4 Xy5 Xy6 Xy7
        have y0 := (HN9.out.cell (p := ⟨Y, 0, none⟩) hY).trans HZy0.out
        have y1 := (HN9.out.cell (p := ⟨Y, 1, none⟩) hY).trans HZy1.out
        have y2 := (HN9.out.cell (p := ⟨Y, 2, none⟩) hY).trans HZy2.out
        have y3 := (HN9.out.cell (p := ⟨Y, 3, none⟩) hY).trans HZy3.out
        have y4 := (HN9.out.cell (p := ⟨Y, 4, none⟩) hY).trans HZy4.out
        have y5 := (HN9.out.cell (p := ⟨Y, 5, none⟩) hY).trans HZy5.out
        have y6 := (HN9.out.cell (p := ⟨Y, 6, none⟩) hY).trans HZy6.out
        have y7 := (HN9.out.cell (p := ⟨Y, 7, none⟩) hY).trans HZy7.out
        clear HZy0 HZy1 HZy2 HZy3 HZy4 HZy5 HZy6 HZy7

        have HB3 := Lib.hid (below_then HB2.out HN9.out)
        go_wp2_with fail
        go_ret
        exact ⟨rfl, HB3.out⟩
      obtain ⟨t, rfl⟩ : ∃ t : Nat, et = t := ⟨et.toNat, by omega⟩
      have htn : t < n := by omega
      have htI : (t : Int) < (n : Int) := by omega
      have hq0 : decide ((t : Int) < 0) = false := decide_eq_false h0
      have hq1 : decide ((t : Int) ≥ (n : Int)) = false := decide_eq_false h1
      obtain ⟨k, hk⟩ : ∃ k, ns.getD t 0 = k := ⟨_, rfl⟩
      obtain ⟨bo, oo, cpo, xo, xc, hve, hbo, o0⟩ := (HO.out.below HB2.out).at t (by rw [HN.out]; exact htn) hk
      simp only [Value.slice.injEq] at hve
      obtain ⟨rfl, -, rfl⟩ := hve
      obtain ⟨s0, s1⟩ := HS2.out.cell t (by rw [HSn.out.1.1]; exact htn)
      obtain ⟨z0, z1⟩ := HT2.out.cell t (by rw [HSn.out.1.2]; exact htn)
      obtain ⟨hct, hcb⟩ := HSn.out.2 t htn
      have hcl : cntT (l.take i) t ≤ i := Nat.le_trans (cntT_le _ _) (by rw [List.length_take]; omega)
      have hnx := cntT_take hlt
      have hbz := busy_lt (ns := ns) (t := t) i (by omega) HM.out
      rw [HE.out] at hnx
      rw [hk] at hbz
      obtain ⟨c, hc⟩ : ∃ c, cntT (l.take i) (t : Int) = c := ⟨_, rfl⟩
      rw [hc] at hct hcl hcb hbz
      rw [hct] at s0
      rw [hcb] at z0
      have HOK : Hid (okEv ns (l.take i) ⟨t, eo, er, ⟨rk, rc, rv, ro, rn⟩⟩ = okF ⟨t, eo, er, ⟨rk, rc, rv, ro, rn⟩⟩ c k) := by
        show okEv _ _ _ = _
        unfold okEv
        dsimp only
        rw [HN.out, decide_eq_true (show (0 : Int) ≤ t by omega), decide_eq_true htI, Int.toNat_natCast, hk, hc]
        rfl
      have HCN : Hid (∀ u : Nat, cntT (l.take (i + 1)) (u : Int) = if t = u then c + 1 else cntT (l.take i) (u : Int)) := fun u => by
        rw [hnx u]
        by_cases e : t = u
        · rw [if_pos e, if_pos (by rw [e]), ← e, hc]
        · rw [if_neg e, if_neg (fun e2 => e (Int.natCast_inj.1 e2))]; rfl
      have hSg : g < Wy.heap.size := by have := HS2.out.shape; rcases this with ⟨h, -⟩ | ⟨g', c', h, -, h2, -⟩ <;> simp at h; obtain ⟨rfl, -⟩ := h; exact h2
      have hTg : g2 < Wy.heap.size := ownB_lt HT2.out
      have HBZ := Lib.hid hbz
      clear hk hc hct hcb hnx HNO hbz
      obtain ⟨d, hd⟩ : ∃ d, ((c / 2 : Nat) : Int) = d := ⟨_, rfl⟩
      obtain ⟨bb, hbb⟩ : ∃ b, (c % 2 == 1) = b := ⟨_, rfl⟩
      rw [hd] at s0
      rw [hbb] at z0
      have HD := Lib.hid (And.intro hd hbb)
      have HF : Hid (okF ⟨t, eo, er, ⟨rk, rc, rv, ro, rn⟩⟩ c k = (((eo == d) && (er == bb)) && decide (eo < (k : Int)) && (er || resZB ⟨rk, rc, rv, ro, rn⟩))) := by
        show okF _ _ _ = _
        unfold okF
        dsimp only
        rw [hd, hbb]
      clear hd hbb
      have HS1 := Lib.hid (And.intro s1 z1)
      clear s1 z1
      by_cases h2 : eo = d
      case neg =>
        have hn2 : (eo != d) = true := by simpa using h2
        have hr := HNi.out (by rw [HOK.out, HF.out, show (eo == d) = false by simpa using h2]; rfl)
        subst hr
        clear HNi HYES HM
        have Xy0 := ext_cell _ _ hY _ y0
        have Xy1 := ext_cell _ _ hY _ y1
        have Xy2 := ext_cell _ _ hY _ y2
        have Xy3 := ext_cell _ _ hY _ y3
        have Xy4 := ext_cell _ _ hY _ y4
        have Xy5 := ext_cell _ _ hY _ y5
        have Xy6 := ext_cell _ _ hY _ y6
        have Xy7 := ext_cell _ _ hY _ y7
        have Xs0 := ext_cell _ _ hSg _ s0
        have Xz0 := ext_cell _ _ hTg _ z0
        have HZy0 := Lib.hid y0
        have HZy1 := Lib.hid y1
        have HZy2 := Lib.hid y2
        have HZy3 := Lib.hid y3
        have HZy4 := Lib.hid y4
        have HZy5 := Lib.hid y5
        have HZy6 := Lib.hid y6
        have HZy7 := Lib.hid y7
        have HZs0 := Lib.hid s0
        have HZz0 := Lib.hid z0
        clear y0 y1 y2 y3 y4 y5 y6 y7 s0 z0
        refine wp_region_ext Wy (by kernel_rfl) (by kernel_rfl) (Below.refl _ _) ?_
        repeat (go_big_quiet_step (fail))
        refine wpQuiet_nil ?_
        intro _ hw'
        obtain ⟨n9, rfl⟩ := hw'
        have HN9 := Lib.hid n9.below
        generalize n9.wd = w9 at *
        clear Xy0 Xy1 Xy2 Xy3 Xy4 Xy5 Xy6 Xy7 Xs0 Xz0
        have y0 := (HN9.out.cell (p := ⟨Y, 0, none⟩) hY).trans HZy0.out
        have y1 := (HN9.out.cell (p := ⟨Y, 1, none⟩) hY).trans HZy1.out
        have y2 := (HN9.out.cell (p := ⟨Y, 2, none⟩) hY).trans HZy2.out
        have y3 := (HN9.out.cell (p := ⟨Y, 3, none⟩) hY).trans HZy3.out
        have y4 := (HN9.out.cell (p := ⟨Y, 4, none⟩) hY).trans HZy4.out
        have y5 := (HN9.out.cell (p := ⟨Y, 5, none⟩) hY).trans HZy5.out
        have y6 := (HN9.out.cell (p := ⟨Y, 6, none⟩) hY).trans HZy6.out
        have y7 := (HN9.out.cell (p := ⟨Y, 7, none⟩) hY).trans HZy7.out
        have s0 := (HN9.out.cell (p := ⟨g, t, none⟩) hSg).trans HZs0.out
        have z0 := (HN9.out.cell (p := ⟨g2, t, none⟩) hTg).trans HZz0.out
        clear HZy0 HZy1 HZy2 HZy3 HZy4 HZy5 HZy6 HZy7 HZs0 HZz0

        have HB3 := Lib.hid (below_then HB2.out HN9.out)
        go_wp2_with fail
        go_ret
        exact ⟨rfl, HB3.out⟩
      have hn2 : (eo != d) = false := by simpa using h2
      by_cases h3 : er = bb
      case neg =>
        have hn3 : (er != bb) = true := by simpa using h3
        have hr := HNi.out (by rw [HOK.out, HF.out, show (er == bb) = false by simpa using h3, Bool.and_false]; rfl)
        subst hr
        clear HNi HYES HM
        have hbv : (bb = !er) := by cases er <;> cases bb <;> simp_all
        cases er with
        | true =>
          subst hbv
          clear h3 hn3
          have Xy0 := ext_cell _ _ hY _ y0
          have Xy1 := ext_cell _ _ hY _ y1
          have Xy2 := ext_cell _ _ hY _ y2
          have Xy3 := ext_cell _ _ hY _ y3
          have Xy4 := ext_cell _ _ hY _ y4
          have Xy5 := ext_cell _ _ hY _ y5
          have Xy6 := ext_cell _ _ hY _ y6
          have Xy7 := ext_cell _ _ hY _ y7
          have Xs0 := ext_cell _ _ hSg _ s0
          have Xz0 := ext_cell _ _ hTg _ z0
          have HZy0 := Lib.hid y0
          have HZy1 := Lib.hid y1
          have HZy2 := Lib.hid y2
          have HZy3 := Lib.hid y3
          have HZy4 := Lib.hid y4
          have HZy5 := Lib.hid y5
          have HZy6 := Lib.hid y6
          have HZy7 := Lib.hid y7
          have HZs0 := Lib.hid s0
          have HZz0 := Lib.hid z0
          clear y0 y1 y2 y3 y4 y5 y6 y7 s0 z0
          refine wp_region_ext Wy (by kernel_rfl) (by kernel_rfl) (Below.refl _ _) ?_
          repeat (go_big_quiet_step (fail))
          refine wpQuiet_nil ?_
          intro _ hw'
          obtain ⟨n9, rfl⟩ := hw'
          have HN9 := Lib.hid n9.below
          generalize n9.wd = w9 at *
          clear Xy0 Xy1 Xy2 Xy3 Xy4 Xy5 Xy6 Xy7 Xs0 Xz0
          have y0 := (HN9.out.cell (p := ⟨Y, 0, none⟩) hY).trans HZy0.out
          have y1 := (HN9.out.cell (p := ⟨Y, 1, none⟩) hY).trans HZy1.out
          have y2 := (HN9.out.cell (p := ⟨Y, 2, none⟩) hY).trans HZy2.out
          have y3 := (HN9.out.cell (p := ⟨Y, 3, none⟩) hY).trans HZy3.out
          have y4 := (HN9.out.cell (p := ⟨Y, 4, none⟩) hY).trans HZy4.out
          have y5 := (HN9.out.cell (p := ⟨Y, 5, none⟩) hY).trans HZy5.out
          have y6 := (HN9.out.cell (p := ⟨Y, 6, none⟩) hY).trans HZy6.out
          have y7 := (HN9.out.cell (p := ⟨Y, 7, none⟩) hY).trans HZy7.out
          have s0 := (HN9.out.cell (p := ⟨g, t, none⟩) hSg).trans HZs0.out
          have z0 := (HN9.out.cell (p := ⟨g2, t, none⟩) hTg).trans HZz0.out
          clear HZy0 HZy1 HZy2 HZy3 HZy4 HZy5 HZy6 HZy7 HZs0 HZz0

          have HB3 := Lib.hid (below_then HB2.out HN9.out)
          go_wp2_with fail
          go_ret
          exact ⟨rfl, HB3.out⟩
        | false =>
          subst hbv
          clear h3 hn3
          have Xy0 := ext_cell _ _ hY _ y0
          have Xy1 := ext_cell _ _ hY _ y1
          have Xy2 := ext_cell _ _ hY _ y2
          have Xy3 := ext_cell _ _ hY _ y3
          have Xy4 := ext_cell _ _ hY _ y4
          have Xy5 := ext_cell _ _ hY _ y5
          have Xy6 := ext_cell _ _ hY _ y6
          have Xy7 := ext_cell _ _ hY _ y7
          have Xs0 := ext_cell _ _ hSg _ s0
          have Xz0 := ext_cell _ _ hTg _ z0
          have HZy0 := Lib.hid y0
          have HZy1 := Lib.hid y1
          have HZy2 := Lib.hid y2
          have HZy3 := Lib.hid y3
          have HZy4 := Lib.hid y4
          have HZy5 := Lib.hid y5
          have HZy6 := Lib.hid y6
          have HZy7 := Lib.hid y7
          have HZs0 := Lib.hid s0
          have HZz0 := Lib.hid z0
          clear y0 y1 y2 y3 y4 y5 y6 y7 s0 z0
          refine wp_region_ext Wy (by kernel_rfl) (by kernel_rfl) (Below.refl _ _) ?_
          repeat (go_big_quiet_step (fail))
          refine wpQuiet_nil ?_
          intro _ hw'
          obtain ⟨n9, rfl⟩ := hw'
          have HN9 := Lib.hid n9.below
          generalize n9.wd = w9 at *
          clear Xy0 Xy1 Xy2 Xy3 Xy4 Xy5 Xy6 Xy7 Xs0 Xz0
          have y0 := (HN9.out.cell (p := ⟨Y, 0, none⟩) hY).trans HZy0.out
          have y1 := (HN9.out.cell (p := ⟨Y, 1, none⟩) hY).trans HZy1.out
          have y2 := (HN9.out.cell (p := ⟨Y, 2, none⟩) hY).trans HZy2.out
          have y3 := (HN9.out.cell (p := ⟨Y, 3, none⟩) hY).trans HZy3.out
          have y4 := (HN9.out.cell (p := ⟨Y, 4, none⟩) hY).trans HZy4.out
          have y5 := (HN9.out.cell (p := ⟨Y, 5, none⟩) hY).trans HZy5.out
          have y6 := (HN9.out.cell (p := ⟨Y, 6, none⟩) hY).trans HZy6.out
          have y7 := (HN9.out.cell (p := ⟨Y, 7, none⟩) hY).trans HZy7.out
          have s0 := (HN9.out.cell (p := ⟨g, t, none⟩) hSg).trans HZs0.out
          have z0 := (HN9.out.cell (p := ⟨g2, t, none⟩) hTg).trans HZz0.out
          clear HZy0 HZy1 HZy2 HZy3 HZy4 HZy5 HZy6 HZy7 HZs0 HZz0

          have HB3 := Lib.hid (below_then HB2.out HN9.out)
          go_wp2_with fail
          go_ret
          exact ⟨rfl, HB3.out⟩
      subst h3
      have HED := Lib.hid h2
      clear h2
      have hbcell := o0
      cases er with
      | true =>
        have HK : Hid (okEv ns (l.take i) ⟨t, eo, true, ⟨rk, rc, rv, ro, rn⟩⟩ = true) := by
          show _ = _
          have h4 : c / 2 < k := HBZ.out (by have := HD.out.2; simpa using this)
          rw [HOK.out, HF.out, show (eo == d) = true by simpa using HED.out, decide_eq_true (show eo < (k : Int) by rw [HED.out, ← HD.out.1]; omega)]
          rfl
        clear hbcell
        have Xy0 := ext_cell _ _ hY _ y0
        have Xy1 := ext_cell _ _ hY _ y1
        have Xy2 := ext_cell _ _ hY _ y2
        have Xy3 := ext_cell _ _ hY _ y3
        have Xy4 := ext_cell _ _ hY _ y4
        have Xy5 := ext_cell _ _ hY _ y5
        have Xy6 := ext_cell _ _ hY _ y6
        have Xy7 := ext_cell _ _ hY _ y7
        have Xs0 := ext_cell _ _ hSg _ s0
        have Xz0 := ext_cell _ _ hTg _ z0
        have HZy0 := Lib.hid y0
        have HZy1 := Lib.hid y1
        have HZy2 := Lib.hid y2
        have HZy3 := Lib.hid y3
        have HZy4 := Lib.hid y4
        have HZy5 := Lib.hid y5
        have HZy6 := Lib.hid y6
        have HZy7 := Lib.hid y7
        have HZs0 := Lib.hid s0
        have HZz0 := Lib.hid z0
        clear y0 y1 y2 y3 y4 y5 y6 y7 s0 z0
        refine wp_region_ext Wy (by kernel_rfl) (by kernel_rfl) (Below.refl _ _) ?_
        repeat (go_big_quiet_step (fail))
        refine wpQuiet_nil ?_
        intro _ hw'
        obtain ⟨n9, rfl⟩ := hw'
        have HN9 := Lib.hid n9.below
        generalize n9.wd = w9 at *
        clear Xy0 Xy1 Xy2 Xy3 Xy4 Xy5 Xy6 Xy7 Xs0 Xz0
        have y0 := (HN9.out.cell (p := ⟨Y, 0, none⟩) hY).trans HZy0.out
        have y1 := (HN9.out.cell (p := ⟨Y, 1, none⟩) hY).trans HZy1.out
        have y2 := (HN9.out.cell (p := ⟨Y, 2, none⟩) hY).trans HZy2.out
        have y3 := (HN9.out.cell (p := ⟨Y, 3, none⟩) hY).trans HZy3.out
        have y4 := (HN9.out.cell (p := ⟨Y, 4, none⟩) hY).trans HZy4.out
        have y5 := (HN9.out.cell (p := ⟨Y, 5, none⟩) hY).trans HZy5.out
        have y6 := (HN9.out.cell (p := ⟨Y, 6, none⟩) hY).trans HZy6.out
        have y7 := (HN9.out.cell (p := ⟨Y, 7, none⟩) hY).trans HZy7.out
        have s0 := (HN9.out.cell (p := ⟨g, t, none⟩) hSg).trans HZs0.out
        have z0 := (HN9.out.cell (p := ⟨g2, t, none⟩) hTg).trans HZz0.out
        clear HZy0 HZy1 HZy2 HZy3 HZy4 HZy5 HZy6 HZy7 HZs0 HZz0

        have HB3 := Lib.hid (below_then HB2.out HN9.out)
        have HS3 := Lib.hid (HS2.out.below HN9.out)
        have HT3 := Lib.hid (ownB_below HT2.out HN9.out)
        have hY9 : Y < w9.heap.size := Nat.lt_of_lt_of_le hY HN9.out.size
        have hS9 : g < w9.heap.size := Nat.lt_of_lt_of_le hSg HN9.out.size
        have hT9 : g2 < w9.heap.size := Nat.lt_of_lt_of_le hTg HN9.out.size
        go_upto_region 10 with fail
        have Xy0 := ext_cell _ _ hY9 _ y0
        have Xy1 := ext_cell _ _ hY9 _ y1
        have Xy2 := ext_cell _ _ hY9 _ y2
        have Xy3 := ext_cell _ _ hY9 _ y3
        have Xy4 := ext_cell _ _ hY9 _ y4
        have Xy5 := ext_cell _ _ hY9 _ y5
        have Xy6 := ext_cell _ _ hY9 _ y6
        have Xy7 := ext_cell _ _ hY9 _ y7
        have Xs0 := ext_cell _ _ hS9 _ s0
        have Xz0 := ext_cell _ _ hT9 _ z0
        have HZy0 := Lib.hid y0
        have HZy1 := Lib.hid y1
        have HZy2 := Lib.hid y2
        have HZy3 := Lib.hid y3
        have HZy4 := Lib.hid y4
        have HZy5 := Lib.hid y5
        have HZy6 := Lib.hid y6
        have HZy7 := Lib.hid y7
        have HZs0 := Lib.hid s0
        have HZz0 := Lib.hid z0
        clear y0 y1 y2 y3 y4 y5 y6 y7 s0 z0
        refine wp_region_ext w9 (by kernel_rfl) (by kernel_rfl) (Below.refl _ _) ?_
        repeat (go_big_quiet_step (fail))
        refine wpQuiet_nil ?_
        intro _ hw'
        obtain ⟨n9, rfl⟩ := hw'
        have HN9b := Lib.hid n9.below
        generalize n9.wd = w10 at *
        clear Xy0 Xy1 Xy2 Xy3 Xy4 Xy5 Xy6 Xy7 Xs0 Xz0
        have y0 := (HN9b.out.cell (p := ⟨Y, 0, none⟩) hY9).trans HZy0.out
        have y1 := (HN9b.out.cell (p := ⟨Y, 1, none⟩) hY9).trans HZy1.out
        have y2 := (HN9b.out.cell (p := ⟨Y, 2, none⟩) hY9).trans HZy2.out
        have y3 := (HN9b.out.cell (p := ⟨Y, 3, none⟩) hY9).trans HZy3.out
        have y4 := (HN9b.out.cell (p := ⟨Y, 4, none⟩) hY9).trans HZy4.out
        have y5 := (HN9b.out.cell (p := ⟨Y, 5, none⟩) hY9).trans HZy5.out
        have y6 := (HN9b.out.cell (p := ⟨Y, 6, none⟩) hY9).trans HZy6.out
        have y7 := (HN9b.out.cell (p := ⟨Y, 7, none⟩) hY9).trans HZy7.out
        have s0 := (HN9b.out.cell (p := ⟨g, t, none⟩) hS9).trans HZs0.out
        have z0 := (HN9b.out.cell (p := ⟨g2, t, none⟩) hT9).trans HZz0.out
        clear HZy0 HZy1 HZy2 HZy3 HZy4 HZy5 HZy6 HZy7 HZs0 HZz0

        have HB4 := Lib.hid (below_then HB3.out HN9b.out)
        have HS4 := Lib.hid (HS3.out.below HN9b.out)
        have HT4 := Lib.hid (ownB_below HT3.out HN9b.out)
        have s1 := (HS4.out.cell t (by rw [HSn.out.1.1]; exact htn)).2
        have z1 := (HT4.out.cell t (by rw [HSn.out.1.2]; exact htn)).2
        have hdw : IntKind.i64.wrap (d + 1) = d + 1 := by rw [IntKind.wrap_i64, ← HD.out.1]; omega
        have HS5 := Lib.hid (HS4.out.store t (d + 1) HSn.out.1.1.symm)
        have HT5 := Lib.hid (ownB_setOther HT4.out ⟨g, t, none⟩ (fun e => hg12 e.symm) (.int .i64 (d + 1)))
        have HB5 := Lib.hid (HB4.out.setCell (p := ⟨g, t, none⟩) (by show _ ≤ g; rw [HG.out]; exact Nat.le_refl _) (.int .i64 (d + 1)))
        obtain ⟨w11, hw11⟩ : ∃ w11, w10.setCell ⟨g, t, none⟩ (.int .i64 (d + 1)) = w11 := ⟨_, rfl⟩
        rw [hw11] at HS5 HT5 HB5
        have HW11 := Lib.hid hw11
        clear hw11 HS2 HS3 HS4 HT2 HT3 HT4 HB2 HB3 HB4
        go_upto_region 14 with fail
        rw [HW11.out]
        clear s0 s1 z0 z1 y0 y1 y2 y3 y4 y5 y6 y7 HW11
        obtain ⟨z0, z1⟩ := HT5.out.cell t (by rw [HSn.out.1.2]; exact htn)
        rw [(HSn.out.2 t htn).2] at z0
        have hcv : (cntT (l.take i) (t : Int) % 2 == 1) = true := by
          have h := HCN.out t
          rw [if_pos rfl] at h
          have h2 := cntT_take hlt (t : Int)
          rw [HE.out, if_pos rfl] at h2
          have h3 := HD.out.2
          rw [show cntT (l.take i) (t : Int) = c by omega]
          exact h3
        rw [hcv] at z0
        clear hcv
        have HT6 := Lib.hid (HT5.out.store t false HSn.out.1.2.symm)
        have HS6 := Lib.hid (HS5.out.setOther ⟨g2, t, none⟩ hg12 (.bool false))
        have HB6 := Lib.hid (HB5.out.setCell (p := ⟨g2, t, none⟩) HG2.out.2 (.bool false))
        have HSn2 : Hid (((S.set t (d + 1)).length = n ∧ (T.set t false).length = n) ∧ ∀ u, u < n → (S.set t (d + 1)).getD u 0 = ((cntT (l.take (i + 1)) (u : Int) / 2 : Nat) : Int) ∧ (T.set t false).getD u false = (cntT (l.take (i + 1)) (u : Int) % 2 == 1)) := ⟨⟨by rw [List.length_set]; exact HSn.out.1.1, by rw [List.length_set]; exact HSn.out.1.2⟩, fun u hu => by
          rw [HCN.out u]
          by_cases e : t = u
          · subst e
            have h3 := HD.out.2
            have h4 := HD.out.1
            simp only [beq_iff_eq] at h3
            rw [if_pos rfl, List.getD_eq_getElem?_getD, List.getD_eq_getElem?_getD, List.getElem?_set_self (by rw [HSn.out.1.1]; exact hu), List.getElem?_set_self (by rw [HSn.out.1.2]; exact hu)]
            refine ⟨?_, ?_⟩
            · show d + 1 = _; omega
            · show false = _; rw [show (c + 1) % 2 = 0 by omega]; rfl
          · rw [if_neg e, List.getD_eq_getElem?_getD, List.getD_eq_getElem?_getD, List.getElem?_set_ne e, List.getElem?_set_ne e, ← List.getD_eq_getElem?_getD, ← List.getD_eq_getElem?_getD]
            exact HSn.out.2 u hu⟩
        have HM2 : Hid (∀ j, j < i + 1 → okEv ns (l.take j) (l.getD j evZ) = true) := fun j hj => by
          rcases Nat.lt_or_ge j i with h | h
          · exact HM.out j h
          · rw [show j = i by omega, HE.out]; exact HK.out
        clear HNi HYES HM HSn HOK HCN HS5 HT5 HB5 HK HF HD HBZ
        go_wp2_with fail
        go_roundw
        case rel => exact ⟨i + 1, _, _, by go_num, by omega, HSn2, HS6, HT6, HM2, HB6⟩
        case measure => simp [intOf]; omega
      | false =>
        obtain ⟨q3, hq3⟩ : ∃ q, decide (d < (k : Int)) = q := ⟨_, rfl⟩
        obtain ⟨q4, hq4⟩ : ∃ q, resZB ⟨rk, rc, rv, ro, rn⟩ = q := ⟨_, rfl⟩
        have heq := fun w => run_neq_resZ rk rc rv ro rn w
        rw [hq4] at heq
        have HK : Hid (okEv ns (l.take i) ⟨t, eo, false, ⟨rk, rc, rv, ro, rn⟩⟩ = (q3 && q4)) := by
          show _ = _
          rw [HOK.out, HF.out, show (eo == d) = true by simpa using HED.out, HED.out, hq3, hq4]
          cases q3 <;> cases q4 <;> rfl
        have hn3 : decide (d ≥ (k : Int)) = !q3 := by rw [← hq3]; by_cases h : d < (k : Int) <;> simp [h] <;> omega
        clear hq3 hq4 hbcell
        have Xy0 := ext_cell _ _ hY _ y0
        have Xy1 := ext_cell _ _ hY _ y1
        have Xy2 := ext_cell _ _ hY _ y2
        have Xy3 := ext_cell _ _ hY _ y3
        have Xy4 := ext_cell _ _ hY _ y4
        have Xy5 := ext_cell _ _ hY _ y5
        have Xy6 := ext_cell _ _ hY _ y6
        have Xy7 := ext_cell _ _ hY _ y7
        have Xs0 := ext_cell _ _ hSg _ s0
        have Xz0 := ext_cell _ _ hTg _ z0
        have Xo0 := ext_cell _ _ hbo _ o0
        have HZy0 := Lib.hid y0
        have HZy1 := Lib.hid y1
        have HZy2 := Lib.hid y2
        have HZy3 := Lib.hid y3
        have HZy4 := Lib.hid y4
        have HZy5 := Lib.hid y5
        have HZy6 := Lib.hid y6
        have HZy7 := Lib.hid y7
        have HZs0 := Lib.hid s0
        have HZz0 := Lib.hid z0
        have HZo0 := Lib.hid o0
        clear y0 y1 y2 y3 y4 y5 y6 y7 s0 z0 o0
        refine wp_region_ext Wy (by kernel_rfl) (by kernel_rfl) (Below.refl _ _) ?_
        repeat (go_big_quiet_step (fail))
        refine wpQuiet_nil ?_
        intro _ hw'
        obtain ⟨n9, rfl⟩ := hw'
        have HN9 := Lib.hid n9.below
        generalize n9.wd = w9 at *
        clear Xy0 Xy1 Xy2 Xy3 Xy4 Xy5 Xy6 Xy7 Xs0 Xz0 Xo0
        have y0 := (HN9.out.cell (p := ⟨Y, 0, none⟩) hY).trans HZy0.out
        have y1 := (HN9.out.cell (p := ⟨Y, 1, none⟩) hY).trans HZy1.out
        have y2 := (HN9.out.cell (p := ⟨Y, 2, none⟩) hY).trans HZy2.out
        have y3 := (HN9.out.cell (p := ⟨Y, 3, none⟩) hY).trans HZy3.out
        have y4 := (HN9.out.cell (p := ⟨Y, 4, none⟩) hY).trans HZy4.out
        have y5 := (HN9.out.cell (p := ⟨Y, 5, none⟩) hY).trans HZy5.out
        have y6 := (HN9.out.cell (p := ⟨Y, 6, none⟩) hY).trans HZy6.out
        have y7 := (HN9.out.cell (p := ⟨Y, 7, none⟩) hY).trans HZy7.out
        have s0 := (HN9.out.cell (p := ⟨g, t, none⟩) hSg).trans HZs0.out
        have z0 := (HN9.out.cell (p := ⟨g2, t, none⟩) hTg).trans HZz0.out
        have o0 := (HN9.out.cell (p := ⟨bo, oo + t, none⟩) hbo).trans HZo0.out
        clear HZy0 HZy1 HZy2 HZy3 HZy4 HZy5 HZy6 HZy7 HZs0 HZz0 HZo0

        have HB3 := Lib.hid (below_then HB2.out HN9.out)
        have HS3 := Lib.hid (HS2.out.below HN9.out)
        have HT3 := Lib.hid (ownB_below HT2.out HN9.out)
        have hY9 : Y < w9.heap.size := Nat.lt_of_lt_of_le hY HN9.out.size
        have hS9 : g < w9.heap.size := Nat.lt_of_lt_of_le hSg HN9.out.size
        have hT9 : g2 < w9.heap.size := Nat.lt_of_lt_of_le hTg HN9.out.size
        have hO9 : bo < w9.heap.size := Nat.lt_of_lt_of_le hbo HN9.out.size
        go_upto_region 10 with fail
        cases q3 with
        | false =>
          have hr := HNi.out (by rw [HK.out]; rfl)
          subst hr
          clear HNi HYES HM
          have Xy0 := ext_cell _ _ hY9 _ y0
          have Xy1 := ext_cell _ _ hY9 _ y1
          have Xy2 := ext_cell _ _ hY9 _ y2
          have Xy3 := ext_cell _ _ hY9 _ y3
          have Xy4 := ext_cell _ _ hY9 _ y4
          have Xy5 := ext_cell _ _ hY9 _ y5
          have Xy6 := ext_cell _ _ hY9 _ y6
          have Xy7 := ext_cell _ _ hY9 _ y7
          have Xs0 := ext_cell _ _ hS9 _ s0
          have Xz0 := ext_cell _ _ hT9 _ z0
          have Xo0 := ext_cell _ _ hO9 _ o0
          have HZy0 := Lib.hid y0
          have HZy1 := Lib.hid y1
          have HZy2 := Lib.hid y2
          have HZy3 := Lib.hid y3
          have HZy4 := Lib.hid y4
          have HZy5 := Lib.hid y5
          have HZy6 := Lib.hid y6
          have HZy7 := Lib.hid y7
          have HZs0 := Lib.hid s0
          have HZz0 := Lib.hid z0
          have HZo0 := Lib.hid o0
          clear y0 y1 y2 y3 y4 y5 y6 y7 s0 z0 o0
          refine wp_region_ext w9 (by kernel_rfl) (by kernel_rfl) (Below.refl _ _) ?_
          repeat (go_big_quiet_step (fail))
          refine wpQuiet_nil ?_
          intro _ hw'
          obtain ⟨n9, rfl⟩ := hw'
          have HN9b := Lib.hid n9.below
          generalize n9.wd = w10 at *
          clear Xy0 Xy1 Xy2 Xy3 Xy4 Xy5 Xy6 Xy7 Xs0 Xz0 Xo0
          have y0 := (HN9b.out.cell (p := ⟨Y, 0, none⟩) hY9).trans HZy0.out
          have y1 := (HN9b.out.cell (p := ⟨Y, 1, none⟩) hY9).trans HZy1.out
          have y2 := (HN9b.out.cell (p := ⟨Y, 2, none⟩) hY9).trans HZy2.out
          have y3 := (HN9b.out.cell (p := ⟨Y, 3, none⟩) hY9).trans HZy3.out
          have y4 := (HN9b.out.cell (p := ⟨Y, 4, none⟩) hY9).trans HZy4.out
          have y5 := (HN9b.out.cell (p := ⟨Y, 5, none⟩) hY9).trans HZy5.out
          have y6 := (HN9b.out.cell (p := ⟨Y, 6, none⟩) hY9).trans HZy6.out
          have y7 := (HN9b.out.cell (p := ⟨Y, 7, none⟩) hY9).trans HZy7.out
          have s0 := (HN9b.out.cell (p := ⟨g, t, none⟩) hS9).trans HZs0.out
          have z0 := (HN9b.out.cell (p := ⟨g2, t, none⟩) hT9).trans HZz0.out
          have o0 := (HN9b.out.cell (p := ⟨bo, oo + t, none⟩) hO9).trans HZo0.out
          clear HZy0 HZy1 HZy2 HZy3 HZy4 HZy5 HZy6 HZy7 HZs0 HZz0 HZo0

          have HB4 := Lib.hid (below_then HB3.out HN9b.out)
          go_wp2_with fail
          go_ret
          exact ⟨rfl, HB4.out⟩
        | true =>
          cases q4 with
          | false =>
            have hr := HNi.out (by rw [HK.out]; rfl)
            subst hr
            clear HNi HYES HM
            have Xy0 := ext_cell _ _ hY9 _ y0
            have Xy1 := ext_cell _ _ hY9 _ y1
            have Xy2 := ext_cell _ _ hY9 _ y2
            have Xy3 := ext_cell _ _ hY9 _ y3
            have Xy4 := ext_cell _ _ hY9 _ y4
            have Xy5 := ext_cell _ _ hY9 _ y5
            have Xy6 := ext_cell _ _ hY9 _ y6
            have Xy7 := ext_cell _ _ hY9 _ y7
            have Xs0 := ext_cell _ _ hS9 _ s0
            have Xz0 := ext_cell _ _ hT9 _ z0
            have Xo0 := ext_cell _ _ hO9 _ o0
            have HZy0 := Lib.hid y0
            have HZy1 := Lib.hid y1
            have HZy2 := Lib.hid y2
            have HZy3 := Lib.hid y3
            have HZy4 := Lib.hid y4
            have HZy5 := Lib.hid y5
            have HZy6 := Lib.hid y6
            have HZy7 := Lib.hid y7
            have HZs0 := Lib.hid s0
            have HZz0 := Lib.hid z0
            have HZo0 := Lib.hid o0
            clear y0 y1 y2 y3 y4 y5 y6 y7 s0 z0 o0
            refine wp_region_ext w9 (by kernel_rfl) (by kernel_rfl) (Below.refl _ _) ?_
            repeat (go_big_quiet_step (fail))
            refine wpQuiet_nil ?_
            intro _ hw'
            obtain ⟨n9, rfl⟩ := hw'
            have HN9b := Lib.hid n9.below
            generalize n9.wd = w10 at *
            clear Xy0 Xy1 Xy2 Xy3 Xy4 Xy5 Xy6 Xy7 Xs0 Xz0 Xo0
            have y0 := (HN9b.out.cell (p := ⟨Y, 0, none⟩) hY9).trans HZy0.out
            have y1 := (HN9b.out.cell (p := ⟨Y, 1, none⟩) hY9).trans HZy1.out
            have y2 := (HN9b.out.cell (p := ⟨Y, 2, none⟩) hY9).trans HZy2.out
            have y3 := (HN9b.out.cell (p := ⟨Y, 3, none⟩) hY9).trans HZy3.out
            have y4 := (HN9b.out.cell (p := ⟨Y, 4, none⟩) hY9).trans HZy4.out
            have y5 := (HN9b.out.cell (p := ⟨Y, 5, none⟩) hY9).trans HZy5.out
            have y6 := (HN9b.out.cell (p := ⟨Y, 6, none⟩) hY9).trans HZy6.out
            have y7 := (HN9b.out.cell (p := ⟨Y, 7, none⟩) hY9).trans HZy7.out
            have s0 := (HN9b.out.cell (p := ⟨g, t, none⟩) hS9).trans HZs0.out
            have z0 := (HN9b.out.cell (p := ⟨g2, t, none⟩) hT9).trans HZz0.out
            have o0 := (HN9b.out.cell (p := ⟨bo, oo + t, none⟩) hO9).trans HZo0.out
            clear HZy0 HZy1 HZy2 HZy3 HZy4 HZy5 HZy6 HZy7 HZs0 HZz0 HZo0

            have HB4 := Lib.hid (below_then HB3.out HN9b.out)
            go_wp2_with fail
            go_ret
            exact ⟨rfl, HB4.out⟩
          | true =>
            have Xy0 := ext_cell _ _ hY9 _ y0
            have Xy1 := ext_cell _ _ hY9 _ y1
            have Xy2 := ext_cell _ _ hY9 _ y2
            have Xy3 := ext_cell _ _ hY9 _ y3
            have Xy4 := ext_cell _ _ hY9 _ y4
            have Xy5 := ext_cell _ _ hY9 _ y5
            have Xy6 := ext_cell _ _ hY9 _ y6
            have Xy7 := ext_cell _ _ hY9 _ y7
            have Xs0 := ext_cell _ _ hS9 _ s0
            have Xz0 := ext_cell _ _ hT9 _ z0
            have Xo0 := ext_cell _ _ hO9 _ o0
            have HZy0 := Lib.hid y0
            have HZy1 := Lib.hid y1
            have HZy2 := Lib.hid y2
            have HZy3 := Lib.hid y3
            have HZy4 := Lib.hid y4
            have HZy5 := Lib.hid y5
            have HZy6 := Lib.hid y6
            have HZy7 := Lib.hid y7
            have HZs0 := Lib.hid s0
            have HZz0 := Lib.hid z0
            have HZo0 := Lib.hid o0
            clear y0 y1 y2 y3 y4 y5 y6 y7 s0 z0 o0
            refine wp_region_ext w9 (by kernel_rfl) (by kernel_rfl) (Below.refl _ _) ?_
            repeat (go_big_quiet_step (fail))
            refine wpQuiet_nil ?_
            intro _ hw'
            obtain ⟨n9, rfl⟩ := hw'
            have HN9b := Lib.hid n9.below
            generalize n9.wd = w10 at *
            clear Xy0 Xy1 Xy2 Xy3 Xy4 Xy5 Xy6 Xy7 Xs0 Xz0 Xo0
            have y0 := (HN9b.out.cell (p := ⟨Y, 0, none⟩) hY9).trans HZy0.out
            have y1 := (HN9b.out.cell (p := ⟨Y, 1, none⟩) hY9).trans HZy1.out
            have y2 := (HN9b.out.cell (p := ⟨Y, 2, none⟩) hY9).trans HZy2.out
            have y3 := (HN9b.out.cell (p := ⟨Y, 3, none⟩) hY9).trans HZy3.out
            have y4 := (HN9b.out.cell (p := ⟨Y, 4, none⟩) hY9).trans HZy4.out
            have y5 := (HN9b.out.cell (p := ⟨Y, 5, none⟩) hY9).trans HZy5.out
            have y6 := (HN9b.out.cell (p := ⟨Y, 6, none⟩) hY9).trans HZy6.out
            have y7 := (HN9b.out.cell (p := ⟨Y, 7, none⟩) hY9).trans HZy7.out
            have s0 := (HN9b.out.cell (p := ⟨g, t, none⟩) hS9).trans HZs0.out
            have z0 := (HN9b.out.cell (p := ⟨g2, t, none⟩) hT9).trans HZz0.out
            have o0 := (HN9b.out.cell (p := ⟨bo, oo + t, none⟩) hO9).trans HZo0.out
            clear HZy0 HZy1 HZy2 HZy3 HZy4 HZy5 HZy6 HZy7 HZs0 HZz0 HZo0

            have HB4 := Lib.hid (below_then HB3.out HN9b.out)
            have HS4 := Lib.hid (HS3.out.below HN9b.out)
            have HT4 := Lib.hid (ownB_below HT3.out HN9b.out)
            have z1 := (HT4.out.cell t (by rw [HSn.out.1.2]; exact htn)).2
            have HT6 := Lib.hid (HT4.out.store t true HSn.out.1.2.symm)
            have HS6 := Lib.hid (HS4.out.setOther ⟨g2, t, none⟩ hg12 (.bool true))
            have HB6 := Lib.hid (HB4.out.setCell (p := ⟨g2, t, none⟩) HG2.out.2 (.bool true))
            have HSn2 : Hid ((S.length = n ∧ (T.set t true).length = n) ∧ ∀ u, u < n → S.getD u 0 = ((cntT (l.take (i + 1)) (u : Int) / 2 : Nat) : Int) ∧ (T.set t true).getD u false = (cntT (l.take (i + 1)) (u : Int) % 2 == 1)) := ⟨⟨HSn.out.1.1, by rw [List.length_set]; exact HSn.out.1.2⟩, fun u hu => by
              have h2 := HSn.out.2 u hu
              have h5 := HCN.out u
              have h6 := cntT_take hlt (u : Int)
              rw [HE.out] at h6
              rw [h5]
              by_cases e : t = u
              · subst e
                have h3 := HD.out.2
                have h4 := HD.out.1
                rw [if_pos rfl] at h5 h6
                have hcc : cntT (l.take i) (t : Int) = c := by omega
                rw [hcc] at h2
                have h7 : c % 2 = 0 := by rcases Nat.mod_two_eq_zero_or_one c with h | h; exact h; rw [h] at h3; cases h3
                rw [if_pos rfl, List.getD_eq_getElem?_getD (l := T.set t true), List.getElem?_set_self (by rw [HSn.out.1.2]; exact hu)]
                refine ⟨?_, ?_⟩
                · rw [h2.1]; omega
                · show true = _; rw [show (c + 1) % 2 = 1 by omega]; rfl
              · rw [if_neg e, List.getD_eq_getElem?_getD (l := T.set t true), List.getElem?_set_ne e, ← List.getD_eq_getElem?_getD]
                exact h2⟩
            have HM2 : Hid (∀ j, j < i + 1 → okEv ns (l.take j) (l.getD j evZ) = true) := fun j hj => by
              rcases Nat.lt_or_ge j i with h | h
              · exact HM.out j h
              · rw [show j = i by omega, HE.out, HK.out]; rfl
            clear HNi HYES HM HSn HOK HCN HK HF HD HBZ HS2 HS3 HS4 HT2 HT3 HT4 HB2 HB3 HB4
            go_wp2_with fail
            go_roundw
            case rel => exact ⟨i + 1, _, _, by go_num, by omega, HSn2, HS6, HT6, HM2, HB6⟩
            case measure => simp [intOf]; omega
    · have hge : ¬ (i : Int) < (l.length : Int) := by omega
      have hr := HYES.out (fun j hj => HM.out j (by omega))
      clear HNO HYES
      subst hr
      go_wp2
      go_ret
      exact ⟨rfl, HB.out⟩
end Go.Proofs.Ytnbehigjeopniaa
