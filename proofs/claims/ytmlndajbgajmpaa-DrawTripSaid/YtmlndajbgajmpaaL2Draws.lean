/- Layer 2: what the two functions that lead from a permutation back to its draws return. -/
import Derived.Test.YtmlndajbgajmpaaL2Perm
import Derived.Test.YtmlndajbgajmpaaL2Builds
import Derived.IntWalk
namespace Go.Proofs.Ytmlndajbgajmpaa
open Go.ChangeShapes Go.WideShapes Go.ChangeAt Go.RowKit

theorem drawsL_get (r : List Int) (i n j : Nat) (hj : j < n) : 0 ≤ (drawsL r i n).getD j 0 ∧ (drawsL r i n).getD j 0 ≤ i + j := by
  induction n generalizing r i j with
  | zero => omega
  | succ n ih =>
    rw [drawsL]
    cases j with
    | zero => have := nxt_bd r ((i : Int) + 1) (by omega); simp; omega
    | succ j =>
      have := ih r.tail (i + 1) j (by omega)
      simp only [List.getD_cons_succ]
      omega
theorem drawsL_ok (r : List Int) (n : Nat) : OkDraws (drawsL r 0 n) := fun i hi => by
  rw [drawsL_length] at hi
  have := drawsL_get r 0 n i hi
  omega
theorem ints_range {l : List Int} {n : Nat} (h : Full n l) (hn : n ≤ 20) : ∀ x ∈ l, x = IntKind.i64.wrap x := fun x hx => by
  have := h.range x hx
  exact i64_ok x (by omega) (by omega)
theorem unperm_any (v : Value) (o : List Int) (w : World) (hs : SlI w .i64 v o) :
    Calls Try.prog 17 #[v] w fun e w' => ∃ u, e = .returned (.tuple #[u, .bool (drwB o)]) ∧ SlI w' .i64 u (drwL o) ∧ Below w.heap.size w w' := by
  have hmx := hs.1
  have hs0 := hs
  obtain ⟨_, _, a, cap, rfl, h4, h5⟩ := hs
  clear h4
  by_cases h20 : 20 < o.length
  · have H := Lib.hid (drw_no o (by omega))
    clear h5 hs0
    go_enter Try.func17, Try.ntmps17
    go_wp2
    go_ret2
    exact ⟨_, by rw [H.out.1]; rfl, by rw [H.out.2]; exact SlI.nil _ _, Below.refl _ _⟩
  · obtain ⟨n, hn⟩ : ∃ n, o.length = n := ⟨_, rfl⟩
    have hn20 : n ≤ 20 := by omega
    have H0 := Lib.hid hs0
    have HN := Lib.hid hn
    rw [hn] at hmx h5
    rw [hn]
    clear hs0 h20 hn
    go_enter Try.func17, Try.ntmps17
    go_wp2_with (first
      | (go_at_call 26; refine (ascending_any n w (by omega)).mono ?_; rintro e w1 ⟨rfl, ho1, hb1⟩)
      | (at_make; refine wp_make_i64 w1 rfl _ _ rfl n _ _ rfl rfl rfl rfl ?_ ?_; omega; intro w2 ho2 hb2))
    have hR : w.heap.size < w1.heap.size := by rcases ho1.shape with ⟨h, _⟩ | ⟨g, c, h, _, h2, _⟩
                                               · cases h
                                               · simp at h; omega
    go_loopw [7, 8, 9, 24] (fun c _ _ _ wr => ∃ q : Nat, ∃ rest d : List Int, q ≤ n ∧ c = .int .i64 ((q : Int) - 1) ∧ Hid (d.length = n) ∧ Hid (Agree n q o rest) ∧ Hid (un o q rest ++ d.drop q = un o n (asc n)) ∧
        Hid (OwnI wr w.heap.size 3 .i64 (.slice (some ⟨w.heap.size, 0, none⟩) n n) rest) ∧ Hid (OwnI wr w1.heap.size 3 .i64 (.slice (some ⟨w1.heap.size, 0, none⟩) n n) d) ∧ Hid (Below w.heap.size w wr)) (fun c _ _ _ _ => (intOf c + 1).toNat)
    case atStart => exact ⟨n, asc n, List.replicate n 0, by omega, rfl, Lib.hid (by simp), Agree.start n o, Lib.hid (by simp), ho1.below hb2, ho2, below_then hb1 hb2⟩
    case round =>
      clear ho1 hb1 ho2 hb2
      obtain ⟨q, rest, d, hq, rfl, hd, hag, hun, ho1, ho2, hb⟩ := hrel
      by_cases hlt : 0 < q
      · obtain ⟨i, rfl⟩ : ∃ i, q = i + 1 := ⟨q - 1, by omega⟩
        rw [show (((i + 1 : Nat) : Int) - 1) = (i : Int) by omega]
        have hrl := hag.out.1.1
        have hR1 := ho1.out.readTake (i + 1) (by omega) (by omega) (ints_range hag.out.1 hn20)
        obtain ⟨b, off, hbo, hbl, hc⟩ := h5 i (by omega)
        subst hbo
        have hc := (hb.out.cell (p := ⟨b, off + i, none⟩) hbl).trans hc
        have H5 := Lib.hid h5
        clear h5
        obtain ⟨x, hx⟩ : ∃ x, o.getD i 0 = x := ⟨_, rfl⟩
        rw [hx] at hc
        have HX := Lib.hid hx
        have HRL := Lib.hid hrl
        by_cases hf : fd x (rest.take (i + 1)) < (rest.take (i + 1)).length
        · obtain ⟨f1, f2⟩ := fd_take_lt x rest (i + 1) hf
          obtain ⟨k, hk⟩ : ∃ k, fd x rest = k := ⟨_, rfl⟩
          have e1 : fdN x (rest.take (i + 1)) = k := by unfold fdN; rw [if_pos hf, f1, hk]
          have e2 : fdB x (rest.take (i + 1)) = true := by unfold fdB; exact decide_eq_true hf
          rw [hk] at f2
          have hki : k ≤ i := by omega
          have F1 : Hid (∀ w', SlI w' .i64 (.slice (some ⟨w.heap.size, 0, none⟩) (i + 1) n) (rest.take (i + 1)) → Calls Try.prog 29 #[.slice (some ⟨w.heap.size, 0, none⟩) (i + 1) n, .int .i64 x] w' fun e w'' => e = .returned (.tuple #[.int .i64 (k : Int), .bool true]) ∧ w'' = w') :=
            fun w' h => (find_any _ _ x w' h).mono fun _ _ h => ⟨by rw [h.1, e1, e2], h.2.symm⟩
          have HR1 := Lib.hid hR1
          have g1 : (((i : Int) + 1)).toNat = i + 1 := by omega
          have g2 : (0 : Int) ≤ (i : Int) + 1 := by omega
          have g3 : IntKind.i64.wrap ((i : Int) + 1) = (i : Int) + 1 := IntWalk.i64_in _ (by omega)
          have g4 : ((i : Int) + 1) ≤ n := by omega
          have HK := Lib.hid hk
          clear hf f1 e1 e2 f2 hR1 hk hx hrl hlt
          go_wp2
          go_quiet ((go_at_call 29; exact Calls.quiet_of_same (F1.out _ HR1.out)))
          obtain ⟨c1, c2⟩ := ho1.out.cell i (by rw [HRL.out]; omega)
          obtain ⟨c3, c4⟩ := ho1.out.cell k (by rw [HRL.out]; omega)
          obtain ⟨c6, c7⟩ := ho2.out.cell i (by rw [hd.out]; omega)
          have hRD : ¬ w.heap.size = w1.heap.size := by omega
          have hDR : ¬ w1.heap.size = w.heap.size := by omega
          generalize hy : rest.getD i 0 = y at *
          generalize hz : rest.getD k 0 = z at *
          generalize d.getD i 0 = t at *
          have HY := Lib.hid hy
          have HZ := Lib.hid hz
          clear hy hz hbl
          obtain ⟨z', c5⟩ := cell?_setCell_some (w := wr.drewN (nq + 1)) (p := ⟨w.heap.size, i, none⟩) (x := .int .i64 z) (q := ⟨w.heap.size, k, none⟩) (v := .int .i64 z) c3
          go_wp2
          go_region
          have U := Lib.hid (un_step o rest d _ i k (by rw [hd.out]; omega) (by rw [HX.out]; exact HK.out) hun.out)
          have AS := Lib.hid (hag.out.step (k := k) (by omega) hki (by rw [HX.out, ← HK.out]; exact fd_get x rest (by rw [HK.out, HRL.out]; omega)))
          go_wp2
          go_roundw
          case rel => exact ⟨i, swp rest i k, d.set i (k : Int), by omega, by go_num, Lib.hid (by rw [List.length_set]; exact hd.out), AS, U, Lib.hid (by
              have := (((ho1.out.store i z HRL.out.symm).store k y (by rw [List.length_set]; exact HRL.out.symm)).setOther ⟨w1.heap.size, i, none⟩ hRD (.int .i64 k))
              unfold swp; rw [HY.out, HZ.out]; exact this), Lib.hid (by
              exact (((ho2.out.setOther ⟨w.heap.size, i, none⟩ hDR (.int .i64 z)).setOther ⟨w.heap.size, k, none⟩ hDR (.int .i64 y)).store i (k : Int) hd.out.symm)), Lib.hid (by
              exact below_drewN (((hb.out.setCell (p := ⟨w.heap.size, i, none⟩) (Nat.le_refl _) _).setCell (p := ⟨w.heap.size, k, none⟩) (Nat.le_refl _) _).setCell (p := ⟨w1.heap.size, i, none⟩) (Nat.le_of_lt hR) _) _)⟩
          case measure => simp [intOf]
        · have e2 : fdB x (rest.take (i + 1)) = false := by unfold fdB; exact decide_eq_false hf
          have e1 : fdN x (rest.take (i + 1)) = 0 := by unfold fdN; rw [if_neg hf]
          have F1 : Hid (∀ w', SlI w' .i64 (.slice (some ⟨w.heap.size, 0, none⟩) (i + 1) n) (rest.take (i + 1)) → Calls Try.prog 29 #[.slice (some ⟨w.heap.size, 0, none⟩) (i + 1) n, .int .i64 x] w' fun e w'' => e = .returned (.tuple #[.int .i64 0, .bool false]) ∧ w'' = w') :=
            fun w' h => (find_any _ _ x w' h).mono fun _ _ h => ⟨by rw [h.1, e1, e2]; rfl, h.2.symm⟩
          have HR1 := Lib.hid hR1
          have g1 : (((i : Int) + 1)).toNat = i + 1 := by omega
          have g2 : (0 : Int) ≤ (i : Int) + 1 := by omega
          have g3 : IntKind.i64.wrap ((i : Int) + 1) = (i : Int) + 1 := IntWalk.i64_in _ (by omega)
          have g4 : ((i : Int) + 1) ≤ n := by omega
          have NO := Lib.hid (drw_no o (fun ⟨_, hfull⟩ => by
            rw [HN.out] at hfull
            have h1 := hag.out.found hfull (by omega)
            rw [HX.out] at h1
            exact hf (by rw [fd_take x rest (i + 1) (by omega)]; simp; omega)))
          clear hf e1 e2 hR1 hx hrl hlt
          go_wp2
          go_quiet ((go_at_call 29; exact Calls.quiet_of_same (F1.out _ HR1.out)))
          go_wp2
          go_ret2
          exact ⟨_, by rw [NO.out.1]; rfl, by rw [NO.out.2]; exact SlI.nil _ _, below_drewN hb.out _⟩
      · obtain rfl : q = 0 := by omega
        have hfull : Full n o := by
          have := hag.out.fin HN.out
          rw [← this]; exact hag.out.1
        have YES := Lib.hid (drw_yes o (by rw [HN.out]; exact hn20) (by rw [HN.out]; exact hfull))
        have ED := Lib.hid (show d = un o n (asc n) by simpa [un] using hun.out)
        have UM := Lib.hid (fun y hy => un_mem o n n (asc n) (Agree.start n o) hfull (Nat.le_refl _) y hy)
        clear hfull h5
        go_wp2
        go_ret2
        refine ⟨_, by rw [YES.out.1]; rfl, ?_, hb.out⟩
        rw [YES.out.2, HN.out, ← ED.out]
        exact ho2.out.read (by rw [hd.out]; omega) fun y hy => by
          have := UM.out y (by rw [← ED.out]; exact hy)
          exact i64_ok y (by omega) (by omega)
theorem fdI_neg (x : Int) (l : List Int) (h : x ∉ l) : fdI x l = -1 := by
  unfold fdI; rw [if_neg (fun hc => h ((fd_mem x l).2 hc))]
theorem fdI_pos (x : Int) (l : List Int) (h : x ∈ l) : fdI x l = fd x l := by
  unfold fdI; rw [if_pos ((fd_mem x l).1 h)]
theorem runperm_any (v : Value) (o : List Int) (w : World) (hs : SlI w .i64 v o) :
    Calls Try.prog 18 #[v] w fun e w' => ∃ u, e = .returned (.tuple #[u, .bool (drwB o)]) ∧ SlI w' .i64 u (drwL o) ∧ Below w.heap.size w w' := by
  have hmx := hs.1
  have hs0 := hs
  obtain ⟨_, _, a, cap, rfl, h4, h5⟩ := hs
  clear h4
  by_cases h20 : 20 < o.length
  · have H := Lib.hid (drw_no o (by omega))
    clear h5 hs0
    go_enter Try.func18, Try.ntmps18
    go_wp2
    go_ret2
    exact ⟨_, by rw [H.out.1]; rfl, by rw [H.out.2]; exact SlI.nil _ _, Below.refl _ _⟩
  · obtain ⟨n, hn⟩ : ∃ n, o.length = n := ⟨_, rfl⟩
    have hn20 : n ≤ 20 := by omega
    have H0 := hs0
    have HN := Lib.hid hn
    rw [hn] at hmx h5 H0
    have H0 := Lib.hid H0
    have RF := Lib.hid (fun x w' (h : SlI w' .i64 (.slice a n cap) o) => rfind_any _ o x w' h)
    rw [hn]
    have H5 := Lib.hid h5
    have HF := Lib.hid (fill_full n)
    clear hs0 h20 hn h5
    go_enter Try.func18, Try.ntmps18
    go_wp2
    go_loop [5] (fun c => ∃ k : Nat, k ≤ n ∧ c = .int .i64 k ∧ Hid (∀ j : Nat, j < k → (j : Int) ∈ o)) (fun c => n - (intOf c).toNat)
    case atStart => exact ⟨0, by omega, rfl, fun j hj => by omega⟩
    case round =>
      obtain ⟨k, hk, rfl, hall⟩ := hrel
      by_cases hlt : k < n
      · by_cases hm : (k : Int) ∈ o
        · have e := fdI_pos _ _ hm
          have R := RF.out (k : Int) w H0.out
          rw [e] at R
          generalize fd (k : Int) o = p at R
          have R' := Lib.hid R
          have HM := Lib.hid hm
          clear e R hm
          go_wp2_with (go_at_call 30; refine R'.out.mono ?_; rintro e w' ⟨rfl, rfl⟩)
          go_round
          case rel => exact ⟨k + 1, by omega, by go_num, fun j hj => by
            by_cases e : j = k
            · rw [e]; exact HM.out
            · exact hall.out j (by omega)⟩
          case measure => simp [intOf]; omega
        · have e := fdI_neg _ _ hm
          have R := RF.out (k : Int) w H0.out
          rw [e] at R
          have R' := Lib.hid R
          have NO := Lib.hid (drw_no o (fun ⟨_, hf⟩ => hm (hf.2 k (by rw [HN.out]; exact hlt))))
          clear e R hm
          go_wp2_with (go_at_call 30; refine R'.out.mono ?_; rintro e w' ⟨rfl, rfl⟩)
          go_ret2
          exact ⟨_, by rw [NO.out.1]; rfl, by rw [NO.out.2]; exact SlI.nil _ _, Below.refl _ _⟩
      · have hfull : Hid (Full n o) := ⟨HN.out, fun i hi => hall.out i (by omega)⟩
        have hkn : k = n := by omega
        subst hkn
        clear hall
        go_wp2_with (at_make; refine wp_make_i64 w rfl _ _ rfl k _ _ rfl rfl rfl rfl ?_ ?_; omega; intro w1 hown hgrow)
        rw [← fill_zero] at hown
        go_loopw [7] (fun c wr => ∃ j : Nat, j ≤ k ∧ c = .int .i64 j ∧ OwnI wr w.heap.size 3 .i64 (.slice (some ⟨w.heap.size, 0, none⟩) k k) (fill k j) ∧ Below w.heap.size w wr) (fun c _ => k - (intOf c).toNat)
        case atStart => exact ⟨0, by omega, rfl, hown, hgrow⟩
        case round =>
          clear hown hgrow
          obtain ⟨j, hj, rfl, hown, hbel⟩ := hrel
          by_cases hlt : j < k
          · have hlen := fill_length k j hj
            obtain ⟨c1, c2⟩ := hown.cell j (by omega)
            have S1 := hown.store j j (by omega)
            rw [fill_step k j hlt] at S1
            have S2 := hbel.setCell (p := ⟨w.heap.size, j, none⟩) (Nat.le_refl _) (.int .i64 j)
            have SS := Lib.hid (And.intro S1 S2)
            clear S1 S2 hown hbel hlen
            generalize (fill k j).getD j 0 = x0 at c1
            go_wp2
            go_roundw
            case rel => exact ⟨j + 1, by omega, by go_num, SS.out.1, SS.out.2⟩
            case measure => simp [intOf]; omega
          · have hjk : j = k := by omega
            subst hjk
            rw [HF.out] at hown
            obtain ⟨w3, rfl⟩ : ∃ w3 : World, w3 = wr := ⟨_, rfl⟩
            go_wp2_with (at_make; refine wp_make_i64 w3 rfl _ _ rfl j _ _ rfl rfl rfl rfl ?_ ?_; omega; intro w2 ho2 hb2)
            have hR : w.heap.size < w3.heap.size := by
              rcases hown.shape with ⟨h, _⟩ | ⟨g, c, h, _, h2, _⟩
              · cases h
              · simp at h; omega
            go_loopw [9, 10, 11, 12] (fun c _ _ _ wr => ∃ q : Nat, ∃ rest d : List Int, q ≤ j ∧ c = .int .i64 ((q : Int) - 1) ∧ Hid (d.length = j) ∧ Hid (d.getD 0 0 = 0) ∧ Hid (Agree j q o rest) ∧ Hid (un o q rest ++ d.drop q = un o j (asc j)) ∧ Hid (1 ≤ j → 1 ≤ q) ∧
                Hid (OwnI wr w.heap.size 3 .i64 (.slice (some ⟨w.heap.size, 0, none⟩) j j) rest) ∧ Hid (OwnI wr w3.heap.size 3 .i64 (.slice (some ⟨w3.heap.size, 0, none⟩) j j) d) ∧ Hid (Below w.heap.size w wr)) (fun c _ _ _ _ => (intOf c + 1).toNat)
            case atStart => exact ⟨j, asc j, List.replicate j 0, by omega, rfl, Lib.hid (by simp), Lib.hid (by cases j <;> simp [List.getD_eq_getElem?_getD]), Agree.start j o, Lib.hid (by simp), fun h => h, hown.below hb2, ho2, below_then hbel hb2⟩
            case round =>
              clear hown ho2 hb2 hbel
              obtain ⟨q, rest, d, hq, rfl, hd, hd0, hag, hun, hq1, ho1, ho2, hb⟩ := hrel
              by_cases hlt : 1 < q
              · obtain ⟨i, rfl⟩ : ∃ i, q = i + 1 := ⟨q - 1, by omega⟩
                rw [show (((i + 1 : Nat) : Int) - 1) = (i : Int) by omega]
                have hrl := hag.out.1.1
                have hf := hag.out.found hfull.out (by omega)
                have hR1 := ho1.out.read (by rw [hrl]; omega) (ints_range hag.out.1 hn20)
                obtain ⟨b, off, hbo, hbl, hc⟩ := H5.out i (by omega)
                subst hbo
                have hc := (hb.out.cell (p := ⟨b, off + i, none⟩) hbl).trans hc
                obtain ⟨x, hx⟩ : ∃ x, o.getD i 0 = x := ⟨_, rfl⟩
                rw [hx] at hc hf
                obtain ⟨k, hk⟩ : ∃ k, fd x rest = k := ⟨_, rfl⟩
                have e1 : fdI x rest = (k : Int) := by unfold fdI; rw [hk, if_pos (by omega)]
                have F1 : Hid (Calls Try.prog 30 #[.slice (some ⟨w.heap.size, 0, none⟩) j j, .int .i64 x] wr fun e w'' => e = .returned (.int .i64 (k : Int)) ∧ wr = w'') :=
                  (rfind_any _ rest x wr hR1).mono fun _ _ h => ⟨by rw [h.1, e1], h.2⟩
                have HX := Lib.hid hx
                have HRL := Lib.hid hrl
                rw [hk] at hf
                have HK := Lib.hid hk
                obtain ⟨c1, c2⟩ := ho1.out.cell i (by rw [HRL.out]; omega)
                obtain ⟨c3, c4⟩ := ho1.out.cell k (by rw [HRL.out]; omega)
                obtain ⟨c6, c7⟩ := ho2.out.cell i (by rw [hd.out]; omega)
                have hRD : ¬ w.heap.size = w3.heap.size := by omega
                have hDR : ¬ w3.heap.size = w.heap.size := by omega
                generalize hy : rest.getD i 0 = y at *
                generalize hz : rest.getD k 0 = z at *
                generalize d.getD i 0 = t at *
                have HY := Lib.hid hy
                have HZ := Lib.hid hz
                clear hy hz hbl hrl hR1 hx hk e1 HF H0 RF
                have U := Lib.hid (un_step o rest d _ i k (by rw [hd.out]; omega) (by rw [HX.out]; exact HK.out) hun.out)
                have AS := Lib.hid (hag.out.step (k := k) (by omega) hf (by rw [HX.out, ← HK.out]; exact fd_get x rest (by rw [HK.out, HRL.out]; omega)))
                go_wp2_with (go_at_call 30; refine F1.out.mono ?_; rintro e w' ⟨rfl, rfl⟩)
                go_quiet (fail)
                have c8 : (wr.setCell ⟨w3.heap.size, i, none⟩ (.int .i64 k)).cell? ⟨w.heap.size, k, none⟩ = some (.int .i64 z) :=
                  (World.cell?_of_block (heap_setCell_other wr ⟨w3.heap.size, i, none⟩ w.heap.size _ hRD)).trans c3
                obtain ⟨z', c5⟩ := cell?_setCell_some (w := (wr.setCell ⟨w3.heap.size, i, none⟩ (.int .i64 k)).drewN nq) (p := ⟨w.heap.size, i, none⟩) (x := .int .i64 z) (q := ⟨w.heap.size, k, none⟩) (v := .int .i64 z) c8
                clear c8
                go_wp2
                go_roundw
                case rel => exact ⟨i, swp rest i k, d.set i (k : Int), by omega, by go_num, Lib.hid (by rw [List.length_set]; exact hd.out), Lib.hid (by
                    rw [getD_set _ _ _ _ (by rw [hd.out]; omega), if_neg (by omega)]; exact hd0.out), AS, U, Lib.hid (fun _ => by omega), Lib.hid (by
                    have := (((ho1.out.setOther ⟨w3.heap.size, i, none⟩ hRD (.int .i64 k)).store i z HRL.out.symm).store k y (by rw [List.length_set]; exact HRL.out.symm))
                    unfold swp; rw [HY.out, HZ.out]; exact this), Lib.hid (by
                    exact (((ho2.out.store i (k : Int) hd.out.symm).setOther ⟨w.heap.size, i, none⟩ hDR (.int .i64 z)).setOther ⟨w.heap.size, k, none⟩ hDR (.int .i64 y))), Lib.hid (by
                    exact ((below_drewN (hb.out.setCell (p := ⟨w3.heap.size, i, none⟩) (Nat.le_of_lt hR) _) _).setCell (p := ⟨w.heap.size, i, none⟩) (Nat.le_refl _) _).setCell (p := ⟨w.heap.size, k, none⟩) (Nat.le_refl _) _)⟩
                case measure => simp [intOf]
              · have YES := Lib.hid (drw_yes o (by rw [HN.out]; exact hn20) (by rw [HN.out]; exact hfull.out))
                have hun1 : d = un o j (asc j) := by
                  have hu := hun.out
                  by_cases h0 : q = 0
                  · rw [h0] at hu; simpa [un] using hu
                  · have h1 : q = 1 := by omega
                    have hl := hd.out
                    have hz := hd0.out
                    have hf := hag.out
                    rw [h1] at hu hf
                    have h2 := hf.found hfull.out (by omega)
                    have h3 : fd (o.getD 0 0) rest = 0 := by omega
                    rw [un, h3, un] at hu
                    cases d with
                    | nil => simp at hl; omega
                    | cons d0 dt => simp at hz hu; rw [hz]; exact hu
                have ED := Lib.hid hun1
                have UM := Lib.hid (fun y hy => un_mem o j j (asc j) (Agree.start j o) hfull.out (Nat.le_refl _) y hy)
                clear hun1 HF H0 RF
                go_wp2
                go_ret2
                refine ⟨_, by rw [YES.out.1]; rfl, ?_, hb.out⟩
                rw [YES.out.2, HN.out, ← ED.out]
                exact ho2.out.read (by rw [hd.out]; omega) fun y hy => by
                  have := UM.out y (by rw [← ED.out]; exact hy)
                  exact i64_ok y (by omega) (by omega)
end Go.Proofs.Ytmlndajbgajmpaa
