import Derived.Deep.DeepCutAuto
import Derived.Test.YtmkngpjjimalhaaB23
import Derived.Test.YtmkngpjjimalhaaB08
import Derived.Test.YtmkngpjjimalhaaB07
import Derived.Test.YtmkngpjjimalhaaB03
import Derived.Test.YtmkngpjjimalhaaB06
set_option linter.unusedVariables false
set_option linter.unusedSimpArgs false
/- Layer 9: the program's machine that pops, at its start. -/
namespace Go.Proofs.Ytmkngpjjimalhaa
open Go.ChangeShapes Go.WideShapes Go.ChangeAt Go.RowKit
set_option maxRecDepth 100000

theorem sl2_at {w : World} {k : IntKind} {b : Nat} {x y : Int} {T : TypeId} (h : w.heap[b]? = some (.cells #[.int k x, .int k y] T (0, 0))) (hx : x = k.wrap x) (hy : y = k.wrap y) : SlI w k (.slice (some ⟨b, 0, none⟩) 2 2) [x, y] := by
  refine ⟨by simp, by intro z hz; simp at hz; rcases hz with rfl | rfl; exact hx; exact hy, _, 2, rfl, Nat.le_refl _, fun t ht => ⟨b, 0, rfl, (Array.getElem?_eq_some_iff.1 h).1, ?_⟩⟩
  have h2 : t = 0 ∨ t = 1 := by simp at ht; omega
  rcases h2 with rfl | rfl
  · exact cell_of_row _ _ 0 _ _ _ h
  · exact cell_of_row _ _ 1 _ _ _ h
theorem sl3_at {w : World} {k : IntKind} {b : Nat} {x y z : Int} {T : TypeId} (h : w.heap[b]? = some (.cells #[.int k x, .int k y, .int k z] T (0, 0))) (hx : x = k.wrap x) (hy : y = k.wrap y) (hz : z = k.wrap z) : SlI w k (.slice (some ⟨b, 0, none⟩) 3 3) [x, y, z] := by
  refine ⟨by simp, by intro u hu; simp at hu; rcases hu with rfl | rfl | rfl; exact hx; exact hy; exact hz, _, 3, rfl, Nat.le_refl _, fun t ht => ⟨b, 0, rfl, (Array.getElem?_eq_some_iff.1 h).1, ?_⟩⟩
  have h2 : t = 0 ∨ t = 1 ∨ t = 2 := by simp at ht; omega
  rcases h2 with rfl | rfl | rfl
  · exact cell_of_row _ _ 0 _ _ _ h
  · exact cell_of_row _ _ 1 _ _ _ h
  · exact cell_of_row _ _ 2 _ _ _ h
theorem NewPart.self (w w' : World) : NewPart w w' w' := ⟨Nat.le_refl _, fun _ _ _ => rfl⟩
theorem own_lit {w : World} {base b n : Nat} {e : TypeId} {k : IntKind} (l : List Int) (hn : l.length = n) (h : w.heap[b]? = some (.cells (l.map (Value.int k)).toArray e (0, 0))) (hb : base ≤ b) (hl : l.length ≤ 1000000) : OwnI w base e k (.slice (some ⟨b, 0, none⟩) n n) l := by
  subst hn
  refine ⟨by rw [List.length_map, Nat.mul_one], .inr ⟨b, l.length, _, rfl, hb, h, Nat.le_refl _, by unfold maxLen; omega, by simp, ?_⟩⟩
  rw [Nat.mul_one, List.take_of_length_le (by simp)]
theorem ringL_wf {c : ConfM} (hg : c.good) (k : Nat) (hk : k < c.caps.length) : ∀ x ∈ ringL c k, x = IntKind.i64.wrap x := by
  have h1 := hg.base8 k (Nat.le_of_lt hk)
  have h2 := hg.cap k hk
  have h3 := hg.size k hk
  intro x hx
  rw [IntKind.wrap_i64]
  simp only [ringL, List.mem_append, List.mem_cons, List.not_mem_nil, or_false, List.mem_map, List.mem_range] at hx
  rcases hx with (rfl | rfl | rfl) | ⟨i, hi, rfl⟩ <;> omega
/-- the list while the slots are appended -/
def ringP (c : ConfM) (k n : Nat) : List Int := [c.base k + 1, c.base k, c.caps.getD k 0] ++ (List.range (2 * n)).map fun (i : Nat) => c.base k + 5 + (i : Int)
theorem ringP_length (c : ConfM) (k n : Nat) : (ringP c k n).length = 3 + 2 * n := by simp [ringP]; omega
theorem ringP_next (c : ConfM) (k n : Nat) (x y : Int) (hx : x = c.base k + 5 + (n : Int) * 2) (hy : y = c.base k + 5 + (n : Int) * 2 + 1) : ringP c k n ++ [x, y] = ringP c k (n + 1) := by
  unfold ringP
  rw [show 2 * (n + 1) = 2 * n + 1 + 1 by omega, List.range_succ, List.range_succ, hx, hy]
  simp
  constructor <;> omega
theorem slotW_small {c : ConfM} (k n : Nat) (h : (n : Int) < c.size k) (h16 : c.size k ≤ 16) : c.slotW k (n : Int) = c.base k + 5 + (n : Int) * 2 := by
  have e : slotI (n : Int) (c.size k) = (n : Int) := by
    unfold slotI
    rw [if_neg (by omega), Int.emod_eq_of_lt (a := (n : Int)) (by omega) (by omega), Int.emod_eq_of_lt (by omega) h]
  rw [slotW_eq, e]
set_option maxRecDepth 100000 in
set_option maxHeartbeats 16000000 in
theorem ring_any (a a2 : Option Addr) (cap cap2 : Nat) (c : ConfM) (k : Nat) (hk : k < c.caps.length) (hg : c.good) (w : World) (hv : ConfV w (.agg #[.slice a c.caps.length cap, .slice a2 c.starts.length cap2, .int .i64 c.threads]) c) : Calls Try.prog 68 #[.agg #[.slice a c.caps.length cap, .slice a2 c.starts.length cap2, .int .i64 c.threads], .int .i64 k] w fun e w' => ∃ v, e = .returned v ∧ Hid (OwnI w' w.heap.size 3 .i64 v (ringL c k)) ∧ Hid (Below w.heap.size w w') := by
  have HV := Lib.hid hv
  have hsz := hg.size k hk
  have hl := hg.len
  have hcap := hg.cap k hk
  have TCK := Lib.hid fun w' (hb : Below w.heap.size w w') => checkC_any _ c w' (HV.out.below hb)
  rw [checkC_good hg] at TCK
  have TTL := Lib.hid fun w' (hb : Below w.heap.size w w') => tailW_any _ c k hk w' (HV.out.below hb) hg
  have THD := Lib.hid fun w' (hb : Below w.heap.size w w') => headW_any _ c k hk w' (HV.out.below hb) hg
  have TSS := Lib.hid fun (n : Nat) (hn : (n : Int) < c.size k) w' (hb : Below w.heap.size w w') => (slotSeqW_any _ c k n hk (by omega) (by omega) w' (HV.out.below hb) hg)
  have TSV := Lib.hid fun (n : Nat) (hn : (n : Int) < c.size k) w' (hb : Below w.heap.size w w') => (slotValueW_any _ c k n hk (by omega) (by omega) w' (HV.out.below hb) hg)
  have HSW := Lib.hid fun (n : Nat) (hn : (n : Int) < c.size k) => slotW_small (c := c) k n hn hsz.2
  have TSZ := Lib.hid fun w' => size_any (c.caps.getD k 0) w' (by omega) (by omega)
  have HWF := Lib.hid (ringL_wf hg k hk)
  have hb8 := hg.base8 k (Nat.le_of_lt hk)
  have HB8 := Lib.hid hb8
  have HRP : Hid (ringP c k (c.size k).toNat = ringL c k) := rfl
  obtain ⟨vc, vs, e, h1, h2⟩ := hv
  simp only [Value.agg.injEq, Array.mk.injEq, List.cons.injEq] at e
  obtain ⟨rfl, rfl, -⟩ := e
  obtain ⟨cb, co, he, hcb, hcl⟩ := h1.cellAt k hk
  subst he
  clear h1 h2
  change Hid (∀ w' : World, Calls Try.prog _ _ w' fun e w'_1 => e = .returned (.int .i64 (c.size k)) ∧ w' = w'_1) at TSZ
  obtain ⟨kc, hkc⟩ : ∃ kc, c.caps.getD k 0 = kc := ⟨_, rfl⟩
  rw [hkc] at hcl hcap
  have HKC := Lib.hid hkc
  rw [show (Value.int IntKind.i64 (c.caps.getD k 0)) = .int .i64 kc by rw [hkc]] at TSZ
  clear hkc
  obtain ⟨tl, htl⟩ : ∃ tl, c.base k = tl := ⟨_, rfl⟩
  have HTL := Lib.hid htl
  obtain ⟨sz, hsz0⟩ : ∃ sz, c.size k = sz := ⟨_, rfl⟩
  have HSZ := Lib.hid hsz0
  rw [hsz0] at TSZ hsz
  rw [htl] at TTL THD
  clear htl hsz0
  have hkI : (k : Int) < (c.caps.length : Int) := by omega
  have hk0 : ¬ (k : Int) < 0 := by omega
  have hk1 : ¬ (c.caps.length : Int) ≤ (k : Int) := by omega
  have hws : IntKind.u64.wrap sz = sz := by rw [IntKind.wrap_u64]; omega
  clear hg hb8
  have HK0 := Lib.hid (hcl)
  have hbk0 : cb < w.heap.size := hcb
  obtain ⟨W, hW, HB, R0, hz⟩ := one_new w (.cells #[.slice (some ⟨cb, co, none⟩) c.caps.length cap, .slice a2 c.starts.length cap2, .int .i64 c.threads] 36)
  have HW := Lib.hid hW
  clear hW
  go_enter Try.func68, Try.ntmps68
  go_upto_region 1 with fail
  rw [HW.out]
  clear HW
  obtain ⟨x0_0, x0_1, x0_2⟩ := rowc3 R0.out
  have ck0 := (HB.out.cell (p := ⟨cb, co + k, none⟩) hbk0).trans HK0.out
  go_wp2_with fail
  refine (TCK.out _ HB.out).mono ?_; rintro e w1 ⟨rfl, hb1⟩
  have P1_0 := keepR hb1 R0
  have HB1 := Lib.hid (below_then HB.out hb1)
  clear x0_0 x0_1 x0_2 ck0
  clear hb1
  obtain ⟨x0_0, x0_1, x0_2⟩ := rowc3 P1_0.out
  have ck0 := (HB1.out.cell (p := ⟨cb, co + k, none⟩) hbk0).trans HK0.out
  go_upto_region 4 with fail
  have KSr : Hid (∀ w', Below w1.heap.size w1 w' → (fun w' : World => (w'.cell? ⟨w.heap.size, 0, none⟩ = some (.slice (some ⟨cb, co, none⟩) c.caps.length cap) ∧ w'.cell? ⟨w.heap.size, 1, none⟩ = some (.slice a2 c.starts.length cap2) ∧ w'.cell? ⟨w.heap.size, 2, none⟩ = some (.int .i64 c.threads)) ∧ w'.cell? ⟨cb, co + k, none⟩ = some (.int .i64 kc)) w') := fun w' hb => ⟨rowc3 ((hb.block _ (ltR P1_0)).trans P1_0.out), (hb.cell (p := ⟨cb, co + k, none⟩) (Nat.lt_of_lt_of_le hbk0 HB1.out.size)).trans ((HB1.out.cell (p := ⟨cb, co + k, none⟩) hbk0).trans HK0.out)⟩
  clear x0_0 x0_1 x0_2 ck0
  go_cut [5, 6] (fun s5 s6 wx => ∃ nb : Nat, s5 = .int .i64 kc ∧ s6 = .slice (some ⟨nb, 0, none⟩) 3 3 ∧ Hid (wx.heap[nb]? = some (.cells #[.int .i64 (tl + 1), .int .i64 tl, .int .i64 kc] 3 (0, 0))) ∧ Hid (w.heap.size < nb) ∧ Hid (wx.heap[w.heap.size]? = some (.cells #[.slice (some ⟨cb, co, none⟩) c.caps.length cap, .slice a2 c.starts.length cap2, .int .i64 c.threads] 36 (0, 0))) ∧ Hid (Below w.heap.size w wx))
  case first =>
    refine untilK KSr 8 9 (by kernel_rfl) rfl ?_
    obtain ⟨u0, hu0, HU0⟩ := drew_pack w1
    rw [hu0]
    clear hu0
    have hSU0 := KSr.out _ HU0.out
    refine tkU (v := ?_) 0 la0 hSU0 (by kernel_rfl) (fun _ _ _ h => h) rfl ?_ ?_
    rotate_left
    · (intro w hSw; (try dsimp only at hSw); go_simp <;> with_reducible rfl)
    simp only [Act.put, List.setIfInBounds_toArray, List.set_cons_zero, List.set_cons_succ]
    refine tkU (v := ?_) 1 la1 hSU0 (by kernel_rfl) (fun _ _ _ h => h) rfl ?_ ?_
    rotate_left
    · (intro w hSw; (try dsimp only at hSw); go_simp <;> with_reducible rfl)
    simp only [Act.put, List.setIfInBounds_toArray, List.set_cons_zero, List.set_cons_succ]
    refine tkU (v := ?_) 3 la3 hSU0 (by kernel_rfl) (fun _ _ _ h => h) rfl ?_ ?_
    rotate_left
    · (intro w hSw; (try dsimp only at hSw); go_simp <;> with_reducible rfl)
    simp only [Act.put, List.setIfInBounds_toArray, List.set_cons_zero, List.set_cons_succ]
    refine tkU (v := ?_) 4 la4 hSU0 (by kernel_rfl) (fun _ _ _ h => h) rfl ?_ ?_
    rotate_left
    · (intro w hSw; (try dsimp only at hSw); go_simp <;> with_reducible rfl)
    simp only [Act.put, List.setIfInBounds_toArray, List.set_cons_zero, List.set_cons_succ]
    refine tkU (v := ?_) 6 la6 hSU0 (by kernel_rfl) (fun _ _ _ h => h) rfl ?_ ?_
    rotate_left
    · (intro w hSw; (try dsimp only at hSw); go_simp <;> with_reducible rfl)
    simp only [Act.put, List.setIfInBounds_toArray, List.set_cons_zero, List.set_cons_succ]
    refine wpAnyU_ready (rs := [2]) (by kernel_rfl) rfl ?_
    refine AllReadyU.cons la2 rfl (fun K hK => ?_) ?_
    · go_simp
      go_at_call 80
      refine (THD.out _ (below_then HB1.out HU0.out)).mono ?_
      rintro e u1 ⟨rfl, hb⟩
      have HU1 := Lib.hid (below_then HU0.out hb)
      clear hb
      refine hK.out _ _ ?_ (fun hSU1 => ?_)
      · exact KSr.out _ HU1.out
      clear hK K hSU0
      try simp only [Act.put, List.setIfInBounds_toArray, List.set_cons_zero, List.set_cons_succ]
      refine wpAnyU_ready (rs := [5]) (by kernel_rfl) rfl ?_
      refine AllReadyU.cons la5 rfl (fun K hK => ?_) ?_
      · go_simp
        go_at_call 81
        refine (TTL.out _ (below_then HB1.out HU1.out)).mono ?_
        rintro e u2 ⟨rfl, hb⟩
        have HU2 := Lib.hid (below_then HU1.out hb)
        clear hb
        refine hK.out _ _ ?_ (fun hSU2 => ?_)
        · exact KSr.out _ HU2.out
        clear hK K hSU1
        try simp only [Act.put, List.setIfInBounds_toArray, List.set_cons_zero, List.set_cons_succ]
        refine wpAnyU_ready (rs := [7]) (by kernel_rfl) rfl ?_
        refine AllReadyU.cons la7 rfl (fun K hK => ?_) ?_
        · go_simp
          obtain ⟨u3, nb, hv1, hX, RN, hbn, ltn⟩ := alloc_pack u2 (.cells #[.int .i64 (tl + 1), .int .i64 tl, .int .i64 kc] 3)
          rw [hv1, hX]
          have gen : Hid (w.heap.size < nb) := by have h5 := HU2.out.size; have h6 := (ltR P1_0); show w.heap.size < nb; omega
          have HU3 := Lib.hid (below_then HU2.out hbn.out)
          clear hv1 hX hbn
          refine hK.out _ _ ?_ (fun hSU3 => ?_)
          · exact KSr.out _ HU3.out
          clear hK K hSU2
          try simp only [Act.put, List.setIfInBounds_toArray, List.set_cons_zero, List.set_cons_succ]
          refine wpAnyU_ready (rs := [8]) (by kernel_rfl) rfl ?_
          refine AllReadyU.free la8 rfl (by kernel_rfl) (fun K hK => ?_) ?_
          · go_simp
            refine hK.out _ _ ?_
            clear hK K hSU3
            try simp only [Act.put, List.setIfInBounds_toArray, List.set_cons_zero, List.set_cons_succ]
            refine wpAnyU_done (by kernel_rfl) ?_ _
            go_wp2_with fail
            go_meet
            exact ⟨nb, rfl, rfl, RN, gen, keepR HU3.out P1_0, Lib.hid (below_then HB1.out HU3.out)⟩
          exact AllReadyU.nil
        exact AllReadyU.nil
      exact AllReadyU.nil
    exact AllReadyU.nil
  case rest =>
    obtain ⟨nb, rfl, rfl, RN, gen, RCF, HBc⟩ := hcut
    obtain ⟨wz, rfl⟩ : ∃ w3 : World, w3 = wc := ⟨_, rfl⟩
    have HO0 : Hid (OwnI wz (w.heap.size + 1) 3 .i64 (.slice (some ⟨nb, 0, none⟩) 3 3) (ringP c k 0)) := by
      have e := own_lit (w := wz) (base := w.heap.size + 1) (b := nb) (n := 3) (e := 3) (k := .i64) [tl + 1, tl, kc] rfl RN.out gen.out (by simp)
      have e2 : ringP c k 0 = [tl + 1, tl, kc] := by unfold ringP; rw [HTL.out, HKC.out]; simp
      rw [e2]; exact e
    clear KSr TCK TTL THD
    go_wp2_with fail
    refine (TSZ.out _).mono ?_; rintro e w' ⟨rfl, rfl⟩
    clear TSZ
    go_wp2_with fail
    go_loopw [38, 6] (fun u38 u6 wr => ∃ (n : Nat) (v : Value), u38 = .int .u64 n ∧ u6 = v ∧ (n : Int) ≤ sz ∧ Hid (OwnI wr (w.heap.size + 1) 3 .i64 v (ringP c k n)) ∧ Hid (wr.heap[w.heap.size]? = some (.cells #[.slice (some ⟨cb, co, none⟩) c.caps.length cap, .slice a2 c.starts.length cap2, .int .i64 c.threads] 36 (0, 0))) ∧ Hid (Below w.heap.size w wr)) (fun u38 _ _ => 17 - (intOf u38).toNat)
    case atStart => exact ⟨0, _, rfl, rfl, by omega, HO0, RCF, HBc⟩
    case round =>
      clear HO0 RCF HBc RN gen
      obtain ⟨n, v, rfl, rfl, hn, HO, RCF, HBc⟩ := hrel
      obtain ⟨wo, rfl⟩ : ∃ wo : World, wo = wr := ⟨_, rfl⟩
      by_cases hlt : (n : Int) < sz
      · have TS1 := Lib.hid (TSS.out n (by rw [HSZ.out]; exact hlt))
        have TV1 := Lib.hid (TSV.out n (by rw [HSZ.out]; exact hlt))
        have hsw := HSW.out n (by rw [HSZ.out]; exact hlt)
        obtain ⟨sw, hsw1⟩ : ∃ sw, c.slotW k n = sw := ⟨_, rfl⟩
        rw [hsw1] at TS1 TV1 hsw
        have HSN := Lib.hid (ringP_next c k n sw (sw + 1) hsw (by rw [hsw]))
        have hb8 := HB8.out
        have hsx : sw = IntKind.i64.wrap sw := by rw [IntKind.wrap_i64]; omega
        have hsy : sw + 1 = IntKind.i64.wrap (sw + 1) := by rw [IntKind.wrap_i64]; omega
        have HSX := Lib.hid hsx
        have HSY := Lib.hid hsy
        clear hsw hsw1 hb8 hsx hsy
        have hvb : Hid (∀ j, u6.ownBlock = some j → w.heap.size + 1 ≤ j) := HO.out.own_ge
        have KS8 : Hid (∀ w', Below wo.heap.size wo w' → (fun w' : World => w'.cell? ⟨w.heap.size, 0, none⟩ = some (.slice (some ⟨cb, co, none⟩) c.caps.length cap) ∧ w'.cell? ⟨w.heap.size, 1, none⟩ = some (.slice a2 c.starts.length cap2) ∧ w'.cell? ⟨w.heap.size, 2, none⟩ = some (.int .i64 c.threads)) w') := fun w' hb => rowc3 ((hb.block _ (ltR RCF)).trans RCF.out)
        have hlen : (ringP c k n).length ≤ 1000000 := by rw [ringP_length]; omega
        go_upto_region 8 with fail
        refine untilK KS8 11 12 (by kernel_rfl) rfl ?_
        obtain ⟨u0, hu0, HU0⟩ := drew_pack wo
        rw [hu0]
        clear hu0
        have hSU0 := KS8.out _ HU0.out
        refine tkU (v := ?_) 0 la0 hSU0 (by kernel_rfl) (fun _ _ _ h => h) rfl ?_ ?_
        rotate_left
        · (intro w hSw; (try dsimp only at hSw); go_simp <;> with_reducible rfl)
        simp only [Act.put, List.setIfInBounds_toArray, List.set_cons_zero, List.set_cons_succ]
        refine tkU (v := ?_) 1 la1 hSU0 (by kernel_rfl) (fun _ _ _ h => h) rfl ?_ ?_
        rotate_left
        · (intro w hSw; (try dsimp only at hSw); go_simp <;> with_reducible rfl)
        simp only [Act.put, List.setIfInBounds_toArray, List.set_cons_zero, List.set_cons_succ]
        refine tkU (v := ?_) 2 la2 hSU0 (by kernel_rfl) (fun _ _ _ h => h) rfl ?_ ?_
        rotate_left
        · (intro w hSw; (try dsimp only at hSw); go_simp <;> with_reducible rfl)
        simp only [Act.put, List.setIfInBounds_toArray, List.set_cons_zero, List.set_cons_succ]
        refine tkU (v := ?_) 3 la3 hSU0 (by kernel_rfl) (fun _ _ _ h => h) rfl ?_ ?_
        rotate_left
        · (intro w hSw; (try dsimp only at hSw); go_simp <;> with_reducible rfl)
        simp only [Act.put, List.setIfInBounds_toArray, List.set_cons_zero, List.set_cons_succ]
        refine tkU (v := ?_) 5 la5 hSU0 (by kernel_rfl) (fun _ _ _ h => h) rfl ?_ ?_
        rotate_left
        · (intro w hSw; (try dsimp only at hSw); go_simp <;> with_reducible rfl)
        simp only [Act.put, List.setIfInBounds_toArray, List.set_cons_zero, List.set_cons_succ]
        refine tkU (v := ?_) 6 la6 hSU0 (by kernel_rfl) (fun _ _ _ h => h) rfl ?_ ?_
        rotate_left
        · (intro w hSw; (try dsimp only at hSw); go_simp <;> with_reducible rfl)
        simp only [Act.put, List.setIfInBounds_toArray, List.set_cons_zero, List.set_cons_succ]
        refine tkU (v := ?_) 7 la7 hSU0 (by kernel_rfl) (fun _ _ _ h => h) rfl ?_ ?_
        rotate_left
        · (intro w hSw; (try dsimp only at hSw); go_simp <;> with_reducible rfl)
        simp only [Act.put, List.setIfInBounds_toArray, List.set_cons_zero, List.set_cons_succ]
        refine wpAnyU_ready (rs := [4]) (by kernel_rfl) rfl ?_
        refine AllReadyU.cons la4 rfl (fun K hK => ?_) ?_
        · go_simp
          go_at_call 83
          refine (TS1.out _ (below_then HBc.out HU0.out)).mono ?_
          rintro e u1 ⟨rfl, hb⟩
          have HU1 := Lib.hid (below_then HU0.out hb)
          clear hb
          refine hK.out _ _ ?_ (fun hSU1 => ?_)
          · exact KS8.out _ HU1.out
          clear hK K hSU0
          try simp only [Act.put, List.setIfInBounds_toArray, List.set_cons_zero, List.set_cons_succ]
          refine wpAnyU_ready (rs := [8]) (by kernel_rfl) rfl ?_
          refine AllReadyU.cons la8 rfl (fun K hK => ?_) ?_
          · go_simp
            go_at_call 84
            refine (TV1.out _ (below_then HBc.out HU1.out)).mono ?_
            rintro e u2 ⟨rfl, hb⟩
            have HU2 := Lib.hid (below_then HU1.out hb)
            clear hb
            refine hK.out _ _ ?_ (fun hSU2 => ?_)
            · exact KS8.out _ HU2.out
            clear hK K hSU1
            try simp only [Act.put, List.setIfInBounds_toArray, List.set_cons_zero, List.set_cons_succ]
            refine wpAnyU_ready (rs := [9]) (by kernel_rfl) rfl ?_
            refine AllReadyU.cons la9 rfl (fun K hK => ?_) ?_
            · go_simp
              obtain ⟨u3, nb, hv1, hX, RN, hbn, ltn⟩ := alloc_pack u2 (.cells #[.int .i64 sw, .int .i64 (sw + 1)] 3)
              rw [hv1, hX]
              have HU3 := Lib.hid (below_then HU2.out hbn.out)
              have HXL := Lib.hid (sl2_at RN.out HSX.out HSY.out)
              clear hv1 hX hbn
              refine hK.out _ _ ?_ (fun hSU3 => ?_)
              · exact KS8.out _ HU3.out
              clear hK K hSU2
              try simp only [Act.put, List.setIfInBounds_toArray, List.set_cons_zero, List.set_cons_succ]
              refine wpAnyU_ready (rs := [10]) (by kernel_rfl) rfl ?_
              refine AllReadyU.cons la10 rfl (fun K hK => ?_) ?_
              · refine step_app_i64 rfl _ _ rfl (w.heap.size + 1) u6 (ringP c k n) rfl (HO.out.below HU3.out) _ [sw, sw + 1] rfl HXL.out hlen (by simp) (by have := HU3.out.size; have := (ltR RCF); omega) ?_
                intro v9 u4 ho9 hg9
                rw [HSN.out] at ho9
                have HO9 := Lib.hid ho9
                have HG9 := Lib.hid hg9
                have RC9 := Lib.hid ((HG9.out.block w.heap.size (Nat.lt_of_lt_of_le (ltR RCF) HU3.out.size) (fun e => by have := hvb.out _ e.symm; omega)).trans ((HU3.out.block w.heap.size (ltR RCF)).trans RCF.out))
                clear ho9 hg9
                refine hK.out _ _ ?_ (fun hSU4 => ?_)
                · exact rowc3 RC9.out
                clear hK K hSU3
                try simp only [Act.put, List.setIfInBounds_toArray, List.set_cons_zero, List.set_cons_succ]
                refine wpAnyU_ready (rs := [11]) (by kernel_rfl) rfl ?_
                refine AllReadyU.free la11 rfl (by kernel_rfl) (fun K hK => ?_) ?_
                · go_simp
                  refine hK.out _ _ ?_
                  clear hK K hSU4
                  try simp only [Act.put, List.setIfInBounds_toArray, List.set_cons_zero, List.set_cons_succ]
                  refine wpAnyU_done (by kernel_rfl) ?_ _
                  go_wp2_with fail
                  have HB9 := Lib.hid ((below_then HBc.out HU3.out).grown HG9.out (by have := (below_then HBc.out HU3.out).size; omega) (fun j hj => by have := hvb.out j hj; omega))
                  clear KS8 TS1 TV1
                  go_roundw
                  case rel => exact ⟨n + 1, v9, by go_num, rfl, by omega, HO9, RC9, HB9⟩
                  case measure => simp [intOf]; omega
                exact AllReadyU.nil
              exact AllReadyU.nil
            exact AllReadyU.nil
          exact AllReadyU.nil
        exact AllReadyU.nil
      · obtain rfl : (n : Int) = sz := by omega
        have HOF : Hid (OwnI wo w.heap.size 3 .i64 u6 (ringL c k)) := by
          have h1 := HO.out.mono_base (b' := w.heap.size) (by omega)
          rw [← HRP.out, HSZ.out]
          exact h1
        clear HO TSS TSV HSW HB8 HRP HSZ
        go_wp2_with fail
        go_ret
        exact ⟨u6, rfl, HOF, HBc⟩
set_option maxRecDepth 100000 in
set_option maxHeartbeats 16000000 in
theorem Start_any (a a2 : Option Addr) (cap cap2 : Nat) (c : ConfM) (k : Nat) (hk : k < c.caps.length) (hg : c.good) (w : World) (hv : ConfV w (.agg #[.slice a c.caps.length cap, .slice a2 c.starts.length cap2, .int .i64 c.threads]) c) : Calls Try.prog 41 #[.agg #[.slice a c.caps.length cap, .slice a2 c.starts.length cap2, .int .i64 c.threads], .int .i64 k] w fun e w' => ∃ W L, e = .returned (.agg (puL 0 1 W L).toArray) ∧ Hid (∀ w2, NewPart w w' w2 → PuV w2 c k 0 0 0 W L) ∧ Hid (Below w.heap.size w w') := by
  have HV := Lib.hid hv
  have HWF := Lib.hid (ringL_wf hg k hk)
  have HLN : Hid ((ringL c k).length ≤ 140737488351232) := by have := hg.size k hk; rw [show Hid ((ringL c k).length ≤ 140737488351232) = ((ringL c k).length ≤ 140737488351232) from rfl, ringL_length]; omega
  have TRG := Lib.hid fun w' (hb : Below w.heap.size w w') => ring_any a a2 cap cap2 c k hk hg w' (HV.out.below hb)
  have hmk := make3
  clear hv hk hg
  obtain ⟨W, hW, HB, R0, R1, hz⟩ := two_new w (.cells #[.slice a c.caps.length cap, .slice a2 c.starts.length cap2, .int .i64 c.threads] 36) (.cells #[.int .i64 0, .int .i64 0, .slice none 0 0, .slice none 0 0, .slice none 0 0] 60)
  have HW := Lib.hid hW
  clear hW
  go_enter Try.func41, Try.ntmps41
  go_upto_region 1 with fail
  rw [HW.out]
  clear HW
  obtain ⟨x0_0, x0_1, x0_2⟩ := rowc3 R0.out
  have KSs : Hid (∀ w', Below W.heap.size W w' → (fun w' : World => (w'.cell? ⟨w.heap.size, 0, none⟩ = some (.slice a c.caps.length cap) ∧ w'.cell? ⟨w.heap.size, 1, none⟩ = some (.slice a2 c.starts.length cap2) ∧ w'.cell? ⟨w.heap.size, 2, none⟩ = some (.int .i64 c.threads))) w') := fun w' hb => rowc3 ((hb.block _ (ltR R0)).trans R0.out)
  clear x0_0 x0_1 x0_2
  refine untilK KSs 5 6 (by kernel_rfl) rfl ?_
  obtain ⟨u0, hu0, HU0⟩ := drew_pack W
  rw [hu0]
  clear hu0
  have hSU0 := KSs.out _ HU0.out
  refine tkU (v := ?_) 1 la1 hSU0 (by kernel_rfl) (fun _ _ _ h => h) rfl ?_ ?_
  rotate_left
  · (intro w hSw; (try dsimp only at hSw); go_simp <;> with_reducible rfl)
  simp only [Act.put, List.setIfInBounds_toArray, List.set_cons_zero, List.set_cons_succ]
  refine tkU (v := ?_) 2 la2 hSU0 (by kernel_rfl) (fun _ _ _ h => h) rfl ?_ ?_
  rotate_left
  · (intro w hSw; (try dsimp only at hSw); go_simp <;> with_reducible rfl)
  simp only [Act.put, List.setIfInBounds_toArray, List.set_cons_zero, List.set_cons_succ]
  refine wpAnyU_ready (rs := [0, 3]) (by kernel_rfl) rfl ?_
  refine AllReadyU.cons ListAt.zero rfl (fun K hK => ?_) ?_
  · go_simp
    obtain ⟨u1, nb, hv1, hX, RN, hbn, ltn⟩ := alloc_pack u0 (.cells #[.int .u64 0, .int .u64 0, .int .u64 0] 27)
    rw [hv1, hX]
    have gen : Hid (w.heap.size + 1 < nb) := by have h5 := HU0.out.size; have h6 := (ltR R1); show _ < _; omega
    have HU1 := Lib.hid (below_then HU0.out hbn.out)
    clear hv1 hX hbn
    refine hK.out _ _ ?_ (fun hSU1 => ?_)
    · exact KSs.out _ HU1.out
    clear hK K hSU0
    try simp only [Act.put, List.setIfInBounds_toArray, List.set_cons_zero, List.set_cons_succ]
    refine wpAnyU_ready (rs := [3]) (by kernel_rfl) rfl ?_
    refine AllReadyU.cons la3 rfl (fun K hK => ?_) ?_
    · go_simp
      go_at_call 68
      refine (TRG.out _ (below_then HB.out HU1.out)).mono ?_
      rintro e u2 ⟨v, rfl, HO, HB3⟩
      obtain ⟨la, ln, lc, hve⟩ : ∃ la ln lc, v = .slice la ln lc := by
        rcases HO.out.shape with ⟨rfl, _⟩ | ⟨g, cp, rfl, _⟩
        · exact ⟨_, _, _, rfl⟩
        · exact ⟨_, _, _, rfl⟩
      subst hve
      have RNb := keepR HB3.out RN
      have HOs := Lib.hid (show w.heap.size + 2 ≤ u1.heap.size from by have := HU1.out.size; have := (ltR R1); omega)
      have HU2 := Lib.hid (below_then HU1.out HB3.out)
      clear HB3
      refine hK.out _ _ ?_ (fun hSU2 => ?_)
      · exact KSs.out _ HU2.out
      clear hK K hSU1
      try simp only [Act.put, List.setIfInBounds_toArray, List.set_cons_zero, List.set_cons_succ]
      refine tkU (v := ?_) 4 la4 hSU2 (by kernel_rfl) (fun _ _ _ h => h) rfl ?_ ?_
      rotate_left
      · (intro w hSw; (try dsimp only at hSw); go_simp <;> with_reducible rfl)
      simp only [Act.put, List.setIfInBounds_toArray, List.set_cons_zero, List.set_cons_succ]
      refine wpAnyU_ready (rs := [5]) (by kernel_rfl) rfl ?_
      refine AllReadyU.free la5 rfl (by kernel_rfl) (fun K hK => ?_) ?_
      · have ZR := keepR HU2.out R1
        refine step_store_row rfl 60 _ _ rfl (w.heap.size + 1) _ rfl rfl 60 #[.int .i64 0, .int .i64 0, .slice none 0 0, .slice none 0 0, .slice none 0 0] ZR.out (by kernel_rfl) rfl (by simp [Value.oneCell']) ?_
        refine hK.out _ _ ?_
        clear hK K hSU2
        try simp only [Act.put, List.setIfInBounds_toArray, List.set_cons_zero, List.set_cons_succ]
        refine wpAnyU_done (by kernel_rfl) ?_ _
        go_wp2_with fail
        refine bodyPost_ret (v := .agg #[.int .i64 0, .int .i64 1, .slice (some ⟨nb, 0, none⟩) 3 3, .slice la ln lc, .slice none 0 0]) (results_cell_row Try.results41 _ _ (w.heap.size + 1) 60 _ (0, 0) _ rfl (setRow_heap _ _ _ _ 60 (0, 0) ZR.out) Try.underlying60 rfl (by kernel_rfl)) rfl ?_
        have hO : OwnI (u2.setRow (w.heap.size + 1) #[.int .i64 0, .int .i64 1, .slice (some ⟨nb, 0, none⟩) 3 3, .slice la ln lc, .slice none 0 0]) (w.heap.size + 2) 3 .i64 (.slice la ln lc) (ringL c k) := by
          have h1 := HO.out.mono_base (b' := w.heap.size + 2) HOs.out
          exact h1.kept (row_grown _ _ _) (h1.ne (by omega))
        have hN := (setRow_other u2 (w.heap.size + 1) nb #[.int .i64 0, .int .i64 1, .slice (some ⟨nb, 0, none⟩) 3 3, .slice la ln lc, .slice none 0 0] (by have := gen.out; omega)).trans RNb.out
        refine ⟨.slice (some ⟨nb, 0, none⟩) 3 3, .slice la ln lc, rfl, Lib.hid (fun w9 hn => ⟨sl3_at ((hn.same nb (by have := gen.out; omega) (Array.getElem?_eq_some_iff.1 hN).1).trans hN) (by decide) (by decide) (by decide), ((hO.newPart (by omega) hn).read HLN.out HWF.out)⟩), Lib.hid (row_below (below_then HB.out HU2.out) (by omega) _)⟩
      exact AllReadyU.nil
    exact AllReadyU.nil
  refine AllReadyU.cons la3 rfl (fun K hK => ?_) ?_
  · go_simp
    go_at_call 68
    refine (TRG.out _ (below_then HB.out HU0.out)).mono ?_
    rintro e u1 ⟨v, rfl, HO, HB3⟩
    obtain ⟨la, ln, lc, hve⟩ : ∃ la ln lc, v = .slice la ln lc := by
      rcases HO.out.shape with ⟨rfl, _⟩ | ⟨g, cp, rfl, _⟩
      · exact ⟨_, _, _, rfl⟩
      · exact ⟨_, _, _, rfl⟩
    subst hve
    have HOs := Lib.hid (show w.heap.size + 2 ≤ u0.heap.size from by have := HU0.out.size; have := (ltR R1); omega)
    have HU1 := Lib.hid (below_then HU0.out HB3.out)
    clear HB3
    refine hK.out _ _ ?_ (fun hSU3 => ?_)
    · exact KSs.out _ HU1.out
    clear hK K hSU0
    try simp only [Act.put, List.setIfInBounds_toArray, List.set_cons_zero, List.set_cons_succ]
    refine wpAnyU_ready (rs := [0]) (by kernel_rfl) rfl ?_
    refine AllReadyU.cons ListAt.zero rfl (fun K hK => ?_) ?_
    · go_simp
      obtain ⟨u2, nb, hv1, hX, RN, hbn, ltn⟩ := alloc_pack u1 (.cells #[.int .u64 0, .int .u64 0, .int .u64 0] 27)
      rw [hv1, hX]
      have gen : Hid (w.heap.size + 1 < nb) := by have h5 := HU1.out.size; have h6 := (ltR R1); show _ < _; omega
      have HOb := Lib.hid (HO.out.below hbn.out)
      have HU2 := Lib.hid (below_then HU1.out hbn.out)
      clear hv1 hX hbn
      refine hK.out _ _ ?_ (fun hSU4 => ?_)
      · exact KSs.out _ HU2.out
      clear hK K hSU3
      try simp only [Act.put, List.setIfInBounds_toArray, List.set_cons_zero, List.set_cons_succ]
      refine tkU (v := ?_) 4 la4 hSU4 (by kernel_rfl) (fun _ _ _ h => h) rfl ?_ ?_
      rotate_left
      · (intro w hSw; (try dsimp only at hSw); go_simp <;> with_reducible rfl)
      simp only [Act.put, List.setIfInBounds_toArray, List.set_cons_zero, List.set_cons_succ]
      refine wpAnyU_ready (rs := [5]) (by kernel_rfl) rfl ?_
      refine AllReadyU.free la5 rfl (by kernel_rfl) (fun K hK => ?_) ?_
      · have ZR := keepR HU2.out R1
        refine step_store_row rfl 60 _ _ rfl (w.heap.size + 1) _ rfl rfl 60 #[.int .i64 0, .int .i64 0, .slice none 0 0, .slice none 0 0, .slice none 0 0] ZR.out (by kernel_rfl) rfl (by simp [Value.oneCell']) ?_
        refine hK.out _ _ ?_
        clear hK K hSU4
        try simp only [Act.put, List.setIfInBounds_toArray, List.set_cons_zero, List.set_cons_succ]
        refine wpAnyU_done (by kernel_rfl) ?_ _
        go_wp2_with fail
        refine bodyPost_ret (v := .agg #[.int .i64 0, .int .i64 1, .slice (some ⟨nb, 0, none⟩) 3 3, .slice la ln lc, .slice none 0 0]) (results_cell_row Try.results41 _ _ (w.heap.size + 1) 60 _ (0, 0) _ rfl (setRow_heap _ _ _ _ 60 (0, 0) ZR.out) Try.underlying60 rfl (by kernel_rfl)) rfl ?_
        have hO : OwnI (u2.setRow (w.heap.size + 1) #[.int .i64 0, .int .i64 1, .slice (some ⟨nb, 0, none⟩) 3 3, .slice la ln lc, .slice none 0 0]) (w.heap.size + 2) 3 .i64 (.slice la ln lc) (ringL c k) := by
          have h1 := HOb.out.mono_base (b' := w.heap.size + 2) HOs.out
          exact h1.kept (row_grown _ _ _) (h1.ne (by omega))
        have hN := (setRow_other u2 (w.heap.size + 1) nb #[.int .i64 0, .int .i64 1, .slice (some ⟨nb, 0, none⟩) 3 3, .slice la ln lc, .slice none 0 0] (by have := gen.out; omega)).trans RN.out
        refine ⟨.slice (some ⟨nb, 0, none⟩) 3 3, .slice la ln lc, rfl, Lib.hid (fun w9 hn => ⟨sl3_at ((hn.same nb (by have := gen.out; omega) (Array.getElem?_eq_some_iff.1 hN).1).trans hN) (by decide) (by decide) (by decide), ((hO.newPart (by omega) hn).read HLN.out HWF.out)⟩), Lib.hid (row_below (below_then HB.out HU2.out) (by omega) _)⟩
      exact AllReadyU.nil
    exact AllReadyU.nil
  exact AllReadyU.nil
set_option maxRecDepth 100000 in
set_option maxHeartbeats 16000000 in
theorem lawStart_any (a a2 : Option Addr) (cap cap2 : Nat) (c : ConfM) (k : Nat) (hk : k < c.caps.length) (hg : c.good) (m : MachM) (hc : m.chan = k) (w : World) (hv : ConfV w (.agg #[.slice a c.caps.length cap, .slice a2 c.starts.length cap2, .int .i64 c.threads]) c) : Calls Try.prog 23 #[.agg #[.slice a c.caps.length cap, .slice a2 c.starts.length cap2, .int .i64 c.threads], .agg (machL (.slice a c.caps.length cap) (.slice a2 c.starts.length cap2) c.threads m).toArray] w fun e w' => ∃ W L, e = .returned (.agg (puL 0 1 W L).toArray) ∧ Hid (∀ w2, NewPart w w' w2 → PuV w2 c k 0 0 0 W L) ∧ Hid (Below w.heap.size w w') := by
  have HV := Lib.hid hv
  have TST := Lib.hid fun w' (hb : Below w.heap.size w w') => Start_any a a2 cap cap2 c k hk hg w' (HV.out.below hb)
  unfold machL
  rw [hc]
  clear hv hk hg hc
  obtain ⟨W, hW, HB, R0, R1, R2, hz⟩ := three_new w (.cells #[.slice a c.caps.length cap, .slice a2 c.starts.length cap2, .int .i64 c.threads] 36) (.cells #[.int .i64 m.what, .int .i64 m.pl, .slice a c.caps.length cap, .slice a2 c.starts.length cap2, .int .i64 c.threads, .int .i64 k, .int .i64 m.thr, .int .i64 m.idx, .int .i64 m.kind, .int .u64 m.val, .int .u64 m.t, .int .u64 m.h, .int .i64 m.ok, .int .u64 m.ov] 56) (.cells #[.int .i64 0, .int .i64 0, .slice none 0 0, .slice none 0 0, .slice none 0 0] 60)
  have HW := Lib.hid hW
  clear hW
  go_enter Try.func23, Try.ntmps23
  go_upto_region 1 with fail
  rw [HW.out]
  clear HW
  obtain ⟨x0_0, x0_1, x0_2⟩ := rowc3 R0.out
  obtain ⟨x1_0, x1_1, x1_2, x1_3, x1_4, x1_5, x1_6, x1_7, x1_8, x1_9, x1_10, x1_11, x1_12, x1_13⟩ := rowc14 R1.out
  go_wp2_with fail
  refine (TST.out _ HB.out).mono ?_; rintro e w3 ⟨Wv, Lv, rfl, HP, HB3⟩
  have HP2 := Lib.hid HP.out
  have R2c := Lib.hid ((HB3.out.block (w.heap.size + 2) (by omega)).trans R2.out)
  obtain ⟨wa, wn, wc, hwe⟩ : ∃ wa wn wc, Wv = .slice wa wn wc := by
    obtain ⟨wb, wo, wc, lb, lo, lc, e, -⟩ := (HP.out w3 (NewPart.self _ _)).open
    exact ⟨_, _, _, e⟩
  obtain ⟨la, ln, lc, hle⟩ : ∃ la ln lc, Lv = .slice la ln lc := by
    obtain ⟨wb, wo, wc, lb, lo, lc, _, e, -⟩ := (HP.out w3 (NewPart.self _ _)).open
    exact ⟨_, _, _, e⟩
  subst hwe hle
  unfold puL
  clear TST HP
  clear x0_0 x0_1 x0_2 x1_0 x1_1 x1_2 x1_3 x1_4 x1_5 x1_6 x1_7 x1_8 x1_9 x1_10 x1_11 x1_12 x1_13
  go_wp2_with (refine wpList_store_row rfl 60 _ _ rfl (w.heap.size + 2) _ rfl rfl 60 #[.int .i64 0, .int .i64 0, .slice none 0 0, .slice none 0 0, .slice none 0 0] R2c.out (by kernel_rfl) rfl (by simp [Value.oneCell']) ?_)
  refine bodyPost_ret (v := .agg #[.int .i64 0, .int .i64 1, .slice wa wn wc, .slice la ln lc, .slice none 0 0]) (results_cell_row Try.results23 _ _ (w.heap.size + 2) 60 _ (0, 0) _ rfl (setRow_heap _ _ _ _ 60 (0, 0) R2c.out) Try.underlying60 rfl (by kernel_rfl)) rfl ?_
  exact ⟨_, _, rfl, Lib.hid (fun w9 hn => HP2.out w9 (hn.sub HB.out.size (by simp [World.setRow]) fun j h1 h2 => setRow_other _ _ _ _ (by omega))), Lib.hid (row_below (below_then HB.out HB3.out) (by omega) _)⟩
end Go.Proofs.Ytmkngpjjimalhaa
