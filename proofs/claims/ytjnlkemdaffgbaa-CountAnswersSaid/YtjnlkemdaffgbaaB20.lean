
import Derived.Test.YtjnlkemdaffgbaaB16
set_option linter.unusedVariables false
set_option linter.unusedSimpArgs false
/- The document's ring machines: Next, in one walk. -/
namespace Go.Proofs.Ytjnlkemdaffgbaa
open Go.ChangeShapes Go.WideShapes Go.ChangeAt Go.RowKit
set_option maxRecDepth 100000

theorem rgNE_push1 {c : ConfM} {m : MachM} {k : Nat} (hw : m.what = 3) (hp : m.pl = 1) (hc : m.chan = k) : rgNE c m = ⟨1, c.base k, 0, 0, 0⟩ := by
  unfold rgNE pushNE
  rw [hw, hp, hc]
  simp
theorem rgNE_push2 {c : ConfM} {m : MachM} {k : Nat} (hw : m.what = 3) (hp : m.pl = 2) (hc : m.chan = k) : rgNE c m = ⟨1, c.base k + 1, 0, 0, 0⟩ := by
  unfold rgNE pushNE
  rw [hw, hp, hc]
  simp
theorem rgNE_push3 {c : ConfM} {m : MachM} {k : Nat} (hw : m.what = 3) (hp : m.pl = 3) (hc : m.chan = k) : rgNE c m = ⟨1, c.base k, 0, 0, 0⟩ := by
  unfold rgNE pushNE
  rw [hw, hp, hc]
  simp
theorem rgNE_push4 {c : ConfM} {m : MachM} {k : Nat} (hw : m.what = 3) (hp : m.pl = 4) (hc : m.chan = k) : rgNE c m = ⟨1, c.slotW k (m.t / 2), 0, 0, 0⟩ := by
  unfold rgNE pushNE
  rw [hw, hp, hc]
  simp
theorem rgNE_push5 {c : ConfM} {m : MachM} {k : Nat} (hw : m.what = 3) (hp : m.pl = 5) (hc : m.chan = k) : rgNE c m = ⟨3, c.base k, m.t, packI (nextI (m.t / 2) 1) false, 0⟩ := by
  unfold rgNE pushNE
  rw [hw, hp, hc]
  simp
theorem rgNE_push6 {c : ConfM} {m : MachM} {k : Nat} (hw : m.what = 3) (hp : m.pl = 6) (hc : m.chan = k) : rgNE c m = ⟨6, c.slotW k (m.t / 2) + 1, 0, m.val, 0⟩ := by
  unfold rgNE pushNE
  rw [hw, hp, hc]
  simp
theorem rgNE_push7 {c : ConfM} {m : MachM} {k : Nat} (hw : m.what = 3) (hp : m.pl = 7) (hc : m.chan = k) : rgNE c m = ⟨2, c.slotW k (m.t / 2), 0, nextI (m.t / 2) 1, 0⟩ := by
  unfold rgNE pushNE
  rw [hw, hp, hc]
  simp
theorem rgNE_pop1 {c : ConfM} {m : MachM} {k : Nat} (hw : m.what = 4) (hp : m.pl = 1) (hc : m.chan = k) : rgNE c m = ⟨1, c.base k + 1, 0, 0, 0⟩ := by
  unfold rgNE popNE
  rw [hw, hp, hc]
  simp
theorem rgNE_pop2 {c : ConfM} {m : MachM} {k : Nat} (hw : m.what = 4) (hp : m.pl = 2) (hc : m.chan = k) : rgNE c m = ⟨1, c.base k, 0, 0, 0⟩ := by
  unfold rgNE popNE
  rw [hw, hp, hc]
  simp
theorem rgNE_pop3 {c : ConfM} {m : MachM} {k : Nat} (hw : m.what = 4) (hp : m.pl = 3) (hc : m.chan = k) : rgNE c m = ⟨1, c.base k + 1, 0, 0, 0⟩ := by
  unfold rgNE popNE
  rw [hw, hp, hc]
  simp
theorem rgNE_pop4 {c : ConfM} {m : MachM} {k : Nat} (hw : m.what = 4) (hp : m.pl = 4) (hc : m.chan = k) : rgNE c m = ⟨1, c.slotW k m.h, 0, 0, 0⟩ := by
  unfold rgNE popNE
  rw [hw, hp, hc]
  simp
theorem rgNE_pop5 {c : ConfM} {m : MachM} {k : Nat} (hw : m.what = 4) (hp : m.pl = 5) (hc : m.chan = k) : rgNE c m = ⟨3, c.base k + 1, m.h, nextI m.h 1, 0⟩ := by
  unfold rgNE popNE
  rw [hw, hp, hc]
  simp
theorem rgNE_pop6 {c : ConfM} {m : MachM} {k : Nat} (hw : m.what = 4) (hp : m.pl = 6) (hc : m.chan = k) : rgNE c m = ⟨5, c.slotW k m.h + 1, 0, 0, 0⟩ := by
  unfold rgNE popNE
  rw [hw, hp, hc]
  simp
theorem rgNE_pop7 {c : ConfM} {m : MachM} {k : Nat} (hw : m.what = 4) (hp : m.pl = 7) (hc : m.chan = k) : rgNE c m = ⟨2, c.slotW k m.h, 0, nextI m.h (c.size k), 0⟩ := by
  unfold rgNE popNE
  rw [hw, hp, hc]
  simp
theorem rgNE_shut1 {c : ConfM} {m : MachM} {k : Nat} (hw : m.what = 5) (hp : m.pl = 1) (hc : m.chan = k) : rgNE c m = ⟨1, c.base k, 0, 0, 0⟩ := by
  unfold rgNE shutNE
  rw [hw, hp, hc]
  simp
theorem rgNE_shut2 {c : ConfM} {m : MachM} {k : Nat} (hw : m.what = 5) (hp : m.pl = 2) (hc : m.chan = k) : rgNE c m = ⟨3, c.base k, m.t, packI (m.t / 2) true, 0⟩ := by
  unfold rgNE shutNE
  rw [hw, hp, hc]
  simp
theorem rgNE_count1 {c : ConfM} {m : MachM} {k : Nat} (hw : m.what = 6) (hp : m.pl = 1) (hc : m.chan = k) : rgNE c m = ⟨1, c.base k, 0, 0, 0⟩ := by
  unfold rgNE countNE
  rw [hw, hp, hc]
  simp
theorem rgNE_count2 {c : ConfM} {m : MachM} {k : Nat} (hw : m.what = 6) (hp : m.pl = 2) (hc : m.chan = k) : rgNE c m = ⟨1, c.base k + 1, 0, 0, 0⟩ := by
  unfold rgNE countNE
  rw [hw, hp, hc]
  simp
theorem rgNE_count3 {c : ConfM} {m : MachM} {k : Nat} (hw : m.what = 6) (hp : m.pl = 3) (hc : m.chan = k) : rgNE c m = ⟨1, c.base k, 0, 0, 0⟩ := by
  unfold rgNE countNE
  rw [hw, hp, hc]
  simp
set_option maxRecDepth 100000 in
set_option maxHeartbeats 64000000 in
theorem machNext_ring (a a2 : Option Addr) (cap cap2 : Nat) (c : ConfM) (m : MachM) (k : Nat) (wh pl : Int) (hk : k < c.caps.length) (hg : c.good) (hw : m.what = wh) (hc : m.chan = k) (hp : m.pl = pl) (hp0 : ¬ pl = 0) (hK : rgK c m) (w : World) (hv : ConfV w (.agg #[.slice a c.caps.length cap, .slice a2 c.starts.length cap2, .int .i64 c.threads]) c) : Calls Try.prog 28 #[(.agg (machL (.slice a c.caps.length cap) (.slice a2 c.starts.length cap2) c.threads m).toArray)] w fun e w' => e = .returned (accV (rgNE c m)) ∧ Below w.heap.size w w' := by
  have HV := Lib.hid hv
  have HWH := Lib.hid hw
  have HPL := Lib.hid hp
  have HCH := Lib.hid hc
  have HKK := Lib.hid hK
  have HP0 := Lib.hid hp0
  obtain ⟨RA, hRA⟩ : ∃ RA, rgNE c m = RA := ⟨_, rfl⟩
  rw [hRA]
  have HRA := Lib.hid hRA
  clear hK hRA
  clear hv
  obtain ⟨W, hW, HB, R0, R1, hz⟩ := two_new w (.cells #[.int .i64 wh, .int .i64 pl, .slice a c.caps.length cap, .slice a2 c.starts.length cap2, .int .i64 c.threads, .int .i64 k, .int .i64 m.thr, .int .i64 m.idx, .int .i64 m.kind, .int .u64 m.val, .int .u64 m.t, .int .u64 m.h, .int .i64 m.ok, .int .u64 m.ov] 58) (.cells #[.int .i64 0, .int .i64 0, .int .u64 0, .int .u64 0, .int .i64 0] 69)
  have HW := Lib.hid hW
  clear hW
  have hl := hg.len
  have hn := hg.base8 k (Nat.le_of_lt hk)
  unfold machL
  rw [hw, hc]
  clear hw hc
  rw [hp]
  clear hp
  go_enter Try.func28, Try.ntmps28
  go_upto_region 1 with fail
  rw [HW.out]
  clear HW
  obtain ⟨x0, x1, x2, x3, x4, x5, x6, x7, x8, x9, x10, x11, x12, x13⟩ := rowc14 R0.out
  go_upto_region 3 with fail
  have h0W : w.heap.size < W.heap.size := by omega
  have KS : Hid (∀ w', Below W.heap.size W w' → (fun w' : World => w'.cell? ⟨w.heap.size, 2, none⟩ = some (.slice a c.caps.length cap) ∧ w'.cell? ⟨w.heap.size, 3, none⟩ = some (.slice a2 c.starts.length cap2) ∧ w'.cell? ⟨w.heap.size, 4, none⟩ = some (.int .i64 c.threads) ∧ w'.cell? ⟨w.heap.size, 5, none⟩ = some (.int .i64 k) ∧ w'.cell? ⟨w.heap.size, 6, none⟩ = some (.int .i64 m.thr)) w') := fun w' hb => by
    obtain ⟨z0, z1, z2, z3, z4, z5, z6, z7, z8, z9, z10, z11, z12, z13⟩ := rowc14 ((hb.block _ h0W).trans R0.out)
    exact ⟨z2, z3, z4, z5, z6⟩
  clear x0 x1 x2 x3 x4 x5 x6 x7 x8 x9 x10 x11 x12 x13
  go_cut [3, 4, 5] (fun s3 s4 s5 wx => ∃ bX : Nat, s3 = .pointer (some ⟨bX, 0, none⟩) ∧ s4 = .int .i64 k ∧ s5 = .int .i64 m.thr ∧ Hid (wx.heap[bX]? = some (.cells #[.slice a c.caps.length cap, .slice a2 c.starts.length cap2, .int .i64 c.threads] 36 (0, 0))) ∧ Hid (Below W.heap.size W wx) ∧ Hid (W.heap.size ≤ bX))
  case first =>
    refine untilK KS 9 10 (by kernel_rfl) rfl ?_
    obtain ⟨u0, hu0, HU0⟩ := drew_pack W
    rw [hu0]
    clear hu0
    have hSU0 := KS.out _ HU0.out
    refine tkU (v := ?_) 0 la0 hSU0 (by kernel_rfl) (fun _ _ _ h => h) rfl ?_ ?_
    rotate_left
    · (intro w hSw; (try dsimp only at hSw); go_simp <;> with_reducible rfl)
    simp only [Act.put, List.setIfInBounds_toArray, List.set_cons_zero, List.set_cons_succ]
    refine tkU (v := ?_) 1 la1 hSU0 (by kernel_rfl) (fun _ _ _ h => h) rfl ?_ ?_
    rotate_left
    · (intro w hSw; (try dsimp only at hSw); go_simp <;> with_reducible rfl)
    simp only [Act.put, List.setIfInBounds_toArray, List.set_cons_zero, List.set_cons_succ]
    refine tkU (v := ?_) 2 la2 hSU0 (by kernel_rfl) (fun _ _ _ h => h) rfl ?_ ?_
    rotate_left
    · (intro w hSw; (try dsimp only at hSw); go_simp <;> with_reducible rfl)
    simp only [Act.put, List.setIfInBounds_toArray, List.set_cons_zero, List.set_cons_succ]
    refine tkU (v := ?_) 3 la3 hSU0 (by kernel_rfl) (fun _ _ _ h => h) rfl ?_ ?_
    rotate_left
    · (intro w hSw; (try dsimp only at hSw); go_simp <;> with_reducible rfl)
    simp only [Act.put, List.setIfInBounds_toArray, List.set_cons_zero, List.set_cons_succ]
    refine tkU (v := ?_) 4 la4 hSU0 (by kernel_rfl) (fun _ _ _ h => h) rfl ?_ ?_
    rotate_left
    · (intro w hSw; (try dsimp only at hSw); go_simp <;> with_reducible rfl)
    simp only [Act.put, List.setIfInBounds_toArray, List.set_cons_zero, List.set_cons_succ]
    refine tkU (v := ?_) 5 la5 hSU0 (by kernel_rfl) (fun _ _ _ h => h) rfl ?_ ?_
    rotate_left
    · (intro w hSw; (try dsimp only at hSw); go_simp <;> with_reducible rfl)
    simp only [Act.put, List.setIfInBounds_toArray, List.set_cons_zero, List.set_cons_succ]
    refine wpAnyU_ready (rs := [6]) (by kernel_rfl) rfl ?_
    refine AllReadyU.cons la6 rfl (fun K hK => ?_) ?_
    · go_simp
      obtain ⟨u1, bX, hv, hXe, RX, hbX, ltX⟩ := alloc_pack u0 (.cells #[.slice none 0 0, .slice none 0 0, .int .i64 0] 36)
      rw [hv, hXe]
      have HU1 := Lib.hid (below_then HU0.out hbX.out)
      have hbXw : Hid (W.heap.size ≤ bX) := hXe ▸ HU0.out.size
      clear hv hXe hbX
      refine hK.out _ _ ?_ (fun hSU1 => ?_)
      · exact KS.out _ HU1.out
      clear hK K hSU0
      try simp only [Act.put, List.setIfInBounds_toArray, List.set_cons_zero, List.set_cons_succ]
      refine wpAnyU_ready (rs := [7]) (by kernel_rfl) rfl ?_
      refine AllReadyU.cons la7 rfl (fun K hK => ?_) ?_
      · refine step_store_row rfl 36 _ _ rfl bX _ rfl rfl 36 #[.slice none 0 0, .slice none 0 0, .int .i64 0] RX.out (by kernel_rfl) rfl (by simp [Value.oneCell']) ?_
        have R3 := Lib.hid (setRow_heap u1 bX _ #[.slice a c.caps.length cap, .slice a2 c.starts.length cap2, .int .i64 c.threads] _ (0, 0) RX.out)
        have HU3 := Lib.hid (row_below HU1.out hbXw.out #[.slice a c.caps.length cap, .slice a2 c.starts.length cap2, .int .i64 c.threads])
        generalize u1.setRow bX #[.slice a c.caps.length cap, .slice a2 c.starts.length cap2, .int .i64 c.threads] = u3 at *
        refine hK.out _ _ ?_ (fun hSU2 => ?_)
        · exact KS.out _ HU3.out
        clear hK K hSU1
        try simp only [Act.put, List.setIfInBounds_toArray, List.set_cons_zero, List.set_cons_succ]
        refine tkU (v := ?_) 8 la8 hSU2 (by kernel_rfl) (fun _ _ _ h => h) rfl ?_ ?_
        rotate_left
        · (intro w hSw; (try dsimp only at hSw); go_simp <;> with_reducible rfl)
        simp only [Act.put, List.setIfInBounds_toArray, List.set_cons_zero, List.set_cons_succ]
        refine wpAnyU_ready (rs := [9]) (by kernel_rfl) rfl ?_
        refine AllReadyU.free la9 rfl (by kernel_rfl) (fun K hK => ?_) ?_
        · go_simp
          refine hK.out _ _ ?_
          clear hK K hSU2
          try simp only [Act.put, List.setIfInBounds_toArray, List.set_cons_zero, List.set_cons_succ]
          refine wpAnyU_done (by kernel_rfl) ?_ _
          go_wp2_with fail
          go_meet
          exact ⟨bX, rfl, rfl, rfl, R3, HU3, hbXw⟩
        exact AllReadyU.nil
      exact AllReadyU.nil
    exact AllReadyU.nil
  case rest =>
    obtain ⟨bX, rfl, rfl, rfl, RX, HB3, hbX⟩ := hcut
    obtain ⟨w3, rfl⟩ : ∃ w3 : World, w3 = wc := ⟨_, rfl⟩
    have HV3 := Lib.hid (HV.out.below (below_then HB.out HB3.out))
    have hXl : bX < w3.heap.size := (ltR RX)
    have KS4 : Hid (∀ w', Below w3.heap.size w3 w' → (fun w' : World => w'.cell? ⟨bX, 0, none⟩ = some (.slice a c.caps.length cap) ∧ w'.cell? ⟨bX, 1, none⟩ = some (.slice a2 c.starts.length cap2) ∧ w'.cell? ⟨bX, 2, none⟩ = some (.int .i64 c.threads)) w') := fun w' hb => rowc3 ((hb.block bX hXl).trans RX.out)
    have TT := Lib.hid fun w' (hb : Below w3.heap.size w3 w') => rtail_any _ c k w' (HV3.out.below hb) (Nat.le_of_lt hk) hg
    have TH := Lib.hid fun w' (hb : Below w3.heap.size w3 w') => rheadW_any _ c k hk w' (HV3.out.below hb) hg
    clear KS
    go_upto_region 4 with fail
    go_cut [6, 7] (fun s6 s7 wx => s6 = .int .i64 (c.base k) ∧ s7 = .int .i64 (c.base k + 1) ∧ Hid (Below w3.heap.size w3 wx))
    case first =>
      refine untilK KS4 7 8 (by kernel_rfl) rfl ?_
      obtain ⟨u0, hu0, HU0⟩ := drew_pack w3
      rw [hu0]
      clear hu0
      have hSU0 := KS4.out _ HU0.out
      refine tkU (v := ?_) 0 la0 hSU0 (by kernel_rfl) (fun _ _ _ h => h) rfl ?_ ?_
      rotate_left
      · (intro w hSw; (try dsimp only at hSw); go_simp <;> with_reducible rfl)
      simp only [Act.put, List.setIfInBounds_toArray, List.set_cons_zero, List.set_cons_succ]
      refine tkU (v := ?_) 1 la1 hSU0 (by kernel_rfl) (fun _ _ _ h => h) rfl ?_ ?_
      rotate_left
      · (intro w hSw; (try dsimp only at hSw); go_simp <;> with_reducible rfl)
      simp only [Act.put, List.setIfInBounds_toArray, List.set_cons_zero, List.set_cons_succ]
      refine tkU (v := ?_) 3 la3 hSU0 (by kernel_rfl) (fun _ _ _ h => h) rfl ?_ ?_
      rotate_left
      · (intro w hSw; (try dsimp only at hSw); go_simp <;> with_reducible rfl)
      simp only [Act.put, List.setIfInBounds_toArray, List.set_cons_zero, List.set_cons_succ]
      refine tkU (v := ?_) 4 la4 hSU0 (by kernel_rfl) (fun _ _ _ h => h) rfl ?_ ?_
      rotate_left
      · (intro w hSw; (try dsimp only at hSw); go_simp <;> with_reducible rfl)
      simp only [Act.put, List.setIfInBounds_toArray, List.set_cons_zero, List.set_cons_succ]
      refine wpAnyU_ready (rs := [2]) (by kernel_rfl) rfl ?_
      refine AllReadyU.cons la2 rfl (fun K hK => ?_) ?_
      · go_simp
        go_at_call 41
        refine (TT.out _ HU0.out).mono ?_
        rintro e u1 ⟨rfl, hb1⟩
        have HU1 := Lib.hid (below_then HU0.out hb1)
        clear hb1
        refine hK.out _ _ ?_ (fun hSU1 => ?_)
        · exact KS4.out _ HU1.out
        clear hK K hSU0
        try simp only [Act.put, List.setIfInBounds_toArray, List.set_cons_zero, List.set_cons_succ]
        refine wpAnyU_ready (rs := [5]) (by kernel_rfl) rfl ?_
        refine AllReadyU.cons la5 rfl (fun K hK => ?_) ?_
        · go_simp
          go_at_call 42
          refine (TH.out _ HU1.out).mono ?_
          rintro e u2 ⟨rfl, hb2⟩
          have HU2 := Lib.hid (below_then HU1.out hb2)
          clear hb2
          refine hK.out _ _ ?_ (fun hSU2 => ?_)
          · exact KS4.out _ HU2.out
          clear hK K hSU1
          try simp only [Act.put, List.setIfInBounds_toArray, List.set_cons_zero, List.set_cons_succ]
          refine tkU (v := ?_) 6 la6 hSU2 (by kernel_rfl) (fun _ _ _ h => h) rfl ?_ ?_
          rotate_left
          · (intro w hSw; (try dsimp only at hSw); go_simp <;> with_reducible rfl)
          simp only [Act.put, List.setIfInBounds_toArray, List.set_cons_zero, List.set_cons_succ]
          refine wpAnyU_ready (rs := [7]) (by kernel_rfl) rfl ?_
          refine AllReadyU.free la7 rfl (by kernel_rfl) (fun K hK => ?_) ?_
          · go_simp
            refine hK.out _ _ ?_
            clear hK K hSU2
            try simp only [Act.put, List.setIfInBounds_toArray, List.set_cons_zero, List.set_cons_succ]
            refine wpAnyU_done (by kernel_rfl) ?_ _
            go_wp2_with fail
            go_meet
            exact ⟨rfl, rfl, HU2⟩
          exact AllReadyU.nil
        exact AllReadyU.nil
      exact AllReadyU.nil
    case rest =>
      obtain ⟨rfl, rfl, HB4⟩ := hcut
      obtain ⟨w4, rfl⟩ : ∃ w3 : World, w3 = wc := ⟨_, rfl⟩
      have HB34 := Lib.hid (below_then HB3.out HB4.out)
      have R0' := Lib.hid ((HB34.out.block _ h0W).trans R0.out)
      have R1' := Lib.hid ((HB34.out.block (w.heap.size + 1) (by omega)).trans R1.out)
      have RX' := Lib.hid ((HB4.out.block bX hXl).trans RX.out)
      have HV4 := Lib.hid (HV3.out.below HB4.out)
      clear TT TH KS4
      obtain ⟨x0, x1, x2, x3, x4, x5, x6, x7, x8, x9, x10, x11, x12, x13⟩ := rowc14 R0'.out
      obtain ⟨y0, y1, y2⟩ := rowc3 RX'.out
      have hcs : (wh = 3 ∧ (pl = 1 ∨ pl = 2 ∨ pl = 3 ∨ pl = 4 ∨ pl = 5 ∨ pl = 6 ∨ pl = 7)) ∨ (wh = 4 ∧ (pl = 1 ∨ pl = 2 ∨ pl = 3 ∨ pl = 4 ∨ pl = 5 ∨ pl = 6 ∨ pl = 7)) ∨ (wh = 5 ∧ (pl = 1 ∨ pl = 2)) ∨ (wh = 6 ∧ (pl = 1 ∨ pl = 2 ∨ pl = 3)) := by
        have h1 := HKK.out.pl
        have h2 := HKK.out.what
        rw [HWH.out, HPL.out] at h1
        rw [HWH.out] at h2
        have h3 := HP0.out
        omega
      rcases hcs with ⟨rfl, rfl | rfl | rfl | rfl | rfl | rfl | rfl⟩ | ⟨rfl, rfl | rfl | rfl | rfl | rfl | rfl | rfl⟩ | ⟨rfl, rfl | rfl⟩ | ⟨rfl, rfl | rfl | rfl⟩
      · have eRA := HRA.out.symm.trans (rgNE_push1 HWH.out HPL.out HCH.out)
        subst eRA
        have HT0 : Hid (0 ≤ m.t ∧ m.t < 18446744073709551616) := HKK.out.t
        go_wp2_with fail
        refine (access_any _ _ _ _ _).mono ?_; rintro e w6 ⟨rfl, hb6⟩
        have HF := Lib.hid hb6
        clear hb6
        unfold accV
        dsimp only
        have R1f := Lib.hid ((HF.out.block (w.heap.size + 1) (by have := HB34.out.size; omega)).trans R1'.out)
        clear x0 x1 x2 x3 x4 x5 x6 x7 x8 x9 x10 x11 x12 x13 y0 y1 y2
        go_wp2_with (refine wpList_store_row rfl 69 _ _ rfl (w.heap.size + 1) _ rfl rfl 69 #[.int .i64 0, .int .i64 0, .int .u64 0, .int .u64 0, .int .i64 0] R1f.out (by kernel_rfl) rfl (by simp [Value.oneCell']) ?_)
        refine bodyPost_ret (v := accV ⟨1, c.base k, 0, 0, 0⟩) (results_cell_row Try.results28 _ _ (w.heap.size + 1) 69 _ (0, 0) _ rfl (setRow_heap _ _ _ _ 69 (0, 0) R1f.out) Try.underlying69 rfl (by kernel_rfl)) rfl ?_
        exact ⟨rfl, row_below (below_then HB.out (below_then HB34.out HF.out)) (by omega) _⟩
      · have eRA := HRA.out.symm.trans (rgNE_push2 HWH.out HPL.out HCH.out)
        subst eRA
        have HT0 : Hid (0 ≤ m.t ∧ m.t < 18446744073709551616) := HKK.out.t
        go_wp2_with fail
        refine (access_any _ _ _ _ _).mono ?_; rintro e w6 ⟨rfl, hb6⟩
        have HF := Lib.hid hb6
        clear hb6
        unfold accV
        dsimp only
        have R1f := Lib.hid ((HF.out.block (w.heap.size + 1) (by have := HB34.out.size; omega)).trans R1'.out)
        clear x0 x1 x2 x3 x4 x5 x6 x7 x8 x9 x10 x11 x12 x13 y0 y1 y2
        go_wp2_with (refine wpList_store_row rfl 69 _ _ rfl (w.heap.size + 1) _ rfl rfl 69 #[.int .i64 0, .int .i64 0, .int .u64 0, .int .u64 0, .int .i64 0] R1f.out (by kernel_rfl) rfl (by simp [Value.oneCell']) ?_)
        refine bodyPost_ret (v := accV ⟨1, c.base k + 1, 0, 0, 0⟩) (results_cell_row Try.results28 _ _ (w.heap.size + 1) 69 _ (0, 0) _ rfl (setRow_heap _ _ _ _ 69 (0, 0) R1f.out) Try.underlying69 rfl (by kernel_rfl)) rfl ?_
        exact ⟨rfl, row_below (below_then HB.out (below_then HB34.out HF.out)) (by omega) _⟩
      · have eRA := HRA.out.symm.trans (rgNE_push3 HWH.out HPL.out HCH.out)
        subst eRA
        have HT0 : Hid (0 ≤ m.t ∧ m.t < 18446744073709551616) := HKK.out.t
        go_wp2_with fail
        refine (access_any _ _ _ _ _).mono ?_; rintro e w6 ⟨rfl, hb6⟩
        have HF := Lib.hid hb6
        clear hb6
        unfold accV
        dsimp only
        have R1f := Lib.hid ((HF.out.block (w.heap.size + 1) (by have := HB34.out.size; omega)).trans R1'.out)
        clear x0 x1 x2 x3 x4 x5 x6 x7 x8 x9 x10 x11 x12 x13 y0 y1 y2
        go_wp2_with (refine wpList_store_row rfl 69 _ _ rfl (w.heap.size + 1) _ rfl rfl 69 #[.int .i64 0, .int .i64 0, .int .u64 0, .int .u64 0, .int .i64 0] R1f.out (by kernel_rfl) rfl (by simp [Value.oneCell']) ?_)
        refine bodyPost_ret (v := accV ⟨1, c.base k, 0, 0, 0⟩) (results_cell_row Try.results28 _ _ (w.heap.size + 1) 69 _ (0, 0) _ rfl (setRow_heap _ _ _ _ 69 (0, 0) R1f.out) Try.underlying69 rfl (by kernel_rfl)) rfl ?_
        exact ⟨rfl, row_below (below_then HB.out (below_then HB34.out HF.out)) (by omega) _⟩
      · have eRA := HRA.out.symm.trans (rgNE_push4 HWH.out HPL.out HCH.out)
        subst eRA
        have HT0 : Hid (0 ≤ m.t ∧ m.t < 18446744073709551616) := HKK.out.t
        have TSQ := Lib.hid fun w' => machSeq_any a a2 cap cap2 c ⟨3, 4, k, m.thr, m.idx, m.kind, m.val, m.t, m.h, m.ok, m.ov⟩ w'
        unfold machL at TSQ
        try dsimp only at TSQ
        have TSS := Lib.hid fun w' (hb : Below w4.heap.size w4 w') => rslotSeqW_any _ c k (m.t / 2) hk (by have := HT0.out; omega) (by have := HT0.out; omega) w' (HV4.out.below hb) hg
        have TSV := Lib.hid fun w' (hb : Below w4.heap.size w4 w') => rslotValueW_any _ c k (m.t / 2) hk (by have := HT0.out; omega) (by have := HT0.out; omega) w' (HV4.out.below hb) hg
        have KS5 : Hid (∀ w', Below w4.heap.size w4 w' → (fun w' : World => (w'.cell? ⟨w.heap.size, 0, none⟩ = some (.int .i64 3) ∧ w'.cell? ⟨w.heap.size, 1, none⟩ = some (.int .i64 4) ∧ w'.cell? ⟨w.heap.size, 2, none⟩ = some (.slice a c.caps.length cap) ∧ w'.cell? ⟨w.heap.size, 3, none⟩ = some (.slice a2 c.starts.length cap2) ∧ w'.cell? ⟨w.heap.size, 4, none⟩ = some (.int .i64 c.threads) ∧ w'.cell? ⟨w.heap.size, 5, none⟩ = some (.int .i64 k) ∧ w'.cell? ⟨w.heap.size, 6, none⟩ = some (.int .i64 m.thr) ∧ w'.cell? ⟨w.heap.size, 7, none⟩ = some (.int .i64 m.idx) ∧ w'.cell? ⟨w.heap.size, 8, none⟩ = some (.int .i64 m.kind) ∧ w'.cell? ⟨w.heap.size, 9, none⟩ = some (.int .u64 m.val) ∧ w'.cell? ⟨w.heap.size, 10, none⟩ = some (.int .u64 m.t) ∧ w'.cell? ⟨w.heap.size, 11, none⟩ = some (.int .u64 m.h) ∧ w'.cell? ⟨w.heap.size, 12, none⟩ = some (.int .i64 m.ok) ∧ w'.cell? ⟨w.heap.size, 13, none⟩ = some (.int .u64 m.ov)) ∧ (w'.cell? ⟨bX, 0, none⟩ = some (.slice a c.caps.length cap) ∧ w'.cell? ⟨bX, 1, none⟩ = some (.slice a2 c.starts.length cap2) ∧ w'.cell? ⟨bX, 2, none⟩ = some (.int .i64 c.threads))) w') := fun w' hb => by
          obtain ⟨z0, z1, z2, z3, z4, z5, z6, z7, z8, z9, z10, z11, z12, z13⟩ := rowc14 ((hb.block _ (Nat.lt_of_lt_of_le h0W HB34.out.size)).trans R0'.out)
          obtain ⟨v0, v1, v2⟩ := rowc3 ((hb.block bX (Nat.lt_of_lt_of_le hXl HB4.out.size)).trans RX'.out)
          exact ⟨⟨z0, z1, z2, z3, z4, z5, z6, z7, z8, z9, z10, z11, z12, z13⟩, v0, v1, v2⟩
        go_upto_region 18 with fail
        clear x0 x1 x2 x3 x4 x5 x6 x7 x8 x9 x10 x11 x12 x13 y0 y1 y2
        refine untilK KS5 6 7 (by kernel_rfl) rfl ?_
        obtain ⟨u0, hu0, HU0⟩ := drew_pack w4
        rw [hu0]
        clear hu0
        have hSU0 := KS5.out _ HU0.out
        refine tkU (v := ?_) 0 la0 hSU0 (by kernel_rfl) (fun _ _ _ h => h) rfl ?_ ?_
        rotate_left
        · (intro w hSw; (try dsimp only at hSw); go_simp <;> with_reducible rfl)
        simp only [Act.put, List.setIfInBounds_toArray, List.set_cons_zero, List.set_cons_succ]
        refine tkU (v := ?_) 1 la1 hSU0 (by kernel_rfl) (fun _ _ _ h => h) rfl ?_ ?_
        rotate_left
        · (intro w hSw; (try dsimp only at hSw); go_simp <;> with_reducible rfl)
        simp only [Act.put, List.setIfInBounds_toArray, List.set_cons_zero, List.set_cons_succ]
        refine tkU (v := ?_) 2 la2 hSU0 (by kernel_rfl) (fun _ _ _ h => h) rfl ?_ ?_
        rotate_left
        · (intro w hSw; (try dsimp only at hSw); go_simp <;> with_reducible rfl)
        simp only [Act.put, List.setIfInBounds_toArray, List.set_cons_zero, List.set_cons_succ]
        refine wpAnyU_ready (rs := [3]) (by kernel_rfl) rfl ?_
        refine AllReadyU.cons la3 rfl (fun K hK => ?_) ?_
        · go_simp
          go_at_call 56
          refine (TSQ.out _).mono ?_
          rintro e u1 ⟨rfl, hb⟩
          have HU1 := Lib.hid (below_then HU0.out hb)
          clear hb
          refine hK.out _ _ ?_ (fun hSU1 => ?_)
          · exact KS5.out _ HU1.out
          clear hK K hSU0
          try simp only [Act.put, List.setIfInBounds_toArray, List.set_cons_zero, List.set_cons_succ]
          refine wpAnyU_ready (rs := [4]) (by kernel_rfl) rfl ?_
          refine AllReadyU.cons la4 rfl (fun K hK => ?_) ?_
          · go_simp
            go_at_call 53
            refine (TSS.out _ HU1.out).mono ?_
            rintro e u2 ⟨rfl, hb⟩
            have HU2 := Lib.hid (below_then HU1.out hb)
            clear hb
            refine hK.out _ _ ?_ (fun hSU2 => ?_)
            · exact KS5.out _ HU2.out
            clear hK K hSU1
            try simp only [Act.put, List.setIfInBounds_toArray, List.set_cons_zero, List.set_cons_succ]
            refine wpAnyU_ready (rs := [5]) (by kernel_rfl) rfl ?_
            refine AllReadyU.cons la5 rfl (fun K hK => ?_) ?_
            · go_simp
              go_at_call 54
              refine (access_any _ _ _ _ _).mono ?_
              rintro e u3 ⟨rfl, hb⟩
              have HU3 := Lib.hid (below_then HU2.out hb)
              clear hb
              unfold accV
              try dsimp only
              refine hK.out _ _ ?_ (fun hSU3 => ?_)
              · exact KS5.out _ HU3.out
              clear hK K hSU2
              try simp only [Act.put, List.setIfInBounds_toArray, List.set_cons_zero, List.set_cons_succ]
              refine wpAnyU_ready (rs := [6]) (by kernel_rfl) rfl ?_
              refine AllReadyU.free la6 rfl (by kernel_rfl) (fun K hK => ?_) ?_
              · have R1f := Lib.hid ((HU3.out.block (w.heap.size + 1) (by have := HB34.out.size; omega)).trans R1'.out)
                refine step_store_row rfl 69 _ _ rfl (w.heap.size + 1) _ rfl rfl 69 #[.int .i64 0, .int .i64 0, .int .u64 0, .int .u64 0, .int .i64 0] R1f.out (by kernel_rfl) rfl (by simp [Value.oneCell']) ?_
                refine hK.out _ _ ?_
                clear hK K hSU3
                try simp only [Act.put, List.setIfInBounds_toArray, List.set_cons_zero, List.set_cons_succ]
                refine wpAnyU_done (by kernel_rfl) ?_ _
                go_wp2_with fail
                refine bodyPost_ret (v := accV ⟨1, c.slotW k (m.t / 2), 0, 0, 0⟩) (results_cell_row Try.results28 _ _ (w.heap.size + 1) 69 _ (0, 0) _ rfl (setRow_heap _ _ _ _ 69 (0, 0) R1f.out) Try.underlying69 rfl (by kernel_rfl)) rfl ?_
                exact ⟨rfl, row_below (below_then HB.out (below_then HB34.out HU3.out)) (by omega) _⟩
              exact AllReadyU.nil
            exact AllReadyU.nil
          exact AllReadyU.nil
        exact AllReadyU.nil
      · have eRA := HRA.out.symm.trans (rgNE_push5 HWH.out HPL.out HCH.out)
        subst eRA
        have HT0 : Hid (0 ≤ m.t ∧ m.t < 18446744073709551616) := HKK.out.t
        have TSQ := Lib.hid fun w' => machSeq_any a a2 cap cap2 c ⟨3, 5, k, m.thr, m.idx, m.kind, m.val, m.t, m.h, m.ok, m.ov⟩ w'
        unfold machL at TSQ
        try dsimp only at TSQ
        have TSS := Lib.hid fun w' (hb : Below w4.heap.size w4 w') => rslotSeqW_any _ c k (m.t / 2) hk (by have := HT0.out; omega) (by have := HT0.out; omega) w' (HV4.out.below hb) hg
        have TSV := Lib.hid fun w' (hb : Below w4.heap.size w4 w') => rslotValueW_any _ c k (m.t / 2) hk (by have := HT0.out; omega) (by have := HT0.out; omega) w' (HV4.out.below hb) hg
        have KS5 : Hid (∀ w', Below w4.heap.size w4 w' → (fun w' : World => (w'.cell? ⟨w.heap.size, 0, none⟩ = some (.int .i64 3) ∧ w'.cell? ⟨w.heap.size, 1, none⟩ = some (.int .i64 5) ∧ w'.cell? ⟨w.heap.size, 2, none⟩ = some (.slice a c.caps.length cap) ∧ w'.cell? ⟨w.heap.size, 3, none⟩ = some (.slice a2 c.starts.length cap2) ∧ w'.cell? ⟨w.heap.size, 4, none⟩ = some (.int .i64 c.threads) ∧ w'.cell? ⟨w.heap.size, 5, none⟩ = some (.int .i64 k) ∧ w'.cell? ⟨w.heap.size, 6, none⟩ = some (.int .i64 m.thr) ∧ w'.cell? ⟨w.heap.size, 7, none⟩ = some (.int .i64 m.idx) ∧ w'.cell? ⟨w.heap.size, 8, none⟩ = some (.int .i64 m.kind) ∧ w'.cell? ⟨w.heap.size, 9, none⟩ = some (.int .u64 m.val) ∧ w'.cell? ⟨w.heap.size, 10, none⟩ = some (.int .u64 m.t) ∧ w'.cell? ⟨w.heap.size, 11, none⟩ = some (.int .u64 m.h) ∧ w'.cell? ⟨w.heap.size, 12, none⟩ = some (.int .i64 m.ok) ∧ w'.cell? ⟨w.heap.size, 13, none⟩ = some (.int .u64 m.ov)) ∧ (w'.cell? ⟨bX, 0, none⟩ = some (.slice a c.caps.length cap) ∧ w'.cell? ⟨bX, 1, none⟩ = some (.slice a2 c.starts.length cap2) ∧ w'.cell? ⟨bX, 2, none⟩ = some (.int .i64 c.threads))) w') := fun w' hb => by
          obtain ⟨z0, z1, z2, z3, z4, z5, z6, z7, z8, z9, z10, z11, z12, z13⟩ := rowc14 ((hb.block _ (Nat.lt_of_lt_of_le h0W HB34.out.size)).trans R0'.out)
          obtain ⟨v0, v1, v2⟩ := rowc3 ((hb.block bX (Nat.lt_of_lt_of_le hXl HB4.out.size)).trans RX'.out)
          exact ⟨⟨z0, z1, z2, z3, z4, z5, z6, z7, z8, z9, z10, z11, z12, z13⟩, v0, v1, v2⟩
        go_upto_region 20 with fail
        clear x0 x1 x2 x3 x4 x5 x6 x7 x8 x9 x10 x11 x12 x13 y0 y1 y2
        refine untilK KS5 8 9 (by kernel_rfl) rfl ?_
        obtain ⟨u0, hu0, HU0⟩ := drew_pack w4
        rw [hu0]
        clear hu0
        have hSU0 := KS5.out _ HU0.out
        refine tkU (v := ?_) 0 la0 hSU0 (by kernel_rfl) (fun _ _ _ h => h) rfl ?_ ?_
        rotate_left
        · (intro w hSw; (try dsimp only at hSw); go_simp <;> with_reducible rfl)
        simp only [Act.put, List.setIfInBounds_toArray, List.set_cons_zero, List.set_cons_succ]
        refine tkU (v := ?_) 1 la1 hSU0 (by kernel_rfl) (fun _ _ _ h => h) rfl ?_ ?_
        rotate_left
        · (intro w hSw; (try dsimp only at hSw); go_simp <;> with_reducible rfl)
        simp only [Act.put, List.setIfInBounds_toArray, List.set_cons_zero, List.set_cons_succ]
        refine tkU (v := ?_) 2 la2 hSU0 (by kernel_rfl) (fun _ _ _ h => h) rfl ?_ ?_
        rotate_left
        · (intro w hSw; (try dsimp only at hSw); go_simp <;> with_reducible rfl)
        simp only [Act.put, List.setIfInBounds_toArray, List.set_cons_zero, List.set_cons_succ]
        refine tkU (v := ?_) 3 la3 hSU0 (by kernel_rfl) (fun _ _ _ h => h) rfl ?_ ?_
        rotate_left
        · (intro w hSw; (try dsimp only at hSw); go_simp <;> with_reducible rfl)
        simp only [Act.put, List.setIfInBounds_toArray, List.set_cons_zero, List.set_cons_succ]
        refine wpAnyU_ready (rs := [4]) (by kernel_rfl) rfl ?_
        refine AllReadyU.cons la4 rfl (fun K hK => ?_) ?_
        · go_simp
          go_at_call 56
          refine (TSQ.out _).mono ?_
          rintro e u1 ⟨rfl, hb⟩
          have HU1 := Lib.hid (below_then HU0.out hb)
          clear hb
          refine hK.out _ _ ?_ (fun hSU1 => ?_)
          · exact KS5.out _ HU1.out
          clear hK K hSU0
          try simp only [Act.put, List.setIfInBounds_toArray, List.set_cons_zero, List.set_cons_succ]
          refine wpAnyU_ready (rs := [5]) (by kernel_rfl) rfl ?_
          refine AllReadyU.cons la5 rfl (fun K hK => ?_) ?_
          · go_simp
            go_at_call 52
            refine (rqnext_any _ _ _).mono ?_
            rintro e w9 ⟨rfl, rfl⟩
            refine hK.out _ _ ?_ (fun hSU2 => ?_)
            · exact KS5.out _ HU1.out
            clear hK K hSU1
            try simp only [Act.put, List.setIfInBounds_toArray, List.set_cons_zero, List.set_cons_succ]
            refine wpAnyU_ready (rs := [6]) (by kernel_rfl) rfl ?_
            refine AllReadyU.cons la6 rfl (fun K hK => ?_) ?_
            · go_simp
              go_at_call 50
              refine (rpack_any _ _ _).mono ?_
              rintro e w9 ⟨rfl, rfl⟩
              refine hK.out _ _ ?_ (fun hSU3 => ?_)
              · exact KS5.out _ HU1.out
              clear hK K hSU2
              try simp only [Act.put, List.setIfInBounds_toArray, List.set_cons_zero, List.set_cons_succ]
              refine wpAnyU_ready (rs := [7]) (by kernel_rfl) rfl ?_
              refine AllReadyU.cons la7 rfl (fun K hK => ?_) ?_
              · go_simp
                go_at_call 54
                refine (access_any _ _ _ _ _).mono ?_
                rintro e u2 ⟨rfl, hb⟩
                have HU2 := Lib.hid (below_then HU1.out hb)
                clear hb
                unfold accV
                try dsimp only
                refine hK.out _ _ ?_ (fun hSU4 => ?_)
                · exact KS5.out _ HU2.out
                clear hK K hSU3
                try simp only [Act.put, List.setIfInBounds_toArray, List.set_cons_zero, List.set_cons_succ]
                refine wpAnyU_ready (rs := [8]) (by kernel_rfl) rfl ?_
                refine AllReadyU.free la8 rfl (by kernel_rfl) (fun K hK => ?_) ?_
                · have R1f := Lib.hid ((HU2.out.block (w.heap.size + 1) (by have := HB34.out.size; omega)).trans R1'.out)
                  refine step_store_row rfl 69 _ _ rfl (w.heap.size + 1) _ rfl rfl 69 #[.int .i64 0, .int .i64 0, .int .u64 0, .int .u64 0, .int .i64 0] R1f.out (by kernel_rfl) rfl (by simp [Value.oneCell']) ?_
                  refine hK.out _ _ ?_
                  clear hK K hSU4
                  try simp only [Act.put, List.setIfInBounds_toArray, List.set_cons_zero, List.set_cons_succ]
                  refine wpAnyU_done (by kernel_rfl) ?_ _
                  go_wp2_with fail
                  refine bodyPost_ret (v := accV ⟨3, c.base k, m.t, packI (nextI (m.t / 2) 1) false, 0⟩) (results_cell_row Try.results28 _ _ (w.heap.size + 1) 69 _ (0, 0) _ rfl (setRow_heap _ _ _ _ 69 (0, 0) R1f.out) Try.underlying69 rfl (by kernel_rfl)) rfl ?_
                  exact ⟨rfl, row_below (below_then HB.out (below_then HB34.out HU2.out)) (by omega) _⟩
                exact AllReadyU.nil
              exact AllReadyU.nil
            exact AllReadyU.nil
          exact AllReadyU.nil
        exact AllReadyU.nil
      · have eRA := HRA.out.symm.trans (rgNE_push6 HWH.out HPL.out HCH.out)
        subst eRA
        have HT0 : Hid (0 ≤ m.t ∧ m.t < 18446744073709551616) := HKK.out.t
        have TSQ := Lib.hid fun w' => machSeq_any a a2 cap cap2 c ⟨3, 6, k, m.thr, m.idx, m.kind, m.val, m.t, m.h, m.ok, m.ov⟩ w'
        unfold machL at TSQ
        try dsimp only at TSQ
        have TSS := Lib.hid fun w' (hb : Below w4.heap.size w4 w') => rslotSeqW_any _ c k (m.t / 2) hk (by have := HT0.out; omega) (by have := HT0.out; omega) w' (HV4.out.below hb) hg
        have TSV := Lib.hid fun w' (hb : Below w4.heap.size w4 w') => rslotValueW_any _ c k (m.t / 2) hk (by have := HT0.out; omega) (by have := HT0.out; omega) w' (HV4.out.below hb) hg
        have KS5 : Hid (∀ w', Below w4.heap.size w4 w' → (fun w' : World => (w'.cell? ⟨w.heap.size, 0, none⟩ = some (.int .i64 3) ∧ w'.cell? ⟨w.heap.size, 1, none⟩ = some (.int .i64 6) ∧ w'.cell? ⟨w.heap.size, 2, none⟩ = some (.slice a c.caps.length cap) ∧ w'.cell? ⟨w.heap.size, 3, none⟩ = some (.slice a2 c.starts.length cap2) ∧ w'.cell? ⟨w.heap.size, 4, none⟩ = some (.int .i64 c.threads) ∧ w'.cell? ⟨w.heap.size, 5, none⟩ = some (.int .i64 k) ∧ w'.cell? ⟨w.heap.size, 6, none⟩ = some (.int .i64 m.thr) ∧ w'.cell? ⟨w.heap.size, 7, none⟩ = some (.int .i64 m.idx) ∧ w'.cell? ⟨w.heap.size, 8, none⟩ = some (.int .i64 m.kind) ∧ w'.cell? ⟨w.heap.size, 9, none⟩ = some (.int .u64 m.val) ∧ w'.cell? ⟨w.heap.size, 10, none⟩ = some (.int .u64 m.t) ∧ w'.cell? ⟨w.heap.size, 11, none⟩ = some (.int .u64 m.h) ∧ w'.cell? ⟨w.heap.size, 12, none⟩ = some (.int .i64 m.ok) ∧ w'.cell? ⟨w.heap.size, 13, none⟩ = some (.int .u64 m.ov)) ∧ (w'.cell? ⟨bX, 0, none⟩ = some (.slice a c.caps.length cap) ∧ w'.cell? ⟨bX, 1, none⟩ = some (.slice a2 c.starts.length cap2) ∧ w'.cell? ⟨bX, 2, none⟩ = some (.int .i64 c.threads))) w') := fun w' hb => by
          obtain ⟨z0, z1, z2, z3, z4, z5, z6, z7, z8, z9, z10, z11, z12, z13⟩ := rowc14 ((hb.block _ (Nat.lt_of_lt_of_le h0W HB34.out.size)).trans R0'.out)
          obtain ⟨v0, v1, v2⟩ := rowc3 ((hb.block bX (Nat.lt_of_lt_of_le hXl HB4.out.size)).trans RX'.out)
          exact ⟨⟨z0, z1, z2, z3, z4, z5, z6, z7, z8, z9, z10, z11, z12, z13⟩, v0, v1, v2⟩
        go_upto_region 22 with fail
        clear x0 x1 x2 x3 x4 x5 x6 x7 x8 x9 x10 x11 x12 x13 y0 y1 y2
        refine untilK KS5 8 9 (by kernel_rfl) rfl ?_
        obtain ⟨u0, hu0, HU0⟩ := drew_pack w4
        rw [hu0]
        clear hu0
        have hSU0 := KS5.out _ HU0.out
        refine tkU (v := ?_) 0 la0 hSU0 (by kernel_rfl) (fun _ _ _ h => h) rfl ?_ ?_
        rotate_left
        · (intro w hSw; (try dsimp only at hSw); go_simp <;> with_reducible rfl)
        simp only [Act.put, List.setIfInBounds_toArray, List.set_cons_zero, List.set_cons_succ]
        refine tkU (v := ?_) 1 la1 hSU0 (by kernel_rfl) (fun _ _ _ h => h) rfl ?_ ?_
        rotate_left
        · (intro w hSw; (try dsimp only at hSw); go_simp <;> with_reducible rfl)
        simp only [Act.put, List.setIfInBounds_toArray, List.set_cons_zero, List.set_cons_succ]
        refine tkU (v := ?_) 2 la2 hSU0 (by kernel_rfl) (fun _ _ _ h => h) rfl ?_ ?_
        rotate_left
        · (intro w hSw; (try dsimp only at hSw); go_simp <;> with_reducible rfl)
        simp only [Act.put, List.setIfInBounds_toArray, List.set_cons_zero, List.set_cons_succ]
        refine tkU (v := ?_) 5 la5 hSU0 (by kernel_rfl) (fun _ _ _ h => h) rfl ?_ ?_
        rotate_left
        · (intro w hSw; (try dsimp only at hSw); go_simp <;> with_reducible rfl)
        simp only [Act.put, List.setIfInBounds_toArray, List.set_cons_zero, List.set_cons_succ]
        refine tkU (v := ?_) 6 la6 hSU0 (by kernel_rfl) (fun _ _ _ h => h) rfl ?_ ?_
        rotate_left
        · (intro w hSw; (try dsimp only at hSw); go_simp <;> with_reducible rfl)
        simp only [Act.put, List.setIfInBounds_toArray, List.set_cons_zero, List.set_cons_succ]
        refine wpAnyU_ready (rs := [3]) (by kernel_rfl) rfl ?_
        refine AllReadyU.cons la3 rfl (fun K hK => ?_) ?_
        · go_simp
          go_at_call 56
          refine (TSQ.out _).mono ?_
          rintro e u1 ⟨rfl, hb⟩
          have HU1 := Lib.hid (below_then HU0.out hb)
          clear hb
          refine hK.out _ _ ?_ (fun hSU1 => ?_)
          · exact KS5.out _ HU1.out
          clear hK K hSU0
          try simp only [Act.put, List.setIfInBounds_toArray, List.set_cons_zero, List.set_cons_succ]
          refine wpAnyU_ready (rs := [4]) (by kernel_rfl) rfl ?_
          refine AllReadyU.cons la4 rfl (fun K hK => ?_) ?_
          · go_simp
            go_at_call 57
            refine (TSV.out _ HU1.out).mono ?_
            rintro e u2 ⟨rfl, hb⟩
            have HU2 := Lib.hid (below_then HU1.out hb)
            clear hb
            refine hK.out _ _ ?_ (fun hSU2 => ?_)
            · exact KS5.out _ HU2.out
            clear hK K hSU1
            try simp only [Act.put, List.setIfInBounds_toArray, List.set_cons_zero, List.set_cons_succ]
            refine wpAnyU_ready (rs := [7]) (by kernel_rfl) rfl ?_
            refine AllReadyU.cons la7 rfl (fun K hK => ?_) ?_
            · go_simp
              go_at_call 54
              refine (access_any _ _ _ _ _).mono ?_
              rintro e u3 ⟨rfl, hb⟩
              have HU3 := Lib.hid (below_then HU2.out hb)
              clear hb
              unfold accV
              try dsimp only
              refine hK.out _ _ ?_ (fun hSU3 => ?_)
              · exact KS5.out _ HU3.out
              clear hK K hSU2
              try simp only [Act.put, List.setIfInBounds_toArray, List.set_cons_zero, List.set_cons_succ]
              refine wpAnyU_ready (rs := [8]) (by kernel_rfl) rfl ?_
              refine AllReadyU.free la8 rfl (by kernel_rfl) (fun K hK => ?_) ?_
              · have R1f := Lib.hid ((HU3.out.block (w.heap.size + 1) (by have := HB34.out.size; omega)).trans R1'.out)
                refine step_store_row rfl 69 _ _ rfl (w.heap.size + 1) _ rfl rfl 69 #[.int .i64 0, .int .i64 0, .int .u64 0, .int .u64 0, .int .i64 0] R1f.out (by kernel_rfl) rfl (by simp [Value.oneCell']) ?_
                refine hK.out _ _ ?_
                clear hK K hSU3
                try simp only [Act.put, List.setIfInBounds_toArray, List.set_cons_zero, List.set_cons_succ]
                refine wpAnyU_done (by kernel_rfl) ?_ _
                go_wp2_with fail
                refine bodyPost_ret (v := accV ⟨6, c.slotW k (m.t / 2) + 1, 0, m.val, 0⟩) (results_cell_row Try.results28 _ _ (w.heap.size + 1) 69 _ (0, 0) _ rfl (setRow_heap _ _ _ _ 69 (0, 0) R1f.out) Try.underlying69 rfl (by kernel_rfl)) rfl ?_
                exact ⟨rfl, row_below (below_then HB.out (below_then HB34.out HU3.out)) (by omega) _⟩
              exact AllReadyU.nil
            exact AllReadyU.nil
          exact AllReadyU.nil
        exact AllReadyU.nil
      · have eRA := HRA.out.symm.trans (rgNE_push7 HWH.out HPL.out HCH.out)
        subst eRA
        have HT0 : Hid (0 ≤ m.t ∧ m.t < 18446744073709551616) := HKK.out.t
        have TSQ := Lib.hid fun w' => machSeq_any a a2 cap cap2 c ⟨3, 7, k, m.thr, m.idx, m.kind, m.val, m.t, m.h, m.ok, m.ov⟩ w'
        unfold machL at TSQ
        try dsimp only at TSQ
        have TSS := Lib.hid fun w' (hb : Below w4.heap.size w4 w') => rslotSeqW_any _ c k (m.t / 2) hk (by have := HT0.out; omega) (by have := HT0.out; omega) w' (HV4.out.below hb) hg
        have TSV := Lib.hid fun w' (hb : Below w4.heap.size w4 w') => rslotValueW_any _ c k (m.t / 2) hk (by have := HT0.out; omega) (by have := HT0.out; omega) w' (HV4.out.below hb) hg
        have KS5 : Hid (∀ w', Below w4.heap.size w4 w' → (fun w' : World => (w'.cell? ⟨w.heap.size, 0, none⟩ = some (.int .i64 3) ∧ w'.cell? ⟨w.heap.size, 1, none⟩ = some (.int .i64 7) ∧ w'.cell? ⟨w.heap.size, 2, none⟩ = some (.slice a c.caps.length cap) ∧ w'.cell? ⟨w.heap.size, 3, none⟩ = some (.slice a2 c.starts.length cap2) ∧ w'.cell? ⟨w.heap.size, 4, none⟩ = some (.int .i64 c.threads) ∧ w'.cell? ⟨w.heap.size, 5, none⟩ = some (.int .i64 k) ∧ w'.cell? ⟨w.heap.size, 6, none⟩ = some (.int .i64 m.thr) ∧ w'.cell? ⟨w.heap.size, 7, none⟩ = some (.int .i64 m.idx) ∧ w'.cell? ⟨w.heap.size, 8, none⟩ = some (.int .i64 m.kind) ∧ w'.cell? ⟨w.heap.size, 9, none⟩ = some (.int .u64 m.val) ∧ w'.cell? ⟨w.heap.size, 10, none⟩ = some (.int .u64 m.t) ∧ w'.cell? ⟨w.heap.size, 11, none⟩ = some (.int .u64 m.h) ∧ w'.cell? ⟨w.heap.size, 12, none⟩ = some (.int .i64 m.ok) ∧ w'.cell? ⟨w.heap.size, 13, none⟩ = some (.int .u64 m.ov)) ∧ (w'.cell? ⟨bX, 0, none⟩ = some (.slice a c.caps.length cap) ∧ w'.cell? ⟨bX, 1, none⟩ = some (.slice a2 c.starts.length cap2) ∧ w'.cell? ⟨bX, 2, none⟩ = some (.int .i64 c.threads))) w') := fun w' hb => by
          obtain ⟨z0, z1, z2, z3, z4, z5, z6, z7, z8, z9, z10, z11, z12, z13⟩ := rowc14 ((hb.block _ (Nat.lt_of_lt_of_le h0W HB34.out.size)).trans R0'.out)
          obtain ⟨v0, v1, v2⟩ := rowc3 ((hb.block bX (Nat.lt_of_lt_of_le hXl HB4.out.size)).trans RX'.out)
          exact ⟨⟨z0, z1, z2, z3, z4, z5, z6, z7, z8, z9, z10, z11, z12, z13⟩, v0, v1, v2⟩
        go_upto_region 23 with fail
        clear x0 x1 x2 x3 x4 x5 x6 x7 x8 x9 x10 x11 x12 x13 y0 y1 y2
        refine untilK KS5 9 10 (by kernel_rfl) rfl ?_
        obtain ⟨u0, hu0, HU0⟩ := drew_pack w4
        rw [hu0]
        clear hu0
        have hSU0 := KS5.out _ HU0.out
        refine tkU (v := ?_) 0 la0 hSU0 (by kernel_rfl) (fun _ _ _ h => h) rfl ?_ ?_
        rotate_left
        · (intro w hSw; (try dsimp only at hSw); go_simp <;> with_reducible rfl)
        simp only [Act.put, List.setIfInBounds_toArray, List.set_cons_zero, List.set_cons_succ]
        refine tkU (v := ?_) 1 la1 hSU0 (by kernel_rfl) (fun _ _ _ h => h) rfl ?_ ?_
        rotate_left
        · (intro w hSw; (try dsimp only at hSw); go_simp <;> with_reducible rfl)
        simp only [Act.put, List.setIfInBounds_toArray, List.set_cons_zero, List.set_cons_succ]
        refine tkU (v := ?_) 2 la2 hSU0 (by kernel_rfl) (fun _ _ _ h => h) rfl ?_ ?_
        rotate_left
        · (intro w hSw; (try dsimp only at hSw); go_simp <;> with_reducible rfl)
        simp only [Act.put, List.setIfInBounds_toArray, List.set_cons_zero, List.set_cons_succ]
        refine tkU (v := ?_) 5 la5 hSU0 (by kernel_rfl) (fun _ _ _ h => h) rfl ?_ ?_
        rotate_left
        · (intro w hSw; (try dsimp only at hSw); go_simp <;> with_reducible rfl)
        simp only [Act.put, List.setIfInBounds_toArray, List.set_cons_zero, List.set_cons_succ]
        refine wpAnyU_ready (rs := [3]) (by kernel_rfl) rfl ?_
        refine AllReadyU.cons la3 rfl (fun K hK => ?_) ?_
        · go_simp
          go_at_call 56
          refine (TSQ.out _).mono ?_
          rintro e u1 ⟨rfl, hb⟩
          have HU1 := Lib.hid (below_then HU0.out hb)
          clear hb
          refine hK.out _ _ ?_ (fun hSU1 => ?_)
          · exact KS5.out _ HU1.out
          clear hK K hSU0
          try simp only [Act.put, List.setIfInBounds_toArray, List.set_cons_zero, List.set_cons_succ]
          refine wpAnyU_ready (rs := [4]) (by kernel_rfl) rfl ?_
          refine AllReadyU.cons la4 rfl (fun K hK => ?_) ?_
          · go_simp
            go_at_call 53
            refine (TSS.out _ HU1.out).mono ?_
            rintro e u2 ⟨rfl, hb⟩
            have HU2 := Lib.hid (below_then HU1.out hb)
            clear hb
            refine hK.out _ _ ?_ (fun hSU2 => ?_)
            · exact KS5.out _ HU2.out
            clear hK K hSU1
            try simp only [Act.put, List.setIfInBounds_toArray, List.set_cons_zero, List.set_cons_succ]
            refine wpAnyU_ready (rs := [6]) (by kernel_rfl) rfl ?_
            refine AllReadyU.cons la6 rfl (fun K hK => ?_) ?_
            · go_simp
              go_at_call 56
              refine (TSQ.out _).mono ?_
              rintro e u3 ⟨rfl, hb⟩
              have HU3 := Lib.hid (below_then HU2.out hb)
              clear hb
              refine hK.out _ _ ?_ (fun hSU3 => ?_)
              · exact KS5.out _ HU3.out
              clear hK K hSU2
              try simp only [Act.put, List.setIfInBounds_toArray, List.set_cons_zero, List.set_cons_succ]
              refine wpAnyU_ready (rs := [7]) (by kernel_rfl) rfl ?_
              refine AllReadyU.cons la7 rfl (fun K hK => ?_) ?_
              · go_simp
                go_at_call 52
                refine (rqnext_any _ _ _).mono ?_
                rintro e w9 ⟨rfl, rfl⟩
                refine hK.out _ _ ?_ (fun hSU4 => ?_)
                · exact KS5.out _ HU3.out
                clear hK K hSU3
                try simp only [Act.put, List.setIfInBounds_toArray, List.set_cons_zero, List.set_cons_succ]
                refine wpAnyU_ready (rs := [8]) (by kernel_rfl) rfl ?_
                refine AllReadyU.cons la8 rfl (fun K hK => ?_) ?_
                · go_simp
                  go_at_call 54
                  refine (access_any _ _ _ _ _).mono ?_
                  rintro e u4 ⟨rfl, hb⟩
                  have HU4 := Lib.hid (below_then HU3.out hb)
                  clear hb
                  unfold accV
                  try dsimp only
                  refine hK.out _ _ ?_ (fun hSU5 => ?_)
                  · exact KS5.out _ HU4.out
                  clear hK K hSU4
                  try simp only [Act.put, List.setIfInBounds_toArray, List.set_cons_zero, List.set_cons_succ]
                  refine wpAnyU_ready (rs := [9]) (by kernel_rfl) rfl ?_
                  refine AllReadyU.free la9 rfl (by kernel_rfl) (fun K hK => ?_) ?_
                  · have R1f := Lib.hid ((HU4.out.block (w.heap.size + 1) (by have := HB34.out.size; omega)).trans R1'.out)
                    refine step_store_row rfl 69 _ _ rfl (w.heap.size + 1) _ rfl rfl 69 #[.int .i64 0, .int .i64 0, .int .u64 0, .int .u64 0, .int .i64 0] R1f.out (by kernel_rfl) rfl (by simp [Value.oneCell']) ?_
                    refine hK.out _ _ ?_
                    clear hK K hSU5
                    try simp only [Act.put, List.setIfInBounds_toArray, List.set_cons_zero, List.set_cons_succ]
                    refine wpAnyU_done (by kernel_rfl) ?_ _
                    go_wp2_with fail
                    refine bodyPost_ret (v := accV ⟨2, c.slotW k (m.t / 2), 0, nextI (m.t / 2) 1, 0⟩) (results_cell_row Try.results28 _ _ (w.heap.size + 1) 69 _ (0, 0) _ rfl (setRow_heap _ _ _ _ 69 (0, 0) R1f.out) Try.underlying69 rfl (by kernel_rfl)) rfl ?_
                    exact ⟨rfl, row_below (below_then HB.out (below_then HB34.out HU4.out)) (by omega) _⟩
                  exact AllReadyU.nil
                exact AllReadyU.nil
              exact AllReadyU.nil
            exact AllReadyU.nil
          exact AllReadyU.nil
        exact AllReadyU.nil
      · have eRA := HRA.out.symm.trans (rgNE_pop1 HWH.out HPL.out HCH.out)
        subst eRA
        have HT0 : Hid (0 ≤ m.h ∧ m.h < 18446744073709551616) := HKK.out.h
        go_wp2_with fail
        refine (access_any _ _ _ _ _).mono ?_; rintro e w6 ⟨rfl, hb6⟩
        have HF := Lib.hid hb6
        clear hb6
        unfold accV
        dsimp only
        have R1f := Lib.hid ((HF.out.block (w.heap.size + 1) (by have := HB34.out.size; omega)).trans R1'.out)
        clear x0 x1 x2 x3 x4 x5 x6 x7 x8 x9 x10 x11 x12 x13 y0 y1 y2
        go_wp2_with (refine wpList_store_row rfl 69 _ _ rfl (w.heap.size + 1) _ rfl rfl 69 #[.int .i64 0, .int .i64 0, .int .u64 0, .int .u64 0, .int .i64 0] R1f.out (by kernel_rfl) rfl (by simp [Value.oneCell']) ?_)
        refine bodyPost_ret (v := accV ⟨1, c.base k + 1, 0, 0, 0⟩) (results_cell_row Try.results28 _ _ (w.heap.size + 1) 69 _ (0, 0) _ rfl (setRow_heap _ _ _ _ 69 (0, 0) R1f.out) Try.underlying69 rfl (by kernel_rfl)) rfl ?_
        exact ⟨rfl, row_below (below_then HB.out (below_then HB34.out HF.out)) (by omega) _⟩
      · have eRA := HRA.out.symm.trans (rgNE_pop2 HWH.out HPL.out HCH.out)
        subst eRA
        have HT0 : Hid (0 ≤ m.h ∧ m.h < 18446744073709551616) := HKK.out.h
        go_wp2_with fail
        refine (access_any _ _ _ _ _).mono ?_; rintro e w6 ⟨rfl, hb6⟩
        have HF := Lib.hid hb6
        clear hb6
        unfold accV
        dsimp only
        have R1f := Lib.hid ((HF.out.block (w.heap.size + 1) (by have := HB34.out.size; omega)).trans R1'.out)
        clear x0 x1 x2 x3 x4 x5 x6 x7 x8 x9 x10 x11 x12 x13 y0 y1 y2
        go_wp2_with (refine wpList_store_row rfl 69 _ _ rfl (w.heap.size + 1) _ rfl rfl 69 #[.int .i64 0, .int .i64 0, .int .u64 0, .int .u64 0, .int .i64 0] R1f.out (by kernel_rfl) rfl (by simp [Value.oneCell']) ?_)
        refine bodyPost_ret (v := accV ⟨1, c.base k, 0, 0, 0⟩) (results_cell_row Try.results28 _ _ (w.heap.size + 1) 69 _ (0, 0) _ rfl (setRow_heap _ _ _ _ 69 (0, 0) R1f.out) Try.underlying69 rfl (by kernel_rfl)) rfl ?_
        exact ⟨rfl, row_below (below_then HB.out (below_then HB34.out HF.out)) (by omega) _⟩
      · have eRA := HRA.out.symm.trans (rgNE_pop3 HWH.out HPL.out HCH.out)
        subst eRA
        have HT0 : Hid (0 ≤ m.h ∧ m.h < 18446744073709551616) := HKK.out.h
        go_wp2_with fail
        refine (access_any _ _ _ _ _).mono ?_; rintro e w6 ⟨rfl, hb6⟩
        have HF := Lib.hid hb6
        clear hb6
        unfold accV
        dsimp only
        have R1f := Lib.hid ((HF.out.block (w.heap.size + 1) (by have := HB34.out.size; omega)).trans R1'.out)
        clear x0 x1 x2 x3 x4 x5 x6 x7 x8 x9 x10 x11 x12 x13 y0 y1 y2
        go_wp2_with (refine wpList_store_row rfl 69 _ _ rfl (w.heap.size + 1) _ rfl rfl 69 #[.int .i64 0, .int .i64 0, .int .u64 0, .int .u64 0, .int .i64 0] R1f.out (by kernel_rfl) rfl (by simp [Value.oneCell']) ?_)
        refine bodyPost_ret (v := accV ⟨1, c.base k + 1, 0, 0, 0⟩) (results_cell_row Try.results28 _ _ (w.heap.size + 1) 69 _ (0, 0) _ rfl (setRow_heap _ _ _ _ 69 (0, 0) R1f.out) Try.underlying69 rfl (by kernel_rfl)) rfl ?_
        exact ⟨rfl, row_below (below_then HB.out (below_then HB34.out HF.out)) (by omega) _⟩
      · have eRA := HRA.out.symm.trans (rgNE_pop4 HWH.out HPL.out HCH.out)
        subst eRA
        have HT0 : Hid (0 ≤ m.h ∧ m.h < 18446744073709551616) := HKK.out.h
        have TSS := Lib.hid fun w' (hb : Below w4.heap.size w4 w') => rslotSeqW_any _ c k m.h hk (by have := HT0.out; omega) (by have := HT0.out; omega) w' (HV4.out.below hb) hg
        go_wp2_with fail
        refine (TSS.out _ (Below.refl _ _)).mono ?_; rintro e w5 ⟨rfl, hb5⟩
        have HB5 := Lib.hid hb5
        clear hb5
        go_wp2_with fail
        refine (access_any _ _ _ _ _).mono ?_; rintro e w6 ⟨rfl, hb6⟩
        have HF := Lib.hid (below_then HB5.out hb6)
        clear hb6 TSS
        unfold accV
        dsimp only
        have R1f := Lib.hid ((HF.out.block (w.heap.size + 1) (by have := HB34.out.size; omega)).trans R1'.out)
        clear x0 x1 x2 x3 x4 x5 x6 x7 x8 x9 x10 x11 x12 x13 y0 y1 y2
        go_wp2_with (refine wpList_store_row rfl 69 _ _ rfl (w.heap.size + 1) _ rfl rfl 69 #[.int .i64 0, .int .i64 0, .int .u64 0, .int .u64 0, .int .i64 0] R1f.out (by kernel_rfl) rfl (by simp [Value.oneCell']) ?_)
        refine bodyPost_ret (v := accV ⟨1, c.slotW k m.h, 0, 0, 0⟩) (results_cell_row Try.results28 _ _ (w.heap.size + 1) 69 _ (0, 0) _ rfl (setRow_heap _ _ _ _ 69 (0, 0) R1f.out) Try.underlying69 rfl (by kernel_rfl)) rfl ?_
        exact ⟨rfl, row_below (below_then HB.out (below_then HB34.out HF.out)) (by omega) _⟩
      · have eRA := HRA.out.symm.trans (rgNE_pop5 HWH.out HPL.out HCH.out)
        subst eRA
        have HT0 : Hid (0 ≤ m.h ∧ m.h < 18446744073709551616) := HKK.out.h
        have TSQ := Lib.hid fun w' => machSeq_any a a2 cap cap2 c ⟨4, 5, k, m.thr, m.idx, m.kind, m.val, m.t, m.h, m.ok, m.ov⟩ w'
        unfold machL at TSQ
        try dsimp only at TSQ
        have TSS := Lib.hid fun w' (hb : Below w4.heap.size w4 w') => rslotSeqW_any _ c k (m.h) hk (by have := HT0.out; omega) (by have := HT0.out; omega) w' (HV4.out.below hb) hg
        have TSV := Lib.hid fun w' (hb : Below w4.heap.size w4 w') => rslotValueW_any _ c k (m.h) hk (by have := HT0.out; omega) (by have := HT0.out; omega) w' (HV4.out.below hb) hg
        have TSZ := Lib.hid fun w' (hb : Below w4.heap.size w4 w') => rsize4_any _ c k w' (HV4.out.below hb) hk hg
        have KS5 : Hid (∀ w', Below w4.heap.size w4 w' → (fun w' : World => (w'.cell? ⟨w.heap.size, 0, none⟩ = some (.int .i64 4) ∧ w'.cell? ⟨w.heap.size, 1, none⟩ = some (.int .i64 5) ∧ w'.cell? ⟨w.heap.size, 2, none⟩ = some (.slice a c.caps.length cap) ∧ w'.cell? ⟨w.heap.size, 3, none⟩ = some (.slice a2 c.starts.length cap2) ∧ w'.cell? ⟨w.heap.size, 4, none⟩ = some (.int .i64 c.threads) ∧ w'.cell? ⟨w.heap.size, 5, none⟩ = some (.int .i64 k) ∧ w'.cell? ⟨w.heap.size, 6, none⟩ = some (.int .i64 m.thr) ∧ w'.cell? ⟨w.heap.size, 7, none⟩ = some (.int .i64 m.idx) ∧ w'.cell? ⟨w.heap.size, 8, none⟩ = some (.int .i64 m.kind) ∧ w'.cell? ⟨w.heap.size, 9, none⟩ = some (.int .u64 m.val) ∧ w'.cell? ⟨w.heap.size, 10, none⟩ = some (.int .u64 m.t) ∧ w'.cell? ⟨w.heap.size, 11, none⟩ = some (.int .u64 m.h) ∧ w'.cell? ⟨w.heap.size, 12, none⟩ = some (.int .i64 m.ok) ∧ w'.cell? ⟨w.heap.size, 13, none⟩ = some (.int .u64 m.ov)) ∧ (w'.cell? ⟨bX, 0, none⟩ = some (.slice a c.caps.length cap) ∧ w'.cell? ⟨bX, 1, none⟩ = some (.slice a2 c.starts.length cap2) ∧ w'.cell? ⟨bX, 2, none⟩ = some (.int .i64 c.threads))) w') := fun w' hb => by
          obtain ⟨z0, z1, z2, z3, z4, z5, z6, z7, z8, z9, z10, z11, z12, z13⟩ := rowc14 ((hb.block _ (Nat.lt_of_lt_of_le h0W HB34.out.size)).trans R0'.out)
          obtain ⟨v0, v1, v2⟩ := rowc3 ((hb.block bX (Nat.lt_of_lt_of_le hXl HB4.out.size)).trans RX'.out)
          exact ⟨⟨z0, z1, z2, z3, z4, z5, z6, z7, z8, z9, z10, z11, z12, z13⟩, v0, v1, v2⟩
        go_upto_region 34 with fail
        clear x0 x1 x2 x3 x4 x5 x6 x7 x8 x9 x10 x11 x12 x13 y0 y1 y2
        refine untilK KS5 7 8 (by kernel_rfl) rfl ?_
        obtain ⟨u0, hu0, HU0⟩ := drew_pack w4
        rw [hu0]
        clear hu0
        have hSU0 := KS5.out _ HU0.out
        refine tkU (v := ?_) 0 la0 hSU0 (by kernel_rfl) (fun _ _ _ h => h) rfl ?_ ?_
        rotate_left
        · (intro w hSw; (try dsimp only at hSw); go_simp <;> with_reducible rfl)
        simp only [Act.put, List.setIfInBounds_toArray, List.set_cons_zero, List.set_cons_succ]
        refine tkU (v := ?_) 1 la1 hSU0 (by kernel_rfl) (fun _ _ _ h => h) rfl ?_ ?_
        rotate_left
        · (intro w hSw; (try dsimp only at hSw); go_simp <;> with_reducible rfl)
        simp only [Act.put, List.setIfInBounds_toArray, List.set_cons_zero, List.set_cons_succ]
        refine tkU (v := ?_) 2 la2 hSU0 (by kernel_rfl) (fun _ _ _ h => h) rfl ?_ ?_
        rotate_left
        · (intro w hSw; (try dsimp only at hSw); go_simp <;> with_reducible rfl)
        simp only [Act.put, List.setIfInBounds_toArray, List.set_cons_zero, List.set_cons_succ]
        refine tkU (v := ?_) 3 la3 hSU0 (by kernel_rfl) (fun _ _ _ h => h) rfl ?_ ?_
        rotate_left
        · (intro w hSw; (try dsimp only at hSw); go_simp <;> with_reducible rfl)
        simp only [Act.put, List.setIfInBounds_toArray, List.set_cons_zero, List.set_cons_succ]
        refine tkU (v := ?_) 4 la4 hSU0 (by kernel_rfl) (fun _ _ _ h => h) rfl ?_ ?_
        rotate_left
        · (intro w hSw; (try dsimp only at hSw); go_simp <;> with_reducible rfl)
        simp only [Act.put, List.setIfInBounds_toArray, List.set_cons_zero, List.set_cons_succ]
        refine wpAnyU_ready (rs := [5]) (by kernel_rfl) rfl ?_
        refine AllReadyU.cons la5 rfl (fun K hK => ?_) ?_
        · go_simp
          go_at_call 52
          refine (rqnext_any _ _ _).mono ?_
          rintro e w9 ⟨rfl, rfl⟩
          refine hK.out _ _ ?_ (fun hSU1 => ?_)
          · exact KS5.out _ HU0.out
          clear hK K hSU0
          try simp only [Act.put, List.setIfInBounds_toArray, List.set_cons_zero, List.set_cons_succ]
          refine wpAnyU_ready (rs := [6]) (by kernel_rfl) rfl ?_
          refine AllReadyU.cons la6 rfl (fun K hK => ?_) ?_
          · go_simp
            go_at_call 54
            refine (access_any _ _ _ _ _).mono ?_
            rintro e u1 ⟨rfl, hb⟩
            have HU1 := Lib.hid (below_then HU0.out hb)
            clear hb
            unfold accV
            try dsimp only
            refine hK.out _ _ ?_ (fun hSU2 => ?_)
            · exact KS5.out _ HU1.out
            clear hK K hSU1
            try simp only [Act.put, List.setIfInBounds_toArray, List.set_cons_zero, List.set_cons_succ]
            refine wpAnyU_ready (rs := [7]) (by kernel_rfl) rfl ?_
            refine AllReadyU.free la7 rfl (by kernel_rfl) (fun K hK => ?_) ?_
            · have R1f := Lib.hid ((HU1.out.block (w.heap.size + 1) (by have := HB34.out.size; omega)).trans R1'.out)
              refine step_store_row rfl 69 _ _ rfl (w.heap.size + 1) _ rfl rfl 69 #[.int .i64 0, .int .i64 0, .int .u64 0, .int .u64 0, .int .i64 0] R1f.out (by kernel_rfl) rfl (by simp [Value.oneCell']) ?_
              refine hK.out _ _ ?_
              clear hK K hSU2
              try simp only [Act.put, List.setIfInBounds_toArray, List.set_cons_zero, List.set_cons_succ]
              refine wpAnyU_done (by kernel_rfl) ?_ _
              go_wp2_with fail
              refine bodyPost_ret (v := accV ⟨3, c.base k + 1, m.h, nextI m.h 1, 0⟩) (results_cell_row Try.results28 _ _ (w.heap.size + 1) 69 _ (0, 0) _ rfl (setRow_heap _ _ _ _ 69 (0, 0) R1f.out) Try.underlying69 rfl (by kernel_rfl)) rfl ?_
              exact ⟨rfl, row_below (below_then HB.out (below_then HB34.out HU1.out)) (by omega) _⟩
            exact AllReadyU.nil
          exact AllReadyU.nil
        exact AllReadyU.nil
      · have eRA := HRA.out.symm.trans (rgNE_pop6 HWH.out HPL.out HCH.out)
        subst eRA
        have HT0 : Hid (0 ≤ m.h ∧ m.h < 18446744073709551616) := HKK.out.h
        have TSS := Lib.hid fun w' (hb : Below w4.heap.size w4 w') => rslotValueW_any _ c k m.h hk (by have := HT0.out; omega) (by have := HT0.out; omega) w' (HV4.out.below hb) hg
        go_wp2_with fail
        refine (TSS.out _ (Below.refl _ _)).mono ?_; rintro e w5 ⟨rfl, hb5⟩
        have HB5 := Lib.hid hb5
        clear hb5
        go_wp2_with fail
        refine (access_any _ _ _ _ _).mono ?_; rintro e w6 ⟨rfl, hb6⟩
        have HF := Lib.hid (below_then HB5.out hb6)
        clear hb6 TSS
        unfold accV
        dsimp only
        have R1f := Lib.hid ((HF.out.block (w.heap.size + 1) (by have := HB34.out.size; omega)).trans R1'.out)
        clear x0 x1 x2 x3 x4 x5 x6 x7 x8 x9 x10 x11 x12 x13 y0 y1 y2
        go_wp2_with (refine wpList_store_row rfl 69 _ _ rfl (w.heap.size + 1) _ rfl rfl 69 #[.int .i64 0, .int .i64 0, .int .u64 0, .int .u64 0, .int .i64 0] R1f.out (by kernel_rfl) rfl (by simp [Value.oneCell']) ?_)
        refine bodyPost_ret (v := accV ⟨5, c.slotW k m.h + 1, 0, 0, 0⟩) (results_cell_row Try.results28 _ _ (w.heap.size + 1) 69 _ (0, 0) _ rfl (setRow_heap _ _ _ _ 69 (0, 0) R1f.out) Try.underlying69 rfl (by kernel_rfl)) rfl ?_
        exact ⟨rfl, row_below (below_then HB.out (below_then HB34.out HF.out)) (by omega) _⟩
      · have eRA := HRA.out.symm.trans (rgNE_pop7 HWH.out HPL.out HCH.out)
        subst eRA
        have HT0 : Hid (0 ≤ m.h ∧ m.h < 18446744073709551616) := HKK.out.h
        have TSQ := Lib.hid fun w' => machSeq_any a a2 cap cap2 c ⟨4, 7, k, m.thr, m.idx, m.kind, m.val, m.t, m.h, m.ok, m.ov⟩ w'
        unfold machL at TSQ
        try dsimp only at TSQ
        have TSS := Lib.hid fun w' (hb : Below w4.heap.size w4 w') => rslotSeqW_any _ c k (m.h) hk (by have := HT0.out; omega) (by have := HT0.out; omega) w' (HV4.out.below hb) hg
        have TSV := Lib.hid fun w' (hb : Below w4.heap.size w4 w') => rslotValueW_any _ c k (m.h) hk (by have := HT0.out; omega) (by have := HT0.out; omega) w' (HV4.out.below hb) hg
        have TSZ := Lib.hid fun w' (hb : Below w4.heap.size w4 w') => rsize4_any _ c k w' (HV4.out.below hb) hk hg
        have KS5 : Hid (∀ w', Below w4.heap.size w4 w' → (fun w' : World => (w'.cell? ⟨w.heap.size, 0, none⟩ = some (.int .i64 4) ∧ w'.cell? ⟨w.heap.size, 1, none⟩ = some (.int .i64 7) ∧ w'.cell? ⟨w.heap.size, 2, none⟩ = some (.slice a c.caps.length cap) ∧ w'.cell? ⟨w.heap.size, 3, none⟩ = some (.slice a2 c.starts.length cap2) ∧ w'.cell? ⟨w.heap.size, 4, none⟩ = some (.int .i64 c.threads) ∧ w'.cell? ⟨w.heap.size, 5, none⟩ = some (.int .i64 k) ∧ w'.cell? ⟨w.heap.size, 6, none⟩ = some (.int .i64 m.thr) ∧ w'.cell? ⟨w.heap.size, 7, none⟩ = some (.int .i64 m.idx) ∧ w'.cell? ⟨w.heap.size, 8, none⟩ = some (.int .i64 m.kind) ∧ w'.cell? ⟨w.heap.size, 9, none⟩ = some (.int .u64 m.val) ∧ w'.cell? ⟨w.heap.size, 10, none⟩ = some (.int .u64 m.t) ∧ w'.cell? ⟨w.heap.size, 11, none⟩ = some (.int .u64 m.h) ∧ w'.cell? ⟨w.heap.size, 12, none⟩ = some (.int .i64 m.ok) ∧ w'.cell? ⟨w.heap.size, 13, none⟩ = some (.int .u64 m.ov)) ∧ (w'.cell? ⟨bX, 0, none⟩ = some (.slice a c.caps.length cap) ∧ w'.cell? ⟨bX, 1, none⟩ = some (.slice a2 c.starts.length cap2) ∧ w'.cell? ⟨bX, 2, none⟩ = some (.int .i64 c.threads))) w') := fun w' hb => by
          obtain ⟨z0, z1, z2, z3, z4, z5, z6, z7, z8, z9, z10, z11, z12, z13⟩ := rowc14 ((hb.block _ (Nat.lt_of_lt_of_le h0W HB34.out.size)).trans R0'.out)
          obtain ⟨v0, v1, v2⟩ := rowc3 ((hb.block bX (Nat.lt_of_lt_of_le hXl HB4.out.size)).trans RX'.out)
          exact ⟨⟨z0, z1, z2, z3, z4, z5, z6, z7, z8, z9, z10, z11, z12, z13⟩, v0, v1, v2⟩
        go_upto_region 37 with fail
        clear x0 x1 x2 x3 x4 x5 x6 x7 x8 x9 x10 x11 x12 x13 y0 y1 y2
        refine untilK KS5 12 13 (by kernel_rfl) rfl ?_
        obtain ⟨u0, hu0, HU0⟩ := drew_pack w4
        rw [hu0]
        clear hu0
        have hSU0 := KS5.out _ HU0.out
        refine tkU (v := ?_) 0 la0 hSU0 (by kernel_rfl) (fun _ _ _ h => h) rfl ?_ ?_
        rotate_left
        · (intro w hSw; (try dsimp only at hSw); go_simp <;> with_reducible rfl)
        simp only [Act.put, List.setIfInBounds_toArray, List.set_cons_zero, List.set_cons_succ]
        refine tkU (v := ?_) 1 la1 hSU0 (by kernel_rfl) (fun _ _ _ h => h) rfl ?_ ?_
        rotate_left
        · (intro w hSw; (try dsimp only at hSw); go_simp <;> with_reducible rfl)
        simp only [Act.put, List.setIfInBounds_toArray, List.set_cons_zero, List.set_cons_succ]
        refine tkU (v := ?_) 2 la2 hSU0 (by kernel_rfl) (fun _ _ _ h => h) rfl ?_ ?_
        rotate_left
        · (intro w hSw; (try dsimp only at hSw); go_simp <;> with_reducible rfl)
        simp only [Act.put, List.setIfInBounds_toArray, List.set_cons_zero, List.set_cons_succ]
        refine tkU (v := ?_) 3 la3 hSU0 (by kernel_rfl) (fun _ _ _ h => h) rfl ?_ ?_
        rotate_left
        · (intro w hSw; (try dsimp only at hSw); go_simp <;> with_reducible rfl)
        simp only [Act.put, List.setIfInBounds_toArray, List.set_cons_zero, List.set_cons_succ]
        refine tkU (v := ?_) 5 la5 hSU0 (by kernel_rfl) (fun _ _ _ h => h) rfl ?_ ?_
        rotate_left
        · (intro w hSw; (try dsimp only at hSw); go_simp <;> with_reducible rfl)
        simp only [Act.put, List.setIfInBounds_toArray, List.set_cons_zero, List.set_cons_succ]
        refine tkU (v := ?_) 6 la6 hSU0 (by kernel_rfl) (fun _ _ _ h => h) rfl ?_ ?_
        rotate_left
        · (intro w hSw; (try dsimp only at hSw); go_simp <;> with_reducible rfl)
        simp only [Act.put, List.setIfInBounds_toArray, List.set_cons_zero, List.set_cons_succ]
        refine tkU (v := ?_) 7 la7 hSU0 (by kernel_rfl) (fun _ _ _ h => h) rfl ?_ ?_
        rotate_left
        · (intro w hSw; (try dsimp only at hSw); go_simp <;> with_reducible rfl)
        simp only [Act.put, List.setIfInBounds_toArray, List.set_cons_zero, List.set_cons_succ]
        refine tkU (v := ?_) 8 la8 hSU0 (by kernel_rfl) (fun _ _ _ h => h) rfl ?_ ?_
        rotate_left
        · (intro w hSw; (try dsimp only at hSw); go_simp <;> with_reducible rfl)
        simp only [Act.put, List.setIfInBounds_toArray, List.set_cons_zero, List.set_cons_succ]
        refine wpAnyU_ready (rs := [4]) (by kernel_rfl) rfl ?_
        refine AllReadyU.cons la4 rfl (fun K hK => ?_) ?_
        · go_simp
          go_at_call 53
          refine (TSS.out _ HU0.out).mono ?_
          rintro e u1 ⟨rfl, hb⟩
          have HU1 := Lib.hid (below_then HU0.out hb)
          clear hb
          refine hK.out _ _ ?_ (fun hSU1 => ?_)
          · exact KS5.out _ HU1.out
          clear hK K hSU0
          try simp only [Act.put, List.setIfInBounds_toArray, List.set_cons_zero, List.set_cons_succ]
          refine wpAnyU_ready (rs := [9]) (by kernel_rfl) rfl ?_
          refine AllReadyU.cons la9 rfl (fun K hK => ?_) ?_
          · go_simp
            go_at_call 51
            refine (TSZ.out _ HU1.out).mono ?_
            rintro e u2 ⟨rfl, hb⟩
            have HU2 := Lib.hid (below_then HU1.out hb)
            clear hb
            refine hK.out _ _ ?_ (fun hSU2 => ?_)
            · exact KS5.out _ HU2.out
            clear hK K hSU1
            try simp only [Act.put, List.setIfInBounds_toArray, List.set_cons_zero, List.set_cons_succ]
            refine wpAnyU_ready (rs := [10]) (by kernel_rfl) rfl ?_
            refine AllReadyU.cons la10 rfl (fun K hK => ?_) ?_
            · go_simp
              go_at_call 52
              refine (rqnext_any _ _ _).mono ?_
              rintro e w9 ⟨rfl, rfl⟩
              refine hK.out _ _ ?_ (fun hSU3 => ?_)
              · exact KS5.out _ HU2.out
              clear hK K hSU2
              try simp only [Act.put, List.setIfInBounds_toArray, List.set_cons_zero, List.set_cons_succ]
              refine wpAnyU_ready (rs := [11]) (by kernel_rfl) rfl ?_
              refine AllReadyU.cons la11 rfl (fun K hK => ?_) ?_
              · go_simp
                go_at_call 54
                refine (access_any _ _ _ _ _).mono ?_
                rintro e u3 ⟨rfl, hb⟩
                have HU3 := Lib.hid (below_then HU2.out hb)
                clear hb
                unfold accV
                try dsimp only
                refine hK.out _ _ ?_ (fun hSU4 => ?_)
                · exact KS5.out _ HU3.out
                clear hK K hSU3
                try simp only [Act.put, List.setIfInBounds_toArray, List.set_cons_zero, List.set_cons_succ]
                refine wpAnyU_ready (rs := [12]) (by kernel_rfl) rfl ?_
                refine AllReadyU.free la12 rfl (by kernel_rfl) (fun K hK => ?_) ?_
                · have R1f := Lib.hid ((HU3.out.block (w.heap.size + 1) (by have := HB34.out.size; omega)).trans R1'.out)
                  refine step_store_row rfl 69 _ _ rfl (w.heap.size + 1) _ rfl rfl 69 #[.int .i64 0, .int .i64 0, .int .u64 0, .int .u64 0, .int .i64 0] R1f.out (by kernel_rfl) rfl (by simp [Value.oneCell']) ?_
                  refine hK.out _ _ ?_
                  clear hK K hSU4
                  try simp only [Act.put, List.setIfInBounds_toArray, List.set_cons_zero, List.set_cons_succ]
                  refine wpAnyU_done (by kernel_rfl) ?_ _
                  go_wp2_with fail
                  refine bodyPost_ret (v := accV ⟨2, c.slotW k m.h, 0, nextI m.h (c.size k), 0⟩) (results_cell_row Try.results28 _ _ (w.heap.size + 1) 69 _ (0, 0) _ rfl (setRow_heap _ _ _ _ 69 (0, 0) R1f.out) Try.underlying69 rfl (by kernel_rfl)) rfl ?_
                  exact ⟨rfl, row_below (below_then HB.out (below_then HB34.out HU3.out)) (by omega) _⟩
                exact AllReadyU.nil
              exact AllReadyU.nil
            exact AllReadyU.nil
          exact AllReadyU.nil
        exact AllReadyU.nil
      · have eRA := HRA.out.symm.trans (rgNE_shut1 HWH.out HPL.out HCH.out)
        subst eRA
        have HT0 : Hid (0 ≤ m.t ∧ m.t < 18446744073709551616) := HKK.out.t
        go_wp2_with fail
        refine (access_any _ _ _ _ _).mono ?_; rintro e w6 ⟨rfl, hb6⟩
        have HF := Lib.hid hb6
        clear hb6
        unfold accV
        dsimp only
        have R1f := Lib.hid ((HF.out.block (w.heap.size + 1) (by have := HB34.out.size; omega)).trans R1'.out)
        clear x0 x1 x2 x3 x4 x5 x6 x7 x8 x9 x10 x11 x12 x13 y0 y1 y2
        go_wp2_with (refine wpList_store_row rfl 69 _ _ rfl (w.heap.size + 1) _ rfl rfl 69 #[.int .i64 0, .int .i64 0, .int .u64 0, .int .u64 0, .int .i64 0] R1f.out (by kernel_rfl) rfl (by simp [Value.oneCell']) ?_)
        refine bodyPost_ret (v := accV ⟨1, c.base k, 0, 0, 0⟩) (results_cell_row Try.results28 _ _ (w.heap.size + 1) 69 _ (0, 0) _ rfl (setRow_heap _ _ _ _ 69 (0, 0) R1f.out) Try.underlying69 rfl (by kernel_rfl)) rfl ?_
        exact ⟨rfl, row_below (below_then HB.out (below_then HB34.out HF.out)) (by omega) _⟩
      · have eRA := HRA.out.symm.trans (rgNE_shut2 HWH.out HPL.out HCH.out)
        subst eRA
        have HT0 : Hid (0 ≤ m.t ∧ m.t < 18446744073709551616) := HKK.out.t
        have TSQ := Lib.hid fun w' => machSeq_any a a2 cap cap2 c ⟨5, 2, k, m.thr, m.idx, m.kind, m.val, m.t, m.h, m.ok, m.ov⟩ w'
        unfold machL at TSQ
        try dsimp only at TSQ
        have TSS := Lib.hid fun w' (hb : Below w4.heap.size w4 w') => rslotSeqW_any _ c k (m.t / 2) hk (by have := HT0.out; omega) (by have := HT0.out; omega) w' (HV4.out.below hb) hg
        have TSV := Lib.hid fun w' (hb : Below w4.heap.size w4 w') => rslotValueW_any _ c k (m.t / 2) hk (by have := HT0.out; omega) (by have := HT0.out; omega) w' (HV4.out.below hb) hg
        have TSZ := Lib.hid fun w' (hb : Below w4.heap.size w4 w') => rsize4_any _ c k w' (HV4.out.below hb) hk hg
        have KS5 : Hid (∀ w', Below w4.heap.size w4 w' → (fun w' : World => (w'.cell? ⟨w.heap.size, 0, none⟩ = some (.int .i64 5) ∧ w'.cell? ⟨w.heap.size, 1, none⟩ = some (.int .i64 2) ∧ w'.cell? ⟨w.heap.size, 2, none⟩ = some (.slice a c.caps.length cap) ∧ w'.cell? ⟨w.heap.size, 3, none⟩ = some (.slice a2 c.starts.length cap2) ∧ w'.cell? ⟨w.heap.size, 4, none⟩ = some (.int .i64 c.threads) ∧ w'.cell? ⟨w.heap.size, 5, none⟩ = some (.int .i64 k) ∧ w'.cell? ⟨w.heap.size, 6, none⟩ = some (.int .i64 m.thr) ∧ w'.cell? ⟨w.heap.size, 7, none⟩ = some (.int .i64 m.idx) ∧ w'.cell? ⟨w.heap.size, 8, none⟩ = some (.int .i64 m.kind) ∧ w'.cell? ⟨w.heap.size, 9, none⟩ = some (.int .u64 m.val) ∧ w'.cell? ⟨w.heap.size, 10, none⟩ = some (.int .u64 m.t) ∧ w'.cell? ⟨w.heap.size, 11, none⟩ = some (.int .u64 m.h) ∧ w'.cell? ⟨w.heap.size, 12, none⟩ = some (.int .i64 m.ok) ∧ w'.cell? ⟨w.heap.size, 13, none⟩ = some (.int .u64 m.ov)) ∧ (w'.cell? ⟨bX, 0, none⟩ = some (.slice a c.caps.length cap) ∧ w'.cell? ⟨bX, 1, none⟩ = some (.slice a2 c.starts.length cap2) ∧ w'.cell? ⟨bX, 2, none⟩ = some (.int .i64 c.threads))) w') := fun w' hb => by
          obtain ⟨z0, z1, z2, z3, z4, z5, z6, z7, z8, z9, z10, z11, z12, z13⟩ := rowc14 ((hb.block _ (Nat.lt_of_lt_of_le h0W HB34.out.size)).trans R0'.out)
          obtain ⟨v0, v1, v2⟩ := rowc3 ((hb.block bX (Nat.lt_of_lt_of_le hXl HB4.out.size)).trans RX'.out)
          exact ⟨⟨z0, z1, z2, z3, z4, z5, z6, z7, z8, z9, z10, z11, z12, z13⟩, v0, v1, v2⟩
        go_upto_region 41 with fail
        clear x0 x1 x2 x3 x4 x5 x6 x7 x8 x9 x10 x11 x12 x13 y0 y1 y2
        refine untilK KS5 7 8 (by kernel_rfl) rfl ?_
        obtain ⟨u0, hu0, HU0⟩ := drew_pack w4
        rw [hu0]
        clear hu0
        have hSU0 := KS5.out _ HU0.out
        refine tkU (v := ?_) 0 la0 hSU0 (by kernel_rfl) (fun _ _ _ h => h) rfl ?_ ?_
        rotate_left
        · (intro w hSw; (try dsimp only at hSw); go_simp <;> with_reducible rfl)
        simp only [Act.put, List.setIfInBounds_toArray, List.set_cons_zero, List.set_cons_succ]
        refine tkU (v := ?_) 1 la1 hSU0 (by kernel_rfl) (fun _ _ _ h => h) rfl ?_ ?_
        rotate_left
        · (intro w hSw; (try dsimp only at hSw); go_simp <;> with_reducible rfl)
        simp only [Act.put, List.setIfInBounds_toArray, List.set_cons_zero, List.set_cons_succ]
        refine tkU (v := ?_) 2 la2 hSU0 (by kernel_rfl) (fun _ _ _ h => h) rfl ?_ ?_
        rotate_left
        · (intro w hSw; (try dsimp only at hSw); go_simp <;> with_reducible rfl)
        simp only [Act.put, List.setIfInBounds_toArray, List.set_cons_zero, List.set_cons_succ]
        refine tkU (v := ?_) 3 la3 hSU0 (by kernel_rfl) (fun _ _ _ h => h) rfl ?_ ?_
        rotate_left
        · (intro w hSw; (try dsimp only at hSw); go_simp <;> with_reducible rfl)
        simp only [Act.put, List.setIfInBounds_toArray, List.set_cons_zero, List.set_cons_succ]
        refine wpAnyU_ready (rs := [4]) (by kernel_rfl) rfl ?_
        refine AllReadyU.cons la4 rfl (fun K hK => ?_) ?_
        · go_simp
          go_at_call 56
          refine (TSQ.out _).mono ?_
          rintro e u1 ⟨rfl, hb⟩
          have HU1 := Lib.hid (below_then HU0.out hb)
          clear hb
          refine hK.out _ _ ?_ (fun hSU1 => ?_)
          · exact KS5.out _ HU1.out
          clear hK K hSU0
          try simp only [Act.put, List.setIfInBounds_toArray, List.set_cons_zero, List.set_cons_succ]
          refine wpAnyU_ready (rs := [5]) (by kernel_rfl) rfl ?_
          refine AllReadyU.cons la5 rfl (fun K hK => ?_) ?_
          · go_simp
            go_at_call 50
            refine (rpack_any _ _ _).mono ?_
            rintro e w9 ⟨rfl, rfl⟩
            refine hK.out _ _ ?_ (fun hSU2 => ?_)
            · exact KS5.out _ HU1.out
            clear hK K hSU1
            try simp only [Act.put, List.setIfInBounds_toArray, List.set_cons_zero, List.set_cons_succ]
            refine wpAnyU_ready (rs := [6]) (by kernel_rfl) rfl ?_
            refine AllReadyU.cons la6 rfl (fun K hK => ?_) ?_
            · go_simp
              go_at_call 54
              refine (access_any _ _ _ _ _).mono ?_
              rintro e u2 ⟨rfl, hb⟩
              have HU2 := Lib.hid (below_then HU1.out hb)
              clear hb
              unfold accV
              try dsimp only
              refine hK.out _ _ ?_ (fun hSU3 => ?_)
              · exact KS5.out _ HU2.out
              clear hK K hSU2
              try simp only [Act.put, List.setIfInBounds_toArray, List.set_cons_zero, List.set_cons_succ]
              refine wpAnyU_ready (rs := [7]) (by kernel_rfl) rfl ?_
              refine AllReadyU.free la7 rfl (by kernel_rfl) (fun K hK => ?_) ?_
              · have R1f := Lib.hid ((HU2.out.block (w.heap.size + 1) (by have := HB34.out.size; omega)).trans R1'.out)
                refine step_store_row rfl 69 _ _ rfl (w.heap.size + 1) _ rfl rfl 69 #[.int .i64 0, .int .i64 0, .int .u64 0, .int .u64 0, .int .i64 0] R1f.out (by kernel_rfl) rfl (by simp [Value.oneCell']) ?_
                refine hK.out _ _ ?_
                clear hK K hSU3
                try simp only [Act.put, List.setIfInBounds_toArray, List.set_cons_zero, List.set_cons_succ]
                refine wpAnyU_done (by kernel_rfl) ?_ _
                go_wp2_with fail
                refine bodyPost_ret (v := accV ⟨3, c.base k, m.t, packI (m.t / 2) true, 0⟩) (results_cell_row Try.results28 _ _ (w.heap.size + 1) 69 _ (0, 0) _ rfl (setRow_heap _ _ _ _ 69 (0, 0) R1f.out) Try.underlying69 rfl (by kernel_rfl)) rfl ?_
                exact ⟨rfl, row_below (below_then HB.out (below_then HB34.out HU2.out)) (by omega) _⟩
              exact AllReadyU.nil
            exact AllReadyU.nil
          exact AllReadyU.nil
        exact AllReadyU.nil
      · have eRA := HRA.out.symm.trans (rgNE_count1 HWH.out HPL.out HCH.out)
        subst eRA
        have HT0 : Hid (0 ≤ m.t ∧ m.t < 18446744073709551616) := HKK.out.t
        go_wp2_with fail
        refine (access_any _ _ _ _ _).mono ?_; rintro e w6 ⟨rfl, hb6⟩
        have HF := Lib.hid hb6
        clear hb6
        unfold accV
        dsimp only
        have R1f := Lib.hid ((HF.out.block (w.heap.size + 1) (by have := HB34.out.size; omega)).trans R1'.out)
        clear x0 x1 x2 x3 x4 x5 x6 x7 x8 x9 x10 x11 x12 x13 y0 y1 y2
        go_wp2_with (refine wpList_store_row rfl 69 _ _ rfl (w.heap.size + 1) _ rfl rfl 69 #[.int .i64 0, .int .i64 0, .int .u64 0, .int .u64 0, .int .i64 0] R1f.out (by kernel_rfl) rfl (by simp [Value.oneCell']) ?_)
        refine bodyPost_ret (v := accV ⟨1, c.base k, 0, 0, 0⟩) (results_cell_row Try.results28 _ _ (w.heap.size + 1) 69 _ (0, 0) _ rfl (setRow_heap _ _ _ _ 69 (0, 0) R1f.out) Try.underlying69 rfl (by kernel_rfl)) rfl ?_
        exact ⟨rfl, row_below (below_then HB.out (below_then HB34.out HF.out)) (by omega) _⟩
      · have eRA := HRA.out.symm.trans (rgNE_count2 HWH.out HPL.out HCH.out)
        subst eRA
        have HT0 : Hid (0 ≤ m.t ∧ m.t < 18446744073709551616) := HKK.out.t
        go_wp2_with fail
        refine (access_any _ _ _ _ _).mono ?_; rintro e w6 ⟨rfl, hb6⟩
        have HF := Lib.hid hb6
        clear hb6
        unfold accV
        dsimp only
        have R1f := Lib.hid ((HF.out.block (w.heap.size + 1) (by have := HB34.out.size; omega)).trans R1'.out)
        clear x0 x1 x2 x3 x4 x5 x6 x7 x8 x9 x10 x11 x12 x13 y0 y1 y2
        go_wp2_with (refine wpList_store_row rfl 69 _ _ rfl (w.heap.size + 1) _ rfl rfl 69 #[.int .i64 0, .int .i64 0, .int .u64 0, .int .u64 0, .int .i64 0] R1f.out (by kernel_rfl) rfl (by simp [Value.oneCell']) ?_)
        refine bodyPost_ret (v := accV ⟨1, c.base k + 1, 0, 0, 0⟩) (results_cell_row Try.results28 _ _ (w.heap.size + 1) 69 _ (0, 0) _ rfl (setRow_heap _ _ _ _ 69 (0, 0) R1f.out) Try.underlying69 rfl (by kernel_rfl)) rfl ?_
        exact ⟨rfl, row_below (below_then HB.out (below_then HB34.out HF.out)) (by omega) _⟩
      · have eRA := HRA.out.symm.trans (rgNE_count3 HWH.out HPL.out HCH.out)
        subst eRA
        have HT0 : Hid (0 ≤ m.t ∧ m.t < 18446744073709551616) := HKK.out.t
        go_wp2_with fail
        refine (access_any _ _ _ _ _).mono ?_; rintro e w6 ⟨rfl, hb6⟩
        have HF := Lib.hid hb6
        clear hb6
        unfold accV
        dsimp only
        have R1f := Lib.hid ((HF.out.block (w.heap.size + 1) (by have := HB34.out.size; omega)).trans R1'.out)
        clear x0 x1 x2 x3 x4 x5 x6 x7 x8 x9 x10 x11 x12 x13 y0 y1 y2
        go_wp2_with (refine wpList_store_row rfl 69 _ _ rfl (w.heap.size + 1) _ rfl rfl 69 #[.int .i64 0, .int .i64 0, .int .u64 0, .int .u64 0, .int .i64 0] R1f.out (by kernel_rfl) rfl (by simp [Value.oneCell']) ?_)
        refine bodyPost_ret (v := accV ⟨1, c.base k, 0, 0, 0⟩) (results_cell_row Try.results28 _ _ (w.heap.size + 1) 69 _ (0, 0) _ rfl (setRow_heap _ _ _ _ 69 (0, 0) R1f.out) Try.underlying69 rfl (by kernel_rfl)) rfl ?_
        exact ⟨rfl, row_below (below_then HB.out (below_then HB34.out HF.out)) (by omega) _⟩
end Go.Proofs.Ytjnlkemdaffgbaa
