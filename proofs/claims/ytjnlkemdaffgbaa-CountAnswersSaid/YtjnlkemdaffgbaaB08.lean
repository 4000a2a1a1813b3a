import Derived.Deep.OwnRows
import Derived.Deep.DeepCutAuto
import Derived.Test.YtjnlkemdaffgbaaB06
import Derived.Test.YtjnlkemdaffgbaaB02
set_option linter.unusedVariables false
set_option linter.unusedSimpArgs false
/- The memory with which a configuration begins: the document's answer. -/
namespace Go.Proofs.Ytjnlkemdaffgbaa
open Go.ChangeShapes Go.WideShapes Go.ChangeAt Go.RowKit
set_option maxRecDepth 100000

/-- while the words are made: their row in block X, the memory's variable in block V, its lists in block Z; all else below block D as it was -/
structure RefI (w0 wr : World) (D X V Z t m : Nat) (ws : List Int) : Prop where
  dx : D ≤ X
  dv : D ≤ V
  dz : D ≤ Z
  xv : X ≠ V
  xz : X ≠ Z
  row : OwnI wr D 27 .u64 (.slice (some ⟨X, 0, none⟩) t t) ws
  len : ws.length = t
  box : wr.heap[V]? = some (.cells #[.slice (some ⟨X, 0, none⟩) t t, .slice (some ⟨Z, 0, none⟩) m m, .int .i64 0] 39 (0, 0))
  lists : wr.ownsRow D 33 1 (.slice (some ⟨Z, 0, none⟩) m m) m (List.replicate m (.slice none 0 0))
  below : Below D w0 wr
theorem RefI.lt {w0 wr : World} {D X V Z t m : Nat} {ws : List Int} (h : RefI w0 wr D X V Z t m ws) : D ≤ wr.heap.size := by
  have h1 := (Array.getElem?_eq_some_iff.1 h.box).1
  have h2 := h.dv
  omega
theorem RefI.next {w0 wr w2 : World} {D X V Z t m : Nat} {ws : List Int} (h : RefI w0 wr D X V Z t m ws) (hb : Below wr.heap.size wr w2) : RefI w0 w2 D X V Z t m ws :=
  ⟨h.dx, h.dv, h.dz, h.xv, h.xz, h.row.below hb, h.len, (hb.block V (Array.getElem?_eq_some_iff.1 h.box).1).trans h.box, World.ownsRow.kept h.lists (grown_below (row := none) hb) (.inr (by simp [Value.ownBlock])), h.below.trans (hb.mono h.lt)⟩
theorem RefI.set {w0 wr : World} {D X V Z t m : Nat} {ws : List Int} (h : RefI w0 wr D X V Z t m ws) (i : Nat) (x : Int) : RefI w0 (wr.setCell ⟨X, i, none⟩ (.int .u64 x)) D X V Z t m (ws.set i x) :=
  ⟨h.dx, h.dv, h.dz, h.xv, h.xz, h.row.store i x h.len.symm, by rw [List.length_set]; exact h.len, (heap_setCell_other wr ⟨X, i, none⟩ V _ (Ne.symm h.xv)).trans h.box, World.ownsRow.kept h.lists (grownBy_setCell wr ⟨X, i, none⟩ _) (.inr (by simpa [Value.ownBlock] using Ne.symm h.xz)), h.below.setCell (p := ⟨X, i, none⟩) h.dx _⟩
/-- the memory stands: three blocks -/
theorem RefI.start {w0 u : World} {D X V Z t m : Nat} (hb : Below D w0 u) (hx : u.heap[X]? = some (.cells (madeCells #[.int .u64 0] t) 27 (0, 0))) (hz : u.heap[Z]? = some (.cells (madeCells #[.slice none 0 0] m) 33 (0, 0))) (hv : u.heap[V]? = some (.cells zeroMem5 39 (0, 0)))
    (dx : D ≤ X) (dv : D ≤ V) (dz : D ≤ Z) (xv : X ≠ V) (xz : X ≠ Z) (zv : Z ≠ V) (ht : t ≤ 1000000) (hm : m ≤ 1000000) :
    RefI w0 (u.setRow V #[.slice (some ⟨X, 0, none⟩) t t, .slice (some ⟨Z, 0, none⟩) m m, .int .i64 0]) D X V Z t m (List.replicate t 0) := by
  have g1 := row_grown u V #[.slice (some ⟨X, 0, none⟩) t t, .slice (some ⟨Z, 0, none⟩) m m, .int .i64 0]
  exact ⟨dx, dv, dz, xv, xz, (OwnI.made hx dx ht).kept g1 (.inr (by simpa [Value.ownBlock] using xv)), List.length_replicate, setRow_heap _ _ _ _ 39 (0, 0) hv, World.ownsRow.kept (ownsRow_made hz dz hm) g1 (.inr (by simpa [Value.ownBlock] using zv)), hb.trans (row_below (Below.refl _ _) dv _)⟩
/-- what New hands back reads wherever what it made lies -/
def NewRS (w : World) (c : ConfM) (e : Ending) (w' : World) : Prop :=
  ∃ v', e = .returned (.tuple #[v', .int .i64 (checkC c)]) ∧ StM (NewPart w w') v' (newE c) ∧ Below w.heap.size w w'
set_option maxRecDepth 100000 in
set_option maxHeartbeats 8000000 in
theorem newR_st (v : Value) (c : ConfM) (w : World) (h : ConfV w v c) (hu : ∀ x ∈ c.starts, 0 ≤ x) :
    Calls Try.prog 26 #[v] w (NewRS w c) := by
  have HV := Lib.hid h
  have HU := Lib.hid hu
  have CK := Lib.hid fun w' h => rcheckC_any v c w' h
  obtain ⟨vc, vs, rfl, h1, h2⟩ := h
  have hn := h1.1
  have hm := h2.1
  obtain ⟨a, cap, rfl, -⟩ := h1.len
  obtain ⟨a2, cap2, rfl, -⟩ := h2.len
  obtain ⟨W, hW⟩ : ∃ W, (w.alloc (.cells #[.slice a c.caps.length cap, .slice a2 c.starts.length cap2, .int .i64 c.threads] 36)).alloc (.cells zeroMem5 39) = W := ⟨_, rfl⟩
  have HB : Hid (Below w.heap.size w W) := hW ▸ below_new (below_new (Below.refl w.heap.size w) _) _
  have R0 : Hid (W.heap[w.heap.size]? = some (.cells #[.slice a c.caps.length cap, .slice a2 c.starts.length cap2, .int .i64 c.threads] 36 (0, 0))) := hW ▸ heap_alloc2_old _ _ _
  have R1 : Hid (W.heap[w.heap.size + 1]? = some (.cells zeroMem5 39 (0, 0))) := hW ▸ heap_alloc2_new _ _ _
  have hz : w.heap.size + 2 = W.heap.size := by rw [← hW]; simp
  have HW := Lib.hid hW
  clear h1 h2 hW hu
  go_enter Try.func26, Try.ntmps26
  go_upto_region 1 with fail
  rw [show (#[.slice none 0 0, .slice none 0 0, .int .i64 0] : Array Value) = zeroMem5 from rfl, HW.out]
  clear HW
  obtain ⟨x0, x1, x2⟩ := rowc3 R0.out
  go_wp2_with fail
  refine (CK.out _ (HV.out.below HB.out)).mono ?_; rintro e w1 ⟨rfl, hb1⟩
  have HB1 := Lib.hid (HB.out.trans (hb1.mono (by omega)))
  have Q0 := Lib.hid ((hb1.block w.heap.size (by omega)).trans R0.out)
  have Q1 := Lib.hid ((hb1.block (w.heap.size + 1) (by omega)).trans R1.out)
  have hz1 : w.heap.size + 2 ≤ w1.heap.size := by have := hb1.size; omega
  clear hb1 HB R0 R1 CK x0 x1 x2 hz
  by_cases hck : checkC c = 0
  case neg =>
    have hcb : (checkC c == 0) = false := by simpa using hck
    have HE : Hid (newE c = ⟨[], [], 0⟩) := by show newE c = _; unfold newE; rw [if_neg hck]
    generalize hce : checkC c = ce at *
    have HCE := Lib.hid hce
    clear hck hce
    have hcn : (ce != 0) = true := by simpa using hcb
    go_wp2_with (refine wpList_store_row rfl 39 _ _ rfl (w.heap.size + 1) _ rfl rfl 39 zeroMem5 Q1.out (by kernel_rfl) rfl (by simp [Value.oneCell']) ?_)
    refine bodyPost_ret (v := .tuple #[.agg #[.slice none 0 0, .slice none 0 0, .int .i64 0], .int .i64 ce]) (results_cell_tmp Try.results26 _ _ (w.heap.size + 1) 39 _ (0, 0) _ rfl (setRow_heap _ _ _ _ 39 (0, 0) Q1.out) Try.underlying39 rfl (by kernel_rfl) _ rfl) rfl ?_
    unfold NewRS
    rw [HE.out, HCE.out]
    exact ⟨_, rfl, ⟨_, _, [], rfl, fun _ _ => ⟨SlI.nil _ _, SlL.nil _⟩⟩, row_below HB1.out (Nat.le_succ _) _⟩
  case pos =>
    have hg := good_of_check hck HU.out
    have HG := Lib.hid hg
    have hl := hg.len
    have hsame := Lib.hid hg.same
    have HE : Hid (newE c = ⟨chansE c c.caps.length, List.replicate (2 * c.caps.length) [], 0⟩) := by show newE c = _; unfold newE; rw [if_pos hck]
    have HCE := Lib.hid hck
    have TW := Lib.hid fun w' h => rwords_any (.agg #[.slice a c.caps.length cap, .slice a2 c.starts.length cap2, .int .i64 c.threads]) c w' h hg
    rw [hck]
    have htt := hg.thr8 c.threads (by have := hg.thr; omega) hg.thr.2
    obtain ⟨t, ht⟩ : ∃ t : Nat, c.thrW c.threads = t := ⟨(c.thrW c.threads).toNat, by omega⟩
    rw [ht] at htt TW
    have HT := Lib.hid ht
    clear hck hg ht
    have hmk1 : ∀ w' : World, (Instr.makeSlice 34 (.int .i64 (t : Int)) (.int .i64 (t : Int))).run Try.prog w' = .ok (.slice (some ⟨w'.heap.size, 0, none⟩) t t) (w'.alloc (.cells (madeCells #[.int .u64 0] t) 27)) :=
      fun w' => run_make_row' _ _ (.int .u64 0) 8 Try.underlying34 Try.info_u64 rfl .i64 .i64 t (by omega) (by omega) w'
    have hmk2 : ∀ w' : World, (Instr.makeSlice 37 (.int .i64 (2 * (c.caps.length : Int))) (.int .i64 (2 * (c.caps.length : Int)))).run Try.prog w' = .ok (.slice (some ⟨w'.heap.size, 0, none⟩) (2 * c.caps.length) (2 * c.caps.length)) (w'.alloc (.cells (madeCells #[.slice none 0 0] (2 * c.caps.length)) 33)) := fun w' => by
      have h := run_make_row' (P := Try.prog) _ _ (.slice none 0 0) 24 Try.underlying37 Try.info_lists rfl .i64 .i64 (2 * c.caps.length) (by omega) (by omega) w'
      rwa [show ((2 * c.caps.length : Nat) : Int) = 2 * (c.caps.length : Int) by omega] at h
    obtain ⟨x0, x1, x2⟩ := rowc3 Q0.out
    have hq1 : w.heap.size < w1.heap.size := by omega
    have hwn : IntKind.i64.wrap (2 * (c.caps.length : Int)) = 2 * (c.caps.length : Int) := by rw [IntKind.wrap_i64]; omega
    have KV : Hid (∀ w', Below w1.heap.size w1 w' → ConfV w' (.agg #[.slice a c.caps.length cap, .slice a2 c.starts.length cap2, .int .i64 c.threads]) c) := fun w' hb => (HV.out.below HB1.out).below hb
    have KS : Hid (∀ w', Below w1.heap.size w1 w' → (fun w' : World => w'.cell? ⟨w.heap.size, 0, none⟩ = some (.slice a c.caps.length cap) ∧ w'.cell? ⟨w.heap.size, 1, none⟩ = some (.slice a2 c.starts.length cap2) ∧ w'.cell? ⟨w.heap.size, 2, none⟩ = some (.int .i64 c.threads)) w') := fun w' hb => ⟨(hb.cell (p := ⟨w.heap.size, 0, none⟩) hq1).trans x0, (hb.cell (p := ⟨w.heap.size, 1, none⟩) hq1).trans x1, (hb.cell (p := ⟨w.heap.size, 2, none⟩) hq1).trans x2⟩
    go_upto_region 4 with fail
    go_cut [5] (fun s5 wx => ∃ X V Z : Nat, s5 = .pointer (some ⟨V, 0, none⟩) ∧ Hid (RefI w1 wx w1.heap.size X V Z t (2 * c.caps.length) (List.replicate t 0)))
    case first =>
      clear x0 x1 x2
      refine untilK KS 10 11 (by kernel_rfl) rfl ?_
      obtain ⟨u0, hu0, HU0⟩ := drew_pack w1
      rw [hu0]
      clear hu0
      have hSU0 := KS.out _ HU0.out
      refine tkU (v := ?_) 0 la0 hSU0 (by kernel_rfl) (fun _ _ _ h => h) rfl ?_ ?_
      rotate_left
      · (intro w hSw; (try dsimp only at hSw); go_simp <;> with_reducible rfl)
      simp only [Act.put, List.setIfInBounds_toArray, List.set_cons_zero, List.set_cons_succ]
      refine tkU (v := ?_) 3 la3 hSU0 (by kernel_rfl) (fun _ _ _ h => h) rfl ?_ ?_
      rotate_left
      · (intro w hSw; (try dsimp only at hSw); go_simp <;> with_reducible rfl)
      simp only [Act.put, List.setIfInBounds_toArray, List.set_cons_zero, List.set_cons_succ]
      refine tkU (v := ?_) 4 la4 hSU0 (by kernel_rfl) (fun _ _ _ h => h) rfl ?_ ?_
      rotate_left
      · (intro w hSw; (try dsimp only at hSw); go_simp <;> with_reducible rfl)
      simp only [Act.put, List.setIfInBounds_toArray, List.set_cons_zero, List.set_cons_succ]
      refine tkU (v := ?_) 5 la5 hSU0 (by kernel_rfl) (fun _ _ _ h => h) rfl ?_ ?_
      rotate_left
      · (intro w hSw; (try dsimp only at hSw); go_simp <;> with_reducible rfl)
      simp only [Act.put, List.setIfInBounds_toArray, List.set_cons_zero, List.set_cons_succ]
      refine tkU (v := ?_) 6 la6 hSU0 (by kernel_rfl) (fun _ _ _ h => h) rfl ?_ ?_
      rotate_left
      · (intro w hSw; (try dsimp only at hSw); go_simp <;> with_reducible rfl)
      simp only [Act.put, List.setIfInBounds_toArray, List.set_cons_zero, List.set_cons_succ]
      refine wpAnyU_ready (rs := [1, 7, 9]) (by kernel_rfl) rfl ?_
      refine AllReadyU.cons la1 rfl (fun K hK => ?_) ?_
      · go_simp
        go_at_call 49
        refine (TW.out _ (KV.out _ HU0.out)).mono ?_
        rintro e u1 ⟨rfl, hbv0⟩
        have hbv := Lib.hid hbv0
        clear hbv0
        have HU1 := Lib.hid (below_then HU0.out hbv.out)
        clear hbv HU0 
        refine hK.out _ _ ?_ (fun hSU1 => ?_)
        · exact KS.out _ HU1.out
        clear hK K hSU0
        try simp only [Act.put, List.setIfInBounds_toArray, List.set_cons_zero, List.set_cons_succ]
        refine wpAnyU_ready (rs := [2, 7, 9]) (by kernel_rfl) rfl ?_
        refine AllReadyU.cons la2 rfl (fun K hK => ?_) ?_
        · go_simp
          obtain ⟨u2, X, hv, hbX, RX2, hbv, ltX⟩ := alloc_pack u1 (.cells (madeCells #[.int .u64 0] t) 27)
          rw [hv, hbX]
          have geX : Hid (w1.heap.size ≤ X) := hbX ▸ HU1.out.size
          have HU2 := Lib.hid (below_then HU1.out hbv.out)
          clear hbv hv hbX HU1 
          refine hK.out _ _ ?_ (fun hSU2 => ?_)
          · exact KS.out _ HU2.out
          clear hK K hSU1
          try simp only [Act.put, List.setIfInBounds_toArray, List.set_cons_zero, List.set_cons_succ]
          refine wpAnyU_ready (rs := [7, 9]) (by kernel_rfl) rfl ?_
          refine AllReadyU.cons la7 rfl (fun K hK => ?_) ?_
          · go_simp
            obtain ⟨u3, Z, hv, hbZ, RZ3, hbv, ltZ⟩ := alloc_pack u2 (.cells (madeCells #[.slice none 0 0] (2 * c.caps.length)) 33)
            rw [hv, hbZ]
            have geZ : Hid (w1.heap.size ≤ Z) := hbZ ▸ HU2.out.size
            have neXZ : Hid (X ≠ Z) := Nat.ne_of_lt (hbZ ▸ ltX.out)
            have HU3 := Lib.hid (below_then HU2.out hbv.out)
            have RX3 := Lib.hid ((hbv.out.block X ltX.out).trans RX2.out)
            have ltX' : Hid (X < u3.heap.size) := Nat.lt_of_lt_of_le ltX.out hbv.out.size; clear ltX; have ltX := ltX'; clear ltX'
            clear hbv hv hbZ HU2 RX2
            refine hK.out _ _ ?_ (fun hSU3 => ?_)
            · exact KS.out _ HU3.out
            clear hK K hSU2
            try simp only [Act.put, List.setIfInBounds_toArray, List.set_cons_zero, List.set_cons_succ]
            refine tkU (v := ?_) 8 la8 hSU3 (by kernel_rfl) (fun _ _ _ h => h) rfl ?_ ?_
            rotate_left
            · (intro w hSw; (try dsimp only at hSw); go_simp <;> with_reducible rfl)
            simp only [Act.put, List.setIfInBounds_toArray, List.set_cons_zero, List.set_cons_succ]
            refine wpAnyU_ready (rs := [9]) (by kernel_rfl) rfl ?_
            refine AllReadyU.cons la9 rfl (fun K hK => ?_) ?_
            · go_simp
              obtain ⟨u4, V, hv, hbV, RV4, hbv, ltV⟩ := alloc_pack u3 (.cells #[.slice none 0 0, .slice none 0 0, .int .i64 0] 39)
              rw [hv, hbV]
              have geV : Hid (w1.heap.size ≤ V) := hbV ▸ HU3.out.size
              have neXV : Hid (X ≠ V) := Nat.ne_of_lt (hbV ▸ ltX.out)
              have neZV : Hid (Z ≠ V) := Nat.ne_of_lt (hbV ▸ ltZ.out)
              have HU4 := Lib.hid (below_then HU3.out hbv.out)
              have RX4 := Lib.hid ((hbv.out.block X ltX.out).trans RX3.out)
              have RZ4 := Lib.hid ((hbv.out.block Z ltZ.out).trans RZ3.out)
              have ltX' : Hid (X < u4.heap.size) := Nat.lt_of_lt_of_le ltX.out hbv.out.size; clear ltX; have ltX := ltX'; clear ltX'
              have ltZ' : Hid (Z < u4.heap.size) := Nat.lt_of_lt_of_le ltZ.out hbv.out.size; clear ltZ; have ltZ := ltZ'; clear ltZ'
              clear hbv hv hbV HU3 RX3 RZ3
              refine hK.out _ _ ?_ (fun hSU4 => ?_)
              · exact KS.out _ HU4.out
              clear hK K hSU3
              try simp only [Act.put, List.setIfInBounds_toArray, List.set_cons_zero, List.set_cons_succ]
              refine wpAnyU_ready (rs := [10]) (by kernel_rfl) rfl ?_
              refine AllReadyU.free la10 rfl (by kernel_rfl) (fun K hK => ?_) ?_
              · refine step_store_row rfl 39 _ _ rfl V _ rfl rfl 39 zeroMem5 RV4.out (by kernel_rfl) rfl (by simp [Value.oneCell']) ?_
                refine hK.out _ _ ?_
                clear hK K hSU4
                try simp only [Act.put, List.setIfInBounds_toArray, List.set_cons_zero, List.set_cons_succ]
                refine wpAnyU_done (by kernel_rfl) ?_ _
                have hI := Lib.hid (RefI.start HU4.out RX4.out RZ4.out RV4.out geX.out geV.out geZ.out neXV.out neXZ.out neZV.out (by omega) (by omega))
                go_wp2_with fail
                go_meet
                exact ⟨X, V, Z, rfl, hI⟩
              exact AllReadyU.nil
            exact AllReadyU.nil
          refine AllReadyU.cons la9 rfl (fun K hK => ?_) ?_
          · go_simp
            obtain ⟨u3, V, hv, hbV, RV3, hbv, ltV⟩ := alloc_pack u2 (.cells #[.slice none 0 0, .slice none 0 0, .int .i64 0] 39)
            rw [hv, hbV]
            have geV : Hid (w1.heap.size ≤ V) := hbV ▸ HU2.out.size
            have neXV : Hid (X ≠ V) := Nat.ne_of_lt (hbV ▸ ltX.out)
            have HU3 := Lib.hid (below_then HU2.out hbv.out)
            have RX3 := Lib.hid ((hbv.out.block X ltX.out).trans RX2.out)
            have ltX' : Hid (X < u3.heap.size) := Nat.lt_of_lt_of_le ltX.out hbv.out.size; clear ltX; have ltX := ltX'; clear ltX'
            clear hbv hv hbV HU2 RX2
            refine hK.out _ _ ?_ (fun hSU5 => ?_)
            · exact KS.out _ HU3.out
            clear hK K hSU2
            try simp only [Act.put, List.setIfInBounds_toArray, List.set_cons_zero, List.set_cons_succ]
            refine wpAnyU_ready (rs := [7]) (by kernel_rfl) rfl ?_
            refine AllReadyU.cons la7 rfl (fun K hK => ?_) ?_
            · go_simp
              obtain ⟨u4, Z, hv, hbZ, RZ4, hbv, ltZ⟩ := alloc_pack u3 (.cells (madeCells #[.slice none 0 0] (2 * c.caps.length)) 33)
              rw [hv, hbZ]
              have geZ : Hid (w1.heap.size ≤ Z) := hbZ ▸ HU3.out.size
              have neXZ : Hid (X ≠ Z) := Nat.ne_of_lt (hbZ ▸ ltX.out)
              have neVZ : Hid (V ≠ Z) := Nat.ne_of_lt (hbZ ▸ ltV.out)
              have HU4 := Lib.hid (below_then HU3.out hbv.out)
              have RX4 := Lib.hid ((hbv.out.block X ltX.out).trans RX3.out)
              have RV4 := Lib.hid ((hbv.out.block V ltV.out).trans RV3.out)
              have ltX' : Hid (X < u4.heap.size) := Nat.lt_of_lt_of_le ltX.out hbv.out.size; clear ltX; have ltX := ltX'; clear ltX'
              have ltV' : Hid (V < u4.heap.size) := Nat.lt_of_lt_of_le ltV.out hbv.out.size; clear ltV; have ltV := ltV'; clear ltV'
              clear hbv hv hbZ HU3 RX3 RV3
              refine hK.out _ _ ?_ (fun hSU6 => ?_)
              · exact KS.out _ HU4.out
              clear hK K hSU5
              try simp only [Act.put, List.setIfInBounds_toArray, List.set_cons_zero, List.set_cons_succ]
              refine tkU (v := ?_) 8 la8 hSU6 (by kernel_rfl) (fun _ _ _ h => h) rfl ?_ ?_
              rotate_left
              · (intro w hSw; (try dsimp only at hSw); go_simp <;> with_reducible rfl)
              simp only [Act.put, List.setIfInBounds_toArray, List.set_cons_zero, List.set_cons_succ]
              refine wpAnyU_ready (rs := [10]) (by kernel_rfl) rfl ?_
              refine AllReadyU.free la10 rfl (by kernel_rfl) (fun K hK => ?_) ?_
              · refine step_store_row rfl 39 _ _ rfl V _ rfl rfl 39 zeroMem5 RV4.out (by kernel_rfl) rfl (by simp [Value.oneCell']) ?_
                refine hK.out _ _ ?_
                clear hK K hSU6
                try simp only [Act.put, List.setIfInBounds_toArray, List.set_cons_zero, List.set_cons_succ]
                refine wpAnyU_done (by kernel_rfl) ?_ _
                have hI := Lib.hid (RefI.start HU4.out RX4.out RZ4.out RV4.out geX.out geV.out geZ.out neXV.out neXZ.out neVZ.out.symm (by omega) (by omega))
                go_wp2_with fail
                go_meet
                exact ⟨X, V, Z, rfl, hI⟩
              exact AllReadyU.nil
            exact AllReadyU.nil
          exact AllReadyU.nil
        refine AllReadyU.cons la7 rfl (fun K hK => ?_) ?_
        · go_simp
          obtain ⟨u2, Z, hv, hbZ, RZ2, hbv, ltZ⟩ := alloc_pack u1 (.cells (madeCells #[.slice none 0 0] (2 * c.caps.length)) 33)
          rw [hv, hbZ]
          have geZ : Hid (w1.heap.size ≤ Z) := hbZ ▸ HU1.out.size
          have HU2 := Lib.hid (below_then HU1.out hbv.out)
          clear hbv hv hbZ HU1 
          refine hK.out _ _ ?_ (fun hSU7 => ?_)
          · exact KS.out _ HU2.out
          clear hK K hSU1
          try simp only [Act.put, List.setIfInBounds_toArray, List.set_cons_zero, List.set_cons_succ]
          refine wpAnyU_ready (rs := [2, 9]) (by kernel_rfl) rfl ?_
          refine AllReadyU.cons la2 rfl (fun K hK => ?_) ?_
          · go_simp
            obtain ⟨u3, X, hv, hbX, RX3, hbv, ltX⟩ := alloc_pack u2 (.cells (madeCells #[.int .u64 0] t) 27)
            rw [hv, hbX]
            have geX : Hid (w1.heap.size ≤ X) := hbX ▸ HU2.out.size
            have neZX : Hid (Z ≠ X) := Nat.ne_of_lt (hbX ▸ ltZ.out)
            have HU3 := Lib.hid (below_then HU2.out hbv.out)
            have RZ3 := Lib.hid ((hbv.out.block Z ltZ.out).trans RZ2.out)
            have ltZ' : Hid (Z < u3.heap.size) := Nat.lt_of_lt_of_le ltZ.out hbv.out.size; clear ltZ; have ltZ := ltZ'; clear ltZ'
            clear hbv hv hbX HU2 RZ2
            refine hK.out _ _ ?_ (fun hSU8 => ?_)
            · exact KS.out _ HU3.out
            clear hK K hSU7
            try simp only [Act.put, List.setIfInBounds_toArray, List.set_cons_zero, List.set_cons_succ]
            refine tkU (v := ?_) 8 la8 hSU8 (by kernel_rfl) (fun _ _ _ h => h) rfl ?_ ?_
            rotate_left
            · (intro w hSw; (try dsimp only at hSw); go_simp <;> with_reducible rfl)
            simp only [Act.put, List.setIfInBounds_toArray, List.set_cons_zero, List.set_cons_succ]
            refine wpAnyU_ready (rs := [9]) (by kernel_rfl) rfl ?_
            refine AllReadyU.cons la9 rfl (fun K hK => ?_) ?_
            · go_simp
              obtain ⟨u4, V, hv, hbV, RV4, hbv, ltV⟩ := alloc_pack u3 (.cells #[.slice none 0 0, .slice none 0 0, .int .i64 0] 39)
              rw [hv, hbV]
              have geV : Hid (w1.heap.size ≤ V) := hbV ▸ HU3.out.size
              have neZV : Hid (Z ≠ V) := Nat.ne_of_lt (hbV ▸ ltZ.out)
              have neXV : Hid (X ≠ V) := Nat.ne_of_lt (hbV ▸ ltX.out)
              have HU4 := Lib.hid (below_then HU3.out hbv.out)
              have RZ4 := Lib.hid ((hbv.out.block Z ltZ.out).trans RZ3.out)
              have RX4 := Lib.hid ((hbv.out.block X ltX.out).trans RX3.out)
              have ltZ' : Hid (Z < u4.heap.size) := Nat.lt_of_lt_of_le ltZ.out hbv.out.size; clear ltZ; have ltZ := ltZ'; clear ltZ'
              have ltX' : Hid (X < u4.heap.size) := Nat.lt_of_lt_of_le ltX.out hbv.out.size; clear ltX; have ltX := ltX'; clear ltX'
              clear hbv hv hbV HU3 RZ3 RX3
              refine hK.out _ _ ?_ (fun hSU9 => ?_)
              · exact KS.out _ HU4.out
              clear hK K hSU8
              try simp only [Act.put, List.setIfInBounds_toArray, List.set_cons_zero, List.set_cons_succ]
              refine wpAnyU_ready (rs := [10]) (by kernel_rfl) rfl ?_
              refine AllReadyU.free la10 rfl (by kernel_rfl) (fun K hK => ?_) ?_
              · refine step_store_row rfl 39 _ _ rfl V _ rfl rfl 39 zeroMem5 RV4.out (by kernel_rfl) rfl (by simp [Value.oneCell']) ?_
                refine hK.out _ _ ?_
                clear hK K hSU9
                try simp only [Act.put, List.setIfInBounds_toArray, List.set_cons_zero, List.set_cons_succ]
                refine wpAnyU_done (by kernel_rfl) ?_ _
                have hI := Lib.hid (RefI.start HU4.out RX4.out RZ4.out RV4.out geX.out geV.out geZ.out neXV.out neZX.out.symm neZV.out (by omega) (by omega))
                go_wp2_with fail
                go_meet
                exact ⟨X, V, Z, rfl, hI⟩
              exact AllReadyU.nil
            exact AllReadyU.nil
          refine AllReadyU.cons la9 rfl (fun K hK => ?_) ?_
          · go_simp
            obtain ⟨u3, V, hv, hbV, RV3, hbv, ltV⟩ := alloc_pack u2 (.cells #[.slice none 0 0, .slice none 0 0, .int .i64 0] 39)
            rw [hv, hbV]
            have geV : Hid (w1.heap.size ≤ V) := hbV ▸ HU2.out.size
            have neZV : Hid (Z ≠ V) := Nat.ne_of_lt (hbV ▸ ltZ.out)
            have HU3 := Lib.hid (below_then HU2.out hbv.out)
            have RZ3 := Lib.hid ((hbv.out.block Z ltZ.out).trans RZ2.out)
            have ltZ' : Hid (Z < u3.heap.size) := Nat.lt_of_lt_of_le ltZ.out hbv.out.size; clear ltZ; have ltZ := ltZ'; clear ltZ'
            clear hbv hv hbV HU2 RZ2
            refine hK.out _ _ ?_ (fun hSU10 => ?_)
            · exact KS.out _ HU3.out
            clear hK K hSU7
            try simp only [Act.put, List.setIfInBounds_toArray, List.set_cons_zero, List.set_cons_succ]
            refine wpAnyU_ready (rs := [2]) (by kernel_rfl) rfl ?_
            refine AllReadyU.cons la2 rfl (fun K hK => ?_) ?_
            · go_simp
              obtain ⟨u4, X, hv, hbX, RX4, hbv, ltX⟩ := alloc_pack u3 (.cells (madeCells #[.int .u64 0] t) 27)
              rw [hv, hbX]
              have geX : Hid (w1.heap.size ≤ X) := hbX ▸ HU3.out.size
              have neZX : Hid (Z ≠ X) := Nat.ne_of_lt (hbX ▸ ltZ.out)
              have neVX : Hid (V ≠ X) := Nat.ne_of_lt (hbX ▸ ltV.out)
              have HU4 := Lib.hid (below_then HU3.out hbv.out)
              have RZ4 := Lib.hid ((hbv.out.block Z ltZ.out).trans RZ3.out)
              have RV4 := Lib.hid ((hbv.out.block V ltV.out).trans RV3.out)
              have ltZ' : Hid (Z < u4.heap.size) := Nat.lt_of_lt_of_le ltZ.out hbv.out.size; clear ltZ; have ltZ := ltZ'; clear ltZ'
              have ltV' : Hid (V < u4.heap.size) := Nat.lt_of_lt_of_le ltV.out hbv.out.size; clear ltV; have ltV := ltV'; clear ltV'
              clear hbv hv hbX HU3 RZ3 RV3
              refine hK.out _ _ ?_ (fun hSU11 => ?_)
              · exact KS.out _ HU4.out
              clear hK K hSU10
              try simp only [Act.put, List.setIfInBounds_toArray, List.set_cons_zero, List.set_cons_succ]
              refine tkU (v := ?_) 8 la8 hSU11 (by kernel_rfl) (fun _ _ _ h => h) rfl ?_ ?_
              rotate_left
              · (intro w hSw; (try dsimp only at hSw); go_simp <;> with_reducible rfl)
              simp only [Act.put, List.setIfInBounds_toArray, List.set_cons_zero, List.set_cons_succ]
              refine wpAnyU_ready (rs := [10]) (by kernel_rfl) rfl ?_
              refine AllReadyU.free la10 rfl (by kernel_rfl) (fun K hK => ?_) ?_
              · refine step_store_row rfl 39 _ _ rfl V _ rfl rfl 39 zeroMem5 RV4.out (by kernel_rfl) rfl (by simp [Value.oneCell']) ?_
                refine hK.out _ _ ?_
                clear hK K hSU11
                try simp only [Act.put, List.setIfInBounds_toArray, List.set_cons_zero, List.set_cons_succ]
                refine wpAnyU_done (by kernel_rfl) ?_ _
                have hI := Lib.hid (RefI.start HU4.out RX4.out RZ4.out RV4.out geX.out geV.out geZ.out neVX.out.symm neZX.out.symm neZV.out (by omega) (by omega))
                go_wp2_with fail
                go_meet
                exact ⟨X, V, Z, rfl, hI⟩
              exact AllReadyU.nil
            exact AllReadyU.nil
          exact AllReadyU.nil
        refine AllReadyU.cons la9 rfl (fun K hK => ?_) ?_
        · go_simp
          obtain ⟨u2, V, hv, hbV, RV2, hbv, ltV⟩ := alloc_pack u1 (.cells #[.slice none 0 0, .slice none 0 0, .int .i64 0] 39)
          rw [hv, hbV]
          have geV : Hid (w1.heap.size ≤ V) := hbV ▸ HU1.out.size
          have HU2 := Lib.hid (below_then HU1.out hbv.out)
          clear hbv hv hbV HU1 
          refine hK.out _ _ ?_ (fun hSU12 => ?_)
          · exact KS.out _ HU2.out
          clear hK K hSU1
          try simp only [Act.put, List.setIfInBounds_toArray, List.set_cons_zero, List.set_cons_succ]
          refine wpAnyU_ready (rs := [2, 7]) (by kernel_rfl) rfl ?_
          refine AllReadyU.cons la2 rfl (fun K hK => ?_) ?_
          · go_simp
            obtain ⟨u3, X, hv, hbX, RX3, hbv, ltX⟩ := alloc_pack u2 (.cells (madeCells #[.int .u64 0] t) 27)
            rw [hv, hbX]
            have geX : Hid (w1.heap.size ≤ X) := hbX ▸ HU2.out.size
            have neVX : Hid (V ≠ X) := Nat.ne_of_lt (hbX ▸ ltV.out)
            have HU3 := Lib.hid (below_then HU2.out hbv.out)
            have RV3 := Lib.hid ((hbv.out.block V ltV.out).trans RV2.out)
            have ltV' : Hid (V < u3.heap.size) := Nat.lt_of_lt_of_le ltV.out hbv.out.size; clear ltV; have ltV := ltV'; clear ltV'
            clear hbv hv hbX HU2 RV2
            refine hK.out _ _ ?_ (fun hSU13 => ?_)
            · exact KS.out _ HU3.out
            clear hK K hSU12
            try simp only [Act.put, List.setIfInBounds_toArray, List.set_cons_zero, List.set_cons_succ]
            refine wpAnyU_ready (rs := [7]) (by kernel_rfl) rfl ?_
            refine AllReadyU.cons la7 rfl (fun K hK => ?_) ?_
            · go_simp
              obtain ⟨u4, Z, hv, hbZ, RZ4, hbv, ltZ⟩ := alloc_pack u3 (.cells (madeCells #[.slice none 0 0] (2 * c.caps.length)) 33)
              rw [hv, hbZ]
              have geZ : Hid (w1.heap.size ≤ Z) := hbZ ▸ HU3.out.size
              have neVZ : Hid (V ≠ Z) := Nat.ne_of_lt (hbZ ▸ ltV.out)
              have neXZ : Hid (X ≠ Z) := Nat.ne_of_lt (hbZ ▸ ltX.out)
              have HU4 := Lib.hid (below_then HU3.out hbv.out)
              have RV4 := Lib.hid ((hbv.out.block V ltV.out).trans RV3.out)
              have RX4 := Lib.hid ((hbv.out.block X ltX.out).trans RX3.out)
              have ltV' : Hid (V < u4.heap.size) := Nat.lt_of_lt_of_le ltV.out hbv.out.size; clear ltV; have ltV := ltV'; clear ltV'
              have ltX' : Hid (X < u4.heap.size) := Nat.lt_of_lt_of_le ltX.out hbv.out.size; clear ltX; have ltX := ltX'; clear ltX'
              clear hbv hv hbZ HU3 RV3 RX3
              refine hK.out _ _ ?_ (fun hSU14 => ?_)
              · exact KS.out _ HU4.out
              clear hK K hSU13
              try simp only [Act.put, List.setIfInBounds_toArray, List.set_cons_zero, List.set_cons_succ]
              refine tkU (v := ?_) 8 la8 hSU14 (by kernel_rfl) (fun _ _ _ h => h) rfl ?_ ?_
              rotate_left
              · (intro w hSw; (try dsimp only at hSw); go_simp <;> with_reducible rfl)
              simp only [Act.put, List.setIfInBounds_toArray, List.set_cons_zero, List.set_cons_succ]
              refine wpAnyU_ready (rs := [10]) (by kernel_rfl) rfl ?_
              refine AllReadyU.free la10 rfl (by kernel_rfl) (fun K hK => ?_) ?_
              · refine step_store_row rfl 39 _ _ rfl V _ rfl rfl 39 zeroMem5 RV4.out (by kernel_rfl) rfl (by simp [Value.oneCell']) ?_
                refine hK.out _ _ ?_
                clear hK K hSU14
                try simp only [Act.put, List.setIfInBounds_toArray, List.set_cons_zero, List.set_cons_succ]
                refine wpAnyU_done (by kernel_rfl) ?_ _
                have hI := Lib.hid (RefI.start HU4.out RX4.out RZ4.out RV4.out geX.out geV.out geZ.out neVX.out.symm neXZ.out neVZ.out.symm (by omega) (by omega))
                go_wp2_with fail
                go_meet
                exact ⟨X, V, Z, rfl, hI⟩
              exact AllReadyU.nil
            exact AllReadyU.nil
          refine AllReadyU.cons la7 rfl (fun K hK => ?_) ?_
          · go_simp
            obtain ⟨u3, Z, hv, hbZ, RZ3, hbv, ltZ⟩ := alloc_pack u2 (.cells (madeCells #[.slice none 0 0] (2 * c.caps.length)) 33)
            rw [hv, hbZ]
            have geZ : Hid (w1.heap.size ≤ Z) := hbZ ▸ HU2.out.size
            have neVZ : Hid (V ≠ Z) := Nat.ne_of_lt (hbZ ▸ ltV.out)
            have HU3 := Lib.hid (below_then HU2.out hbv.out)
            have RV3 := Lib.hid ((hbv.out.block V ltV.out).trans RV2.out)
            have ltV' : Hid (V < u3.heap.size) := Nat.lt_of_lt_of_le ltV.out hbv.out.size; clear ltV; have ltV := ltV'; clear ltV'
            clear hbv hv hbZ HU2 RV2
            refine hK.out _ _ ?_ (fun hSU15 => ?_)
            · exact KS.out _ HU3.out
            clear hK K hSU12
            try simp only [Act.put, List.setIfInBounds_toArray, List.set_cons_zero, List.set_cons_succ]
            refine wpAnyU_ready (rs := [2]) (by kernel_rfl) rfl ?_
            refine AllReadyU.cons la2 rfl (fun K hK => ?_) ?_
            · go_simp
              obtain ⟨u4, X, hv, hbX, RX4, hbv, ltX⟩ := alloc_pack u3 (.cells (madeCells #[.int .u64 0] t) 27)
              rw [hv, hbX]
              have geX : Hid (w1.heap.size ≤ X) := hbX ▸ HU3.out.size
              have neVX : Hid (V ≠ X) := Nat.ne_of_lt (hbX ▸ ltV.out)
              have neZX : Hid (Z ≠ X) := Nat.ne_of_lt (hbX ▸ ltZ.out)
              have HU4 := Lib.hid (below_then HU3.out hbv.out)
              have RV4 := Lib.hid ((hbv.out.block V ltV.out).trans RV3.out)
              have RZ4 := Lib.hid ((hbv.out.block Z ltZ.out).trans RZ3.out)
              have ltV' : Hid (V < u4.heap.size) := Nat.lt_of_lt_of_le ltV.out hbv.out.size; clear ltV; have ltV := ltV'; clear ltV'
              have ltZ' : Hid (Z < u4.heap.size) := Nat.lt_of_lt_of_le ltZ.out hbv.out.size; clear ltZ; have ltZ := ltZ'; clear ltZ'
              clear hbv hv hbX HU3 RV3 RZ3
              refine hK.out _ _ ?_ (fun hSU16 => ?_)
              · exact KS.out _ HU4.out
              clear hK K hSU15
              try simp only [Act.put, List.setIfInBounds_toArray, List.set_cons_zero, List.set_cons_succ]
              refine tkU (v := ?_) 8 la8 hSU16 (by kernel_rfl) (fun _ _ _ h => h) rfl ?_ ?_
              rotate_left
              · (intro w hSw; (try dsimp only at hSw); go_simp <;> with_reducible rfl)
              simp only [Act.put, List.setIfInBounds_toArray, List.set_cons_zero, List.set_cons_succ]
              refine wpAnyU_ready (rs := [10]) (by kernel_rfl) rfl ?_
              refine AllReadyU.free la10 rfl (by kernel_rfl) (fun K hK => ?_) ?_
              · refine step_store_row rfl 39 _ _ rfl V _ rfl rfl 39 zeroMem5 RV4.out (by kernel_rfl) rfl (by simp [Value.oneCell']) ?_
                refine hK.out _ _ ?_
                clear hK K hSU16
                try simp only [Act.put, List.setIfInBounds_toArray, List.set_cons_zero, List.set_cons_succ]
                refine wpAnyU_done (by kernel_rfl) ?_ _
                have hI := Lib.hid (RefI.start HU4.out RX4.out RZ4.out RV4.out geX.out geV.out geZ.out neVX.out.symm neZX.out.symm neVZ.out.symm (by omega) (by omega))
                go_wp2_with fail
                go_meet
                exact ⟨X, V, Z, rfl, hI⟩
              exact AllReadyU.nil
            exact AllReadyU.nil
          exact AllReadyU.nil
        exact AllReadyU.nil
      refine AllReadyU.cons la7 rfl (fun K hK => ?_) ?_
      · go_simp
        obtain ⟨u1, Z, hv, hbZ, RZ1, hbv, ltZ⟩ := alloc_pack u0 (.cells (madeCells #[.slice none 0 0] (2 * c.caps.length)) 33)
        rw [hv, hbZ]
        have geZ : Hid (w1.heap.size ≤ Z) := hbZ ▸ HU0.out.size
        have HU1 := Lib.hid (below_then HU0.out hbv.out)
        clear hbv hv hbZ HU0 
        refine hK.out _ _ ?_ (fun hSU17 => ?_)
        · exact KS.out _ HU1.out
        clear hK K hSU0
        try simp only [Act.put, List.setIfInBounds_toArray, List.set_cons_zero, List.set_cons_succ]
        refine wpAnyU_ready (rs := [1, 9]) (by kernel_rfl) rfl ?_
        refine AllReadyU.cons la1 rfl (fun K hK => ?_) ?_
        · go_simp
          go_at_call 49
          refine (TW.out _ (KV.out _ HU1.out)).mono ?_
          rintro e u2 ⟨rfl, hbv0⟩
          have hbv := Lib.hid hbv0
          clear hbv0
          have HU2 := Lib.hid (below_then HU1.out hbv.out)
          have RZ2 := Lib.hid ((hbv.out.block Z ltZ.out).trans RZ1.out)
          have ltZ' : Hid (Z < u2.heap.size) := Nat.lt_of_lt_of_le ltZ.out hbv.out.size; clear ltZ; have ltZ := ltZ'; clear ltZ'
          clear hbv HU1 RZ1
          refine hK.out _ _ ?_ (fun hSU18 => ?_)
          · exact KS.out _ HU2.out
          clear hK K hSU17
          try simp only [Act.put, List.setIfInBounds_toArray, List.set_cons_zero, List.set_cons_succ]
          refine wpAnyU_ready (rs := [2, 9]) (by kernel_rfl) rfl ?_
          refine AllReadyU.cons la2 rfl (fun K hK => ?_) ?_
          · go_simp
            obtain ⟨u3, X, hv, hbX, RX3, hbv, ltX⟩ := alloc_pack u2 (.cells (madeCells #[.int .u64 0] t) 27)
            rw [hv, hbX]
            have geX : Hid (w1.heap.size ≤ X) := hbX ▸ HU2.out.size
            have neZX : Hid (Z ≠ X) := Nat.ne_of_lt (hbX ▸ ltZ.out)
            have HU3 := Lib.hid (below_then HU2.out hbv.out)
            have RZ3 := Lib.hid ((hbv.out.block Z ltZ.out).trans RZ2.out)
            have ltZ' : Hid (Z < u3.heap.size) := Nat.lt_of_lt_of_le ltZ.out hbv.out.size; clear ltZ; have ltZ := ltZ'; clear ltZ'
            clear hbv hv hbX HU2 RZ2
            refine hK.out _ _ ?_ (fun hSU19 => ?_)
            · exact KS.out _ HU3.out
            clear hK K hSU18
            try simp only [Act.put, List.setIfInBounds_toArray, List.set_cons_zero, List.set_cons_succ]
            refine tkU (v := ?_) 8 la8 hSU19 (by kernel_rfl) (fun _ _ _ h => h) rfl ?_ ?_
            rotate_left
            · (intro w hSw; (try dsimp only at hSw); go_simp <;> with_reducible rfl)
            simp only [Act.put, List.setIfInBounds_toArray, List.set_cons_zero, List.set_cons_succ]
            refine wpAnyU_ready (rs := [9]) (by kernel_rfl) rfl ?_
            refine AllReadyU.cons la9 rfl (fun K hK => ?_) ?_
            · go_simp
              obtain ⟨u4, V, hv, hbV, RV4, hbv, ltV⟩ := alloc_pack u3 (.cells #[.slice none 0 0, .slice none 0 0, .int .i64 0] 39)
              rw [hv, hbV]
              have geV : Hid (w1.heap.size ≤ V) := hbV ▸ HU3.out.size
              have neZV : Hid (Z ≠ V) := Nat.ne_of_lt (hbV ▸ ltZ.out)
              have neXV : Hid (X ≠ V) := Nat.ne_of_lt (hbV ▸ ltX.out)
              have HU4 := Lib.hid (below_then HU3.out hbv.out)
              have RZ4 := Lib.hid ((hbv.out.block Z ltZ.out).trans RZ3.out)
              have RX4 := Lib.hid ((hbv.out.block X ltX.out).trans RX3.out)
              have ltZ' : Hid (Z < u4.heap.size) := Nat.lt_of_lt_of_le ltZ.out hbv.out.size; clear ltZ; have ltZ := ltZ'; clear ltZ'
              have ltX' : Hid (X < u4.heap.size) := Nat.lt_of_lt_of_le ltX.out hbv.out.size; clear ltX; have ltX := ltX'; clear ltX'
              clear hbv hv hbV HU3 RZ3 RX3
              refine hK.out _ _ ?_ (fun hSU20 => ?_)
              · exact KS.out _ HU4.out
              clear hK K hSU19
              try simp only [Act.put, List.setIfInBounds_toArray, List.set_cons_zero, List.set_cons_succ]
              refine wpAnyU_ready (rs := [10]) (by kernel_rfl) rfl ?_
              refine AllReadyU.free la10 rfl (by kernel_rfl) (fun K hK => ?_) ?_
              · refine step_store_row rfl 39 _ _ rfl V _ rfl rfl 39 zeroMem5 RV4.out (by kernel_rfl) rfl (by simp [Value.oneCell']) ?_
                refine hK.out _ _ ?_
                clear hK K hSU20
                try simp only [Act.put, List.setIfInBounds_toArray, List.set_cons_zero, List.set_cons_succ]
                refine wpAnyU_done (by kernel_rfl) ?_ _
                have hI := Lib.hid (RefI.start HU4.out RX4.out RZ4.out RV4.out geX.out geV.out geZ.out neXV.out neZX.out.symm neZV.out (by omega) (by omega))
                go_wp2_with fail
                go_meet
                exact ⟨X, V, Z, rfl, hI⟩
              exact AllReadyU.nil
            exact AllReadyU.nil
          refine AllReadyU.cons la9 rfl (fun K hK => ?_) ?_
          · go_simp
            obtain ⟨u3, V, hv, hbV, RV3, hbv, ltV⟩ := alloc_pack u2 (.cells #[.slice none 0 0, .slice none 0 0, .int .i64 0] 39)
            rw [hv, hbV]
            have geV : Hid (w1.heap.size ≤ V) := hbV ▸ HU2.out.size
            have neZV : Hid (Z ≠ V) := Nat.ne_of_lt (hbV ▸ ltZ.out)
            have HU3 := Lib.hid (below_then HU2.out hbv.out)
            have RZ3 := Lib.hid ((hbv.out.block Z ltZ.out).trans RZ2.out)
            have ltZ' : Hid (Z < u3.heap.size) := Nat.lt_of_lt_of_le ltZ.out hbv.out.size; clear ltZ; have ltZ := ltZ'; clear ltZ'
            clear hbv hv hbV HU2 RZ2
            refine hK.out _ _ ?_ (fun hSU21 => ?_)
            · exact KS.out _ HU3.out
            clear hK K hSU18
            try simp only [Act.put, List.setIfInBounds_toArray, List.set_cons_zero, List.set_cons_succ]
            refine wpAnyU_ready (rs := [2]) (by kernel_rfl) rfl ?_
            refine AllReadyU.cons la2 rfl (fun K hK => ?_) ?_
            · go_simp
              obtain ⟨u4, X, hv, hbX, RX4, hbv, ltX⟩ := alloc_pack u3 (.cells (madeCells #[.int .u64 0] t) 27)
              rw [hv, hbX]
              have geX : Hid (w1.heap.size ≤ X) := hbX ▸ HU3.out.size
              have neZX : Hid (Z ≠ X) := Nat.ne_of_lt (hbX ▸ ltZ.out)
              have neVX : Hid (V ≠ X) := Nat.ne_of_lt (hbX ▸ ltV.out)
              have HU4 := Lib.hid (below_then HU3.out hbv.out)
              have RZ4 := Lib.hid ((hbv.out.block Z ltZ.out).trans RZ3.out)
              have RV4 := Lib.hid ((hbv.out.block V ltV.out).trans RV3.out)
              have ltZ' : Hid (Z < u4.heap.size) := Nat.lt_of_lt_of_le ltZ.out hbv.out.size; clear ltZ; have ltZ := ltZ'; clear ltZ'
              have ltV' : Hid (V < u4.heap.size) := Nat.lt_of_lt_of_le ltV.out hbv.out.size; clear ltV; have ltV := ltV'; clear ltV'
              clear hbv hv hbX HU3 RZ3 RV3
              refine hK.out _ _ ?_ (fun hSU22 => ?_)
              · exact KS.out _ HU4.out
              clear hK K hSU21
              try simp only [Act.put, List.setIfInBounds_toArray, List.set_cons_zero, List.set_cons_succ]
              refine tkU (v := ?_) 8 la8 hSU22 (by kernel_rfl) (fun _ _ _ h => h) rfl ?_ ?_
              rotate_left
              · (intro w hSw; (try dsimp only at hSw); go_simp <;> with_reducible rfl)
              simp only [Act.put, List.setIfInBounds_toArray, List.set_cons_zero, List.set_cons_succ]
              refine wpAnyU_ready (rs := [10]) (by kernel_rfl) rfl ?_
              refine AllReadyU.free la10 rfl (by kernel_rfl) (fun K hK => ?_) ?_
              · refine step_store_row rfl 39 _ _ rfl V _ rfl rfl 39 zeroMem5 RV4.out (by kernel_rfl) rfl (by simp [Value.oneCell']) ?_
                refine hK.out _ _ ?_
                clear hK K hSU22
                try simp only [Act.put, List.setIfInBounds_toArray, List.set_cons_zero, List.set_cons_succ]
                refine wpAnyU_done (by kernel_rfl) ?_ _
                have hI := Lib.hid (RefI.start HU4.out RX4.out RZ4.out RV4.out geX.out geV.out geZ.out neVX.out.symm neZX.out.symm neZV.out (by omega) (by omega))
                go_wp2_with fail
                go_meet
                exact ⟨X, V, Z, rfl, hI⟩
              exact AllReadyU.nil
            exact AllReadyU.nil
          exact AllReadyU.nil
        refine AllReadyU.cons la9 rfl (fun K hK => ?_) ?_
        · go_simp
          obtain ⟨u2, V, hv, hbV, RV2, hbv, ltV⟩ := alloc_pack u1 (.cells #[.slice none 0 0, .slice none 0 0, .int .i64 0] 39)
          rw [hv, hbV]
          have geV : Hid (w1.heap.size ≤ V) := hbV ▸ HU1.out.size
          have neZV : Hid (Z ≠ V) := Nat.ne_of_lt (hbV ▸ ltZ.out)
          have HU2 := Lib.hid (below_then HU1.out hbv.out)
          have RZ2 := Lib.hid ((hbv.out.block Z ltZ.out).trans RZ1.out)
          have ltZ' : Hid (Z < u2.heap.size) := Nat.lt_of_lt_of_le ltZ.out hbv.out.size; clear ltZ; have ltZ := ltZ'; clear ltZ'
          clear hbv hv hbV HU1 RZ1
          refine hK.out _ _ ?_ (fun hSU23 => ?_)
          · exact KS.out _ HU2.out
          clear hK K hSU17
          try simp only [Act.put, List.setIfInBounds_toArray, List.set_cons_zero, List.set_cons_succ]
          refine wpAnyU_ready (rs := [1]) (by kernel_rfl) rfl ?_
          refine AllReadyU.cons la1 rfl (fun K hK => ?_) ?_
          · go_simp
            go_at_call 49
            refine (TW.out _ (KV.out _ HU2.out)).mono ?_
            rintro e u3 ⟨rfl, hbv0⟩
            have hbv := Lib.hid hbv0
            clear hbv0
            have HU3 := Lib.hid (below_then HU2.out hbv.out)
            have RZ3 := Lib.hid ((hbv.out.block Z ltZ.out).trans RZ2.out)
            have RV3 := Lib.hid ((hbv.out.block V ltV.out).trans RV2.out)
            have ltZ' : Hid (Z < u3.heap.size) := Nat.lt_of_lt_of_le ltZ.out hbv.out.size; clear ltZ; have ltZ := ltZ'; clear ltZ'
            have ltV' : Hid (V < u3.heap.size) := Nat.lt_of_lt_of_le ltV.out hbv.out.size; clear ltV; have ltV := ltV'; clear ltV'
            clear hbv HU2 RZ2 RV2
            refine hK.out _ _ ?_ (fun hSU24 => ?_)
            · exact KS.out _ HU3.out
            clear hK K hSU23
            try simp only [Act.put, List.setIfInBounds_toArray, List.set_cons_zero, List.set_cons_succ]
            refine wpAnyU_ready (rs := [2]) (by kernel_rfl) rfl ?_
            refine AllReadyU.cons la2 rfl (fun K hK => ?_) ?_
            · go_simp
              obtain ⟨u4, X, hv, hbX, RX4, hbv, ltX⟩ := alloc_pack u3 (.cells (madeCells #[.int .u64 0] t) 27)
              rw [hv, hbX]
              have geX : Hid (w1.heap.size ≤ X) := hbX ▸ HU3.out.size
              have neZX : Hid (Z ≠ X) := Nat.ne_of_lt (hbX ▸ ltZ.out)
              have neVX : Hid (V ≠ X) := Nat.ne_of_lt (hbX ▸ ltV.out)
              have HU4 := Lib.hid (below_then HU3.out hbv.out)
              have RZ4 := Lib.hid ((hbv.out.block Z ltZ.out).trans RZ3.out)
              have RV4 := Lib.hid ((hbv.out.block V ltV.out).trans RV3.out)
              have ltZ' : Hid (Z < u4.heap.size) := Nat.lt_of_lt_of_le ltZ.out hbv.out.size; clear ltZ; have ltZ := ltZ'; clear ltZ'
              have ltV' : Hid (V < u4.heap.size) := Nat.lt_of_lt_of_le ltV.out hbv.out.size; clear ltV; have ltV := ltV'; clear ltV'
              clear hbv hv hbX HU3 RZ3 RV3
              refine hK.out _ _ ?_ (fun hSU25 => ?_)
              · exact KS.out _ HU4.out
              clear hK K hSU24
              try simp only [Act.put, List.setIfInBounds_toArray, List.set_cons_zero, List.set_cons_succ]
              refine tkU (v := ?_) 8 la8 hSU25 (by kernel_rfl) (fun _ _ _ h => h) rfl ?_ ?_
              rotate_left
              · (intro w hSw; (try dsimp only at hSw); go_simp <;> with_reducible rfl)
              simp only [Act.put, List.setIfInBounds_toArray, List.set_cons_zero, List.set_cons_succ]
              refine wpAnyU_ready (rs := [10]) (by kernel_rfl) rfl ?_
              refine AllReadyU.free la10 rfl (by kernel_rfl) (fun K hK => ?_) ?_
              · refine step_store_row rfl 39 _ _ rfl V _ rfl rfl 39 zeroMem5 RV4.out (by kernel_rfl) rfl (by simp [Value.oneCell']) ?_
                refine hK.out _ _ ?_
                clear hK K hSU25
                try simp only [Act.put, List.setIfInBounds_toArray, List.set_cons_zero, List.set_cons_succ]
                refine wpAnyU_done (by kernel_rfl) ?_ _
                have hI := Lib.hid (RefI.start HU4.out RX4.out RZ4.out RV4.out geX.out geV.out geZ.out neVX.out.symm neZX.out.symm neZV.out (by omega) (by omega))
                go_wp2_with fail
                go_meet
                exact ⟨X, V, Z, rfl, hI⟩
              exact AllReadyU.nil
            exact AllReadyU.nil
          exact AllReadyU.nil
        exact AllReadyU.nil
      refine AllReadyU.cons la9 rfl (fun K hK => ?_) ?_
      · go_simp
        obtain ⟨u1, V, hv, hbV, RV1, hbv, ltV⟩ := alloc_pack u0 (.cells #[.slice none 0 0, .slice none 0 0, .int .i64 0] 39)
        rw [hv, hbV]
        have geV : Hid (w1.heap.size ≤ V) := hbV ▸ HU0.out.size
        have HU1 := Lib.hid (below_then HU0.out hbv.out)
        clear hbv hv hbV HU0 
        refine hK.out _ _ ?_ (fun hSU26 => ?_)
        · exact KS.out _ HU1.out
        clear hK K hSU0
        try simp only [Act.put, List.setIfInBounds_toArray, List.set_cons_zero, List.set_cons_succ]
        refine wpAnyU_ready (rs := [1, 7]) (by kernel_rfl) rfl ?_
        refine AllReadyU.cons la1 rfl (fun K hK => ?_) ?_
        · go_simp
          go_at_call 49
          refine (TW.out _ (KV.out _ HU1.out)).mono ?_
          rintro e u2 ⟨rfl, hbv0⟩
          have hbv := Lib.hid hbv0
          clear hbv0
          have HU2 := Lib.hid (below_then HU1.out hbv.out)
          have RV2 := Lib.hid ((hbv.out.block V ltV.out).trans RV1.out)
          have ltV' : Hid (V < u2.heap.size) := Nat.lt_of_lt_of_le ltV.out hbv.out.size; clear ltV; have ltV := ltV'; clear ltV'
          clear hbv HU1 RV1
          refine hK.out _ _ ?_ (fun hSU27 => ?_)
          · exact KS.out _ HU2.out
          clear hK K hSU26
          try simp only [Act.put, List.setIfInBounds_toArray, List.set_cons_zero, List.set_cons_succ]
          refine wpAnyU_ready (rs := [2, 7]) (by kernel_rfl) rfl ?_
          refine AllReadyU.cons la2 rfl (fun K hK => ?_) ?_
          · go_simp
            obtain ⟨u3, X, hv, hbX, RX3, hbv, ltX⟩ := alloc_pack u2 (.cells (madeCells #[.int .u64 0] t) 27)
            rw [hv, hbX]
            have geX : Hid (w1.heap.size ≤ X) := hbX ▸ HU2.out.size
            have neVX : Hid (V ≠ X) := Nat.ne_of_lt (hbX ▸ ltV.out)
            have HU3 := Lib.hid (below_then HU2.out hbv.out)
            have RV3 := Lib.hid ((hbv.out.block V ltV.out).trans RV2.out)
            have ltV' : Hid (V < u3.heap.size) := Nat.lt_of_lt_of_le ltV.out hbv.out.size; clear ltV; have ltV := ltV'; clear ltV'
            clear hbv hv hbX HU2 RV2
            refine hK.out _ _ ?_ (fun hSU28 => ?_)
            · exact KS.out _ HU3.out
            clear hK K hSU27
            try simp only [Act.put, List.setIfInBounds_toArray, List.set_cons_zero, List.set_cons_succ]
            refine wpAnyU_ready (rs := [7]) (by kernel_rfl) rfl ?_
            refine AllReadyU.cons la7 rfl (fun K hK => ?_) ?_
            · go_simp
              obtain ⟨u4, Z, hv, hbZ, RZ4, hbv, ltZ⟩ := alloc_pack u3 (.cells (madeCells #[.slice none 0 0] (2 * c.caps.length)) 33)
              rw [hv, hbZ]
              have geZ : Hid (w1.heap.size ≤ Z) := hbZ ▸ HU3.out.size
              have neVZ : Hid (V ≠ Z) := Nat.ne_of_lt (hbZ ▸ ltV.out)
              have neXZ : Hid (X ≠ Z) := Nat.ne_of_lt (hbZ ▸ ltX.out)
              have HU4 := Lib.hid (below_then HU3.out hbv.out)
              have RV4 := Lib.hid ((hbv.out.block V ltV.out).trans RV3.out)
              have RX4 := Lib.hid ((hbv.out.block X ltX.out).trans RX3.out)
              have ltV' : Hid (V < u4.heap.size) := Nat.lt_of_lt_of_le ltV.out hbv.out.size; clear ltV; have ltV := ltV'; clear ltV'
              have ltX' : Hid (X < u4.heap.size) := Nat.lt_of_lt_of_le ltX.out hbv.out.size; clear ltX; have ltX := ltX'; clear ltX'
              clear hbv hv hbZ HU3 RV3 RX3
              refine hK.out _ _ ?_ (fun hSU29 => ?_)
              · exact KS.out _ HU4.out
              clear hK K hSU28
              try simp only [Act.put, List.setIfInBounds_toArray, List.set_cons_zero, List.set_cons_succ]
              refine tkU (v := ?_) 8 la8 hSU29 (by kernel_rfl) (fun _ _ _ h => h) rfl ?_ ?_
              rotate_left
              · (intro w hSw; (try dsimp only at hSw); go_simp <;> with_reducible rfl)
              simp only [Act.put, List.setIfInBounds_toArray, List.set_cons_zero, List.set_cons_succ]
              refine wpAnyU_ready (rs := [10]) (by kernel_rfl) rfl ?_
              refine AllReadyU.free la10 rfl (by kernel_rfl) (fun K hK => ?_) ?_
              · refine step_store_row rfl 39 _ _ rfl V _ rfl rfl 39 zeroMem5 RV4.out (by kernel_rfl) rfl (by simp [Value.oneCell']) ?_
                refine hK.out _ _ ?_
                clear hK K hSU29
                try simp only [Act.put, List.setIfInBounds_toArray, List.set_cons_zero, List.set_cons_succ]
                refine wpAnyU_done (by kernel_rfl) ?_ _
                have hI := Lib.hid (RefI.start HU4.out RX4.out RZ4.out RV4.out geX.out geV.out geZ.out neVX.out.symm neXZ.out neVZ.out.symm (by omega) (by omega))
                go_wp2_with fail
                go_meet
                exact ⟨X, V, Z, rfl, hI⟩
              exact AllReadyU.nil
            exact AllReadyU.nil
          refine AllReadyU.cons la7 rfl (fun K hK => ?_) ?_
          · go_simp
            obtain ⟨u3, Z, hv, hbZ, RZ3, hbv, ltZ⟩ := alloc_pack u2 (.cells (madeCells #[.slice none 0 0] (2 * c.caps.length)) 33)
            rw [hv, hbZ]
            have geZ : Hid (w1.heap.size ≤ Z) := hbZ ▸ HU2.out.size
            have neVZ : Hid (V ≠ Z) := Nat.ne_of_lt (hbZ ▸ ltV.out)
            have HU3 := Lib.hid (below_then HU2.out hbv.out)
            have RV3 := Lib.hid ((hbv.out.block V ltV.out).trans RV2.out)
            have ltV' : Hid (V < u3.heap.size) := Nat.lt_of_lt_of_le ltV.out hbv.out.size; clear ltV; have ltV := ltV'; clear ltV'
            clear hbv hv hbZ HU2 RV2
            refine hK.out _ _ ?_ (fun hSU30 => ?_)
            · exact KS.out _ HU3.out
            clear hK K hSU27
            try simp only [Act.put, List.setIfInBounds_toArray, List.set_cons_zero, List.set_cons_succ]
            refine wpAnyU_ready (rs := [2]) (by kernel_rfl) rfl ?_
            refine AllReadyU.cons la2 rfl (fun K hK => ?_) ?_
            · go_simp
              obtain ⟨u4, X, hv, hbX, RX4, hbv, ltX⟩ := alloc_pack u3 (.cells (madeCells #[.int .u64 0] t) 27)
              rw [hv, hbX]
              have geX : Hid (w1.heap.size ≤ X) := hbX ▸ HU3.out.size
              have neVX : Hid (V ≠ X) := Nat.ne_of_lt (hbX ▸ ltV.out)
              have neZX : Hid (Z ≠ X) := Nat.ne_of_lt (hbX ▸ ltZ.out)
              have HU4 := Lib.hid (below_then HU3.out hbv.out)
              have RV4 := Lib.hid ((hbv.out.block V ltV.out).trans RV3.out)
              have RZ4 := Lib.hid ((hbv.out.block Z ltZ.out).trans RZ3.out)
              have ltV' : Hid (V < u4.heap.size) := Nat.lt_of_lt_of_le ltV.out hbv.out.size; clear ltV; have ltV := ltV'; clear ltV'
              have ltZ' : Hid (Z < u4.heap.size) := Nat.lt_of_lt_of_le ltZ.out hbv.out.size; clear ltZ; have ltZ := ltZ'; clear ltZ'
              clear hbv hv hbX HU3 RV3 RZ3
              refine hK.out _ _ ?_ (fun hSU31 => ?_)
              · exact KS.out _ HU4.out
              clear hK K hSU30
              try simp only [Act.put, List.setIfInBounds_toArray, List.set_cons_zero, List.set_cons_succ]
              refine tkU (v := ?_) 8 la8 hSU31 (by kernel_rfl) (fun _ _ _ h => h) rfl ?_ ?_
              rotate_left
              · (intro w hSw; (try dsimp only at hSw); go_simp <;> with_reducible rfl)
              simp only [Act.put, List.setIfInBounds_toArray, List.set_cons_zero, List.set_cons_succ]
              refine wpAnyU_ready (rs := [10]) (by kernel_rfl) rfl ?_
              refine AllReadyU.free la10 rfl (by kernel_rfl) (fun K hK => ?_) ?_
              · refine step_store_row rfl 39 _ _ rfl V _ rfl rfl 39 zeroMem5 RV4.out (by kernel_rfl) rfl (by simp [Value.oneCell']) ?_
                refine hK.out _ _ ?_
                clear hK K hSU31
                try simp only [Act.put, List.setIfInBounds_toArray, List.set_cons_zero, List.set_cons_succ]
                refine wpAnyU_done (by kernel_rfl) ?_ _
                have hI := Lib.hid (RefI.start HU4.out RX4.out RZ4.out RV4.out geX.out geV.out geZ.out neVX.out.symm neZX.out.symm neVZ.out.symm (by omega) (by omega))
                go_wp2_with fail
                go_meet
                exact ⟨X, V, Z, rfl, hI⟩
              exact AllReadyU.nil
            exact AllReadyU.nil
          exact AllReadyU.nil
        refine AllReadyU.cons la7 rfl (fun K hK => ?_) ?_
        · go_simp
          obtain ⟨u2, Z, hv, hbZ, RZ2, hbv, ltZ⟩ := alloc_pack u1 (.cells (madeCells #[.slice none 0 0] (2 * c.caps.length)) 33)
          rw [hv, hbZ]
          have geZ : Hid (w1.heap.size ≤ Z) := hbZ ▸ HU1.out.size
          have neVZ : Hid (V ≠ Z) := Nat.ne_of_lt (hbZ ▸ ltV.out)
          have HU2 := Lib.hid (below_then HU1.out hbv.out)
          have RV2 := Lib.hid ((hbv.out.block V ltV.out).trans RV1.out)
          have ltV' : Hid (V < u2.heap.size) := Nat.lt_of_lt_of_le ltV.out hbv.out.size; clear ltV; have ltV := ltV'; clear ltV'
          clear hbv hv hbZ HU1 RV1
          refine hK.out _ _ ?_ (fun hSU32 => ?_)
          · exact KS.out _ HU2.out
          clear hK K hSU26
          try simp only [Act.put, List.setIfInBounds_toArray, List.set_cons_zero, List.set_cons_succ]
          refine wpAnyU_ready (rs := [1]) (by kernel_rfl) rfl ?_
          refine AllReadyU.cons la1 rfl (fun K hK => ?_) ?_
          · go_simp
            go_at_call 49
            refine (TW.out _ (KV.out _ HU2.out)).mono ?_
            rintro e u3 ⟨rfl, hbv0⟩
            have hbv := Lib.hid hbv0
            clear hbv0
            have HU3 := Lib.hid (below_then HU2.out hbv.out)
            have RV3 := Lib.hid ((hbv.out.block V ltV.out).trans RV2.out)
            have RZ3 := Lib.hid ((hbv.out.block Z ltZ.out).trans RZ2.out)
            have ltV' : Hid (V < u3.heap.size) := Nat.lt_of_lt_of_le ltV.out hbv.out.size; clear ltV; have ltV := ltV'; clear ltV'
            have ltZ' : Hid (Z < u3.heap.size) := Nat.lt_of_lt_of_le ltZ.out hbv.out.size; clear ltZ; have ltZ := ltZ'; clear ltZ'
            clear hbv HU2 RV2 RZ2
            refine hK.out _ _ ?_ (fun hSU33 => ?_)
            · exact KS.out _ HU3.out
            clear hK K hSU32
            try simp only [Act.put, List.setIfInBounds_toArray, List.set_cons_zero, List.set_cons_succ]
            refine wpAnyU_ready (rs := [2]) (by kernel_rfl) rfl ?_
            refine AllReadyU.cons la2 rfl (fun K hK => ?_) ?_
            · go_simp
              obtain ⟨u4, X, hv, hbX, RX4, hbv, ltX⟩ := alloc_pack u3 (.cells (madeCells #[.int .u64 0] t) 27)
              rw [hv, hbX]
              have geX : Hid (w1.heap.size ≤ X) := hbX ▸ HU3.out.size
              have neVX : Hid (V ≠ X) := Nat.ne_of_lt (hbX ▸ ltV.out)
              have neZX : Hid (Z ≠ X) := Nat.ne_of_lt (hbX ▸ ltZ.out)
              have HU4 := Lib.hid (below_then HU3.out hbv.out)
              have RV4 := Lib.hid ((hbv.out.block V ltV.out).trans RV3.out)
              have RZ4 := Lib.hid ((hbv.out.block Z ltZ.out).trans RZ3.out)
              have ltV' : Hid (V < u4.heap.size) := Nat.lt_of_lt_of_le ltV.out hbv.out.size; clear ltV; have ltV := ltV'; clear ltV'
              have ltZ' : Hid (Z < u4.heap.size) := Nat.lt_of_lt_of_le ltZ.out hbv.out.size; clear ltZ; have ltZ := ltZ'; clear ltZ'
              clear hbv hv hbX HU3 RV3 RZ3
              refine hK.out _ _ ?_ (fun hSU34 => ?_)
              · exact KS.out _ HU4.out
              clear hK K hSU33
              try simp only [Act.put, List.setIfInBounds_toArray, List.set_cons_zero, List.set_cons_succ]
              refine tkU (v := ?_) 8 la8 hSU34 (by kernel_rfl) (fun _ _ _ h => h) rfl ?_ ?_
              rotate_left
              · (intro w hSw; (try dsimp only at hSw); go_simp <;> with_reducible rfl)
              simp only [Act.put, List.setIfInBounds_toArray, List.set_cons_zero, List.set_cons_succ]
              refine wpAnyU_ready (rs := [10]) (by kernel_rfl) rfl ?_
              refine AllReadyU.free la10 rfl (by kernel_rfl) (fun K hK => ?_) ?_
              · refine step_store_row rfl 39 _ _ rfl V _ rfl rfl 39 zeroMem5 RV4.out (by kernel_rfl) rfl (by simp [Value.oneCell']) ?_
                refine hK.out _ _ ?_
                clear hK K hSU34
                try simp only [Act.put, List.setIfInBounds_toArray, List.set_cons_zero, List.set_cons_succ]
                refine wpAnyU_done (by kernel_rfl) ?_ _
                have hI := Lib.hid (RefI.start HU4.out RX4.out RZ4.out RV4.out geX.out geV.out geZ.out neVX.out.symm neZX.out.symm neVZ.out.symm (by omega) (by omega))
                go_wp2_with fail
                go_meet
                exact ⟨X, V, Z, rfl, hI⟩
              exact AllReadyU.nil
            exact AllReadyU.nil
          exact AllReadyU.nil
        exact AllReadyU.nil
      exact AllReadyU.nil
    case rest =>
      obtain ⟨X, V, Z, rfl, HN0'⟩ := hcut
      obtain ⟨w3, rfl⟩ : ∃ w3 : World, w3 = wc := ⟨_, rfl⟩
      have HN0 : Hid (RefI w1 w3 w1.heap.size X V Z t (2 * c.caps.length) (chansE c 0)) := by
        show RefI w1 w3 w1.heap.size X V Z t (2 * c.caps.length) (List.replicate (c.thrW c.threads).toNat 0)
        rw [HT.out]; exact HN0'.out
      clear HN0' x0 x1 x2 KS KV hmk1 hmk2 hwn TW
      have HV2 := Lib.hid (HV.out.below HB1.out)
      go_wp2_with fail
      go_loopw [6] (fun i wr => ∃ k : Nat, k ≤ c.caps.length ∧ i = .int .i64 k ∧ Hid (RefI w1 wr w1.heap.size X V Z t (2 * c.caps.length) (chansE c k))) (fun i _ => 9 - (intOf i).toNat)
      case atStart => exact ⟨0, by omega, rfl, HN0⟩
      case round =>
        clear HN0
        obtain ⟨k, hk, rfl, hI⟩ := hrel
        obtain ⟨wo, rfl⟩ : ∃ wo : World, wo = wr := ⟨_, rfl⟩
        have hk9 : k ≤ 8 := by omega
        have S0 := Lib.hid ((hI.out.below.block w.heap.size hq1).trans Q0.out)
        obtain ⟨x0, x1, x2⟩ := rowc3 S0.out
        by_cases hlt : k < c.caps.length
        · have hkc := Lib.hid hlt
          have hlt2 : k < c.starts.length := by rw [hsame.out]; exact hlt
          have hS := HV2.out
          obtain ⟨vc', vs', ev, hsc, hss⟩ := hS
          simp only [Value.agg.injEq, Array.mk.injEq, List.cons.injEq, and_true] at ev
          obtain ⟨rfl, rfl⟩ := ev
          obtain ⟨bs, off, rfl, hbs, hcs⟩ := hss.cellAt k hlt2
          have hst := HG.out.st k hkc.out
          have hbi := HG.out.base_in k hkc.out
          have hsz := HG.out.size k hkc.out
          obtain ⟨st, hste⟩ : ∃ st, c.st k = st := ⟨_, rfl⟩
          replace hcs : w1.cell? ⟨bs, off + k, none⟩ = some (.int .u64 (c.st k)) := hcs
          rw [hste] at hcs
          rw [hste] at hst
          rw [HT.out] at hbi
          obtain ⟨bk, hbk⟩ : ∃ bk : Nat, c.base k = bk := ⟨(c.base k).toNat, by omega⟩
          rw [hbk] at hbi
          obtain ⟨z, hz⟩ : ∃ z : Nat, c.size k = z := ⟨(c.size k).toNat, by omega⟩
          rw [hz] at hsz
          have T0 := Lib.hid fun w' h => rtail_any (.agg #[.slice a c.caps.length cap, .slice (some ⟨bs, off, none⟩) c.starts.length cap2, .int .i64 c.threads]) c k w' h (Nat.le_of_lt hkc.out) HG.out
          have T1 := Lib.hid fun w' h => rheadW_any (.agg #[.slice a c.caps.length cap, .slice (some ⟨bs, off, none⟩) c.starts.length cap2, .int .i64 c.threads]) c k hkc.out w' h HG.out
          have T2 := Lib.hid fun w' h => rsize4_any (.agg #[.slice a c.caps.length cap, .slice (some ⟨bs, off, none⟩) c.starts.length cap2, .int .i64 c.threads]) c k w' h hkc.out HG.out
          have TP := Lib.hid fun w' => rpack_any st false w'
          rw [hbk] at T0
          rw [hbk] at T1
          rw [hz] at T2
          have HST := Lib.hid hste
          have HBK := Lib.hid hbk
          have HZ := Lib.hid hz
          have hbt : bk < t := by omega
          have hbt1 : bk + 1 < t := by omega
          have hbt2 : (bk : Int) < (t : Int) := by omega
          have hbt3 : (bk : Int) + 1 < (t : Int) := by omega
          have hbt4 : (0 : Int) ≤ (bk : Int) + 1 := by omega
          have HCS : Hid (∀ w', Below w1.heap.size w1 w' → w'.cell? ⟨bs, off + k, none⟩ = some (.int .u64 st)) := fun w' hb => (hb.cell (p := ⟨bs, off + k, none⟩) hbs).trans hcs
          have hcs6 := HCS.out _ hI.out.below
          obtain ⟨z0, -, -⟩ := rowc3 hI.out.box
          have hq6 : w.heap.size < wo.heap.size := Nat.lt_of_lt_of_le hq1 hI.out.below.size
          have hV6 : V < wo.heap.size := (Array.getElem?_eq_some_iff.1 hI.out.box).1
          have hb6' : bs < wo.heap.size := Nat.lt_of_lt_of_le hbs hI.out.below.size
          have KS8 : Hid (∀ w', Below wo.heap.size wo w' → (fun w' : World => w'.cell? ⟨V, 0, none⟩ = some (.slice (some ⟨X, 0, none⟩) t t) ∧ w'.cell? ⟨w.heap.size, 0, none⟩ = some (.slice a c.caps.length cap) ∧ w'.cell? ⟨w.heap.size, 1, none⟩ = some (.slice (some ⟨bs, off, none⟩) c.starts.length cap2) ∧ w'.cell? ⟨w.heap.size, 2, none⟩ = some (.int .i64 c.threads) ∧ w'.cell? ⟨bs, off + k, none⟩ = some (.int .u64 st)) w') := fun w' hb => ⟨(hb.cell (p := ⟨V, 0, none⟩) hV6).trans z0, (hb.cell (p := ⟨w.heap.size, 0, none⟩) hq6).trans x0, (hb.cell (p := ⟨w.heap.size, 1, none⟩) hq6).trans x1, (hb.cell (p := ⟨w.heap.size, 2, none⟩) hq6).trans x2, (hb.cell (p := ⟨bs, off + k, none⟩) hb6').trans hcs6⟩
          clear hsc hss hste hbk hz hbi z0 hcs6 hcs S0
          go_upto_region 8 with fail
          clear x0 x1 x2 hq6 hV6 hb6'
          refine untilK KS8 12 13 (by kernel_rfl) rfl ?_
          obtain ⟨u0, hu0, HU0⟩ := drew_pack wo
          rw [hu0]
          have hI0 := Lib.hid (hI.out.next HU0.out)
          clear hu0
          have hSU0 := KS8.out _ HU0.out
          refine tkU (v := ?_) 0 la0 hSU0 (by kernel_rfl) (fun _ _ _ h => h) rfl ?_ ?_
          rotate_left
          · (intro w hSw; (try dsimp only at hSw); go_simp <;> with_reducible rfl)
          simp only [Act.put, List.setIfInBounds_toArray, List.set_cons_zero, List.set_cons_succ]
          refine tkU (v := ?_) 1 la1 hSU0 (by kernel_rfl) (fun _ _ _ h => h) rfl ?_ ?_
          rotate_left
          · (intro w hSw; (try dsimp only at hSw); go_simp <;> with_reducible rfl)
          simp only [Act.put, List.setIfInBounds_toArray, List.set_cons_zero, List.set_cons_succ]
          refine tkU (v := ?_) 2 la2 hSU0 (by kernel_rfl) (fun _ _ _ h => h) rfl ?_ ?_
          rotate_left
          · (intro w hSw; (try dsimp only at hSw); go_simp <;> with_reducible rfl)
          simp only [Act.put, List.setIfInBounds_toArray, List.set_cons_zero, List.set_cons_succ]
          refine tkU (v := ?_) 3 la3 hSU0 (by kernel_rfl) (fun _ _ _ h => h) rfl ?_ ?_
          rotate_left
          · (intro w hSw; (try dsimp only at hSw); go_simp <;> with_reducible rfl)
          simp only [Act.put, List.setIfInBounds_toArray, List.set_cons_zero, List.set_cons_succ]
          refine tkU (v := ?_) 5 la5 hSU0 (by kernel_rfl) (fun _ _ _ h => h) rfl ?_ ?_
          rotate_left
          · (intro w hSw; (try dsimp only at hSw); go_simp <;> with_reducible rfl)
          simp only [Act.put, List.setIfInBounds_toArray, List.set_cons_zero, List.set_cons_succ]
          refine tkU (v := ?_) 6 la6 hSU0 (by kernel_rfl) (fun _ _ _ h => h) rfl ?_ ?_
          rotate_left
          · (intro w hSw; (try dsimp only at hSw); go_simp <;> with_reducible rfl)
          simp only [Act.put, List.setIfInBounds_toArray, List.set_cons_zero, List.set_cons_succ]
          refine tkU (v := ?_) 7 la7 hSU0 (by kernel_rfl) (fun _ _ _ h => h) rfl ?_ ?_
          rotate_left
          · (intro w hSw; (try dsimp only at hSw); go_simp <;> with_reducible rfl)
          simp only [Act.put, List.setIfInBounds_toArray, List.set_cons_zero, List.set_cons_succ]
          refine tkU (v := ?_) 8 la8 hSU0 (by kernel_rfl) (fun _ _ _ h => h) rfl ?_ ?_
          rotate_left
          · (intro w hSw; (try dsimp only at hSw); go_simp <;> with_reducible rfl)
          simp only [Act.put, List.setIfInBounds_toArray, List.set_cons_zero, List.set_cons_succ]
          refine tkU (v := ?_) 9 la9 hSU0 (by kernel_rfl) (fun _ _ _ h => h) rfl ?_ ?_
          rotate_left
          · (intro w hSw; (try dsimp only at hSw); go_simp <;> with_reducible rfl)
          simp only [Act.put, List.setIfInBounds_toArray, List.set_cons_zero, List.set_cons_succ]
          refine wpAnyU_ready (rs := [4]) (by kernel_rfl) rfl ?_
          refine AllReadyU.cons la4 rfl (fun K hK => ?_) ?_
          · go_simp
            go_at_call 41
            refine (T0.out _ (HV2.out.below hI0.out.below)).mono ?_
            rintro e w4 ⟨rfl, hb4⟩
            have hI4 := Lib.hid (hI0.out.next hb4)
            have HU4 := Lib.hid (below_then HU0.out hb4)
            clear hb4
            refine hK.out _ _ ?_ (fun hSU1 => ?_)
            · exact KS8.out _ HU4.out
            clear hK K hSU0
            try simp only [Act.put, List.setIfInBounds_toArray, List.set_cons_zero, List.set_cons_succ]
            refine wpAnyU_ready (rs := [10]) (by kernel_rfl) rfl ?_
            refine AllReadyU.cons la10 rfl (fun K hK => ?_) ?_
            · go_simp
              go_at_call 50
              refine (TP.out _).mono ?_
              rintro e w5 ⟨rfl, rfl⟩
              refine hK.out _ _ ?_ (fun hSU2 => ?_)
              · exact hSU1
              clear hK K hSU1
              try simp only [Act.put, List.setIfInBounds_toArray, List.set_cons_zero, List.set_cons_succ]
              refine tkU (v := ?_) 11 la11 hSU2 (by kernel_rfl) (fun _ _ _ h => h) rfl ?_ ?_
              rotate_left
              · (intro w hSw; (try dsimp only at hSw); go_simp <;> with_reducible rfl)
              simp only [Act.put, List.setIfInBounds_toArray, List.set_cons_zero, List.set_cons_succ]
              refine wpAnyU_ready (rs := [12]) (by kernel_rfl) rfl ?_
              refine AllReadyU.free la12 rfl (by kernel_rfl) (fun K hK => ?_) ?_
              · obtain ⟨c0, f0⟩ := hI4.out.row.cell bk (by rw [hI4.out.len]; exact hbt)
                have hI5 := Lib.hid (hI4.out.set bk (packI st false))
                generalize (chansE c k).getD bk 0 = old at c0
                go_simp
                generalize w4.setCell ⟨X, bk, none⟩ (.int .u64 (packI st false)) = w6 at *
                refine hK.out _ _ ?_
                clear hK K hSU2
                try simp only [Act.put, List.setIfInBounds_toArray, List.set_cons_zero, List.set_cons_succ]
                refine wpAnyU_done (by kernel_rfl) ?_ _
                clear c0 f0 hI4 hI0 HU0 HU4 KS8
                obtain ⟨z0, -, -⟩ := rowc3 hI5.out.box
                have S6 := Lib.hid ((hI5.out.below.block w.heap.size hq1).trans Q0.out)
                obtain ⟨x0, x1, x2⟩ := rowc3 S6.out
                have hcs6 := (HCS.out _ hI5.out.below)
                have hq6 : w.heap.size < w6.heap.size := Nat.lt_of_lt_of_le hq1 hI5.out.below.size
                have hV6 : V < w6.heap.size := (Array.getElem?_eq_some_iff.1 hI5.out.box).1
                have hb6' : bs < w6.heap.size := Nat.lt_of_lt_of_le hbs hI5.out.below.size
                have KS8 : Hid (∀ w', Below w6.heap.size w6 w' → (fun w' : World => w'.cell? ⟨V, 0, none⟩ = some (.slice (some ⟨X, 0, none⟩) t t) ∧ w'.cell? ⟨w.heap.size, 0, none⟩ = some (.slice a c.caps.length cap) ∧ w'.cell? ⟨w.heap.size, 1, none⟩ = some (.slice (some ⟨bs, off, none⟩) c.starts.length cap2) ∧ w'.cell? ⟨w.heap.size, 2, none⟩ = some (.int .i64 c.threads) ∧ w'.cell? ⟨bs, off + k, none⟩ = some (.int .u64 st)) w') := fun w' hb => ⟨(hb.cell (p := ⟨V, 0, none⟩) hV6).trans z0, (hb.cell (p := ⟨w.heap.size, 0, none⟩) hq6).trans x0, (hb.cell (p := ⟨w.heap.size, 1, none⟩) hq6).trans x1, (hb.cell (p := ⟨w.heap.size, 2, none⟩) hq6).trans x2, (hb.cell (p := ⟨bs, off + k, none⟩) hb6').trans hcs6⟩
                clear z0 x0 x1 x2 hcs6 S6
                go_upto_region 9 with fail
                refine untilK KS8 11 12 (by kernel_rfl) rfl ?_
                obtain ⟨u0, hu0, HU0⟩ := drew_pack w6
                rw [hu0]
                have hI0 := Lib.hid (hI5.out.next HU0.out)
                clear hu0
                have hSU0 := KS8.out _ HU0.out
                refine tkU (v := ?_) 0 la0 hSU0 (by kernel_rfl) (fun _ _ _ h => h) rfl ?_ ?_
                rotate_left
                · (intro w hSw; (try dsimp only at hSw); go_simp <;> with_reducible rfl)
                simp only [Act.put, List.setIfInBounds_toArray, List.set_cons_zero, List.set_cons_succ]
                refine tkU (v := ?_) 1 la1 hSU0 (by kernel_rfl) (fun _ _ _ h => h) rfl ?_ ?_
                rotate_left
                · (intro w hSw; (try dsimp only at hSw); go_simp <;> with_reducible rfl)
                simp only [Act.put, List.setIfInBounds_toArray, List.set_cons_zero, List.set_cons_succ]
                refine tkU (v := ?_) 2 la2 hSU0 (by kernel_rfl) (fun _ _ _ h => h) rfl ?_ ?_
                rotate_left
                · (intro w hSw; (try dsimp only at hSw); go_simp <;> with_reducible rfl)
                simp only [Act.put, List.setIfInBounds_toArray, List.set_cons_zero, List.set_cons_succ]
                refine tkU (v := ?_) 3 la3 hSU0 (by kernel_rfl) (fun _ _ _ h => h) rfl ?_ ?_
                rotate_left
                · (intro w hSw; (try dsimp only at hSw); go_simp <;> with_reducible rfl)
                simp only [Act.put, List.setIfInBounds_toArray, List.set_cons_zero, List.set_cons_succ]
                refine tkU (v := ?_) 5 la5 hSU0 (by kernel_rfl) (fun _ _ _ h => h) rfl ?_ ?_
                rotate_left
                · (intro w hSw; (try dsimp only at hSw); go_simp <;> with_reducible rfl)
                simp only [Act.put, List.setIfInBounds_toArray, List.set_cons_zero, List.set_cons_succ]
                refine tkU (v := ?_) 6 la6 hSU0 (by kernel_rfl) (fun _ _ _ h => h) rfl ?_ ?_
                rotate_left
                · (intro w hSw; (try dsimp only at hSw); go_simp <;> with_reducible rfl)
                simp only [Act.put, List.setIfInBounds_toArray, List.set_cons_zero, List.set_cons_succ]
                refine tkU (v := ?_) 7 la7 hSU0 (by kernel_rfl) (fun _ _ _ h => h) rfl ?_ ?_
                rotate_left
                · (intro w hSw; (try dsimp only at hSw); go_simp <;> with_reducible rfl)
                simp only [Act.put, List.setIfInBounds_toArray, List.set_cons_zero, List.set_cons_succ]
                refine tkU (v := ?_) 8 la8 hSU0 (by kernel_rfl) (fun _ _ _ h => h) rfl ?_ ?_
                rotate_left
                · (intro w hSw; (try dsimp only at hSw); go_simp <;> with_reducible rfl)
                simp only [Act.put, List.setIfInBounds_toArray, List.set_cons_zero, List.set_cons_succ]
                refine tkU (v := ?_) 9 la9 hSU0 (by kernel_rfl) (fun _ _ _ h => h) rfl ?_ ?_
                rotate_left
                · (intro w hSw; (try dsimp only at hSw); go_simp <;> with_reducible rfl)
                simp only [Act.put, List.setIfInBounds_toArray, List.set_cons_zero, List.set_cons_succ]
                refine wpAnyU_ready (rs := [4]) (by kernel_rfl) rfl ?_
                refine AllReadyU.cons la4 rfl (fun K hK => ?_) ?_
                · go_simp
                  go_at_call 42
                  refine (T1.out _ (HV2.out.below hI0.out.below)).mono ?_
                  rintro e w7 ⟨rfl, hb7⟩
                  have hI7 := Lib.hid (hI0.out.next hb7)
                  have HU7 := Lib.hid (below_then HU0.out hb7)
                  clear hb7
                  refine hK.out _ _ ?_ (fun hSU1 => ?_)
                  · exact KS8.out _ HU7.out
                  clear hK K hSU0
                  try simp only [Act.put, List.setIfInBounds_toArray, List.set_cons_zero, List.set_cons_succ]
                  refine tkU (v := ?_) 10 la10 hSU1 (by kernel_rfl) (fun _ _ _ h => h) rfl ?_ ?_
                  rotate_left
                  · (intro w hSw; (try dsimp only at hSw); go_simp <;> with_reducible rfl)
                  simp only [Act.put, List.setIfInBounds_toArray, List.set_cons_zero, List.set_cons_succ]
                  refine wpAnyU_ready (rs := [11]) (by kernel_rfl) rfl ?_
                  refine AllReadyU.free la11 rfl (by kernel_rfl) (fun K hK => ?_) ?_
                  · obtain ⟨c0, f0⟩ := hI7.out.row.cell (bk + 1) (by rw [hI7.out.len]; exact hbt1)
                    have hI8 := Lib.hid (hI7.out.set (bk + 1) st)
                    generalize ((chansE c k).set bk (packI st false)).getD (bk + 1) 0 = old1 at c0
                    go_simp
                    generalize w7.setCell ⟨X, bk + 1, none⟩ (.int .u64 st) = w8 at *
                    refine hK.out _ _ ?_
                    clear hK K hSU1
                    try simp only [Act.put, List.setIfInBounds_toArray, List.set_cons_zero, List.set_cons_succ]
                    refine wpAnyU_done (by kernel_rfl) ?_ _
                    have hE8 : ((chansE c k).set bk (packI st false)).set (bk + 1) st = headE c k (chansE c k) := by
                      unfold headE
                      rw [HBK.out, HST.out, Int.toNat_natCast, show ((bk : Int) + 1).toNat = bk + 1 by omega]
                    rw [hE8] at hI8
                    clear c0 f0 hI7 hE8 hI0 HU0 HU7 KS8 hq6 hV6 hb6' hI5
                    have hI9 : Hid (RefI w1 w8 w1.heap.size X V Z t (2 * c.caps.length) (slotsE c k (headE c k (chansE c k)) 0)) := hI8
                    clear hI8 T0 T1 TP
                    go_wp2_with fail
                    go_loopw [7] (fun i wr => ∃ j : Nat, j ≤ z ∧ i = .int .i64 j ∧ Hid (RefI w1 wr w1.heap.size X V Z t (2 * c.caps.length) (slotsE c k (headE c k (chansE c k)) j))) (fun i _ => 17 - (intOf i).toNat)
                    case atStart => exact ⟨0, by omega, rfl, hI9⟩
                    case round =>
                      clear hI9
                      obtain ⟨j, hj, rfl, hI⟩ := hrel
                      obtain ⟨wo, rfl⟩ : ∃ wo : World, wo = wr := ⟨_, rfl⟩
                      obtain ⟨x0, x1, x2⟩ := rowc3 ((hI.out.below.block w.heap.size hq1).trans Q0.out)
                      go_upto_region 11 with fail
                      go_wp2_with fail
                      refine (T2.out _ (HV2.out.below hI.out.below)).mono ?_; rintro e w9 ⟨rfl, hb9⟩
                      have hI10 := Lib.hid (hI.out.next hb9)
                      clear hb9 hI x0 x1 x2
                      by_cases hjl : j < z
                      · have hsq := next_lt st j
                        have TN := Lib.hid fun w' => rqnext_any st j w'
                        have TS := Lib.hid fun w' h => rslotSeqW_any (.agg #[.slice a c.caps.length cap, .slice (some ⟨bs, off, none⟩) c.starts.length cap2, .int .i64 c.threads]) c k (nextI st j) hkc.out hsq.1 (by omega) w' h HG.out
                        have hin := HG.out.slot_in k (nextI st j) hkc.out hsq.1
                        rw [HT.out] at hin
                        obtain ⟨sw, hsw⟩ : ∃ sw : Nat, c.slotW k (nextI st j) = sw := ⟨(c.slotW k (nextI st j)).toNat, by omega⟩
                        rw [hsw] at hin TS
                        have HNX : Hid (slotsE c k (headE c k (chansE c k)) (j + 1) = (slotsE c k (headE c k (chansE c k)) j).set sw (nextI st j)) := by
                          show (slotsE c k (headE c k (chansE c k)) j).set (c.slotW k (nextI (c.st k) j)).toNat (nextI (c.st k) j) = _
                          rw [HST.out, hsw]; rfl
                        generalize nextI st j = sq at *
                        have hs1 : sw < t := by omega
                        have hs2 : (sw : Int) < (t : Int) := by omega
                        clear hin hsw
                        obtain ⟨z0, -, -⟩ := rowc3 hI10.out.box
                        obtain ⟨x0, x1, x2⟩ := rowc3 ((hI10.out.below.block w.heap.size hq1).trans Q0.out)
                        have hcs6 := (HCS.out _ hI10.out.below)
                        have hq6 : w.heap.size < w9.heap.size := Nat.lt_of_lt_of_le hq1 hI10.out.below.size
                        have hV6 : V < w9.heap.size := (Array.getElem?_eq_some_iff.1 hI10.out.box).1
                        have KS14 : Hid (∀ w', Below w9.heap.size w9 w' → (fun w' : World => w'.cell? ⟨V, 0, none⟩ = some (.slice (some ⟨X, 0, none⟩) t t) ∧ w'.cell? ⟨w.heap.size, 0, none⟩ = some (.slice a c.caps.length cap) ∧ w'.cell? ⟨w.heap.size, 1, none⟩ = some (.slice (some ⟨bs, off, none⟩) c.starts.length cap2) ∧ w'.cell? ⟨w.heap.size, 2, none⟩ = some (.int .i64 c.threads)) w') := fun w' hb => ⟨(hb.cell (p := ⟨V, 0, none⟩) hV6).trans z0, (hb.cell (p := ⟨w.heap.size, 0, none⟩) hq6).trans x0, (hb.cell (p := ⟨w.heap.size, 1, none⟩) hq6).trans x1, (hb.cell (p := ⟨w.heap.size, 2, none⟩) hq6).trans x2⟩
                        go_wp2_with fail
                        refine (TN.out _).mono ?_; rintro e w5 ⟨rfl, rfl⟩
                        clear z0 x0 x1 x2 hcs6
                        go_upto_region 14 with fail
                        refine untilK KS14 8 9 (by kernel_rfl) rfl ?_
                        obtain ⟨u0, hu0, HU0⟩ := drew_pack w9
                        rw [hu0]
                        have hI0 := Lib.hid (hI10.out.next HU0.out)
                        clear hu0
                        have hSU0 := KS14.out _ HU0.out
                        refine tkU (v := ?_) 0 la0 hSU0 (by kernel_rfl) (fun _ _ _ h => h) rfl ?_ ?_
                        rotate_left
                        · (intro w hSw; (try dsimp only at hSw); go_simp <;> with_reducible rfl)
                        simp only [Act.put, List.setIfInBounds_toArray, List.set_cons_zero, List.set_cons_succ]
                        refine tkU (v := ?_) 1 la1 hSU0 (by kernel_rfl) (fun _ _ _ h => h) rfl ?_ ?_
                        rotate_left
                        · (intro w hSw; (try dsimp only at hSw); go_simp <;> with_reducible rfl)
                        simp only [Act.put, List.setIfInBounds_toArray, List.set_cons_zero, List.set_cons_succ]
                        refine tkU (v := ?_) 2 la2 hSU0 (by kernel_rfl) (fun _ _ _ h => h) rfl ?_ ?_
                        rotate_left
                        · (intro w hSw; (try dsimp only at hSw); go_simp <;> with_reducible rfl)
                        simp only [Act.put, List.setIfInBounds_toArray, List.set_cons_zero, List.set_cons_succ]
                        refine tkU (v := ?_) 3 la3 hSU0 (by kernel_rfl) (fun _ _ _ h => h) rfl ?_ ?_
                        rotate_left
                        · (intro w hSw; (try dsimp only at hSw); go_simp <;> with_reducible rfl)
                        simp only [Act.put, List.setIfInBounds_toArray, List.set_cons_zero, List.set_cons_succ]
                        refine tkU (v := ?_) 4 la4 hSU0 (by kernel_rfl) (fun _ _ _ h => h) rfl ?_ ?_
                        rotate_left
                        · (intro w hSw; (try dsimp only at hSw); go_simp <;> with_reducible rfl)
                        simp only [Act.put, List.setIfInBounds_toArray, List.set_cons_zero, List.set_cons_succ]
                        refine tkU (v := ?_) 6 la6 hSU0 (by kernel_rfl) (fun _ _ _ h => h) rfl ?_ ?_
                        rotate_left
                        · (intro w hSw; (try dsimp only at hSw); go_simp <;> with_reducible rfl)
                        simp only [Act.put, List.setIfInBounds_toArray, List.set_cons_zero, List.set_cons_succ]
                        refine wpAnyU_ready (rs := [5]) (by kernel_rfl) rfl ?_
                        refine AllReadyU.cons la5 rfl (fun K hK => ?_) ?_
                        · go_simp
                          go_at_call 53
                          refine (TS.out _ (HV2.out.below hI0.out.below)).mono ?_
                          rintro e w6 ⟨rfl, hb6⟩
                          have hI6 := Lib.hid (hI0.out.next hb6)
                          have HU6 := Lib.hid (below_then HU0.out hb6)
                          clear hb6
                          refine hK.out _ _ ?_ (fun hSU1 => ?_)
                          · exact KS14.out _ HU6.out
                          clear hK K hSU0
                          try simp only [Act.put, List.setIfInBounds_toArray, List.set_cons_zero, List.set_cons_succ]
                          refine tkU (v := ?_) 7 la7 hSU1 (by kernel_rfl) (fun _ _ _ h => h) rfl ?_ ?_
                          rotate_left
                          · (intro w hSw; (try dsimp only at hSw); go_simp <;> with_reducible rfl)
                          simp only [Act.put, List.setIfInBounds_toArray, List.set_cons_zero, List.set_cons_succ]
                          refine wpAnyU_ready (rs := [8]) (by kernel_rfl) rfl ?_
                          refine AllReadyU.free la8 rfl (by kernel_rfl) (fun K hK => ?_) ?_
                          · obtain ⟨c0, f0⟩ := hI6.out.row.cell sw (by rw [hI6.out.len]; exact hs1)
                            have hI7 := Lib.hid (hI6.out.set sw sq)
                            rw [← HNX.out] at hI7
                            generalize (slotsE c k (headE c k (chansE c k)) j).getD sw 0 = old2 at c0
                            go_simp
                            refine hK.out _ _ ?_
                            clear hK K hSU1
                            try simp only [Act.put, List.setIfInBounds_toArray, List.set_cons_zero, List.set_cons_succ]
                            refine wpAnyU_done (by kernel_rfl) ?_ _
                            clear c0 f0 hI6 hI0 HU0 HU6 KS14 HNX
                            go_wp2
                            go_roundw
                            case rel => exact ⟨j + 1, by omega, by go_num, hI7⟩
                            case measure => simp [intOf]; omega
                          exact AllReadyU.nil
                        exact AllReadyU.nil
                      · obtain rfl : j = z := by omega
                        have hfin : Hid (RefI w1 w9 w1.heap.size X V Z t (2 * c.caps.length) (chansE c (k + 1))) := by
                          show RefI w1 w9 w1.heap.size X V Z t (2 * c.caps.length) (slotsE c k (headE c k (chansE c k)) (c.size k).toNat)
                          rw [HZ.out]; exact hI10.out
                        go_wp2
                        go_roundw
                        case rel => exact ⟨k + 1, by omega, by go_num, hfin⟩
                        case measure => simp [intOf]; omega
                  exact AllReadyU.nil
                exact AllReadyU.nil
              exact AllReadyU.nil
            exact AllReadyU.nil
          exact AllReadyU.nil
        · obtain rfl : k = c.caps.length := by omega
          obtain ⟨z0, z1, z2⟩ := rowc3 hI.out.box
          have hS1 := Lib.hid ((hI.out.below.block (w.heap.size + 1) (by omega)).trans Q1.out)
          go_wp2_with (refine wpList_store_row rfl 39 _ _ rfl (w.heap.size + 1) _ rfl rfl 39 zeroMem5 hS1.out (by kernel_rfl) rfl (by simp [Value.oneCell']) ?_)
          have g1 := row_grown wo (w.heap.size + 1) #[.slice (some ⟨X, 0, none⟩) t t, .slice (some ⟨Z, 0, none⟩) (2 * c.caps.length) (2 * c.caps.length), .int .i64 0]
          have hdx := hI.out.dx
          have hdz := hI.out.dz
          have r1 := hI.out.row.kept g1 (.inr (by simp [Value.ownBlock]; omega))
          have r2 := World.ownsRow.kept hI.out.lists g1 (.inr (by simp [Value.ownBlock]; omega))
          have hb7 := row_below (HB1.out.trans (hI.out.below.mono (by omega))) (Nat.le_succ _) #[.slice (some ⟨X, 0, none⟩) t t, .slice (some ⟨Z, 0, none⟩) (2 * c.caps.length) (2 * c.caps.length), .int .i64 0]
          refine bodyPost_ret (v := .tuple #[.agg #[.slice (some ⟨X, 0, none⟩) t t, .slice (some ⟨Z, 0, none⟩) (2 * c.caps.length) (2 * c.caps.length), .int .i64 0], .int .i64 0]) (results_cell_tmp Try.results26 _ _ (w.heap.size + 1) 39 _ (0, 0) _ rfl (setRow_heap _ _ _ _ 39 (0, 0) hS1.out) Try.underlying39 rfl (by kernel_rfl) _ rfl) rfl ?_
          unfold NewRS
          rw [HE.out, HCE.out]
          exact ⟨_, rfl, ⟨_, _, _, rfl, fun w9 h9 => ⟨(r1.newPart (by omega) h9).read (by show (chansE c c.caps.length).length ≤ _; rw [hI.out.len]; omega) (chansE_wf HG.out _ (Nat.le_refl _)), nils_read (row_newPart r2 (by omega) h9) (by omega)⟩⟩, hb7⟩
theorem newR_any (v : Value) (c : ConfM) (w : World) (h : ConfV w v c) (hu : ∀ x ∈ c.starts, 0 ≤ x) :
    Calls Try.prog 26 #[v] w (NewR w c) := (newR_st v c w h hu).mono fun e w' ⟨v', he, hs, hb⟩ => ⟨v', he, hs.at ⟨Nat.le_refl _, fun _ _ _ => rfl⟩, hb⟩
theorem newE_fits {c : ConfM} (hg : c.good) : (newE c).fits := by
  have h1 := hg.thr8 c.threads (by have := hg.thr; omega) hg.thr.2
  have hl := hg.len
  unfold newE
  split
  · refine ⟨by show (chansE c c.caps.length).length ≤ 100000; rw [chansE_len]; omega, by show (List.replicate _ _).length ≤ 100000; rw [List.length_replicate]; omega, fun t => ?_, chansE_wf hg _ (Nat.le_refl _), (by show (0 : Int) = IntKind.i64.wrap 0; decide)⟩
    show ((List.replicate (2 * c.caps.length) ([] : List Int)).getD t []).length ≤ 100000
    rw [List.getD_eq_getElem?_getD, List.getElem?_replicate]
    split <;> simp
  · exact ⟨by simp, by simp, by simp, by simp, (by show (0 : Int) = IntKind.i64.wrap 0; decide)⟩
end Go.Proofs.Ytjnlkemdaffgbaa
