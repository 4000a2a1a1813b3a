/- The memory with which a configuration begins: what package layout makes. -/
import Derived.Test.YtkpnakomlfjndaaLyN
import Derived.Deep.DeepCutAuto
namespace Go.Proofs.Ytkpnakomlfjndaa
open Go.ChangeShapes Go.WideShapes Go.ChangeAt Go.RowKit
set_option maxRecDepth 100000

/-- a memory and an error are handed back -/
def NewR (w : World) (c : ConfM) (e : Ending) (w' : World) : Prop :=
  ∃ v', e = .returned (.tuple #[v', .int .i64 (checkC c)]) ∧ MemV w' v' (newE c) ∧ Below w.heap.size w w'
set_option maxRecDepth 100000 in
set_option maxHeartbeats 8000000 in
theorem newO_any (v : Value) (c : ConfM) (w : World) (h : ConfV w v c) (hu : ∀ x ∈ c.starts, 0 ≤ x) :
    Calls Try.prog 28 #[v] w (NewR w c) := by
  have HV := Lib.hid h
  have HU := Lib.hid hu
  have CK := Lib.hid fun w' h => checkC_any v c w' h
  obtain ⟨vc, vs, rfl, h1, h2⟩ := h
  have hn := h1.1
  have hm := h2.1
  obtain ⟨a, cap, rfl, -⟩ := h1.len
  obtain ⟨a2, cap2, rfl, -⟩ := h2.len
  obtain ⟨W, hW⟩ : ∃ W, (w.alloc (.cells #[.slice a c.caps.length cap, .slice a2 c.starts.length cap2, .int .i64 c.threads] 46)).alloc (.cells zeroMem5 25) = W := ⟨_, rfl⟩
  have HB : Hid (Below w.heap.size w W) := hW ▸ below_new (below_new (Below.refl w.heap.size w) _) _
  have R0 : Hid (W.heap[w.heap.size]? = some (.cells #[.slice a c.caps.length cap, .slice a2 c.starts.length cap2, .int .i64 c.threads] 46 (0, 0))) := hW ▸ heap_alloc2_old _ _ _
  have R1 : Hid (W.heap[w.heap.size + 1]? = some (.cells zeroMem5 25 (0, 0))) := hW ▸ heap_alloc2_new _ _ _
  have hz : w.heap.size + 2 = W.heap.size := by rw [← hW]; simp
  have HW := Lib.hid hW
  clear h1 h2 hW hu
  go_enter Try.func28, Try.ntmps28
  go_upto_region 1 with fail
  rw [show (#[.slice none 0 0, .slice none 0 0, .int .i64 0] : Array Value) = zeroMem5 from rfl, HW.out]
  clear HW
  obtain ⟨x0, x1, x2⟩ := rowc3 R0.out
  go_wp2_with fail
  refine (CK.out _ (HV.out.below HB.out)).mono ?_; rintro e w1 ⟨rfl, hb1⟩
  have HB1 := Lib.hid (HB.out.trans (hb1.mono (by omega)))
  have Q0 := Lib.hid ((hb1.block w.heap.size (by omega)).trans R0.out)
  have Q1 := Lib.hid ((hb1.block (w.heap.size + 1) (by omega)).trans R1.out)
  have hz1 : w.heap.size + 2 ≤ w1.heap.size := by have := hb1.size; omega
  clear hb1 HB R0 R1 CK x0 x1 x2 hz
  by_cases hck : checkC c = 0
  case neg =>
    have hcb : (checkC c == 0) = false := by simpa using hck
    have HE : Hid (newE c = ⟨[], [], 0⟩) := by show newE c = _; unfold newE; rw [if_neg hck]
    generalize hce : checkC c = ce at *
    have HCE := Lib.hid hce
    clear hck hce
    have hcn : (ce != 0) = true := by simpa using hcb
    go_wp2_with (refine wpList_store_row rfl 25 _ _ rfl (w.heap.size + 1) _ rfl rfl 25 zeroMem5 Q1.out (by kernel_rfl) rfl (by simp [Value.oneCell']) ?_)
    refine bodyPost_ret (v := .tuple #[.agg #[.slice none 0 0, .slice none 0 0, .int .i64 0], .int .i64 ce]) (results_cell_tmp Try.results28 _ _ (w.heap.size + 1) 25 _ (0, 0) _ rfl (setRow_heap _ _ _ _ 25 (0, 0) Q1.out) Try.underlying25 rfl (by kernel_rfl) _ rfl) rfl ?_
    unfold NewR
    rw [HE.out, HCE.out]
    exact ⟨_, rfl, ⟨_, _, [], rfl, SlI.nil _ _, SlL.nil _⟩, row_below HB1.out (Nat.le_succ _) _⟩
  case pos =>
    have hg := good_of_check hck HU.out
    have HG := Lib.hid hg
    have hl := hg.len
    have hsame := Lib.hid hg.same
    have HE : Hid (newE c = ⟨chansE c c.caps.length, List.replicate (2 * c.caps.length) [], 0⟩) := by show newE c = _; unfold newE; rw [if_pos hck]
    have HCE := Lib.hid hck
    have TW := Lib.hid fun w' h => words_any (.agg #[.slice a c.caps.length cap, .slice a2 c.starts.length cap2, .int .i64 c.threads]) c w' h hg
    rw [hck]
    have htt := hg.thr8 c.threads (by have := hg.thr; omega) hg.thr.2
    obtain ⟨t, ht⟩ : ∃ t : Nat, c.thrW c.threads = t := ⟨(c.thrW c.threads).toNat, by omega⟩
    rw [ht] at htt TW
    have HT := Lib.hid ht
    clear hck hg ht
    obtain ⟨x0, x1, x2⟩ := rowc3 Q0.out
    go_wp2_with fail
    refine (TW.out _ (HV.out.below HB1.out)).mono ?_; rintro e w2 ⟨rfl, hb2⟩
    have HB2 := Lib.hid (below_then HB1.out hb2)
    have P0 := Lib.hid ((hb2.block w.heap.size (by omega)).trans Q0.out)
    have P1 := Lib.hid ((hb2.block (w.heap.size + 1) (by omega)).trans Q1.out)
    have hz2 : w.heap.size + 2 ≤ w2.heap.size := by have := hb2.size; omega
    clear hb2 HB1 Q0 Q1 x0 x1 x2 hz1 TW
    obtain ⟨x0, x1, x2⟩ := rowc3 P0.out
    go_upto_region 5 with (at_make; refine wp_make_u64 w2 rfl _ _ rfl t _ _ rfl rfl ?_ ?_ ?_ ?_; rfl; rfl; omega; intro w3 ho3 hb3)
    have HN0 : Hid (NewI w2 w3 w2.heap.size t (chansE c 0)) := ⟨by
      show OwnI _ _ _ _ _ (List.replicate (c.thrW c.threads).toNat 0)
      rw [HT.out]; exact ho3, by rw [chansE_len, HT.out]; rfl, hb3⟩
    have HV2 := Lib.hid (HV.out.below HB2.out)
    clear ho3 x0 x1 x2
    obtain ⟨x0, x1, x2⟩ := rowc3 ((hb3.block w.heap.size (by omega)).trans P0.out)
    clear hb3
    go_wp2_with fail
    go_loopw [22] (fun i wr => ∃ k : Nat, k ≤ c.starts.length ∧ i = .int .i64 k ∧ Hid (NewI w2 wr w2.heap.size t (chansE c k))) (fun i _ => 9 - (intOf i).toNat)
    case atStart => exact ⟨0, by omega, rfl, HN0⟩
    case round =>
      clear HN0 x0 x1 x2
      obtain ⟨k, hk, rfl, hI⟩ := hrel
      obtain ⟨wo, rfl⟩ : ∃ wo : World, wo = wr := ⟨_, rfl⟩
      have hk9 : k ≤ 8 := by have := hsame.out; omega
      have S0 := Lib.hid ((hI.out.below.block w.heap.size (by omega)).trans P0.out)
      obtain ⟨x0, x1, x2⟩ := rowc3 S0.out
      by_cases hlt : k < c.starts.length
      · have hkc := Lib.hid (show k < c.caps.length by rw [← hsame.out]; exact hlt)
        have hS := HV2.out.below hI.out.below
        obtain ⟨vc', vs', ev, hsc, hss⟩ := hS
        simp only [Value.agg.injEq, Array.mk.injEq, List.cons.injEq, and_true] at ev
        obtain ⟨rfl, rfl⟩ := ev
        obtain ⟨bs, off, rfl, hbs, hcs⟩ := hss.cellAt k hlt
        have hst := HG.out.st k hkc.out
        have hbi := HG.out.base_in k hkc.out
        have hsz := HG.out.size k hkc.out
        obtain ⟨st, hste⟩ : ∃ st, c.st k = st := ⟨_, rfl⟩
        replace hcs : wo.cell? ⟨bs, off + k, none⟩ = some (.int .u64 (c.st k)) := hcs
        rw [hste] at hcs
        rw [hste] at hst
        rw [HT.out] at hbi
        obtain ⟨bk, hbk⟩ : ∃ bk : Nat, c.base k = bk := ⟨(c.base k).toNat, by omega⟩
        rw [hbk] at hbi
        obtain ⟨z, hz⟩ : ∃ z : Nat, c.size k = z := ⟨(c.size k).toNat, by omega⟩
        rw [hz] at hsz
        have T0 := Lib.hid fun w' h => tailW_any (.agg #[.slice a c.caps.length cap, .slice (some ⟨bs, off, none⟩) c.starts.length cap2, .int .i64 c.threads]) c k hkc.out w' h HG.out
        have T1 := Lib.hid fun w' h => headW_any (.agg #[.slice a c.caps.length cap, .slice (some ⟨bs, off, none⟩) c.starts.length cap2, .int .i64 c.threads]) c k hkc.out w' h HG.out
        have T2 := Lib.hid fun w' h => slots_any (.agg #[.slice a c.caps.length cap, .slice (some ⟨bs, off, none⟩) c.starts.length cap2, .int .i64 c.threads]) c k w' h hkc.out HG.out
        have TP := Lib.hid fun w' => pack_any st false w'
        rw [hbk, Int.add_zero] at T0
        rw [hbk] at T1
        rw [hz] at T2
        have HST := Lib.hid hste
        have HBK := Lib.hid hbk
        have HZ := Lib.hid hz
        have hbt : bk < t := by omega
        have hbt1 : bk + 1 < t := by omega
        have hbt2 : (bk : Int) < (t : Int) := by omega
        have hbt3 : (bk : Int) + 1 < (t : Int) := by omega
        clear hsc hss hste hbk hz hbi
        go_wp2_with fail
        refine (T0.out _ (HV2.out.below hI.out.below)).mono ?_; rintro e w4 ⟨rfl, hb4⟩
        have hI4 := Lib.hid (hI.out.next hb4)
        clear hb4 hI S0 x0 x1 x2 hcs
        go_wp2_with fail
        refine (TP.out _).mono ?_; rintro e w5 ⟨rfl, rfl⟩
        obtain ⟨c0, f0⟩ := hI4.out.row.cell bk (by rw [hI4.out.len]; exact hbt)
        have hI5 := Lib.hid (hI4.out.set bk (packI st false))
        generalize (chansE c k).getD bk 0 = old at c0
        go_upto_region 9 with fail
        generalize w4.setCell ⟨w2.heap.size, bk, none⟩ (.int .u64 (packI st false)) = w6 at *
        have S6 := Lib.hid ((hI5.out.below.block w.heap.size (by omega)).trans P0.out)
        clear c0 f0 hI4
        obtain ⟨x0, x1, x2⟩ := rowc3 S6.out
        go_wp2_with fail
        refine (T1.out _ (HV2.out.below hI5.out.below)).mono ?_; rintro e w7 ⟨rfl, hb7⟩
        have hI7 := Lib.hid (hI5.out.next hb7)
        obtain ⟨c0, f0⟩ := hI7.out.row.cell (bk + 1) (by rw [hI7.out.len]; exact hbt1)
        have hI8 := Lib.hid (hI7.out.set (bk + 1) st)
        clear hb7 x0 x1 x2 S6 hI5
        generalize ((chansE c k).set bk (packI st false)).getD (bk + 1) 0 = old1 at c0
        go_upto_region 10 with fail
        generalize w7.setCell ⟨w2.heap.size, bk + 1, none⟩ (.int .u64 st) = w8 at *
        have hE8 : ((chansE c k).set bk (packI st false)).set (bk + 1) st = headE c k (chansE c k) := by
          unfold headE
          rw [HBK.out, HST.out, Int.toNat_natCast, show ((bk : Int) + 1).toNat = bk + 1 by omega]
        rw [hE8] at hI8
        have S8 := Lib.hid ((hI8.out.below.block w.heap.size (by omega)).trans P0.out)
        clear c0 f0 hI7 hE8
        obtain ⟨x0, x1, x2⟩ := rowc3 S8.out
        go_wp2_with fail
        refine (T2.out _ (HV2.out.below hI8.out.below)).mono ?_; rintro e w9 ⟨rfl, hb9⟩
        have hI9 : Hid (NewI w2 w9 w2.heap.size t (slotsE c k (headE c k (chansE c k)) 0)) := hI8.out.next hb9
        clear hb9 hI8 S8 x0 x1 x2 T0 T1 T2 TP
        go_wp2_with fail
        go_loopw [43] (fun i wr => ∃ j : Nat, j ≤ z ∧ i = .int .i64 j ∧ Hid (NewI w2 wr w2.heap.size t (slotsE c k (headE c k (chansE c k)) j))) (fun i _ => 17 - (intOf i).toNat)
        case atStart => exact ⟨0, by omega, rfl, hI9⟩
        case round =>
          clear hI9
          obtain ⟨j, hj, rfl, hI⟩ := hrel
          obtain ⟨wo, rfl⟩ : ∃ wo : World, wo = wr := ⟨_, rfl⟩
          have S9 := Lib.hid ((hI.out.below.block w.heap.size (by omega)).trans P0.out)
          by_cases hjl : j < z
          · have hsq := next_lt st j
            have TN := Lib.hid fun w' => qnext_any st j w'
            have TS := Lib.hid fun w' h => slotSeqW_any (.agg #[.slice a c.caps.length cap, .slice (some ⟨bs, off, none⟩) c.starts.length cap2, .int .i64 c.threads]) c k (nextI st j) hkc.out hsq.1 (by omega) w' h HG.out
            have hin := HG.out.slot_in k (nextI st j) hkc.out hsq.1
            rw [HT.out] at hin
            obtain ⟨sw, hsw⟩ : ∃ sw : Nat, c.slotW k (nextI st j) = sw := ⟨(c.slotW k (nextI st j)).toNat, by omega⟩
            rw [hsw] at hin TS
            have HNX : Hid (slotsE c k (headE c k (chansE c k)) (j + 1) = (slotsE c k (headE c k (chansE c k)) j).set sw (nextI st j)) := by
              show (slotsE c k (headE c k (chansE c k)) j).set (c.slotW k (nextI (c.st k) j)).toNat (nextI (c.st k) j) = _
              rw [HST.out, hsw]; rfl
            generalize nextI st j = sq at *
            have hs1 : sw < t := by omega
            have hs2 : (sw : Int) < (t : Int) := by omega
            clear hin hsw
            go_wp2_with fail
            refine (TN.out _).mono ?_; rintro e w5 ⟨rfl, rfl⟩
            obtain ⟨x0, x1, x2⟩ := rowc3 S9.out
            go_wp2_with fail
            refine (TS.out _ (HV2.out.below hI.out.below)).mono ?_; rintro e w6 ⟨rfl, hb6⟩
            have hI6 := Lib.hid (hI.out.next hb6)
            obtain ⟨c0, f0⟩ := hI6.out.row.cell sw (by rw [hI6.out.len]; exact hs1)
            have hI7 := Lib.hid (hI6.out.set sw sq)
            rw [← HNX.out] at hI7
            clear hb6 x0 x1 x2 S9 hI HNX
            generalize (slotsE c k (headE c k (chansE c k)) j).getD sw 0 = old2 at c0
            go_wp2
            go_roundw
            case rel => exact ⟨j + 1, by omega, by go_num, hI7⟩
            case measure => simp [intOf]; omega
          · obtain rfl : j = z := by omega
            have hfin : Hid (NewI w2 wo w2.heap.size t (chansE c (k + 1))) := by
              show NewI w2 wo w2.heap.size t (slotsE c k (headE c k (chansE c k)) (c.size k).toNat)
              rw [HZ.out]; exact hI.out
            go_wp2
            go_roundw
            case rel => exact ⟨k + 1, by omega, by go_num, hfin⟩
            case measure => simp [intOf]; omega
      · obtain rfl : k = c.starts.length := by omega
        have TL := Lib.hid fun w' => listBase_any c.caps.length w' (by omega)
        have HSS := Lib.hid hI.out
        rw [hsame.out] at HSS
        go_wp2_with fail
        refine (TL.out _).mono ?_; rintro e w5 ⟨rfl, rfl⟩
        have hS1 := (hI.out.below.block (w.heap.size + 1) (by omega)).trans P1.out
        have hwo := hI.out.below.size
        go_wp2_with (first
          | (refine wpList_store_row rfl 25 _ _ rfl (w.heap.size + 1) _ rfl rfl 25 zeroMem5 S6.out (by kernel_rfl) rfl (by simp [Value.oneCell']) ?_)
          | (at_make; refine wp_make_lists wo rfl _ _ rfl (2 * c.caps.length) _ _ rfl rfl ?_ ?_ ?_ ?_; (simp); (simp); omega; intro w6 ho6 hb6; have S6 := Lib.hid ((hb6.block (w.heap.size + 1) (by omega)).trans hS1)))
        have g1 := row_grown w6 (w.heap.size + 1) #[.slice (some ⟨w2.heap.size, 0, none⟩) t t, .slice (some ⟨wo.heap.size, 0, none⟩) (2 * c.caps.length) (2 * c.caps.length), .int .i64 0]
        have hI6 := HSS.out.next hb6
        have r1 := hI6.row.kept g1 (.inr (by simp [Value.ownBlock]; omega))
        have r2 := World.ownsRow.kept ho6 g1 (.inr (by simp [Value.ownBlock]; omega))
        have hb7 := row_below (below_then (HB2.out.trans (hI.out.below.mono (by omega))) hb6) (Nat.le_succ _) #[.slice (some ⟨w2.heap.size, 0, none⟩) t t, .slice (some ⟨wo.heap.size, 0, none⟩) (2 * c.caps.length) (2 * c.caps.length), .int .i64 0]
        refine bodyPost_ret (v := .tuple #[.agg #[.slice (some ⟨w2.heap.size, 0, none⟩) t t, .slice (some ⟨wo.heap.size, 0, none⟩) (2 * c.caps.length) (2 * c.caps.length), .int .i64 0], .int .i64 0]) (results_cell_tmp Try.results28 _ _ (w.heap.size + 1) 25 _ (0, 0) _ rfl (setRow_heap _ _ _ _ 25 (0, 0) S6.out) Try.underlying25 rfl (by kernel_rfl) _ rfl) rfl ?_
        unfold NewR
        rw [HE.out, HCE.out]
        exact ⟨_, rfl, ⟨_, _, _, rfl, r1.read (by show (chansE c c.caps.length).length ≤ _; rw [hI6.len]; omega) (chansE_wf HG.out _ (Nat.le_refl _)), nils_read r2 (by omega)⟩, hb7⟩
end Go.Proofs.Ytkpnakomlfjndaa
