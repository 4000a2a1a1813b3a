import Derived.Deep.DeepCutAuto
import Derived.Deep.CutBlock
import Derived.Test.YtialclohhemkiaaB22
import Derived.Test.YtialclohhemkiaaB12
import Derived.Test.YtialclohhemkiaaB17
set_option linter.unusedVariables false
set_option linter.unusedSimpArgs false
/- Layer 14: the reference's Meeting. -/
namespace Go.Proofs.Ytialclohhemkiaa
open Go.ChangeShapes Go.WideShapes Go.ChangeAt Go.RowKit
set_option maxRecDepth 100000

def pairL (p : ResM × ResM) : List Value := resL p.1 ++ resL p.2
def pairRows (l : List (ResM × ResM)) : List (List Value) := l.map pairL
theorem pairRows_length (l : List (ResM × ResM)) : (pairRows l).length = l.length := List.length_map _
theorem pairRows_append (a b : List (ResM × ResM)) : pairRows (a ++ b) = pairRows a ++ pairRows b := List.map_append
theorem pairRows_rows (l : List (ResM × ResM)) : Rows' 10 (pairRows l) := fun r hr => by
  obtain ⟨x, -, rfl⟩ := List.mem_map.1 hr
  refine ⟨rfl, fun u hu => ?_⟩
  simp only [pairL, resL, List.mem_append, List.mem_cons, List.not_mem_nil, or_false] at hu
  rcases hu with (rfl | rfl | rfl | rfl | rfl) | (rfl | rfl | rfl | rfl | rfl) <;> rfl
theorem Try.info_pair2 : (Try.prog.info? 42).map (fun i => (i.zero, i.size, i.bytes)) = some (some (.agg #[.int .i64 0, .int .i64 0, .int .u64 0, .bool false, .int .i64 0, .int .i64 0, .int .i64 0, .int .u64 0, .bool false, .int .i64 0]), 10, 80) := by kernel_rfl
theorem meetRow_succ (l : List ChanM) (a b : OpM) (i k : Nat) : meetRow l a b i (k + 1) = meetRow l a b i k ++ (if pairB l a (meetPQ a b i k).1 b (meetPQ a b i k).2 = true then [meetPQ a b i k] else []) := by
  unfold meetRow
  rw [List.range_succ, List.map_append, List.filter_append]
  congr 1
  simp only [List.map_cons, List.map_nil, List.filter_cons, List.filter_nil]
theorem meeting_succ (l : List ChanM) (a b : OpM) (i : Nat) : meetingE l a b (i + 1) = meetingE l a b i ++ meetRow l a b i (casesE b).length := by
  unfold meetingE
  rw [List.range_succ, List.map_append, List.flatten_append]
  simp
theorem meetRow_le (l : List ChanM) (a b : OpM) (i k : Nat) : (meetRow l a b i k).length ≤ k := by
  unfold meetRow
  refine Nat.le_trans (List.length_filter_le _ _) ?_
  simp
theorem meeting_le (l : List ChanM) (a b : OpM) : ∀ i, (meetingE l a b i).length ≤ i * (casesE b).length
  | 0 => by simp [meetingE]
  | i + 1 => by
    rw [meeting_succ, List.length_append, Nat.add_mul, Nat.one_mul]
    have := meeting_le l a b i
    have := meetRow_le l a b i (casesE b).length
    omega
set_option maxRecDepth 100000 in
set_option maxHeartbeats 16000000 in
theorem rmeeting_any (v va vb : Value) (l : List ChanM) (a b : OpM) (w : World) (hv : SlH w v l) (ha : OpV w va a) (hb : OpV w vb b) (hoka : a.chan = IntKind.i64.wrap a.chan ∧ a.val = IntKind.u64.wrap a.val) (hokb : b.chan = IntKind.i64.wrap b.chan ∧ b.val = IntKind.u64.wrap b.val) (hla : (casesE a).length ≤ 100) (hlb : (casesE b).length ≤ 100) : Calls Try.prog 16 #[v, va, vb] w fun e w' => ∃ u, e = .returned u ∧ SlS w' 10 u (pairRows (meetingE l a b (casesE a).length)) ∧ Below w.heap.size w w' := by
  have TCa := Lib.hid fun w' (h : Below w.heap.size w w') => rcases_any va a w' (ha.below h) hoka
  have TCb := Lib.hid fun w' (h : Below w.heap.size w w') => rcases_any vb b w' (hb.below h) hokb
  have TP := Lib.hid fun x y w' (h : Below w.heap.size w w') => rPair_any v va vb l a x b y w' (hv.below h) (ha.below h) (hb.below h)
  have HRS := Lib.hid fun i k => meetRow_succ l a b i k
  have HMS := Lib.hid fun i => meeting_succ l a b i
  have HRL := Lib.hid fun i k => meetRow_le l a b i k
  have HML := Lib.hid fun i => meeting_le l a b i
  have HM0 : Hid (meetingE l a b 0 = []) := rfl
  have HR0 : Hid (∀ i, meetRow l a b i 0 = []) := fun _ => rfl
  have HPQ : Hid (∀ i k, meetPQ a b i k = if ((casesE a).getD i noCase).send then (⟨1, numE a i, 0, false, 0⟩, ⟨2, numE b k, ((casesE a).getD i noCase).val, true, 0⟩) else (⟨2, numE a i, ((casesE b).getD k noCase).val, true, 0⟩, ⟨1, numE b k, 0, false, 0⟩)) := fun _ _ => rfl
  have HNA : Hid (∀ k, numE a k = if a.kind = 4 then (k : Int) else -1) := fun _ => rfl
  have HNB : Hid (∀ k, numE b k = if b.kind = 4 then (k : Int) else -1) := fun _ => rfl
  obtain ⟨ca, hca⟩ : ∃ z, casesE a = z := ⟨_, rfl⟩
  obtain ⟨cb, hcb⟩ : ∃ z, casesE b = z := ⟨_, rfl⟩
  rw [hca] at TCa HPQ hla ⊢
  rw [hcb] at TCb HPQ hlb HMS HML
  obtain ⟨mr, hmr⟩ : ∃ z, meetRow l a b = z := ⟨_, rfl⟩
  obtain ⟨me, hme⟩ : ∃ z, meetingE l a b = z := ⟨_, rfl⟩
  obtain ⟨pq, hpq⟩ : ∃ z, meetPQ a b = z := ⟨_, rfl⟩
  obtain ⟨na, hna⟩ : ∃ z, numE a = z := ⟨_, rfl⟩
  obtain ⟨nb, hnb⟩ : ∃ z, numE b = z := ⟨_, rfl⟩
  rw [hmr] at HRS HMS HRL HR0
  rw [hme] at HMS HML HM0 ⊢
  rw [hpq] at HRS HPQ
  rw [hna] at HPQ HNA
  rw [hnb] at HPQ HNB
  obtain ⟨pB, hpB⟩ : ∃ z, (fun x y => pairB l a x b y) = z := ⟨_, rfl⟩
  have HPB : Hid (∀ x y, pairB l a x b y = pB x y) := fun x y => by rw [← hpB]
  have TP2 : Hid (∀ x y w', Below w.heap.size w w' → Calls Try.prog 18 #[v, va, resW x, vb, resW y] w' fun e w2 => e = .returned (.bool (pB x y)) ∧ Below w'.heap.size w' w2) := fun x y w' h => by rw [← HPB.out]; exact TP.out x y w' h
  have HRS2 : Hid (∀ i k, mr i (k + 1) = mr i k ++ (if pB (pq i k).1 (pq i k).2 = true then [pq i k] else [])) := fun i k => by rw [HRS.out, HPB.out]
  clear hca hcb hmr hme hpq hna hnb hpB hoka hokb HPB HRS TP
  obtain ⟨vc, vd, rfl, hc, hd⟩ := ha
  obtain ⟨kd, md, ch, vl, dl, cs, ds⟩ := a
  dsimp only at *
  obtain ⟨a3, cap3, rfl⟩ := hc.len
  obtain ⟨a4, cap4, rfl, -⟩ := hd.len
  obtain ⟨vc2, vd2, rfl, hc2, hd2⟩ := hb
  obtain ⟨kd2, md2, ch2, vl2, dl2, cs2, ds2⟩ := b
  dsimp only at *
  obtain ⟨a32, cap32, rfl⟩ := hc2.len
  obtain ⟨a42, cap42, rfl, -⟩ := hd2.len
  obtain ⟨aq, cap, hve, -⟩ := hv.len
  subst hve
  clear hv hc hd hc2 hd2
  obtain ⟨W, hW, HB, R0, R1, hz⟩ := two_new w (.cells #[.int .i64 kd, .int .i64 md, .int .i64 ch, .int .u64 vl, .int .i64 dl, .slice a3 cs.length cap3, .slice a4 ds.length cap4] 38) (.cells #[.int .i64 kd2, .int .i64 md2, .int .i64 ch2, .int .u64 vl2, .int .i64 dl2, .slice a32 cs2.length cap32, .slice a42 ds2.length cap42] 38)
  have HW := Lib.hid hW
  clear hW
  go_enter Try.func16, Try.ntmps16
  go_upto_region 1 with fail
  rw [HW.out]
  clear HW
  obtain ⟨x0_0, x0_1, x0_2, x0_3, x0_4, x0_5, x0_6⟩ := rowc7 R0.out
  obtain ⟨x1_0, x1_1, x1_2, x1_3, x1_4, x1_5, x1_6⟩ := rowc7 R1.out
  go_upto_region 2 with fail
  go_cut [8, 9] (fun s8 s9 wx => ∃ (b8 b9 : Option Addr) (k8 k9 : Nat), s8 = .slice b8 ca.length k8 ∧ s9 = .slice b9 cb.length k9 ∧ Hid (SlC wx (.slice b8 ca.length k8) ca) ∧ Hid (SlC wx (.slice b9 cb.length k9) cb) ∧ Hid (Below W.heap.size W wx))
  case first =>
    have KS2 : Hid (∀ w', Below W.heap.size W w' → (fun w' : World => (w'.cell? ⟨w.heap.size, 0, none⟩ = some (.int .i64 kd) ∧ w'.cell? ⟨w.heap.size, 1, none⟩ = some (.int .i64 md) ∧ w'.cell? ⟨w.heap.size, 2, none⟩ = some (.int .i64 ch) ∧ w'.cell? ⟨w.heap.size, 3, none⟩ = some (.int .u64 vl) ∧ w'.cell? ⟨w.heap.size, 4, none⟩ = some (.int .i64 dl) ∧ w'.cell? ⟨w.heap.size, 5, none⟩ = some (.slice a3 cs.length cap3) ∧ w'.cell? ⟨w.heap.size, 6, none⟩ = some (.slice a4 ds.length cap4)) ∧ (w'.cell? ⟨w.heap.size + 1, 0, none⟩ = some (.int .i64 kd2) ∧ w'.cell? ⟨w.heap.size + 1, 1, none⟩ = some (.int .i64 md2) ∧ w'.cell? ⟨w.heap.size + 1, 2, none⟩ = some (.int .i64 ch2) ∧ w'.cell? ⟨w.heap.size + 1, 3, none⟩ = some (.int .u64 vl2) ∧ w'.cell? ⟨w.heap.size + 1, 4, none⟩ = some (.int .i64 dl2) ∧ w'.cell? ⟨w.heap.size + 1, 5, none⟩ = some (.slice a32 cs2.length cap32) ∧ w'.cell? ⟨w.heap.size + 1, 6, none⟩ = some (.slice a42 ds2.length cap42))) w') := fun w' hbb => ⟨rowc7 ((hbb.block _ (Array.getElem?_eq_some_iff.1 R0.out).1).trans R0.out), rowc7 ((hbb.block _ (Array.getElem?_eq_some_iff.1 R1.out).1).trans R1.out)⟩
    clear x0_0 x0_1 x0_2 x0_3 x0_4 x0_5 x0_6 x1_0 x1_1 x1_2 x1_3 x1_4 x1_5 x1_6
    refine untilK KS2 4 6 (by kernel_rfl) rfl ?_
    obtain ⟨u0, hu0, HU0⟩ := drew_pack W
    rw [hu0]
    clear hu0
    have hSU0 := KS2.out _ HU0.out
    refine tkU (v := ?_) 0 la0 hSU0 (by kernel_rfl) (fun _ _ _ h => h) rfl ?_ ?_
    rotate_left
    · (intro w hSw; (try dsimp only at hSw); go_simp <;> with_reducible rfl)
    simp only [Act.put, List.setIfInBounds_toArray, List.set_cons_zero, List.set_cons_succ]
    refine wpAnyU_ready (rs := [1, 2]) (by kernel_rfl) rfl ?_
    refine AllReadyU.cons la1 rfl (fun K hK => ?_) ?_
    · go_simp
      go_at_call 51
      refine (TCa.out _ (below_then HB.out HU0.out)).mono ?_
      rintro e u1 ⟨u8, rfl, hs8, hb8⟩
      obtain ⟨b8, k8, rfl⟩ := hs8.len
      have HS8 := Lib.hid hs8
      have HU1 := Lib.hid (below_then HU0.out hb8)
      clear hs8 hb8
      refine hK.out _ _ ?_ (fun hSU1 => ?_)
      · exact KS2.out _ HU1.out
      clear hK K hSU0
      try simp only [Act.put, List.setIfInBounds_toArray, List.set_cons_zero, List.set_cons_succ]
      refine wpAnyU_ready (rs := [2]) (by kernel_rfl) rfl ?_
      refine AllReadyU.cons la2 rfl (fun K hK => ?_) ?_
      · obtain ⟨⟨d0, d1, d2, d3, d4, d5, d6⟩, ⟨e0, e1, e2, e3, e4, e5, e6⟩⟩ := KS2.out _ HU1.out
        go_simp
        clear d0 d1 d2 d3 d4 d5 d6 e0 e1 e2 e3 e4 e5 e6
        refine hK.out _ _ ?_ (fun hSU2 => ?_)
        · exact hSU1
        clear hK K hSU1
        try simp only [Act.put, List.setIfInBounds_toArray, List.set_cons_zero, List.set_cons_succ]
        refine wpAnyU_ready (rs := [3]) (by kernel_rfl) rfl ?_
        refine AllReadyU.cons la3 rfl (fun K hK => ?_) ?_
        · go_simp
          go_at_call 51
          refine (TCb.out _ (below_then HB.out HU1.out)).mono ?_
          rintro e u2 ⟨u9, rfl, hs9, hb9⟩
          obtain ⟨b9, k9, rfl⟩ := hs9.len
          have HS9 := Lib.hid hs9
          have HU2 := Lib.hid (below_then HU1.out hb9)
          have HS8 := Lib.hid (HS8.out.below hb9)
          clear hs9 hb9
          refine hK.out _ _ ?_ (fun hSU3 => ?_)
          · exact KS2.out _ HU2.out
          clear hK K hSU2
          try simp only [Act.put, List.setIfInBounds_toArray, List.set_cons_zero, List.set_cons_succ]
          refine wpAnyU_ready (rs := [4]) (by kernel_rfl) rfl ?_
          refine AllReadyU.free la4 rfl (by kernel_rfl) (fun K hK => ?_) ?_
          · go_simp
            refine hK.out _ _ ?_
            clear hK K hSU3
            try simp only [Act.put, List.setIfInBounds_toArray, List.set_cons_zero, List.set_cons_succ]
            refine wpAnyU_takeW (v := ?_) 5 la5 (by kernel_rfl) (by kernel_rfl) (by kernel_rfl) (by kernel_rfl) (fun _ _ _ h => h) (past_k (by kernel_rfl)) rfl ?_ ?_
            rotate_left
            · (intro w; go_simp <;> with_reducible rfl)
            simp only [Act.put, List.setIfInBounds_toArray, List.set_cons_zero, List.set_cons_succ]
            refine wpAnyU_done (by kernel_rfl) ?_ _
            go_wp2_with fail
            go_meet
            exact ⟨_, _, _, _, rfl, rfl, HS8, HS9, HU2⟩
          exact AllReadyU.nil
        exact AllReadyU.nil
      exact AllReadyU.nil
    refine AllReadyU.cons la2 rfl (fun K hK => ?_) ?_
    · obtain ⟨⟨d0, d1, d2, d3, d4, d5, d6⟩, ⟨e0, e1, e2, e3, e4, e5, e6⟩⟩ := KS2.out _ HU0.out
      go_simp
      clear d0 d1 d2 d3 d4 d5 d6 e0 e1 e2 e3 e4 e5 e6
      refine hK.out _ _ ?_ (fun hSU4 => ?_)
      · exact hSU0
      clear hK K hSU0
      try simp only [Act.put, List.setIfInBounds_toArray, List.set_cons_zero, List.set_cons_succ]
      refine wpAnyU_ready (rs := [1]) (by kernel_rfl) rfl ?_
      refine AllReadyU.cons la1 rfl (fun K hK => ?_) ?_
      · go_simp
        go_at_call 51
        refine (TCa.out _ (below_then HB.out HU0.out)).mono ?_
        rintro e u1 ⟨u8, rfl, hs8, hb8⟩
        obtain ⟨b8, k8, rfl⟩ := hs8.len
        have HS8 := Lib.hid hs8
        have HU1 := Lib.hid (below_then HU0.out hb8)
        clear hs8 hb8
        refine hK.out _ _ ?_ (fun hSU5 => ?_)
        · exact KS2.out _ HU1.out
        clear hK K hSU4
        try simp only [Act.put, List.setIfInBounds_toArray, List.set_cons_zero, List.set_cons_succ]
        refine wpAnyU_ready (rs := [3]) (by kernel_rfl) rfl ?_
        refine AllReadyU.cons la3 rfl (fun K hK => ?_) ?_
        · go_simp
          go_at_call 51
          refine (TCb.out _ (below_then HB.out HU1.out)).mono ?_
          rintro e u2 ⟨u9, rfl, hs9, hb9⟩
          obtain ⟨b9, k9, rfl⟩ := hs9.len
          have HS9 := Lib.hid hs9
          have HU2 := Lib.hid (below_then HU1.out hb9)
          have HS8 := Lib.hid (HS8.out.below hb9)
          clear hs9 hb9
          refine hK.out _ _ ?_ (fun hSU6 => ?_)
          · exact KS2.out _ HU2.out
          clear hK K hSU5
          try simp only [Act.put, List.setIfInBounds_toArray, List.set_cons_zero, List.set_cons_succ]
          refine wpAnyU_ready (rs := [4]) (by kernel_rfl) rfl ?_
          refine AllReadyU.free la4 rfl (by kernel_rfl) (fun K hK => ?_) ?_
          · go_simp
            refine hK.out _ _ ?_
            clear hK K hSU6
            try simp only [Act.put, List.setIfInBounds_toArray, List.set_cons_zero, List.set_cons_succ]
            refine wpAnyU_takeW (v := ?_) 5 la5 (by kernel_rfl) (by kernel_rfl) (by kernel_rfl) (by kernel_rfl) (fun _ _ _ h => h) (past_k (by kernel_rfl)) rfl ?_ ?_
            rotate_left
            · (intro w; go_simp <;> with_reducible rfl)
            simp only [Act.put, List.setIfInBounds_toArray, List.set_cons_zero, List.set_cons_succ]
            refine wpAnyU_done (by kernel_rfl) ?_ _
            go_wp2_with fail
            go_meet
            exact ⟨_, _, _, _, rfl, rfl, HS8, HS9, HU2⟩
          exact AllReadyU.nil
        exact AllReadyU.nil
      exact AllReadyU.nil
    exact AllReadyU.nil
  case rest =>
    obtain ⟨b8, b9, k8, k9, rfl, rfl, HS8, HS9, HBW⟩ := hcut
    obtain ⟨w1, rfl⟩ : ∃ w1 : World, w1 = wc := ⟨_, rfl⟩
    have HB1 := Lib.hid (below_then HB.out HBW.out)
    have R01 := Lib.hid ((HBW.out.block _ (Array.getElem?_eq_some_iff.1 R0.out).1).trans R0.out)
    have R11 := Lib.hid ((HBW.out.block _ (Array.getElem?_eq_some_iff.1 R1.out).1).trans R1.out)
    clear x0_0 x0_1 x0_2 x0_3 x0_4 x0_5 x0_6 x1_0 x1_1 x1_2 x1_3 x1_4 x1_5 x1_6 HBW R0 R1 HB hz TCa TCb
    go_wp2_with fail
    go_loopw [7, 10] (fun u7 u10 wr => ∃ (i : Nat) (u : Value), u = u7 ∧ u10 = .int .i64 i ∧ i ≤ ca.length ∧ Hid (OwnS wr w1.heap.size 42 10 u (pairRows (me i))) ∧ Hid (Below w1.heap.size w1 wr)) (fun _ u10 _ => ca.length - (intOf u10).toNat)
    case atStart => exact ⟨0, _, rfl, rfl, by omega, by rw [HM0.out]; exact OwnS.nil _ _ _ _, Below.refl _ _⟩
    case round =>
      obtain ⟨i, u, rfl, rfl, hi, HO, HBi⟩ := hrel
      obtain ⟨wo, rfl⟩ : ∃ wo : World, wo = wr := ⟨_, rfl⟩
      by_cases hlt : i < ca.length
      · have hltI : (i : Int) < (ca.length : Int) := by omega
        have HO0 : Hid (OwnS wo w1.heap.size 42 10 u (pairRows (me i ++ mr i 0))) := by rw [HR0.out, List.append_nil]; exact HO
        go_wp2_with fail
        go_loopw [7, 11] (fun u7 u11 wr => ∃ (k : Nat) (u : Value), u = u7 ∧ u11 = .int .i64 k ∧ k ≤ cb.length ∧ Hid (OwnS wr w1.heap.size 42 10 u (pairRows (me i ++ mr i k))) ∧ Hid (Below w1.heap.size w1 wr)) (fun _ u11 _ => cb.length - (intOf u11).toNat)
        case atStart => exact ⟨0, _, rfl, rfl, by omega, HO0, HBi⟩
        case round =>
          clear HO HO0 HBi
          obtain ⟨k, u, rfl, rfl, hk, HO, HBk⟩ := hrel
          obtain ⟨wp, rfl⟩ : ∃ wp : World, wp = wr := ⟨_, rfl⟩
          by_cases hlk : k < cb.length
          · have hlkI : (k : Int) < (cb.length : Int) := by omega
            obtain ⟨-, -, a', cap', hve, -, hcell⟩ := HS8.out.below HBk.out
            simp only [Value.slice.injEq, true_and] at hve
            obtain ⟨rfl, rfl⟩ := hve
            obtain ⟨p8, o8, rfl, hb8, hca⟩ := hcell i hlt
            obtain ⟨⟨s1, s2, s3⟩, hx⟩ : ∃ x, ca.getD i noCase = x := ⟨_, rfl⟩
            rw [hx] at hca
            obtain ⟨c0, c1, c2⟩ := hca
            dsimp only at c0 c1 c2
            obtain ⟨-, -, a', cap', hve, -, hcell2⟩ := HS9.out.below HBk.out
            simp only [Value.slice.injEq, true_and] at hve
            obtain ⟨rfl, rfl⟩ := hve
            obtain ⟨p9, o9, rfl, hb9, hcb⟩ := hcell2 k hlk
            obtain ⟨⟨t1, t2, t3⟩, hy⟩ : ∃ x, cb.getD k noCase = x := ⟨_, rfl⟩
            rw [hy] at hcb
            obtain ⟨d0, d1, d2⟩ := hcb
            dsimp only at d0 d1 d2
            have HXY := Lib.hid (And.intro hx hy)
            have HPK := Lib.hid (HPQ.out i k)
            rw [hx, hy] at HPK
            obtain ⟨nn, hnn⟩ : ∃ z, na i = z := ⟨_, rfl⟩
            obtain ⟨mm, hmm⟩ : ∃ z, nb k = z := ⟨_, rfl⟩
            rw [hnn, hmm] at HPK
            have HNN := Lib.hid (And.intro hnn hmm)
            have R0k := Lib.hid ((HBk.out.block _ (Array.getElem?_eq_some_iff.1 R01.out).1).trans R01.out)
            have R1k := Lib.hid ((HBk.out.block _ (Array.getElem?_eq_some_iff.1 R11.out).1).trans R11.out)
            have hsw1 : w.heap.size + 2 ≤ w1.heap.size := by have h9 := (Array.getElem?_eq_some_iff.1 R11.out).1; omega
            have hswp := HBk.out.size
            clear hcell hcell2 hx hy hnn hmm
            obtain ⟨x0, x1, x2, x3, x4, x5, x6⟩ := rowc7 R0k.out
            obtain ⟨y0, y1, y2, y3, y4, y5, y6⟩ := rowc7 R1k.out
            go_upto_if 34 with (fail)
            go_cut [12] (fun s12 wx => s12 = .int .i64 nn ∧ wx = wp)
            case first =>
              by_cases h4 : kd = 4
              · have h4b : (kd == 4) = true := by simpa using h4
                have e : nn = i := by rw [← HNN.out.1, HNA.out, if_pos h4]
                clear h4
                subst e
                go_wp2_with fail
                go_meet
                exact ⟨rfl, rfl⟩
              · have h4b : (kd == 4) = false := by simpa using h4
                have e : nn = -1 := by rw [← HNN.out.1, HNA.out, if_neg h4]
                clear h4
                subst e
                go_wp2_with fail
                go_meet
                exact ⟨rfl, rfl⟩
            case rest =>
              obtain ⟨rfl, hwc⟩ := hcut
              have hwc' := hwc.symm
              subst hwc'
              clear hwc
              go_upto_if 38 with (fail)
              go_cut [13] (fun s13 wx => s13 = .int .i64 mm ∧ wx = wp)
              case first =>
                by_cases h4 : kd2 = 4
                · have h4b : (kd2 == 4) = true := by simpa using h4
                  have e : mm = k := by rw [← HNN.out.2, HNB.out, if_pos h4]
                  clear h4
                  subst e
                  go_wp2_with fail
                  go_meet
                  exact ⟨rfl, rfl⟩
                · have h4b : (kd2 == 4) = false := by simpa using h4
                  have e : mm = -1 := by rw [← HNN.out.2, HNB.out, if_neg h4]
                  clear h4
                  subst e
                  go_wp2_with fail
                  go_meet
                  exact ⟨rfl, rfl⟩
              case rest =>
                obtain ⟨rfl, hwc⟩ := hcut
                have hwc' := hwc.symm
                subst hwc'
                clear hwc HNN x0 x1 x2 x3 x4 x5 x6 y0 y1 y2 y3 y4 y5 y6
                go_upto_region 14 with fail
                go_cut [14, 15] (fun s14 s15 wx => ∃ (P Q : Nat), s14 = .pointer (some ⟨P, 0, none⟩) ∧ s15 = .pointer (some ⟨Q, 0, none⟩) ∧ P ≠ Q ∧ wp.heap.size ≤ P ∧ wp.heap.size ≤ Q ∧ Hid (wx.heap[P]? = some (.cells #[.int .i64 1, .int .i64 nn, .int .u64 0, .bool false, .int .i64 0] 25 (0, 0))) ∧ Hid (wx.heap[Q]? = some (.cells #[.int .i64 2, .int .i64 mm, .int .u64 s3, .bool true, .int .i64 0] 25 (0, 0))) ∧ Hid (Below wp.heap.size wp wx))
                case first =>
                  have KS : Hid (∀ w', Below wp.heap.size wp w' → (fun w' : World => w'.cell? ⟨p8, o8 + i * 3 + 2, none⟩ = some (.int .u64 s3)) w') := fun w' hbb => (hbb.cell (p := ⟨p8, o8 + i * 3 + 2, none⟩) hb8).trans c2
                  clear c0 c1 c2 d0 d1 d2
                  refine untilK KS 12 13 (by kernel_rfl) rfl ?_
                  obtain ⟨u0, hu0, HU0⟩ := drew_pack wp
                  rw [hu0]
                  clear hu0
                  have hSU0 := KS.out _ HU0.out
                  refine tkU (v := ?_) 0 la0 hSU0 (by kernel_rfl) (fun _ _ _ h => h) rfl ?_ ?_
                  rotate_left
                  · (intro w hSw; (try dsimp only at hSw); go_simp <;> with_reducible rfl)
                  simp only [Act.put, List.setIfInBounds_toArray, List.set_cons_zero, List.set_cons_succ]
                  refine tkU (v := ?_) 1 la1 hSU0 (by kernel_rfl) (fun _ _ _ h => h) rfl ?_ ?_
                  rotate_left
                  · (intro w hSw; (try dsimp only at hSw); go_simp <;> with_reducible rfl)
                  simp only [Act.put, List.setIfInBounds_toArray, List.set_cons_zero, List.set_cons_succ]
                  refine tkU (v := ?_) 2 la2 hSU0 (by kernel_rfl) (fun _ _ _ h => h) rfl ?_ ?_
                  rotate_left
                  · (intro w hSw; (try dsimp only at hSw); go_simp <;> with_reducible rfl)
                  simp only [Act.put, List.setIfInBounds_toArray, List.set_cons_zero, List.set_cons_succ]
                  refine tkU (v := ?_) 3 la3 hSU0 (by kernel_rfl) (fun _ _ _ h => h) rfl ?_ ?_
                  rotate_left
                  · (intro w hSw; (try dsimp only at hSw); go_simp <;> with_reducible rfl)
                  simp only [Act.put, List.setIfInBounds_toArray, List.set_cons_zero, List.set_cons_succ]
                  refine tkU (v := ?_) 4 la4 hSU0 (by kernel_rfl) (fun _ _ _ h => h) rfl ?_ ?_
                  rotate_left
                  · (intro w hSw; (try dsimp only at hSw); go_simp <;> with_reducible rfl)
                  simp only [Act.put, List.setIfInBounds_toArray, List.set_cons_zero, List.set_cons_succ]
                  refine tkU (v := ?_) 5 la5 hSU0 (by kernel_rfl) (fun _ _ _ h => h) rfl ?_ ?_
                  rotate_left
                  · (intro w hSw; (try dsimp only at hSw); go_simp <;> with_reducible rfl)
                  simp only [Act.put, List.setIfInBounds_toArray, List.set_cons_zero, List.set_cons_succ]
                  refine tkU (v := ?_) 6 la6 hSU0 (by kernel_rfl) (fun _ _ _ h => h) rfl ?_ ?_
                  rotate_left
                  · (intro w hSw; (try dsimp only at hSw); go_simp <;> with_reducible rfl)
                  simp only [Act.put, List.setIfInBounds_toArray, List.set_cons_zero, List.set_cons_succ]
                  refine tkU (v := ?_) 7 la7 hSU0 (by kernel_rfl) (fun _ _ _ h => h) rfl ?_ ?_
                  rotate_left
                  · (intro w hSw; (try dsimp only at hSw); go_simp <;> with_reducible rfl)
                  simp only [Act.put, List.setIfInBounds_toArray, List.set_cons_zero, List.set_cons_succ]
                  refine tkU (v := ?_) 8 la8 hSU0 (by kernel_rfl) (fun _ _ _ h => h) rfl ?_ ?_
                  rotate_left
                  · (intro w hSw; (try dsimp only at hSw); go_simp <;> with_reducible rfl)
                  simp only [Act.put, List.setIfInBounds_toArray, List.set_cons_zero, List.set_cons_succ]
                  refine wpAnyU_ready (rs := [9, 10]) (by kernel_rfl) rfl ?_
                  refine AllReadyU.cons la9 rfl (fun K hK => ?_) ?_
                  · go_simp
                    obtain ⟨u1, P, hvP, hXP, RP, hbn, ltn⟩ := alloc_pack u0 (.cells #[.int .i64 0, .int .i64 0, .int .u64 0, .bool false, .int .i64 0] 25)
                    rw [hvP, hXP]
                    have HU1 := Lib.hid (below_then HU0.out hbn.out)
                    have hlP : wp.heap.size ≤ P ∧ P < u1.heap.size := by have := HU0.out.size; have h9 := (Array.getElem?_eq_some_iff.1 RP.out).1; exact ⟨by omega, h9⟩
                    clear hvP hbn
                    refine hK.out _ _ ?_ (fun hSU1 => ?_)
                    · exact KS.out _ HU1.out
                    clear hK K hSU0
                    try simp only [Act.put, List.setIfInBounds_toArray, List.set_cons_zero, List.set_cons_succ]
                    refine wpAnyU_ready (rs := [10]) (by kernel_rfl) rfl ?_
                    refine AllReadyU.cons la10 rfl (fun K hK => ?_) ?_
                    · go_simp
                      obtain ⟨u2, Q, hvQ, hXQ, RQ, hbn, ltn⟩ := alloc_pack u1 (.cells #[.int .i64 0, .int .i64 0, .int .u64 0, .bool false, .int .i64 0] 25)
                      rw [hvQ, hXQ]
                      have HU2 := Lib.hid (below_then HU1.out hbn.out)
                      have hlQ : wp.heap.size ≤ Q ∧ Q < u2.heap.size := by have := HU1.out.size; have h9 := (Array.getElem?_eq_some_iff.1 RQ.out).1; exact ⟨by omega, h9⟩
                      have hneQ : P ≠ Q := by have := hlP.2; omega
                      have RP := Lib.hid ((hbn.out.block P hlP.2).trans RP.out)
                      clear hvQ hbn
                      refine hK.out _ _ ?_ (fun hSU2 => ?_)
                      · exact KS.out _ HU2.out
                      clear hK K hSU1
                      try simp only [Act.put, List.setIfInBounds_toArray, List.set_cons_zero, List.set_cons_succ]
                      refine wpAnyU_ready (rs := [11]) (by kernel_rfl) rfl ?_
                      refine AllReadyU.cons la11 rfl (fun K hK => ?_) ?_
                      · refine step_store_row rfl 25 _ _ rfl P _ rfl rfl 25 #[.int .i64 0, .int .i64 0, .int .u64 0, .bool false, .int .i64 0] RP.out (by kernel_rfl) rfl (by simp [Value.oneCell']) ?_
                        refine hK.out _ _ ?_ (fun hSU3 => ?_)
                        · exact (cell_of_block (setRow_other u2 P p8 #[.int .i64 1, .int .i64 nn, .int .u64 0, .bool false, .int .i64 0] (by omega))).trans (KS.out _ HU2.out)
                        clear hK K hSU2
                        try simp only [Act.put, List.setIfInBounds_toArray, List.set_cons_zero, List.set_cons_succ]
                        refine wpAnyU_ready (rs := [12]) (by kernel_rfl) rfl ?_
                        refine AllReadyU.free la12 rfl (by kernel_rfl) (fun K hK => ?_) ?_
                        · have hQP : Q ≠ P := by omega
                          have RQ2 : Hid ((u2.setRow P #[.int .i64 1, .int .i64 nn, .int .u64 0, .bool false, .int .i64 0]).heap[Q]? = some (.cells #[.int .i64 0, .int .i64 0, .int .u64 0, .bool false, .int .i64 0] 25 (0, 0))) := (setRow_other u2 P Q #[.int .i64 1, .int .i64 nn, .int .u64 0, .bool false, .int .i64 0] hQP).trans RQ.out
                          refine step_store_row rfl 25 _ _ rfl Q _ rfl rfl 25 #[.int .i64 0, .int .i64 0, .int .u64 0, .bool false, .int .i64 0] RQ2.out (by kernel_rfl) rfl (by simp [Value.oneCell']) ?_
                          refine hK.out _ _ ?_
                          clear hK K hSU3
                          try simp only [Act.put, List.setIfInBounds_toArray, List.set_cons_zero, List.set_cons_succ]
                          refine wpAnyU_done (by kernel_rfl) ?_ _
                          go_wp2_with fail
                          go_meet
                          exact ⟨P, Q, rfl, rfl, by omega, hlP.1, hlQ.1, (setRow_other _ Q P #[.int .i64 2, .int .i64 mm, .int .u64 s3, .bool true, .int .i64 0] (by omega)).trans (setRow_heap _ _ _ _ _ (0, 0) RP.out), setRow_heap _ _ _ _ _ (0, 0) RQ2.out, row_below (row_below HU2.out hlP.1 _) hlQ.1 _⟩
                        exact AllReadyU.nil
                      exact AllReadyU.nil
                    exact AllReadyU.nil
                  refine AllReadyU.cons la10 rfl (fun K hK => ?_) ?_
                  · go_simp
                    obtain ⟨u1, Q, hvQ, hXQ, RQ, hbn, ltn⟩ := alloc_pack u0 (.cells #[.int .i64 0, .int .i64 0, .int .u64 0, .bool false, .int .i64 0] 25)
                    rw [hvQ, hXQ]
                    have HU1 := Lib.hid (below_then HU0.out hbn.out)
                    have hlQ : wp.heap.size ≤ Q ∧ Q < u1.heap.size := by have := HU0.out.size; have h9 := (Array.getElem?_eq_some_iff.1 RQ.out).1; exact ⟨by omega, h9⟩
                    clear hvQ hbn
                    refine hK.out _ _ ?_ (fun hSU4 => ?_)
                    · exact KS.out _ HU1.out
                    clear hK K hSU0
                    try simp only [Act.put, List.setIfInBounds_toArray, List.set_cons_zero, List.set_cons_succ]
                    refine wpAnyU_ready (rs := [9]) (by kernel_rfl) rfl ?_
                    refine AllReadyU.cons la9 rfl (fun K hK => ?_) ?_
                    · go_simp
                      obtain ⟨u2, P, hvP, hXP, RP, hbn, ltn⟩ := alloc_pack u1 (.cells #[.int .i64 0, .int .i64 0, .int .u64 0, .bool false, .int .i64 0] 25)
                      rw [hvP, hXP]
                      have HU2 := Lib.hid (below_then HU1.out hbn.out)
                      have hlP : wp.heap.size ≤ P ∧ P < u2.heap.size := by have := HU1.out.size; have h9 := (Array.getElem?_eq_some_iff.1 RP.out).1; exact ⟨by omega, h9⟩
                      have hneP : Q ≠ P := by have := hlQ.2; omega
                      have RQ := Lib.hid ((hbn.out.block Q hlQ.2).trans RQ.out)
                      clear hvP hbn
                      refine hK.out _ _ ?_ (fun hSU5 => ?_)
                      · exact KS.out _ HU2.out
                      clear hK K hSU4
                      try simp only [Act.put, List.setIfInBounds_toArray, List.set_cons_zero, List.set_cons_succ]
                      refine wpAnyU_ready (rs := [11]) (by kernel_rfl) rfl ?_
                      refine AllReadyU.cons la11 rfl (fun K hK => ?_) ?_
                      · refine step_store_row rfl 25 _ _ rfl P _ rfl rfl 25 #[.int .i64 0, .int .i64 0, .int .u64 0, .bool false, .int .i64 0] RP.out (by kernel_rfl) rfl (by simp [Value.oneCell']) ?_
                        refine hK.out _ _ ?_ (fun hSU6 => ?_)
                        · exact (cell_of_block (setRow_other u2 P p8 #[.int .i64 1, .int .i64 nn, .int .u64 0, .bool false, .int .i64 0] (by omega))).trans (KS.out _ HU2.out)
                        clear hK K hSU5
                        try simp only [Act.put, List.setIfInBounds_toArray, List.set_cons_zero, List.set_cons_succ]
                        refine wpAnyU_ready (rs := [12]) (by kernel_rfl) rfl ?_
                        refine AllReadyU.free la12 rfl (by kernel_rfl) (fun K hK => ?_) ?_
                        · have hQP : Q ≠ P := by omega
                          have RQ2 : Hid ((u2.setRow P #[.int .i64 1, .int .i64 nn, .int .u64 0, .bool false, .int .i64 0]).heap[Q]? = some (.cells #[.int .i64 0, .int .i64 0, .int .u64 0, .bool false, .int .i64 0] 25 (0, 0))) := (setRow_other u2 P Q #[.int .i64 1, .int .i64 nn, .int .u64 0, .bool false, .int .i64 0] hQP).trans RQ.out
                          refine step_store_row rfl 25 _ _ rfl Q _ rfl rfl 25 #[.int .i64 0, .int .i64 0, .int .u64 0, .bool false, .int .i64 0] RQ2.out (by kernel_rfl) rfl (by simp [Value.oneCell']) ?_
                          refine hK.out _ _ ?_
                          clear hK K hSU6
                          try simp only [Act.put, List.setIfInBounds_toArray, List.set_cons_zero, List.set_cons_succ]
                          refine wpAnyU_done (by kernel_rfl) ?_ _
                          go_wp2_with fail
                          go_meet
                          exact ⟨P, Q, rfl, rfl, by omega, hlP.1, hlQ.1, (setRow_other _ Q P #[.int .i64 2, .int .i64 mm, .int .u64 s3, .bool true, .int .i64 0] (by omega)).trans (setRow_heap _ _ _ _ _ (0, 0) RP.out), setRow_heap _ _ _ _ _ (0, 0) RQ2.out, row_below (row_below HU2.out hlP.1 _) hlQ.1 _⟩
                        exact AllReadyU.nil
                      exact AllReadyU.nil
                    exact AllReadyU.nil
                  exact AllReadyU.nil
                case rest =>
                  obtain ⟨P, Q, rfl, rfl, hPQ, hP, hQ, RP, RQ, HBz⟩ := hcut
                  obtain ⟨wz, rfl⟩ : ∃ wz : World, wz = wc := ⟨_, rfl⟩
                  have d0 := (HBz.out.cell (p := ⟨p9, o9 + k * 3, none⟩) hb9).trans d0
                  have d2 := (HBz.out.cell (p := ⟨p9, o9 + k * 3 + 2, none⟩) hb9).trans d2
                  have c0 := (HBz.out.cell (p := ⟨p8, o8 + i * 3, none⟩) hb8).trans c0
                  have hb9z := Nat.lt_of_lt_of_le hb9 HBz.out.size
                  have hpl : P < wz.heap.size := (Array.getElem?_eq_some_iff.1 RP.out).1
                  have hql : Q < wz.heap.size := (Array.getElem?_eq_some_iff.1 RQ.out).1
                  cases s1 with
                  | true =>
                    have HPK2 : Hid (pq i k = (⟨1, nn, 0, false, 0⟩, ⟨2, mm, s3, true, 0⟩)) := HPK.out
                    have HPF := RP
                    have HQF := RQ
                    have HBF := HBz
                    clear c1 c2 d1 HPK RP RQ HBz
                    have R0z := Lib.hid ((HBF.out.block _ (Array.getElem?_eq_some_iff.1 R0k.out).1).trans R0k.out)
                    have R1z := Lib.hid ((HBF.out.block _ (Array.getElem?_eq_some_iff.1 R1k.out).1).trans R1k.out)
                    have HBG := Lib.hid (below_then HBk.out HBF.out)
                    have HOZ := Lib.hid (HO.out.below HBF.out)
                    have T := Lib.hid (TP2.out ⟨1, nn, 0, false, 0⟩ ⟨2, mm, s3, true, 0⟩ wz (below_then HB1.out HBG.out))
                    unfold resW at T
                    dsimp only at T
                    obtain ⟨q, hq⟩ : ∃ q, pB ⟨1, nn, 0, false, 0⟩ ⟨2, mm, s3, true, 0⟩ = q := ⟨_, rfl⟩
                    rw [hq] at T
                    have HST := Lib.hid (HRS2.out i k)
                    rw [HPK2.out] at HST
                    dsimp only at HST
                    rw [hq] at HST
                    clear hq HBF HO
                    obtain ⟨x0, x1, x2, x3, x4, x5, x6⟩ := rowc7 R0z.out
                    obtain ⟨y0, y1, y2, y3, y4, y5, y6⟩ := rowc7 R1z.out
                    obtain ⟨f0, f1, f2, f3, f4⟩ := rowc5 HPF.out
                    obtain ⟨g0, g1, g2, g3, g4⟩ := rowc5 HQF.out
                    go_wp2_with fail
                    refine T.out.mono ?_; rintro e wf ⟨rfl, hbf⟩
                    have HBH := Lib.hid (below_then HBG.out hbf)
                    have HOF := Lib.hid (HOZ.out.below hbf)
                    have HPG := Lib.hid ((hbf.block P (Array.getElem?_eq_some_iff.1 HPF.out).1).trans HPF.out)
                    have HQG := Lib.hid ((hbf.block Q (Array.getElem?_eq_some_iff.1 HQF.out).1).trans HQF.out)
                    clear x0 x1 x2 x3 x4 x5 x6 y0 y1 y2 y3 y4 y5 y6 f0 f1 f2 f3 f4 g0 g1 g2 g3 g4 hbf T HOZ HPF HQF R0z R1z HBG
                    cases q with
                    | false =>
                      have HO5 : Hid (OwnS wf w1.heap.size 42 10 u (pairRows (me i ++ mr i (k + 1)))) := by rw [HST.out, if_neg (by simp), List.append_nil]; exact HOF
                      clear HST HOF
                      go_wp2_with fail
                      go_roundw
                      case rel => exact ⟨k + 1, u, rfl, by go_num, by omega, HO5, HBH⟩
                      case measure => simp [intOf]; omega
                    | true =>
                      have HST2 : Hid (mr i (k + 1) = mr i k ++ [(⟨1, nn, 0, false, 0⟩, ⟨2, mm, s3, true, 0⟩)]) := HST.out
                      have HLEN : Hid ((pairRows (me i ++ mr i k)).length ≤ 20000) := by
                        show _ ≤ _
                        rw [pairRows_length, List.length_append]
                        have h1 := HML.out i
                        have h2 := HRL.out i k
                        have h3 : i * cb.length ≤ 100 * 100 := Nat.mul_le_mul (by omega) hlb
                        omega
                      clear HST
                      obtain ⟨f0, f1, f2, f3, f4⟩ := rowc5 HPG.out
                      obtain ⟨g0, g1, g2, g3, g4⟩ := rowc5 HQG.out
                      have hszf := HBH.out.size
                      go_upto_region 8 with (at_builtin; refine wp_append_ss 40 (by kernel_rfl) Try.info_pair2 rfl (by decide) (by decide) rfl _ _ rfl rfl (HOF.out.below (below_new (Below.refl _ _) _)) (pairRows [(⟨1, nn, 0, false, 0⟩, ⟨2, mm, s3, true, 0⟩)]) (pairRows_rows _) _ 1 rfl rfl (by show (Array.push _ _)[_]? = _; exact Array.getElem?_push_size) (by have := HLEN.out; show _ + 1 ≤ _; omega) (by simp; omega) ?_; intro v2 w2 h1 h2; have H1 := Lib.hid h1; have H2 := Lib.hid h2; clear h1 h2)
                      have HB5 : Hid (Below w1.heap.size w1 w2) := (below_new HBH.out _).grown H2.out (by simp; omega) (fun j hj => (HOF.out.lt j hj).1)
                      have HO5 : Hid (OwnS w2 w1.heap.size 42 10 v2 (pairRows (me i ++ mr i (k + 1)))) := by rw [HST2.out, ← List.append_assoc, pairRows_append]; exact H1
                      clear H1 H2 f0 f1 f2 f3 f4 g0 g1 g2 g3 g4
                      go_wp2_with fail
                      go_roundw
                      case rel => exact ⟨k + 1, _, rfl, by go_num, by omega, HO5, HB5⟩
                      case measure => simp [intOf]; omega
                  | false =>
                    have HPK2 : Hid (pq i k = (⟨2, nn, t3, true, 0⟩, ⟨1, mm, 0, false, 0⟩)) := HPK.out
                    have N1 : Hid (wz.heap[P]? = some (.cells #[.int .i64 1, .int .i64 nn, .int .u64 0, .bool false, .int .i64 0] 25 (0, 0))) := RP
                    have N2 : Hid ((wz.setRow P #[.int .i64 2, .int .i64 nn, .int .u64 t3, .bool true, .int .i64 0]).heap[Q]? = some (.cells #[.int .i64 2, .int .i64 mm, .int .u64 s3, .bool true, .int .i64 0] 25 (0, 0))) := (setRow_other wz P Q #[.int .i64 2, .int .i64 nn, .int .u64 t3, .bool true, .int .i64 0] (fun e => hPQ e.symm)).trans RQ.out
                    have HPF : Hid (((wz.setRow P #[.int .i64 2, .int .i64 nn, .int .u64 t3, .bool true, .int .i64 0]).setRow Q #[.int .i64 1, .int .i64 mm, .int .u64 0, .bool false, .int .i64 0]).heap[P]? = some (.cells #[.int .i64 2, .int .i64 nn, .int .u64 t3, .bool true, .int .i64 0] 25 (0, 0))) := (setRow_other _ Q P #[.int .i64 1, .int .i64 mm, .int .u64 0, .bool false, .int .i64 0] hPQ).trans (setRow_heap _ _ _ _ _ (0, 0) RP.out)
                    have HQF : Hid (((wz.setRow P #[.int .i64 2, .int .i64 nn, .int .u64 t3, .bool true, .int .i64 0]).setRow Q #[.int .i64 1, .int .i64 mm, .int .u64 0, .bool false, .int .i64 0]).heap[Q]? = some (.cells #[.int .i64 1, .int .i64 mm, .int .u64 0, .bool false, .int .i64 0] 25 (0, 0))) := setRow_heap _ _ _ _ _ (0, 0) N2.out
                    have HBF : Hid (Below wp.heap.size wp ((wz.setRow P #[.int .i64 2, .int .i64 nn, .int .u64 t3, .bool true, .int .i64 0]).setRow Q #[.int .i64 1, .int .i64 mm, .int .u64 0, .bool false, .int .i64 0])) := row_below (row_below HBz.out hP _) hQ _
                    obtain ⟨wq, hwq⟩ : ∃ wq, (wz.setRow P #[.int .i64 2, .int .i64 nn, .int .u64 t3, .bool true, .int .i64 0]).setRow Q #[.int .i64 1, .int .i64 mm, .int .u64 0, .bool false, .int .i64 0] = wq := ⟨_, rfl⟩
                    rw [hwq] at HPF HQF HBF
                    have HWQ := Lib.hid hwq
                    clear hwq c1 c2 d1 HPK RP RQ HBz
                    go_upto_region 17 with (first | (refine wpList_store_row rfl 25 _ _ rfl P _ rfl rfl 25 #[.int .i64 1, .int .i64 nn, .int .u64 0, .bool false, .int .i64 0] N1.out (by kernel_rfl) rfl (by simp [Value.oneCell']) ?_) | (refine wpList_store_row rfl 25 _ _ rfl Q _ rfl rfl 25 #[.int .i64 2, .int .i64 mm, .int .u64 s3, .bool true, .int .i64 0] N2.out (by kernel_rfl) rfl (by simp [Value.oneCell']) ?_))
                    rw [HWQ.out]
                    clear HWQ N1 N2
                    have R0z := Lib.hid ((HBF.out.block _ (Array.getElem?_eq_some_iff.1 R0k.out).1).trans R0k.out)
                    have R1z := Lib.hid ((HBF.out.block _ (Array.getElem?_eq_some_iff.1 R1k.out).1).trans R1k.out)
                    have HBG := Lib.hid (below_then HBk.out HBF.out)
                    have HOZ := Lib.hid (HO.out.below HBF.out)
                    have T := Lib.hid (TP2.out ⟨2, nn, t3, true, 0⟩ ⟨1, mm, 0, false, 0⟩ wq (below_then HB1.out HBG.out))
                    unfold resW at T
                    dsimp only at T
                    obtain ⟨q, hq⟩ : ∃ q, pB ⟨2, nn, t3, true, 0⟩ ⟨1, mm, 0, false, 0⟩ = q := ⟨_, rfl⟩
                    rw [hq] at T
                    have HST := Lib.hid (HRS2.out i k)
                    rw [HPK2.out] at HST
                    dsimp only at HST
                    rw [hq] at HST
                    clear hq HBF HO
                    obtain ⟨x0, x1, x2, x3, x4, x5, x6⟩ := rowc7 R0z.out
                    obtain ⟨y0, y1, y2, y3, y4, y5, y6⟩ := rowc7 R1z.out
                    obtain ⟨f0, f1, f2, f3, f4⟩ := rowc5 HPF.out
                    obtain ⟨g0, g1, g2, g3, g4⟩ := rowc5 HQF.out
                    go_wp2_with fail
                    refine T.out.mono ?_; rintro e wf ⟨rfl, hbf⟩
                    have HBH := Lib.hid (below_then HBG.out hbf)
                    have HOF := Lib.hid (HOZ.out.below hbf)
                    have HPG := Lib.hid ((hbf.block P (Array.getElem?_eq_some_iff.1 HPF.out).1).trans HPF.out)
                    have HQG := Lib.hid ((hbf.block Q (Array.getElem?_eq_some_iff.1 HQF.out).1).trans HQF.out)
                    clear x0 x1 x2 x3 x4 x5 x6 y0 y1 y2 y3 y4 y5 y6 f0 f1 f2 f3 f4 g0 g1 g2 g3 g4 hbf T HOZ HPF HQF R0z R1z HBG
                    cases q with
                    | false =>
                      have HO5 : Hid (OwnS wf w1.heap.size 42 10 u (pairRows (me i ++ mr i (k + 1)))) := by rw [HST.out, if_neg (by simp), List.append_nil]; exact HOF
                      clear HST HOF
                      go_wp2_with fail
                      go_roundw
                      case rel => exact ⟨k + 1, u, rfl, by go_num, by omega, HO5, HBH⟩
                      case measure => simp [intOf]; omega
                    | true =>
                      have HST2 : Hid (mr i (k + 1) = mr i k ++ [(⟨2, nn, t3, true, 0⟩, ⟨1, mm, 0, false, 0⟩)]) := HST.out
                      have HLEN : Hid ((pairRows (me i ++ mr i k)).length ≤ 20000) := by
                        show _ ≤ _
                        rw [pairRows_length, List.length_append]
                        have h1 := HML.out i
                        have h2 := HRL.out i k
                        have h3 : i * cb.length ≤ 100 * 100 := Nat.mul_le_mul (by omega) hlb
                        omega
                      clear HST
                      obtain ⟨f0, f1, f2, f3, f4⟩ := rowc5 HPG.out
                      obtain ⟨g0, g1, g2, g3, g4⟩ := rowc5 HQG.out
                      have hszf := HBH.out.size
                      go_upto_region 8 with (at_builtin; refine wp_append_ss 40 (by kernel_rfl) Try.info_pair2 rfl (by decide) (by decide) rfl _ _ rfl rfl (HOF.out.below (below_new (Below.refl _ _) _)) (pairRows [(⟨2, nn, t3, true, 0⟩, ⟨1, mm, 0, false, 0⟩)]) (pairRows_rows _) _ 1 rfl rfl (by show (Array.push _ _)[_]? = _; exact Array.getElem?_push_size) (by have := HLEN.out; show _ + 1 ≤ _; omega) (by simp; omega) ?_; intro v2 w2 h1 h2; have H1 := Lib.hid h1; have H2 := Lib.hid h2; clear h1 h2)
                      have HB5 : Hid (Below w1.heap.size w1 w2) := (below_new HBH.out _).grown H2.out (by simp; omega) (fun j hj => (HOF.out.lt j hj).1)
                      have HO5 : Hid (OwnS w2 w1.heap.size 42 10 v2 (pairRows (me i ++ mr i (k + 1)))) := by rw [HST2.out, ← List.append_assoc, pairRows_append]; exact H1
                      clear H1 H2 f0 f1 f2 f3 f4 g0 g1 g2 g3 g4
                      go_wp2_with fail
                      go_roundw
                      case rel => exact ⟨k + 1, _, rfl, by go_num, by omega, HO5, HB5⟩
                      case measure => simp [intOf]; omega
          · have hge : ¬ (k : Int) < (cb.length : Int) := by omega
            have hkl : k = cb.length := by omega
            have HO2 : Hid (OwnS wp w1.heap.size 42 10 u (pairRows (me (i + 1)))) := by rw [HMS.out, ← hkl]; exact HO
            clear hkl HO
            go_wp2_with fail
            go_roundw
            case rel => exact ⟨i + 1, u, rfl, by go_num, by omega, HO2, HBk⟩
            case measure => simp [intOf]; omega
      · have hge : ¬ (i : Int) < (ca.length : Int) := by omega
        have hil : i = ca.length := by omega
        have HF : Hid (OwnS wo w1.heap.size 42 10 u (pairRows (me ca.length))) := by rw [← hil]; exact HO
        have hml := HML.out ca.length
        have hmx : ca.length * cb.length ≤ 100 * 100 := Nat.mul_le_mul hla hlb
        clear hil HO
        go_wp2
        go_ret
        exact ⟨_, rfl, HF.out.sls (by rw [pairRows_length]; omega), below_then HB1.out HBi.out⟩
end Go.Proofs.Ytialclohhemkiaa
