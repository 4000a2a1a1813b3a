/- Recorded accesses are made again: the document's answer. -/
import Derived.Test.YtipjfcjdefdoeaaRp
import Derived.Test.YtipjfcjdefdoeaaMmR
import Derived.Test.YtipjfcjdefdoeaaStill
import Derived.Deep.CutBlock
namespace Go.Proofs.Ytipjfcjdefdoeaa
open Go.ChangeShapes Go.WideShapes Go.ChangeAt Go.RowKit
set_option maxRecDepth 100000

theorem new_keep {uc vc u3 : World} {P D B : Nat} {cs ds : Array Value} (hB : B + 1 < uc.heap.size) (hv : Below vc.heap.size vc u3) (hP : P < uc.heap.size ∨ vc.heap.size ≤ P) (hD : D < uc.heap.size ∨ vc.heap.size ≤ D) (w5 : World) (h5 : Off B (B + 1) ((u3.setRow P cs).setRow D ds) w5) : NewPart uc vc w5 := by
  have hs := hv.size
  have h1 : u3.heap.size ≤ w5.heap.size := by have := h5.1; simpa [World.setRow] using this
  refine ⟨Nat.le_trans hs h1, fun j hj hj2 => ?_⟩
  rw [h5.2 j (by simp [World.setRow]; omega) (by omega) (by omega), setRow_other _ _ _ _ (by omega), setRow_other _ _ _ _ (by omega)]
  exact hv.block j hj2
theorem RepI.put {w0 wr : World} {B R : Nat} {m m' : MemM} {A A2 : Option Addr} {c c2 : Nat} (h : RepI w0 wr B R m)
    (hs : StM (Off B R wr) (.agg #[.slice A m'.words.length c, .slice A2 m'.lists.length c2, .int .i64 m'.tick]) m') (hf : m'.fits) : RepI w0 (wr.setRow B #[.slice A m'.words.length c, .slice A2 m'.lists.length c2, .int .i64 m'.tick]) B R m' := by
  obtain ⟨E, d, E2, d2, h1, h2⟩ := h.mem
  exact ⟨h.bw, h.rw, h.ne, ⟨A, c, A2, c2, setRow_heap _ _ _ _ _ (0, 0) h1, hs.sub fun w3 h3 => Off.trans ⟨by simp [World.setRow], fun j _ h4 _ => setRow_other wr B j _ h4⟩ h3⟩, (setRow_other _ _ _ _ h.ne).trans h.res, hf, row_below h.below h.bw _⟩
set_option maxHeartbeats 16000000 in
theorem rreplay_any (v lv : Value) (m : MemM) (l : List ItemM) (w : World) (h : MemV w v m) (hf : m.fits) (hl : SlT w lv l) (hn : l.length ≤ 1000) : Calls Try.prog 17 #[v, lv] w (RepR (replayE m l) w) := by
  have HV := Lib.hid h
  have HL := Lib.hid hl
  obtain ⟨a, cap, rfl, hcap⟩ := hl.len
  obtain ⟨vw, vl, us, rfl, h1, h2⟩ := h
  obtain ⟨a1, cap1, rfl, -⟩ := h1.len
  obtain ⟨a2, cap2, rfl, -⟩ := h2.len
  have HI0 := Lib.hid (RepI.start HV.out hf)
  clear h1 h2 hf hl
  obtain ⟨r, hr⟩ : ∃ r, replayE m l = r := ⟨_, rfl⟩
  have HR0 : Hid (replayE m (l.drop 0) = r) := hr
  rw [hr]
  clear hr
  obtain ⟨W, hW⟩ : ∃ W, (w.alloc (.cells #[.slice a1 m.words.length cap1, .slice a2 m.lists.length cap2, .int .i64 m.tick] 29)).alloc (.cells zeroMem 29) = W := ⟨_, rfl⟩
  rw [hW] at HI0
  have HW := Lib.hid hW
  clear hW
  go_enter Try.func17, Try.ntmps17
  go_upto_region 1 with fail
  rw [show (#[.slice none 0 0, .slice none 0 0, .int .i64 0] : Array Value) = zeroMem from rfl, HW.out]
  clear HW
  obtain ⟨B, hB⟩ : ∃ B, w.heap.size = B := ⟨_, rfl⟩
  rw [hB] at HI0
  rw [hB]
  have HBB := Lib.hid hB
  clear hB
  go_wp2_with fail
  go_loopw [6] (fun u wr => ∃ k : Nat, k ≤ l.length ∧ u = .int .i64 k ∧ ∃ m', Hid (replayE m' (l.drop k) = r) ∧ Hid (RepI w wr B (B + 1) m')) (fun u _ => 1001 - (intOf u).toNat)
  case atStart => exact ⟨0, by omega, rfl, _, HR0, HI0⟩
  case round =>
    clear HI0 HR0 HV
    obtain ⟨k, hk, rfl, m', HR, HI⟩ := hrel
    obtain ⟨wo, rfl⟩ : ∃ wo : World, wo = wr := ⟨_, rfl⟩
    obtain ⟨A, c, A2, c2, RM, HST⟩ := HI.out.open
    have RR := Lib.hid HI.out.res
    by_cases hlt : k < l.length
    · obtain ⟨b, off, cap', e, hcap2, hb, hcell⟩ := HL.out.open (by rintro rfl; simp at hlt)
      simp only [Value.slice.injEq] at e
      obtain ⟨rfl, -, rfl⟩ := e
      obtain ⟨x, hx⟩ : ∃ x, l.getD k noItem = x := ⟨_, rfl⟩
      have hck := hcell k hlt
      rw [hx] at hck
      have hgx : Hid x.good := by
        have h1 : (l[k]'hlt).good := HL.out.2.1 _ (List.getElem_mem hlt)
        have h2 : l[k]'hlt = x := by rw [← hx, List.getD_eq_getElem?_getD, List.getElem?_eq_getElem hlt]; rfl
        exact h2 ▸ h1
      have HN : Hid ((if okE m' x then replayE (applyE m' x.acc).1 (l.drop (k + 1)) else (noMem, false)) = r) := (replay_next hlt hx).symm.trans HR.out
      have hbo : b < wo.heap.size := Nat.lt_of_lt_of_le hb HI.out.below.size
      have hcc : ∀ j, wo.cell? ⟨b, j, none⟩ = w.cell? ⟨b, j, none⟩ := fun j => HI.out.below.cell (p := ⟨b, j, none⟩) hb
      obtain ⟨c0, c1, c3, c4, c5, c6, c7, c8⟩ := hck
      rw [← hcc] at c0 c1 c3 c4 c5 c6 c7 c8
      rw [Nat.add_zero] at c0
      have hkI : (k : Int) < (l.length : Int) := by omega
      clear hcell hx hcc HR
      have lB : B < wo.heap.size := HI.out.lt
      have lR : B + 1 < wo.heap.size := (Array.getElem?_eq_some_iff.1 RR.out).1
      obtain ⟨x0, x1, x2⟩ := rowc3 RM.out
      have HFI := Lib.hid HI.out.fits
      have TR := Lib.hid fun w' (hb : Below wo.heap.size wo w') => rapply_any (Off B (B + 1) wo) _ m' x.acc w' (Off.below hb) (Off.wide B (B + 1) wo) HST.out HFI.out hgx.out.acc
      unfold accV at TR
      try dsimp only at TR
      obtain ⟨q, hq⟩ : ∃ q, applyE m' x.acc = q := ⟨_, rfl⟩
      have HFR : Hid q.1.fits := by have := fits_apply HFI.out hgx.out.acc; rw [hq] at this; exact this
      have HOK : Hid (okE m' x = (q.2.2 && (q.2.1.val == x.val && q.2.1.ok == x.ok))) := by show okE m' x = _; unfold okE; rw [hq]
      rw [hq] at TR
      have HN : Hid ((if okE m' x then replayE q.1 (l.drop (k + 1)) else (noMem, false)) = r) := by have := HN.out; rw [hq] at this; exact this
      clear hq
      have KS : Hid (∀ w', Below wo.heap.size wo w' → (fun w' : World => (w'.cell? ⟨B, 0, none⟩ = some (.slice A m'.words.length c) ∧ w'.cell? ⟨B, 1, none⟩ = some (.slice A2 m'.lists.length c2) ∧ w'.cell? ⟨B, 2, none⟩ = some (.int .i64 m'.tick)) ∧ w'.cell? ⟨b, off + k * 8, none⟩ = some (.int .i64 x.thr) ∧ w'.cell? ⟨b, off + k * 8 + 1, none⟩ = some (.int .i64 x.acc.kind) ∧ w'.cell? ⟨b, off + k * 8 + 2, none⟩ = some (.int .i64 x.acc.addr) ∧ w'.cell? ⟨b, off + k * 8 + 3, none⟩ = some (.int .u64 x.acc.old) ∧ w'.cell? ⟨b, off + k * 8 + 4, none⟩ = some (.int .u64 x.acc.new) ∧ w'.cell? ⟨b, off + k * 8 + 5, none⟩ = some (.int .i64 x.acc.til) ∧ w'.cell? ⟨b, off + k * 8 + 6, none⟩ = some (.int .u64 x.val) ∧ w'.cell? ⟨b, off + k * 8 + 7, none⟩ = some (.bool x.ok)) w') := fun w' hb => ⟨⟨(hb.cell (p := ⟨B, 0, none⟩) lB).trans x0, (hb.cell (p := ⟨B, 1, none⟩) lB).trans x1, (hb.cell (p := ⟨B, 2, none⟩) lB).trans x2⟩, (hb.cell (p := ⟨b, off + k * 8, none⟩) hbo).trans c0, (hb.cell (p := ⟨b, off + k * 8 + 1, none⟩) hbo).trans c1, (hb.cell (p := ⟨b, off + k * 8 + 2, none⟩) hbo).trans c3, (hb.cell (p := ⟨b, off + k * 8 + 3, none⟩) hbo).trans c4, (hb.cell (p := ⟨b, off + k * 8 + 4, none⟩) hbo).trans c5, (hb.cell (p := ⟨b, off + k * 8 + 5, none⟩) hbo).trans c6, (hb.cell (p := ⟨b, off + k * 8 + 6, none⟩) hbo).trans c7, (hb.cell (p := ⟨b, off + k * 8 + 7, none⟩) hbo).trans c8⟩
      clear x0 x1 x2 c0 c1 c3 c4 c5 c6 c7 c8
      go_upto_region 4 with fail
      go_cut [7, 8, 9] (fun s7 s8 s9 wx => ∃ (P D : Nat) (P1 Q1 : Option Addr) (pc1 qc1 : Nat) (ax1 : Int) (ap1 aq1 : Bool) (AL1 : Option Addr) (al1 ac1 : Nat), s7 = .pointer (some ⟨P, 0, none⟩) ∧ s8 = .pointer (some ⟨D, 0, none⟩) ∧ s9 = .bool q.2.2 ∧ Hid (wx.heap[P]? = some (.cells #[.slice P1 q.1.words.length pc1, .slice Q1 q.1.lists.length qc1, .int .i64 q.1.tick] 29 (0, 0))) ∧ Hid (wx.heap[D]? = some (.cells #[.int .u64 ax1, .bool ap1, .bool aq1, .slice AL1 al1 ac1] 38 (0, 0))) ∧ Hid (Below wo.heap.size wo wx) ∧ Hid (StM (Off B (B + 1) wx) (.agg #[.slice P1 q.1.words.length pc1, .slice Q1 q.1.lists.length qc1, .int .i64 q.1.tick]) q.1) ∧ Hid (ax1 = q.2.1.val) ∧ Hid (ap1 = q.2.1.ok))
      case first =>
        refine wp_region_until (fun w' : World => (w'.cell? ⟨B, 0, none⟩ = some (.slice A m'.words.length c) ∧ w'.cell? ⟨B, 1, none⟩ = some (.slice A2 m'.lists.length c2) ∧ w'.cell? ⟨B, 2, none⟩ = some (.int .i64 m'.tick)) ∧ w'.cell? ⟨b, off + k * 8, none⟩ = some (.int .i64 x.thr) ∧ w'.cell? ⟨b, off + k * 8 + 1, none⟩ = some (.int .i64 x.acc.kind) ∧ w'.cell? ⟨b, off + k * 8 + 2, none⟩ = some (.int .i64 x.acc.addr) ∧ w'.cell? ⟨b, off + k * 8 + 3, none⟩ = some (.int .u64 x.acc.old) ∧ w'.cell? ⟨b, off + k * 8 + 4, none⟩ = some (.int .u64 x.acc.new) ∧ w'.cell? ⟨b, off + k * 8 + 5, none⟩ = some (.int .i64 x.acc.til) ∧ w'.cell? ⟨b, off + k * 8 + 6, none⟩ = some (.int .u64 x.val) ∧ w'.cell? ⟨b, off + k * 8 + 7, none⟩ = some (.bool x.ok)) 13 16 (by kernel_rfl) rfl ?_
        obtain ⟨u0, hu0, HU0⟩ := drew_pack wo
        rw [hu0]
        clear hu0
        have hSU0 : (fun w' : World => (w'.cell? ⟨B, 0, none⟩ = some (.slice A m'.words.length c) ∧ w'.cell? ⟨B, 1, none⟩ = some (.slice A2 m'.lists.length c2) ∧ w'.cell? ⟨B, 2, none⟩ = some (.int .i64 m'.tick)) ∧ w'.cell? ⟨b, off + k * 8, none⟩ = some (.int .i64 x.thr) ∧ w'.cell? ⟨b, off + k * 8 + 1, none⟩ = some (.int .i64 x.acc.kind) ∧ w'.cell? ⟨b, off + k * 8 + 2, none⟩ = some (.int .i64 x.acc.addr) ∧ w'.cell? ⟨b, off + k * 8 + 3, none⟩ = some (.int .u64 x.acc.old) ∧ w'.cell? ⟨b, off + k * 8 + 4, none⟩ = some (.int .u64 x.acc.new) ∧ w'.cell? ⟨b, off + k * 8 + 5, none⟩ = some (.int .i64 x.acc.til) ∧ w'.cell? ⟨b, off + k * 8 + 6, none⟩ = some (.int .u64 x.val) ∧ w'.cell? ⟨b, off + k * 8 + 7, none⟩ = some (.bool x.ok)) (u0) := KS.out _ HU0.out
        refine wpAnyU_take (v := ?_) 0 ListAt.zero (by kernel_rfl) (by kernel_rfl) (by kernel_rfl) (by kernel_rfl) (by kernel_rfl) (fun _ _ _ h => h) hSU0 rfl ?_ ?_
        rotate_left
        · (intro w hSw; (try dsimp only at hSw); go_simp <;> with_reducible rfl)
        simp only [Act.put, List.setIfInBounds_toArray, List.set_cons_zero, List.set_cons_succ]
        refine wpAnyU_take (v := ?_) 1 (ListAt.succ ListAt.zero) (by kernel_rfl) (by kernel_rfl) (by kernel_rfl) (by kernel_rfl) (by kernel_rfl) (fun _ _ _ h => h) hSU0 rfl ?_ ?_
        rotate_left
        · (intro w hSw; (try dsimp only at hSw); go_simp <;> with_reducible rfl)
        simp only [Act.put, List.setIfInBounds_toArray, List.set_cons_zero, List.set_cons_succ]
        refine wpAnyU_take (v := ?_) 2 (ListAt.succ (ListAt.succ ListAt.zero)) (by kernel_rfl) (by kernel_rfl) (by kernel_rfl) (by kernel_rfl) (by kernel_rfl) (fun _ _ _ h => h) hSU0 rfl ?_ ?_
        rotate_left
        · (intro w hSw; (try dsimp only at hSw); go_simp <;> with_reducible rfl)
        simp only [Act.put, List.setIfInBounds_toArray, List.set_cons_zero, List.set_cons_succ]
        refine wpAnyU_take (v := ?_) 3 (ListAt.succ (ListAt.succ (ListAt.succ ListAt.zero))) (by kernel_rfl) (by kernel_rfl) (by kernel_rfl) (by kernel_rfl) (by kernel_rfl) (fun _ _ _ h => h) hSU0 rfl ?_ ?_
        rotate_left
        · (intro w hSw; (try dsimp only at hSw); go_simp <;> with_reducible rfl)
        simp only [Act.put, List.setIfInBounds_toArray, List.set_cons_zero, List.set_cons_succ]
        refine wpAnyU_take (v := ?_) 4 (ListAt.succ (ListAt.succ (ListAt.succ (ListAt.succ ListAt.zero)))) (by kernel_rfl) (by kernel_rfl) (by kernel_rfl) (by kernel_rfl) (by kernel_rfl) (fun _ _ _ h => h) hSU0 rfl ?_ ?_
        rotate_left
        · (intro w hSw; (try dsimp only at hSw); go_simp <;> with_reducible rfl)
        simp only [Act.put, List.setIfInBounds_toArray, List.set_cons_zero, List.set_cons_succ]
        refine wpAnyU_take (v := ?_) 5 (ListAt.succ (ListAt.succ (ListAt.succ (ListAt.succ (ListAt.succ ListAt.zero))))) (by kernel_rfl) (by kernel_rfl) (by kernel_rfl) (by kernel_rfl) (by kernel_rfl) (fun _ _ _ h => h) hSU0 rfl ?_ ?_
        rotate_left
        · (intro w hSw; (try dsimp only at hSw); go_simp <;> with_reducible rfl)
        simp only [Act.put, List.setIfInBounds_toArray, List.set_cons_zero, List.set_cons_succ]
        refine wpAnyU_ready (rs := [6, 11, 12]) (by kernel_rfl) rfl ?_
        refine AllReadyU.cons (ListAt.succ (ListAt.succ (ListAt.succ (ListAt.succ (ListAt.succ (ListAt.succ ListAt.zero)))))) rfl (fun K hK => ?_) ?_
        · go_simp
          go_at_call 11
          refine (TR.out _ HU0.out).mono ?_
          rintro e u1 ⟨w1', z1, rfl, hs1, ha1, hb1⟩
          obtain ⟨P1, pn1, pc1, Q1, qn1, qc1, pt1, rfl⟩ := hs1.shape u1 (Nx.at (Off.below HU0.out) (Off.wide _ _ _) hb1)
          obtain ⟨ax1, ap1, aq1, AL1, al1, ac1, rfl⟩ := ha1.shape u1 (Nx.at (Off.below HU0.out) (Off.wide _ _ _) hb1)
          obtain ⟨eqv, eqo⟩ := AnsV.parts (StA.at ha1 (Nx.at (Off.below HU0.out) (Off.wide _ _ _) hb1))
          obtain ⟨eq1, eq2, eq3⟩ := agg_mem6 hs1 u1 (Nx.at (Off.below HU0.out) (Off.wide _ _ _) hb1)
          subst eq1 eq2 eq3
          have HEV := Lib.hid eqv
          have HEO := Lib.hid eqo
          have hlB : B < u0.heap.size := Nat.lt_of_lt_of_le lB HU0.out.size
          have hlR : B + 1 < u0.heap.size := Nat.lt_of_lt_of_le lR HU0.out.size
          have HSO := Lib.hid hs1
          have HVC : Hid (Below u1.heap.size u1 u1) := Below.refl _ _
          have hbv := Lib.hid hb1
          have HLR := Lib.hid hlR
          clear hs1 ha1 hb1 eqv eqo hlB hlR
          have HU1 := Lib.hid (below_then HU0.out hbv.out)
          clear hbv HU0
          refine hK.out _ _ ?_ (fun hSU1 => ?_)
          · exact KS.out _ HU1.out
          clear hK K hSU0
          try simp only [Act.put, List.setIfInBounds_toArray, List.set_cons_zero, List.set_cons_succ]
          refine wpAnyU_take (v := ?_) 7 (ListAt.succ (ListAt.succ (ListAt.succ (ListAt.succ (ListAt.succ (ListAt.succ (ListAt.succ ListAt.zero))))))) (by kernel_rfl) (by kernel_rfl) (by kernel_rfl) (by kernel_rfl) (by kernel_rfl) (fun _ _ _ h => h) hSU1 rfl ?_ ?_
          rotate_left
          · (intro w hSw; (try dsimp only at hSw); go_simp <;> with_reducible rfl)
          simp only [Act.put, List.setIfInBounds_toArray, List.set_cons_zero, List.set_cons_succ]
          refine wpAnyU_take (v := ?_) 8 (ListAt.succ (ListAt.succ (ListAt.succ (ListAt.succ (ListAt.succ (ListAt.succ (ListAt.succ (ListAt.succ ListAt.zero)))))))) (by kernel_rfl) (by kernel_rfl) (by kernel_rfl) (by kernel_rfl) (by kernel_rfl) (fun _ _ _ h => h) hSU1 rfl ?_ ?_
          rotate_left
          · (intro w hSw; (try dsimp only at hSw); go_simp <;> with_reducible rfl)
          simp only [Act.put, List.setIfInBounds_toArray, List.set_cons_zero, List.set_cons_succ]
          refine wpAnyU_takeW (v := ?_) 9 (ListAt.succ (ListAt.succ (ListAt.succ (ListAt.succ (ListAt.succ (ListAt.succ (ListAt.succ (ListAt.succ (ListAt.succ ListAt.zero))))))))) (by kernel_rfl) (by kernel_rfl) (by kernel_rfl) (by kernel_rfl) (fun _ _ _ h => h) (fun _ => hSU1) rfl ?_ ?_
          rotate_left
          · (intro w; go_simp <;> with_reducible rfl)
          simp only [Act.put, List.setIfInBounds_toArray, List.set_cons_zero, List.set_cons_succ]
          refine wpAnyU_takeW (v := ?_) 10 (ListAt.succ (ListAt.succ (ListAt.succ (ListAt.succ (ListAt.succ (ListAt.succ (ListAt.succ (ListAt.succ (ListAt.succ (ListAt.succ ListAt.zero)))))))))) (by kernel_rfl) (by kernel_rfl) (by kernel_rfl) (by kernel_rfl) (fun _ _ _ h => h) (fun _ => hSU1) rfl ?_ ?_
          rotate_left
          · (intro w; go_simp <;> with_reducible rfl)
          simp only [Act.put, List.setIfInBounds_toArray, List.set_cons_zero, List.set_cons_succ]
          refine wpAnyU_ready (rs := [11, 12]) (by kernel_rfl) rfl ?_
          refine AllReadyU.cons (ListAt.succ (ListAt.succ (ListAt.succ (ListAt.succ (ListAt.succ (ListAt.succ (ListAt.succ (ListAt.succ (ListAt.succ (ListAt.succ (ListAt.succ ListAt.zero))))))))))) rfl (fun K hK => ?_) ?_
          · go_simp
            obtain ⟨u2, P, hv, hbP, RP, hbv, ltP⟩ := alloc_pack u1 (.cells #[.slice none 0 0, .slice none 0 0, .int .i64 0] 29)
            rw [hv, hbP]
            have geP : Hid (wo.heap.size ≤ P) := hbP ▸ HU1.out.size
            have HU2 := Lib.hid (below_then HU1.out hbv.out)
            have oP : Hid (P < u0.heap.size ∨ u1.heap.size ≤ P) := .inr (hbP ▸ HVC.out.size)
            have HVC := Lib.hid (below_then HVC.out hbv.out)
            clear hbv hv hbP HU1
            refine hK.out _ _ ?_ (fun hSU2 => ?_)
            · exact KS.out _ HU2.out
            clear hK K hSU1
            try simp only [Act.put, List.setIfInBounds_toArray, List.set_cons_zero, List.set_cons_succ]
            refine wpAnyU_ready (rs := [12]) (by kernel_rfl) rfl ?_
            refine AllReadyU.cons (ListAt.succ (ListAt.succ (ListAt.succ (ListAt.succ (ListAt.succ (ListAt.succ (ListAt.succ (ListAt.succ (ListAt.succ (ListAt.succ (ListAt.succ (ListAt.succ ListAt.zero)))))))))))) rfl (fun K hK => ?_) ?_
            · go_simp
              obtain ⟨u3, D, hv, hbD, RD, hbv, ltD⟩ := alloc_pack u2 (.cells #[.int .u64 0, .bool false, .bool false, .slice none 0 0] 38)
              rw [hv, hbD]
              have geD : Hid (wo.heap.size ≤ D) := hbD ▸ HU2.out.size
              have nePD : Hid (P ≠ D) := Nat.ne_of_lt (hbD ▸ ltP.out)
              have HU3 := Lib.hid (below_then HU2.out hbv.out)
              have RP := Lib.hid ((hbv.out.block P ltP.out).trans RP.out)
              have ltP : Hid (P < u3.heap.size) := Nat.lt_of_lt_of_le ltP.out hbv.out.size
              have oD : Hid (D < u0.heap.size ∨ u1.heap.size ≤ D) := .inr (hbD ▸ HVC.out.size)
              have HVC := Lib.hid (below_then HVC.out hbv.out)
              clear hbv hv hbD HU2
              refine hK.out _ _ ?_ (fun hSU3 => ?_)
              · exact KS.out _ HU3.out
              clear hK K hSU2
              try simp only [Act.put, List.setIfInBounds_toArray, List.set_cons_zero, List.set_cons_succ]
              refine wpAnyU_ready (rs := [13]) (by kernel_rfl) rfl ?_
              refine AllReadyU.free (ListAt.succ (ListAt.succ (ListAt.succ (ListAt.succ (ListAt.succ (ListAt.succ (ListAt.succ (ListAt.succ (ListAt.succ (ListAt.succ (ListAt.succ (ListAt.succ (ListAt.succ ListAt.zero))))))))))))) rfl (by kernel_rfl) (fun K hK => ?_) ?_
              · have HPD : Hid (P ≠ D) := by first | exact nePD.out | exact neDP.out.symm
                refine step_store_row rfl 29 _ _ rfl P _ rfl rfl 29 zeroMem RP.out (by kernel_rfl) rfl (by simp [Value.oneCell']) ?_
                have RD2 := Lib.hid ((setRow_other u3 P D #[.slice P1 q.1.words.length pc1, .slice Q1 q.1.lists.length qc1, .int .i64 q.1.tick] (Ne.symm HPD.out)).trans RD.out)
                have RP2 := Lib.hid (setRow_heap u3 P _ #[.slice P1 q.1.words.length pc1, .slice Q1 q.1.lists.length qc1, .int .i64 q.1.tick] _ (0, 0) RP.out)
                refine hK.out _ _ ?_
                clear hK K hSU3
                try simp only [Act.put, List.setIfInBounds_toArray, List.set_cons_zero, List.set_cons_succ]
                refine wpAnyU_ready (rs := [14]) (by kernel_rfl) rfl ?_
                refine AllReadyU.free (ListAt.succ (ListAt.succ (ListAt.succ (ListAt.succ (ListAt.succ (ListAt.succ (ListAt.succ (ListAt.succ (ListAt.succ (ListAt.succ (ListAt.succ (ListAt.succ (ListAt.succ (ListAt.succ ListAt.zero)))))))))))))) rfl (by kernel_rfl) (fun K hK => ?_) ?_
                · refine step_store_row rfl 38 _ _ rfl D _ rfl rfl 38 zeroAns RD2.out (by kernel_rfl) rfl (by simp [Value.oneCell']) ?_
                  refine hK.out _ _ ?_
                  clear hK K
                  try simp only [Act.put, List.setIfInBounds_toArray, List.set_cons_zero, List.set_cons_succ]
                  refine wpAnyU_takeW (v := ?_) 15 (ListAt.succ (ListAt.succ (ListAt.succ (ListAt.succ (ListAt.succ (ListAt.succ (ListAt.succ (ListAt.succ (ListAt.succ (ListAt.succ (ListAt.succ (ListAt.succ (ListAt.succ (ListAt.succ (ListAt.succ ListAt.zero))))))))))))))) (by kernel_rfl) (by kernel_rfl) (by kernel_rfl) (by kernel_rfl) (fun _ _ _ h => h) (past_k (by kernel_rfl)) rfl ?_ ?_
                  rotate_left
                  · (intro w; go_simp <;> with_reducible rfl)
                  simp only [Act.put, List.setIfInBounds_toArray, List.set_cons_zero, List.set_cons_succ]
                  refine wpAnyU_done (by kernel_rfl) ?_ _
                  have RP3 := Lib.hid ((setRow_other (u3.setRow P #[.slice P1 q.1.words.length pc1, .slice Q1 q.1.lists.length qc1, .int .i64 q.1.tick]) D P #[.int .u64 ax1, .bool ap1, .bool aq1, .slice AL1 al1 ac1] HPD.out).trans RP2.out)
                  have RD3 := Lib.hid (setRow_heap (u3.setRow P #[.slice P1 q.1.words.length pc1, .slice Q1 q.1.lists.length qc1, .int .i64 q.1.tick]) D _ #[.int .u64 ax1, .bool ap1, .bool aq1, .slice AL1 al1 ac1] _ (0, 0) RD2.out)
                  have HU9 := Lib.hid (row_below (row_below HU3.out geP.out #[.slice P1 q.1.words.length pc1, .slice Q1 q.1.lists.length qc1, .int .i64 q.1.tick]) geD.out #[.int .u64 ax1, .bool ap1, .bool aq1, .slice AL1 al1 ac1])
                  have HSF : Hid (StM (Off B (B + 1) ((u3.setRow P #[.slice P1 q.1.words.length pc1, .slice Q1 q.1.lists.length qc1, .int .i64 q.1.tick]).setRow D #[.int .u64 ax1, .bool ap1, .bool aq1, .slice AL1 al1 ac1])) (.agg #[.slice P1 q.1.words.length pc1, .slice Q1 q.1.lists.length qc1, .int .i64 q.1.tick]) q.1) := HSO.out.sub fun w5 h5 => ⟨(Off.below HU9.out).trans h5, new_keep HLR.out HVC.out oP.out oD.out w5 h5⟩
                  go_wp2_with fail
                  go_meet
                  exact ⟨P, D, P1, Q1, pc1, qc1, ax1, ap1, aq1, AL1, al1, ac1, rfl, rfl, rfl, RP3, RD3, HU9, HSF, HEV, HEO⟩
                exact AllReadyU.nil
              exact AllReadyU.nil
            exact AllReadyU.nil
          refine AllReadyU.cons (ListAt.succ (ListAt.succ (ListAt.succ (ListAt.succ (ListAt.succ (ListAt.succ (ListAt.succ (ListAt.succ (ListAt.succ (ListAt.succ (ListAt.succ (ListAt.succ ListAt.zero)))))))))))) rfl (fun K hK => ?_) ?_
          · go_simp
            obtain ⟨u2, D, hv, hbD, RD, hbv, ltD⟩ := alloc_pack u1 (.cells #[.int .u64 0, .bool false, .bool false, .slice none 0 0] 38)
            rw [hv, hbD]
            have geD : Hid (wo.heap.size ≤ D) := hbD ▸ HU1.out.size
            have HU2 := Lib.hid (below_then HU1.out hbv.out)
            have oD : Hid (D < u0.heap.size ∨ u1.heap.size ≤ D) := .inr (hbD ▸ HVC.out.size)
            have HVC := Lib.hid (below_then HVC.out hbv.out)
            clear hbv hv hbD HU1
            refine hK.out _ _ ?_ (fun hSU4 => ?_)
            · exact KS.out _ HU2.out
            clear hK K hSU1
            try simp only [Act.put, List.setIfInBounds_toArray, List.set_cons_zero, List.set_cons_succ]
            refine wpAnyU_ready (rs := [11]) (by kernel_rfl) rfl ?_
            refine AllReadyU.cons (ListAt.succ (ListAt.succ (ListAt.succ (ListAt.succ (ListAt.succ (ListAt.succ (ListAt.succ (ListAt.succ (ListAt.succ (ListAt.succ (ListAt.succ ListAt.zero))))))))))) rfl (fun K hK => ?_) ?_
            · go_simp
              obtain ⟨u3, P, hv, hbP, RP, hbv, ltP⟩ := alloc_pack u2 (.cells #[.slice none 0 0, .slice none 0 0, .int .i64 0] 29)
              rw [hv, hbP]
              have geP : Hid (wo.heap.size ≤ P) := hbP ▸ HU2.out.size
              have neDP : Hid (D ≠ P) := Nat.ne_of_lt (hbP ▸ ltD.out)
              have HU3 := Lib.hid (below_then HU2.out hbv.out)
              have RD := Lib.hid ((hbv.out.block D ltD.out).trans RD.out)
              have ltD : Hid (D < u3.heap.size) := Nat.lt_of_lt_of_le ltD.out hbv.out.size
              have oP : Hid (P < u0.heap.size ∨ u1.heap.size ≤ P) := .inr (hbP ▸ HVC.out.size)
              have HVC := Lib.hid (below_then HVC.out hbv.out)
              clear hbv hv hbP HU2
              refine hK.out _ _ ?_ (fun hSU5 => ?_)
              · exact KS.out _ HU3.out
              clear hK K hSU4
              try simp only [Act.put, List.setIfInBounds_toArray, List.set_cons_zero, List.set_cons_succ]
              refine wpAnyU_ready (rs := [13]) (by kernel_rfl) rfl ?_
              refine AllReadyU.free (ListAt.succ (ListAt.succ (ListAt.succ (ListAt.succ (ListAt.succ (ListAt.succ (ListAt.succ (ListAt.succ (ListAt.succ (ListAt.succ (ListAt.succ (ListAt.succ (ListAt.succ ListAt.zero))))))))))))) rfl (by kernel_rfl) (fun K hK => ?_) ?_
              · have HPD : Hid (P ≠ D) := by first | exact nePD.out | exact neDP.out.symm
                refine step_store_row rfl 29 _ _ rfl P _ rfl rfl 29 zeroMem RP.out (by kernel_rfl) rfl (by simp [Value.oneCell']) ?_
                have RD2 := Lib.hid ((setRow_other u3 P D #[.slice P1 q.1.words.length pc1, .slice Q1 q.1.lists.length qc1, .int .i64 q.1.tick] (Ne.symm HPD.out)).trans RD.out)
                have RP2 := Lib.hid (setRow_heap u3 P _ #[.slice P1 q.1.words.length pc1, .slice Q1 q.1.lists.length qc1, .int .i64 q.1.tick] _ (0, 0) RP.out)
                refine hK.out _ _ ?_
                clear hK K hSU5
                try simp only [Act.put, List.setIfInBounds_toArray, List.set_cons_zero, List.set_cons_succ]
                refine wpAnyU_ready (rs := [14]) (by kernel_rfl) rfl ?_
                refine AllReadyU.free (ListAt.succ (ListAt.succ (ListAt.succ (ListAt.succ (ListAt.succ (ListAt.succ (ListAt.succ (ListAt.succ (ListAt.succ (ListAt.succ (ListAt.succ (ListAt.succ (ListAt.succ (ListAt.succ ListAt.zero)))))))))))))) rfl (by kernel_rfl) (fun K hK => ?_) ?_
                · refine step_store_row rfl 38 _ _ rfl D _ rfl rfl 38 zeroAns RD2.out (by kernel_rfl) rfl (by simp [Value.oneCell']) ?_
                  refine hK.out _ _ ?_
                  clear hK K
                  try simp only [Act.put, List.setIfInBounds_toArray, List.set_cons_zero, List.set_cons_succ]
                  refine wpAnyU_takeW (v := ?_) 15 (ListAt.succ (ListAt.succ (ListAt.succ (ListAt.succ (ListAt.succ (ListAt.succ (ListAt.succ (ListAt.succ (ListAt.succ (ListAt.succ (ListAt.succ (ListAt.succ (ListAt.succ (ListAt.succ (ListAt.succ ListAt.zero))))))))))))))) (by kernel_rfl) (by kernel_rfl) (by kernel_rfl) (by kernel_rfl) (fun _ _ _ h => h) (past_k (by kernel_rfl)) rfl ?_ ?_
                  rotate_left
                  · (intro w; go_simp <;> with_reducible rfl)
                  simp only [Act.put, List.setIfInBounds_toArray, List.set_cons_zero, List.set_cons_succ]
                  refine wpAnyU_done (by kernel_rfl) ?_ _
                  have RP3 := Lib.hid ((setRow_other (u3.setRow P #[.slice P1 q.1.words.length pc1, .slice Q1 q.1.lists.length qc1, .int .i64 q.1.tick]) D P #[.int .u64 ax1, .bool ap1, .bool aq1, .slice AL1 al1 ac1] HPD.out).trans RP2.out)
                  have RD3 := Lib.hid (setRow_heap (u3.setRow P #[.slice P1 q.1.words.length pc1, .slice Q1 q.1.lists.length qc1, .int .i64 q.1.tick]) D _ #[.int .u64 ax1, .bool ap1, .bool aq1, .slice AL1 al1 ac1] _ (0, 0) RD2.out)
                  have HU9 := Lib.hid (row_below (row_below HU3.out geP.out #[.slice P1 q.1.words.length pc1, .slice Q1 q.1.lists.length qc1, .int .i64 q.1.tick]) geD.out #[.int .u64 ax1, .bool ap1, .bool aq1, .slice AL1 al1 ac1])
                  have HSF : Hid (StM (Off B (B + 1) ((u3.setRow P #[.slice P1 q.1.words.length pc1, .slice Q1 q.1.lists.length qc1, .int .i64 q.1.tick]).setRow D #[.int .u64 ax1, .bool ap1, .bool aq1, .slice AL1 al1 ac1])) (.agg #[.slice P1 q.1.words.length pc1, .slice Q1 q.1.lists.length qc1, .int .i64 q.1.tick]) q.1) := HSO.out.sub fun w5 h5 => ⟨(Off.below HU9.out).trans h5, new_keep HLR.out HVC.out oP.out oD.out w5 h5⟩
                  go_wp2_with fail
                  go_meet
                  exact ⟨P, D, P1, Q1, pc1, qc1, ax1, ap1, aq1, AL1, al1, ac1, rfl, rfl, rfl, RP3, RD3, HU9, HSF, HEV, HEO⟩
                exact AllReadyU.nil
              exact AllReadyU.nil
            exact AllReadyU.nil
          exact AllReadyU.nil
        refine AllReadyU.cons (ListAt.succ (ListAt.succ (ListAt.succ (ListAt.succ (ListAt.succ (ListAt.succ (ListAt.succ (ListAt.succ (ListAt.succ (ListAt.succ (ListAt.succ ListAt.zero))))))))))) rfl (fun K hK => ?_) ?_
        · go_simp
          obtain ⟨u1, P, hv, hbP, RP, hbv, ltP⟩ := alloc_pack u0 (.cells #[.slice none 0 0, .slice none 0 0, .int .i64 0] 29)
          rw [hv, hbP]
          have geP : Hid (wo.heap.size ≤ P) := hbP ▸ HU0.out.size
          have HU1 := Lib.hid (below_then HU0.out hbv.out)
          clear hbv hv hbP HU0
          refine hK.out _ _ ?_ (fun hSU6 => ?_)
          · exact KS.out _ HU1.out
          clear hK K hSU0
          try simp only [Act.put, List.setIfInBounds_toArray, List.set_cons_zero, List.set_cons_succ]
          refine wpAnyU_ready (rs := [6, 12]) (by kernel_rfl) rfl ?_
          refine AllReadyU.cons (ListAt.succ (ListAt.succ (ListAt.succ (ListAt.succ (ListAt.succ (ListAt.succ ListAt.zero)))))) rfl (fun K hK => ?_) ?_
          · go_simp
            go_at_call 11
            refine (TR.out _ HU1.out).mono ?_
            rintro e u2 ⟨w1', z1, rfl, hs1, ha1, hb1⟩
            obtain ⟨P1, pn1, pc1, Q1, qn1, qc1, pt1, rfl⟩ := hs1.shape u2 (Nx.at (Off.below HU1.out) (Off.wide _ _ _) hb1)
            obtain ⟨ax1, ap1, aq1, AL1, al1, ac1, rfl⟩ := ha1.shape u2 (Nx.at (Off.below HU1.out) (Off.wide _ _ _) hb1)
            obtain ⟨eqv, eqo⟩ := AnsV.parts (StA.at ha1 (Nx.at (Off.below HU1.out) (Off.wide _ _ _) hb1))
            obtain ⟨eq1, eq2, eq3⟩ := agg_mem6 hs1 u2 (Nx.at (Off.below HU1.out) (Off.wide _ _ _) hb1)
            subst eq1 eq2 eq3
            have HEV := Lib.hid eqv
            have HEO := Lib.hid eqo
            have hlB : B < u1.heap.size := Nat.lt_of_lt_of_le lB HU1.out.size
            have hlR : B + 1 < u1.heap.size := Nat.lt_of_lt_of_le lR HU1.out.size
            have HSO := Lib.hid hs1
            have oP : Hid (P < u1.heap.size ∨ u2.heap.size ≤ P) := .inl ltP.out
            have HVC : Hid (Below u2.heap.size u2 u2) := Below.refl _ _
            have hbv := Lib.hid hb1
            have HLR := Lib.hid hlR
            clear hs1 ha1 hb1 eqv eqo hlB hlR
            have HU2 := Lib.hid (below_then HU1.out hbv.out)
            have RP := Lib.hid ((hbv.out.block P ltP.out).trans RP.out)
            have ltP : Hid (P < u2.heap.size) := Nat.lt_of_lt_of_le ltP.out hbv.out.size
            clear hbv HU1
            refine hK.out _ _ ?_ (fun hSU7 => ?_)
            · exact KS.out _ HU2.out
            clear hK K hSU6
            try simp only [Act.put, List.setIfInBounds_toArray, List.set_cons_zero, List.set_cons_succ]
            refine wpAnyU_take (v := ?_) 7 (ListAt.succ (ListAt.succ (ListAt.succ (ListAt.succ (ListAt.succ (ListAt.succ (ListAt.succ ListAt.zero))))))) (by kernel_rfl) (by kernel_rfl) (by kernel_rfl) (by kernel_rfl) (by kernel_rfl) (fun _ _ _ h => h) hSU7 rfl ?_ ?_
            rotate_left
            · (intro w hSw; (try dsimp only at hSw); go_simp <;> with_reducible rfl)
            simp only [Act.put, List.setIfInBounds_toArray, List.set_cons_zero, List.set_cons_succ]
            refine wpAnyU_take (v := ?_) 8 (ListAt.succ (ListAt.succ (ListAt.succ (ListAt.succ (ListAt.succ (ListAt.succ (ListAt.succ (ListAt.succ ListAt.zero)))))))) (by kernel_rfl) (by kernel_rfl) (by kernel_rfl) (by kernel_rfl) (by kernel_rfl) (fun _ _ _ h => h) hSU7 rfl ?_ ?_
            rotate_left
            · (intro w hSw; (try dsimp only at hSw); go_simp <;> with_reducible rfl)
            simp only [Act.put, List.setIfInBounds_toArray, List.set_cons_zero, List.set_cons_succ]
            refine wpAnyU_takeW (v := ?_) 9 (ListAt.succ (ListAt.succ (ListAt.succ (ListAt.succ (ListAt.succ (ListAt.succ (ListAt.succ (ListAt.succ (ListAt.succ ListAt.zero))))))))) (by kernel_rfl) (by kernel_rfl) (by kernel_rfl) (by kernel_rfl) (fun _ _ _ h => h) (fun _ => hSU7) rfl ?_ ?_
            rotate_left
            · (intro w; go_simp <;> with_reducible rfl)
            simp only [Act.put, List.setIfInBounds_toArray, List.set_cons_zero, List.set_cons_succ]
            refine wpAnyU_takeW (v := ?_) 10 (ListAt.succ (ListAt.succ (ListAt.succ (ListAt.succ (ListAt.succ (ListAt.succ (ListAt.succ (ListAt.succ (ListAt.succ (ListAt.succ ListAt.zero)))))))))) (by kernel_rfl) (by kernel_rfl) (by kernel_rfl) (by kernel_rfl) (fun _ _ _ h => h) (fun _ => hSU7) rfl ?_ ?_
            rotate_left
            · (intro w; go_simp <;> with_reducible rfl)
            simp only [Act.put, List.setIfInBounds_toArray, List.set_cons_zero, List.set_cons_succ]
            refine wpAnyU_ready (rs := [12]) (by kernel_rfl) rfl ?_
            refine AllReadyU.cons (ListAt.succ (ListAt.succ (ListAt.succ (ListAt.succ (ListAt.succ (ListAt.succ (ListAt.succ (ListAt.succ (ListAt.succ (ListAt.succ (ListAt.succ (ListAt.succ ListAt.zero)))))))))))) rfl (fun K hK => ?_) ?_
            · go_simp
              obtain ⟨u3, D, hv, hbD, RD, hbv, ltD⟩ := alloc_pack u2 (.cells #[.int .u64 0, .bool false, .bool false, .slice none 0 0] 38)
              rw [hv, hbD]
              have geD : Hid (wo.heap.size ≤ D) := hbD ▸ HU2.out.size
              have nePD : Hid (P ≠ D) := Nat.ne_of_lt (hbD ▸ ltP.out)
              have HU3 := Lib.hid (below_then HU2.out hbv.out)
              have RP := Lib.hid ((hbv.out.block P ltP.out).trans RP.out)
              have ltP : Hid (P < u3.heap.size) := Nat.lt_of_lt_of_le ltP.out hbv.out.size
              have oD : Hid (D < u1.heap.size ∨ u2.heap.size ≤ D) := .inr (hbD ▸ HVC.out.size)
              have HVC := Lib.hid (below_then HVC.out hbv.out)
              clear hbv hv hbD HU2
              refine hK.out _ _ ?_ (fun hSU8 => ?_)
              · exact KS.out _ HU3.out
              clear hK K hSU7
              try simp only [Act.put, List.setIfInBounds_toArray, List.set_cons_zero, List.set_cons_succ]
              refine wpAnyU_ready (rs := [13]) (by kernel_rfl) rfl ?_
              refine AllReadyU.free (ListAt.succ (ListAt.succ (ListAt.succ (ListAt.succ (ListAt.succ (ListAt.succ (ListAt.succ (ListAt.succ (ListAt.succ (ListAt.succ (ListAt.succ (ListAt.succ (ListAt.succ ListAt.zero))))))))))))) rfl (by kernel_rfl) (fun K hK => ?_) ?_
              · have HPD : Hid (P ≠ D) := by first | exact nePD.out | exact neDP.out.symm
                refine step_store_row rfl 29 _ _ rfl P _ rfl rfl 29 zeroMem RP.out (by kernel_rfl) rfl (by simp [Value.oneCell']) ?_
                have RD2 := Lib.hid ((setRow_other u3 P D #[.slice P1 q.1.words.length pc1, .slice Q1 q.1.lists.length qc1, .int .i64 q.1.tick] (Ne.symm HPD.out)).trans RD.out)
                have RP2 := Lib.hid (setRow_heap u3 P _ #[.slice P1 q.1.words.length pc1, .slice Q1 q.1.lists.length qc1, .int .i64 q.1.tick] _ (0, 0) RP.out)
                refine hK.out _ _ ?_
                clear hK K hSU8
                try simp only [Act.put, List.setIfInBounds_toArray, List.set_cons_zero, List.set_cons_succ]
                refine wpAnyU_ready (rs := [14]) (by kernel_rfl) rfl ?_
                refine AllReadyU.free (ListAt.succ (ListAt.succ (ListAt.succ (ListAt.succ (ListAt.succ (ListAt.succ (ListAt.succ (ListAt.succ (ListAt.succ (ListAt.succ (ListAt.succ (ListAt.succ (ListAt.succ (ListAt.succ ListAt.zero)))))))))))))) rfl (by kernel_rfl) (fun K hK => ?_) ?_
                · refine step_store_row rfl 38 _ _ rfl D _ rfl rfl 38 zeroAns RD2.out (by kernel_rfl) rfl (by simp [Value.oneCell']) ?_
                  refine hK.out _ _ ?_
                  clear hK K
                  try simp only [Act.put, List.setIfInBounds_toArray, List.set_cons_zero, List.set_cons_succ]
                  refine wpAnyU_takeW (v := ?_) 15 (ListAt.succ (ListAt.succ (ListAt.succ (ListAt.succ (ListAt.succ (ListAt.succ (ListAt.succ (ListAt.succ (ListAt.succ (ListAt.succ (ListAt.succ (ListAt.succ (ListAt.succ (ListAt.succ (ListAt.succ ListAt.zero))))))))))))))) (by kernel_rfl) (by kernel_rfl) (by kernel_rfl) (by kernel_rfl) (fun _ _ _ h => h) (past_k (by kernel_rfl)) rfl ?_ ?_
                  rotate_left
                  · (intro w; go_simp <;> with_reducible rfl)
                  simp only [Act.put, List.setIfInBounds_toArray, List.set_cons_zero, List.set_cons_succ]
                  refine wpAnyU_done (by kernel_rfl) ?_ _
                  have RP3 := Lib.hid ((setRow_other (u3.setRow P #[.slice P1 q.1.words.length pc1, .slice Q1 q.1.lists.length qc1, .int .i64 q.1.tick]) D P #[.int .u64 ax1, .bool ap1, .bool aq1, .slice AL1 al1 ac1] HPD.out).trans RP2.out)
                  have RD3 := Lib.hid (setRow_heap (u3.setRow P #[.slice P1 q.1.words.length pc1, .slice Q1 q.1.lists.length qc1, .int .i64 q.1.tick]) D _ #[.int .u64 ax1, .bool ap1, .bool aq1, .slice AL1 al1 ac1] _ (0, 0) RD2.out)
                  have HU9 := Lib.hid (row_below (row_below HU3.out geP.out #[.slice P1 q.1.words.length pc1, .slice Q1 q.1.lists.length qc1, .int .i64 q.1.tick]) geD.out #[.int .u64 ax1, .bool ap1, .bool aq1, .slice AL1 al1 ac1])
                  have HSF : Hid (StM (Off B (B + 1) ((u3.setRow P #[.slice P1 q.1.words.length pc1, .slice Q1 q.1.lists.length qc1, .int .i64 q.1.tick]).setRow D #[.int .u64 ax1, .bool ap1, .bool aq1, .slice AL1 al1 ac1])) (.agg #[.slice P1 q.1.words.length pc1, .slice Q1 q.1.lists.length qc1, .int .i64 q.1.tick]) q.1) := HSO.out.sub fun w5 h5 => ⟨(Off.below HU9.out).trans h5, new_keep HLR.out HVC.out oP.out oD.out w5 h5⟩
                  go_wp2_with fail
                  go_meet
                  exact ⟨P, D, P1, Q1, pc1, qc1, ax1, ap1, aq1, AL1, al1, ac1, rfl, rfl, rfl, RP3, RD3, HU9, HSF, HEV, HEO⟩
                exact AllReadyU.nil
              exact AllReadyU.nil
            exact AllReadyU.nil
          refine AllReadyU.cons (ListAt.succ (ListAt.succ (ListAt.succ (ListAt.succ (ListAt.succ (ListAt.succ (ListAt.succ (ListAt.succ (ListAt.succ (ListAt.succ (ListAt.succ (ListAt.succ ListAt.zero)))))))))))) rfl (fun K hK => ?_) ?_
          · go_simp
            obtain ⟨u2, D, hv, hbD, RD, hbv, ltD⟩ := alloc_pack u1 (.cells #[.int .u64 0, .bool false, .bool false, .slice none 0 0] 38)
            rw [hv, hbD]
            have geD : Hid (wo.heap.size ≤ D) := hbD ▸ HU1.out.size
            have nePD : Hid (P ≠ D) := Nat.ne_of_lt (hbD ▸ ltP.out)
            have HU2 := Lib.hid (below_then HU1.out hbv.out)
            have RP := Lib.hid ((hbv.out.block P ltP.out).trans RP.out)
            have ltP : Hid (P < u2.heap.size) := Nat.lt_of_lt_of_le ltP.out hbv.out.size
            clear hbv hv hbD HU1
            refine hK.out _ _ ?_ (fun hSU9 => ?_)
            · exact KS.out _ HU2.out
            clear hK K hSU6
            try simp only [Act.put, List.setIfInBounds_toArray, List.set_cons_zero, List.set_cons_succ]
            refine wpAnyU_ready (rs := [6]) (by kernel_rfl) rfl ?_
            refine AllReadyU.cons (ListAt.succ (ListAt.succ (ListAt.succ (ListAt.succ (ListAt.succ (ListAt.succ ListAt.zero)))))) rfl (fun K hK => ?_) ?_
            · go_simp
              go_at_call 11
              refine (TR.out _ HU2.out).mono ?_
              rintro e u3 ⟨w1', z1, rfl, hs1, ha1, hb1⟩
              obtain ⟨P1, pn1, pc1, Q1, qn1, qc1, pt1, rfl⟩ := hs1.shape u3 (Nx.at (Off.below HU2.out) (Off.wide _ _ _) hb1)
              obtain ⟨ax1, ap1, aq1, AL1, al1, ac1, rfl⟩ := ha1.shape u3 (Nx.at (Off.below HU2.out) (Off.wide _ _ _) hb1)
              obtain ⟨eqv, eqo⟩ := AnsV.parts (StA.at ha1 (Nx.at (Off.below HU2.out) (Off.wide _ _ _) hb1))
              obtain ⟨eq1, eq2, eq3⟩ := agg_mem6 hs1 u3 (Nx.at (Off.below HU2.out) (Off.wide _ _ _) hb1)
              subst eq1 eq2 eq3
              have HEV := Lib.hid eqv
              have HEO := Lib.hid eqo
              have hlB : B < u2.heap.size := Nat.lt_of_lt_of_le lB HU2.out.size
              have hlR : B + 1 < u2.heap.size := Nat.lt_of_lt_of_le lR HU2.out.size
              have HSO := Lib.hid hs1
              have oP : Hid (P < u2.heap.size ∨ u3.heap.size ≤ P) := .inl ltP.out
              have oD : Hid (D < u2.heap.size ∨ u3.heap.size ≤ D) := .inl ltD.out
              have HVC : Hid (Below u3.heap.size u3 u3) := Below.refl _ _
              have hbv := Lib.hid hb1
              have HLR := Lib.hid hlR
              clear hs1 ha1 hb1 eqv eqo hlB hlR
              have HU3 := Lib.hid (below_then HU2.out hbv.out)
              have RP := Lib.hid ((hbv.out.block P ltP.out).trans RP.out)
              have RD := Lib.hid ((hbv.out.block D ltD.out).trans RD.out)
              have ltP : Hid (P < u3.heap.size) := Nat.lt_of_lt_of_le ltP.out hbv.out.size
              have ltD : Hid (D < u3.heap.size) := Nat.lt_of_lt_of_le ltD.out hbv.out.size
              clear hbv HU2
              refine hK.out _ _ ?_ (fun hSU10 => ?_)
              · exact KS.out _ HU3.out
              clear hK K hSU9
              try simp only [Act.put, List.setIfInBounds_toArray, List.set_cons_zero, List.set_cons_succ]
              refine wpAnyU_take (v := ?_) 7 (ListAt.succ (ListAt.succ (ListAt.succ (ListAt.succ (ListAt.succ (ListAt.succ (ListAt.succ ListAt.zero))))))) (by kernel_rfl) (by kernel_rfl) (by kernel_rfl) (by kernel_rfl) (by kernel_rfl) (fun _ _ _ h => h) hSU10 rfl ?_ ?_
              rotate_left
              · (intro w hSw; (try dsimp only at hSw); go_simp <;> with_reducible rfl)
              simp only [Act.put, List.setIfInBounds_toArray, List.set_cons_zero, List.set_cons_succ]
              refine wpAnyU_take (v := ?_) 8 (ListAt.succ (ListAt.succ (ListAt.succ (ListAt.succ (ListAt.succ (ListAt.succ (ListAt.succ (ListAt.succ ListAt.zero)))))))) (by kernel_rfl) (by kernel_rfl) (by kernel_rfl) (by kernel_rfl) (by kernel_rfl) (fun _ _ _ h => h) hSU10 rfl ?_ ?_
              rotate_left
              · (intro w hSw; (try dsimp only at hSw); go_simp <;> with_reducible rfl)
              simp only [Act.put, List.setIfInBounds_toArray, List.set_cons_zero, List.set_cons_succ]
              refine wpAnyU_takeW (v := ?_) 9 (ListAt.succ (ListAt.succ (ListAt.succ (ListAt.succ (ListAt.succ (ListAt.succ (ListAt.succ (ListAt.succ (ListAt.succ ListAt.zero))))))))) (by kernel_rfl) (by kernel_rfl) (by kernel_rfl) (by kernel_rfl) (fun _ _ _ h => h) (fun _ => hSU10) rfl ?_ ?_
              rotate_left
              · (intro w; go_simp <;> with_reducible rfl)
              simp only [Act.put, List.setIfInBounds_toArray, List.set_cons_zero, List.set_cons_succ]
              refine wpAnyU_takeW (v := ?_) 10 (ListAt.succ (ListAt.succ (ListAt.succ (ListAt.succ (ListAt.succ (ListAt.succ (ListAt.succ (ListAt.succ (ListAt.succ (ListAt.succ ListAt.zero)))))))))) (by kernel_rfl) (by kernel_rfl) (by kernel_rfl) (by kernel_rfl) (fun _ _ _ h => h) (fun _ => hSU10) rfl ?_ ?_
              rotate_left
              · (intro w; go_simp <;> with_reducible rfl)
              simp only [Act.put, List.setIfInBounds_toArray, List.set_cons_zero, List.set_cons_succ]
              refine wpAnyU_ready (rs := [13]) (by kernel_rfl) rfl ?_
              refine AllReadyU.free (ListAt.succ (ListAt.succ (ListAt.succ (ListAt.succ (ListAt.succ (ListAt.succ (ListAt.succ (ListAt.succ (ListAt.succ (ListAt.succ (ListAt.succ (ListAt.succ (ListAt.succ ListAt.zero))))))))))))) rfl (by kernel_rfl) (fun K hK => ?_) ?_
              · have HPD : Hid (P ≠ D) := by first | exact nePD.out | exact neDP.out.symm
                refine step_store_row rfl 29 _ _ rfl P _ rfl rfl 29 zeroMem RP.out (by kernel_rfl) rfl (by simp [Value.oneCell']) ?_
                have RD2 := Lib.hid ((setRow_other u3 P D #[.slice P1 q.1.words.length pc1, .slice Q1 q.1.lists.length qc1, .int .i64 q.1.tick] (Ne.symm HPD.out)).trans RD.out)
                have RP2 := Lib.hid (setRow_heap u3 P _ #[.slice P1 q.1.words.length pc1, .slice Q1 q.1.lists.length qc1, .int .i64 q.1.tick] _ (0, 0) RP.out)
                refine hK.out _ _ ?_
                clear hK K hSU10
                try simp only [Act.put, List.setIfInBounds_toArray, List.set_cons_zero, List.set_cons_succ]
                refine wpAnyU_ready (rs := [14]) (by kernel_rfl) rfl ?_
                refine AllReadyU.free (ListAt.succ (ListAt.succ (ListAt.succ (ListAt.succ (ListAt.succ (ListAt.succ (ListAt.succ (ListAt.succ (ListAt.succ (ListAt.succ (ListAt.succ (ListAt.succ (ListAt.succ (ListAt.succ ListAt.zero)))))))))))))) rfl (by kernel_rfl) (fun K hK => ?_) ?_
                · refine step_store_row rfl 38 _ _ rfl D _ rfl rfl 38 zeroAns RD2.out (by kernel_rfl) rfl (by simp [Value.oneCell']) ?_
                  refine hK.out _ _ ?_
                  clear hK K
                  try simp only [Act.put, List.setIfInBounds_toArray, List.set_cons_zero, List.set_cons_succ]
                  refine wpAnyU_takeW (v := ?_) 15 (ListAt.succ (ListAt.succ (ListAt.succ (ListAt.succ (ListAt.succ (ListAt.succ (ListAt.succ (ListAt.succ (ListAt.succ (ListAt.succ (ListAt.succ (ListAt.succ (ListAt.succ (ListAt.succ (ListAt.succ ListAt.zero))))))))))))))) (by kernel_rfl) (by kernel_rfl) (by kernel_rfl) (by kernel_rfl) (fun _ _ _ h => h) (past_k (by kernel_rfl)) rfl ?_ ?_
                  rotate_left
                  · (intro w; go_simp <;> with_reducible rfl)
                  simp only [Act.put, List.setIfInBounds_toArray, List.set_cons_zero, List.set_cons_succ]
                  refine wpAnyU_done (by kernel_rfl) ?_ _
                  have RP3 := Lib.hid ((setRow_other (u3.setRow P #[.slice P1 q.1.words.length pc1, .slice Q1 q.1.lists.length qc1, .int .i64 q.1.tick]) D P #[.int .u64 ax1, .bool ap1, .bool aq1, .slice AL1 al1 ac1] HPD.out).trans RP2.out)
                  have RD3 := Lib.hid (setRow_heap (u3.setRow P #[.slice P1 q.1.words.length pc1, .slice Q1 q.1.lists.length qc1, .int .i64 q.1.tick]) D _ #[.int .u64 ax1, .bool ap1, .bool aq1, .slice AL1 al1 ac1] _ (0, 0) RD2.out)
                  have HU9 := Lib.hid (row_below (row_below HU3.out geP.out #[.slice P1 q.1.words.length pc1, .slice Q1 q.1.lists.length qc1, .int .i64 q.1.tick]) geD.out #[.int .u64 ax1, .bool ap1, .bool aq1, .slice AL1 al1 ac1])
                  have HSF : Hid (StM (Off B (B + 1) ((u3.setRow P #[.slice P1 q.1.words.length pc1, .slice Q1 q.1.lists.length qc1, .int .i64 q.1.tick]).setRow D #[.int .u64 ax1, .bool ap1, .bool aq1, .slice AL1 al1 ac1])) (.agg #[.slice P1 q.1.words.length pc1, .slice Q1 q.1.lists.length qc1, .int .i64 q.1.tick]) q.1) := HSO.out.sub fun w5 h5 => ⟨(Off.below HU9.out).trans h5, new_keep HLR.out HVC.out oP.out oD.out w5 h5⟩
                  go_wp2_with fail
                  go_meet
                  exact ⟨P, D, P1, Q1, pc1, qc1, ax1, ap1, aq1, AL1, al1, ac1, rfl, rfl, rfl, RP3, RD3, HU9, HSF, HEV, HEO⟩
                exact AllReadyU.nil
              exact AllReadyU.nil
            exact AllReadyU.nil
          exact AllReadyU.nil
        refine AllReadyU.cons (ListAt.succ (ListAt.succ (ListAt.succ (ListAt.succ (ListAt.succ (ListAt.succ (ListAt.succ (ListAt.succ (ListAt.succ (ListAt.succ (ListAt.succ (ListAt.succ ListAt.zero)))))))))))) rfl (fun K hK => ?_) ?_
        · go_simp
          obtain ⟨u1, D, hv, hbD, RD, hbv, ltD⟩ := alloc_pack u0 (.cells #[.int .u64 0, .bool false, .bool false, .slice none 0 0] 38)
          rw [hv, hbD]
          have geD : Hid (wo.heap.size ≤ D) := hbD ▸ HU0.out.size
          have HU1 := Lib.hid (below_then HU0.out hbv.out)
          clear hbv hv hbD HU0
          refine hK.out _ _ ?_ (fun hSU11 => ?_)
          · exact KS.out _ HU1.out
          clear hK K hSU0
          try simp only [Act.put, List.setIfInBounds_toArray, List.set_cons_zero, List.set_cons_succ]
          refine wpAnyU_ready (rs := [6, 11]) (by kernel_rfl) rfl ?_
          refine AllReadyU.cons (ListAt.succ (ListAt.succ (ListAt.succ (ListAt.succ (ListAt.succ (ListAt.succ ListAt.zero)))))) rfl (fun K hK => ?_) ?_
          · go_simp
            go_at_call 11
            refine (TR.out _ HU1.out).mono ?_
            rintro e u2 ⟨w1', z1, rfl, hs1, ha1, hb1⟩
            obtain ⟨P1, pn1, pc1, Q1, qn1, qc1, pt1, rfl⟩ := hs1.shape u2 (Nx.at (Off.below HU1.out) (Off.wide _ _ _) hb1)
            obtain ⟨ax1, ap1, aq1, AL1, al1, ac1, rfl⟩ := ha1.shape u2 (Nx.at (Off.below HU1.out) (Off.wide _ _ _) hb1)
            obtain ⟨eqv, eqo⟩ := AnsV.parts (StA.at ha1 (Nx.at (Off.below HU1.out) (Off.wide _ _ _) hb1))
            obtain ⟨eq1, eq2, eq3⟩ := agg_mem6 hs1 u2 (Nx.at (Off.below HU1.out) (Off.wide _ _ _) hb1)
            subst eq1 eq2 eq3
            have HEV := Lib.hid eqv
            have HEO := Lib.hid eqo
            have hlB : B < u1.heap.size := Nat.lt_of_lt_of_le lB HU1.out.size
            have hlR : B + 1 < u1.heap.size := Nat.lt_of_lt_of_le lR HU1.out.size
            have HSO := Lib.hid hs1
            have oD : Hid (D < u1.heap.size ∨ u2.heap.size ≤ D) := .inl ltD.out
            have HVC : Hid (Below u2.heap.size u2 u2) := Below.refl _ _
            have hbv := Lib.hid hb1
            have HLR := Lib.hid hlR
            clear hs1 ha1 hb1 eqv eqo hlB hlR
            have HU2 := Lib.hid (below_then HU1.out hbv.out)
            have RD := Lib.hid ((hbv.out.block D ltD.out).trans RD.out)
            have ltD : Hid (D < u2.heap.size) := Nat.lt_of_lt_of_le ltD.out hbv.out.size
            clear hbv HU1
            refine hK.out _ _ ?_ (fun hSU12 => ?_)
            · exact KS.out _ HU2.out
            clear hK K hSU11
            try simp only [Act.put, List.setIfInBounds_toArray, List.set_cons_zero, List.set_cons_succ]
            refine wpAnyU_take (v := ?_) 7 (ListAt.succ (ListAt.succ (ListAt.succ (ListAt.succ (ListAt.succ (ListAt.succ (ListAt.succ ListAt.zero))))))) (by kernel_rfl) (by kernel_rfl) (by kernel_rfl) (by kernel_rfl) (by kernel_rfl) (fun _ _ _ h => h) hSU12 rfl ?_ ?_
            rotate_left
            · (intro w hSw; (try dsimp only at hSw); go_simp <;> with_reducible rfl)
            simp only [Act.put, List.setIfInBounds_toArray, List.set_cons_zero, List.set_cons_succ]
            refine wpAnyU_take (v := ?_) 8 (ListAt.succ (ListAt.succ (ListAt.succ (ListAt.succ (ListAt.succ (ListAt.succ (ListAt.succ (ListAt.succ ListAt.zero)))))))) (by kernel_rfl) (by kernel_rfl) (by kernel_rfl) (by kernel_rfl) (by kernel_rfl) (fun _ _ _ h => h) hSU12 rfl ?_ ?_
            rotate_left
            · (intro w hSw; (try dsimp only at hSw); go_simp <;> with_reducible rfl)
            simp only [Act.put, List.setIfInBounds_toArray, List.set_cons_zero, List.set_cons_succ]
            refine wpAnyU_takeW (v := ?_) 9 (ListAt.succ (ListAt.succ (ListAt.succ (ListAt.succ (ListAt.succ (ListAt.succ (ListAt.succ (ListAt.succ (ListAt.succ ListAt.zero))))))))) (by kernel_rfl) (by kernel_rfl) (by kernel_rfl) (by kernel_rfl) (fun _ _ _ h => h) (fun _ => hSU12) rfl ?_ ?_
            rotate_left
            · (intro w; go_simp <;> with_reducible rfl)
            simp only [Act.put, List.setIfInBounds_toArray, List.set_cons_zero, List.set_cons_succ]
            refine wpAnyU_takeW (v := ?_) 10 (ListAt.succ (ListAt.succ (ListAt.succ (ListAt.succ (ListAt.succ (ListAt.succ (ListAt.succ (ListAt.succ (ListAt.succ (ListAt.succ ListAt.zero)))))))))) (by kernel_rfl) (by kernel_rfl) (by kernel_rfl) (by kernel_rfl) (fun _ _ _ h => h) (fun _ => hSU12) rfl ?_ ?_
            rotate_left
            · (intro w; go_simp <;> with_reducible rfl)
            simp only [Act.put, List.setIfInBounds_toArray, List.set_cons_zero, List.set_cons_succ]
            refine wpAnyU_ready (rs := [11]) (by kernel_rfl) rfl ?_
            refine AllReadyU.cons (ListAt.succ (ListAt.succ (ListAt.succ (ListAt.succ (ListAt.succ (ListAt.succ (ListAt.succ (ListAt.succ (ListAt.succ (ListAt.succ (ListAt.succ ListAt.zero))))))))))) rfl (fun K hK => ?_) ?_
            · go_simp
              obtain ⟨u3, P, hv, hbP, RP, hbv, ltP⟩ := alloc_pack u2 (.cells #[.slice none 0 0, .slice none 0 0, .int .i64 0] 29)
              rw [hv, hbP]
              have geP : Hid (wo.heap.size ≤ P) := hbP ▸ HU2.out.size
              have neDP : Hid (D ≠ P) := Nat.ne_of_lt (hbP ▸ ltD.out)
              have HU3 := Lib.hid (below_then HU2.out hbv.out)
              have RD := Lib.hid ((hbv.out.block D ltD.out).trans RD.out)
              have ltD : Hid (D < u3.heap.size) := Nat.lt_of_lt_of_le ltD.out hbv.out.size
              have oP : Hid (P < u1.heap.size ∨ u2.heap.size ≤ P) := .inr (hbP ▸ HVC.out.size)
              have HVC := Lib.hid (below_then HVC.out hbv.out)
              clear hbv hv hbP HU2
              refine hK.out _ _ ?_ (fun hSU13 => ?_)
              · exact KS.out _ HU3.out
              clear hK K hSU12
              try simp only [Act.put, List.setIfInBounds_toArray, List.set_cons_zero, List.set_cons_succ]
              refine wpAnyU_ready (rs := [13]) (by kernel_rfl) rfl ?_
              refine AllReadyU.free (ListAt.succ (ListAt.succ (ListAt.succ (ListAt.succ (ListAt.succ (ListAt.succ (ListAt.succ (ListAt.succ (ListAt.succ (ListAt.succ (ListAt.succ (ListAt.succ (ListAt.succ ListAt.zero))))))))))))) rfl (by kernel_rfl) (fun K hK => ?_) ?_
              · have HPD : Hid (P ≠ D) := by first | exact nePD.out | exact neDP.out.symm
                refine step_store_row rfl 29 _ _ rfl P _ rfl rfl 29 zeroMem RP.out (by kernel_rfl) rfl (by simp [Value.oneCell']) ?_
                have RD2 := Lib.hid ((setRow_other u3 P D #[.slice P1 q.1.words.length pc1, .slice Q1 q.1.lists.length qc1, .int .i64 q.1.tick] (Ne.symm HPD.out)).trans RD.out)
                have RP2 := Lib.hid (setRow_heap u3 P _ #[.slice P1 q.1.words.length pc1, .slice Q1 q.1.lists.length qc1, .int .i64 q.1.tick] _ (0, 0) RP.out)
                refine hK.out _ _ ?_
                clear hK K hSU13
                try simp only [Act.put, List.setIfInBounds_toArray, List.set_cons_zero, List.set_cons_succ]
                refine wpAnyU_ready (rs := [14]) (by kernel_rfl) rfl ?_
                refine AllReadyU.free (ListAt.succ (ListAt.succ (ListAt.succ (ListAt.succ (ListAt.succ (ListAt.succ (ListAt.succ (ListAt.succ (ListAt.succ (ListAt.succ (ListAt.succ (ListAt.succ (ListAt.succ (ListAt.succ ListAt.zero)))))))))))))) rfl (by kernel_rfl) (fun K hK => ?_) ?_
                · refine step_store_row rfl 38 _ _ rfl D _ rfl rfl 38 zeroAns RD2.out (by kernel_rfl) rfl (by simp [Value.oneCell']) ?_
                  refine hK.out _ _ ?_
                  clear hK K
                  try simp only [Act.put, List.setIfInBounds_toArray, List.set_cons_zero, List.set_cons_succ]
                  refine wpAnyU_takeW (v := ?_) 15 (ListAt.succ (ListAt.succ (ListAt.succ (ListAt.succ (ListAt.succ (ListAt.succ (ListAt.succ (ListAt.succ (ListAt.succ (ListAt.succ (ListAt.succ (ListAt.succ (ListAt.succ (ListAt.succ (ListAt.succ ListAt.zero))))))))))))))) (by kernel_rfl) (by kernel_rfl) (by kernel_rfl) (by kernel_rfl) (fun _ _ _ h => h) (past_k (by kernel_rfl)) rfl ?_ ?_
                  rotate_left
                  · (intro w; go_simp <;> with_reducible rfl)
                  simp only [Act.put, List.setIfInBounds_toArray, List.set_cons_zero, List.set_cons_succ]
                  refine wpAnyU_done (by kernel_rfl) ?_ _
                  have RP3 := Lib.hid ((setRow_other (u3.setRow P #[.slice P1 q.1.words.length pc1, .slice Q1 q.1.lists.length qc1, .int .i64 q.1.tick]) D P #[.int .u64 ax1, .bool ap1, .bool aq1, .slice AL1 al1 ac1] HPD.out).trans RP2.out)
                  have RD3 := Lib.hid (setRow_heap (u3.setRow P #[.slice P1 q.1.words.length pc1, .slice Q1 q.1.lists.length qc1, .int .i64 q.1.tick]) D _ #[.int .u64 ax1, .bool ap1, .bool aq1, .slice AL1 al1 ac1] _ (0, 0) RD2.out)
                  have HU9 := Lib.hid (row_below (row_below HU3.out geP.out #[.slice P1 q.1.words.length pc1, .slice Q1 q.1.lists.length qc1, .int .i64 q.1.tick]) geD.out #[.int .u64 ax1, .bool ap1, .bool aq1, .slice AL1 al1 ac1])
                  have HSF : Hid (StM (Off B (B + 1) ((u3.setRow P #[.slice P1 q.1.words.length pc1, .slice Q1 q.1.lists.length qc1, .int .i64 q.1.tick]).setRow D #[.int .u64 ax1, .bool ap1, .bool aq1, .slice AL1 al1 ac1])) (.agg #[.slice P1 q.1.words.length pc1, .slice Q1 q.1.lists.length qc1, .int .i64 q.1.tick]) q.1) := HSO.out.sub fun w5 h5 => ⟨(Off.below HU9.out).trans h5, new_keep HLR.out HVC.out oP.out oD.out w5 h5⟩
                  go_wp2_with fail
                  go_meet
                  exact ⟨P, D, P1, Q1, pc1, qc1, ax1, ap1, aq1, AL1, al1, ac1, rfl, rfl, rfl, RP3, RD3, HU9, HSF, HEV, HEO⟩
                exact AllReadyU.nil
              exact AllReadyU.nil
            exact AllReadyU.nil
          refine AllReadyU.cons (ListAt.succ (ListAt.succ (ListAt.succ (ListAt.succ (ListAt.succ (ListAt.succ (ListAt.succ (ListAt.succ (ListAt.succ (ListAt.succ (ListAt.succ ListAt.zero))))))))))) rfl (fun K hK => ?_) ?_
          · go_simp
            obtain ⟨u2, P, hv, hbP, RP, hbv, ltP⟩ := alloc_pack u1 (.cells #[.slice none 0 0, .slice none 0 0, .int .i64 0] 29)
            rw [hv, hbP]
            have geP : Hid (wo.heap.size ≤ P) := hbP ▸ HU1.out.size
            have neDP : Hid (D ≠ P) := Nat.ne_of_lt (hbP ▸ ltD.out)
            have HU2 := Lib.hid (below_then HU1.out hbv.out)
            have RD := Lib.hid ((hbv.out.block D ltD.out).trans RD.out)
            have ltD : Hid (D < u2.heap.size) := Nat.lt_of_lt_of_le ltD.out hbv.out.size
            clear hbv hv hbP HU1
            refine hK.out _ _ ?_ (fun hSU14 => ?_)
            · exact KS.out _ HU2.out
            clear hK K hSU11
            try simp only [Act.put, List.setIfInBounds_toArray, List.set_cons_zero, List.set_cons_succ]
            refine wpAnyU_ready (rs := [6]) (by kernel_rfl) rfl ?_
            refine AllReadyU.cons (ListAt.succ (ListAt.succ (ListAt.succ (ListAt.succ (ListAt.succ (ListAt.succ ListAt.zero)))))) rfl (fun K hK => ?_) ?_
            · go_simp
              go_at_call 11
              refine (TR.out _ HU2.out).mono ?_
              rintro e u3 ⟨w1', z1, rfl, hs1, ha1, hb1⟩
              obtain ⟨P1, pn1, pc1, Q1, qn1, qc1, pt1, rfl⟩ := hs1.shape u3 (Nx.at (Off.below HU2.out) (Off.wide _ _ _) hb1)
              obtain ⟨ax1, ap1, aq1, AL1, al1, ac1, rfl⟩ := ha1.shape u3 (Nx.at (Off.below HU2.out) (Off.wide _ _ _) hb1)
              obtain ⟨eqv, eqo⟩ := AnsV.parts (StA.at ha1 (Nx.at (Off.below HU2.out) (Off.wide _ _ _) hb1))
              obtain ⟨eq1, eq2, eq3⟩ := agg_mem6 hs1 u3 (Nx.at (Off.below HU2.out) (Off.wide _ _ _) hb1)
              subst eq1 eq2 eq3
              have HEV := Lib.hid eqv
              have HEO := Lib.hid eqo
              have hlB : B < u2.heap.size := Nat.lt_of_lt_of_le lB HU2.out.size
              have hlR : B + 1 < u2.heap.size := Nat.lt_of_lt_of_le lR HU2.out.size
              have HSO := Lib.hid hs1
              have oD : Hid (D < u2.heap.size ∨ u3.heap.size ≤ D) := .inl ltD.out
              have oP : Hid (P < u2.heap.size ∨ u3.heap.size ≤ P) := .inl ltP.out
              have HVC : Hid (Below u3.heap.size u3 u3) := Below.refl _ _
              have hbv := Lib.hid hb1
              have HLR := Lib.hid hlR
              clear hs1 ha1 hb1 eqv eqo hlB hlR
              have HU3 := Lib.hid (below_then HU2.out hbv.out)
              have RD := Lib.hid ((hbv.out.block D ltD.out).trans RD.out)
              have RP := Lib.hid ((hbv.out.block P ltP.out).trans RP.out)
              have ltD : Hid (D < u3.heap.size) := Nat.lt_of_lt_of_le ltD.out hbv.out.size
              have ltP : Hid (P < u3.heap.size) := Nat.lt_of_lt_of_le ltP.out hbv.out.size
              clear hbv HU2
              refine hK.out _ _ ?_ (fun hSU15 => ?_)
              · exact KS.out _ HU3.out
              clear hK K hSU14
              try simp only [Act.put, List.setIfInBounds_toArray, List.set_cons_zero, List.set_cons_succ]
              refine wpAnyU_take (v := ?_) 7 (ListAt.succ (ListAt.succ (ListAt.succ (ListAt.succ (ListAt.succ (ListAt.succ (ListAt.succ ListAt.zero))))))) (by kernel_rfl) (by kernel_rfl) (by kernel_rfl) (by kernel_rfl) (by kernel_rfl) (fun _ _ _ h => h) hSU15 rfl ?_ ?_
              rotate_left
              · (intro w hSw; (try dsimp only at hSw); go_simp <;> with_reducible rfl)
              simp only [Act.put, List.setIfInBounds_toArray, List.set_cons_zero, List.set_cons_succ]
              refine wpAnyU_take (v := ?_) 8 (ListAt.succ (ListAt.succ (ListAt.succ (ListAt.succ (ListAt.succ (ListAt.succ (ListAt.succ (ListAt.succ ListAt.zero)))))))) (by kernel_rfl) (by kernel_rfl) (by kernel_rfl) (by kernel_rfl) (by kernel_rfl) (fun _ _ _ h => h) hSU15 rfl ?_ ?_
              rotate_left
              · (intro w hSw; (try dsimp only at hSw); go_simp <;> with_reducible rfl)
              simp only [Act.put, List.setIfInBounds_toArray, List.set_cons_zero, List.set_cons_succ]
              refine wpAnyU_takeW (v := ?_) 9 (ListAt.succ (ListAt.succ (ListAt.succ (ListAt.succ (ListAt.succ (ListAt.succ (ListAt.succ (ListAt.succ (ListAt.succ ListAt.zero))))))))) (by kernel_rfl) (by kernel_rfl) (by kernel_rfl) (by kernel_rfl) (fun _ _ _ h => h) (fun _ => hSU15) rfl ?_ ?_
              rotate_left
              · (intro w; go_simp <;> with_reducible rfl)
              simp only [Act.put, List.setIfInBounds_toArray, List.set_cons_zero, List.set_cons_succ]
              refine wpAnyU_takeW (v := ?_) 10 (ListAt.succ (ListAt.succ (ListAt.succ (ListAt.succ (ListAt.succ (ListAt.succ (ListAt.succ (ListAt.succ (ListAt.succ (ListAt.succ ListAt.zero)))))))))) (by kernel_rfl) (by kernel_rfl) (by kernel_rfl) (by kernel_rfl) (fun _ _ _ h => h) (fun _ => hSU15) rfl ?_ ?_
              rotate_left
              · (intro w; go_simp <;> with_reducible rfl)
              simp only [Act.put, List.setIfInBounds_toArray, List.set_cons_zero, List.set_cons_succ]
              refine wpAnyU_ready (rs := [13]) (by kernel_rfl) rfl ?_
              refine AllReadyU.free (ListAt.succ (ListAt.succ (ListAt.succ (ListAt.succ (ListAt.succ (ListAt.succ (ListAt.succ (ListAt.succ (ListAt.succ (ListAt.succ (ListAt.succ (ListAt.succ (ListAt.succ ListAt.zero))))))))))))) rfl (by kernel_rfl) (fun K hK => ?_) ?_
              · have HPD : Hid (P ≠ D) := by first | exact nePD.out | exact neDP.out.symm
                refine step_store_row rfl 29 _ _ rfl P _ rfl rfl 29 zeroMem RP.out (by kernel_rfl) rfl (by simp [Value.oneCell']) ?_
                have RD2 := Lib.hid ((setRow_other u3 P D #[.slice P1 q.1.words.length pc1, .slice Q1 q.1.lists.length qc1, .int .i64 q.1.tick] (Ne.symm HPD.out)).trans RD.out)
                have RP2 := Lib.hid (setRow_heap u3 P _ #[.slice P1 q.1.words.length pc1, .slice Q1 q.1.lists.length qc1, .int .i64 q.1.tick] _ (0, 0) RP.out)
                refine hK.out _ _ ?_
                clear hK K hSU15
                try simp only [Act.put, List.setIfInBounds_toArray, List.set_cons_zero, List.set_cons_succ]
                refine wpAnyU_ready (rs := [14]) (by kernel_rfl) rfl ?_
                refine AllReadyU.free (ListAt.succ (ListAt.succ (ListAt.succ (ListAt.succ (ListAt.succ (ListAt.succ (ListAt.succ (ListAt.succ (ListAt.succ (ListAt.succ (ListAt.succ (ListAt.succ (ListAt.succ (ListAt.succ ListAt.zero)))))))))))))) rfl (by kernel_rfl) (fun K hK => ?_) ?_
                · refine step_store_row rfl 38 _ _ rfl D _ rfl rfl 38 zeroAns RD2.out (by kernel_rfl) rfl (by simp [Value.oneCell']) ?_
                  refine hK.out _ _ ?_
                  clear hK K
                  try simp only [Act.put, List.setIfInBounds_toArray, List.set_cons_zero, List.set_cons_succ]
                  refine wpAnyU_takeW (v := ?_) 15 (ListAt.succ (ListAt.succ (ListAt.succ (ListAt.succ (ListAt.succ (ListAt.succ (ListAt.succ (ListAt.succ (ListAt.succ (ListAt.succ (ListAt.succ (ListAt.succ (ListAt.succ (ListAt.succ (ListAt.succ ListAt.zero))))))))))))))) (by kernel_rfl) (by kernel_rfl) (by kernel_rfl) (by kernel_rfl) (fun _ _ _ h => h) (past_k (by kernel_rfl)) rfl ?_ ?_
                  rotate_left
                  · (intro w; go_simp <;> with_reducible rfl)
                  simp only [Act.put, List.setIfInBounds_toArray, List.set_cons_zero, List.set_cons_succ]
                  refine wpAnyU_done (by kernel_rfl) ?_ _
                  have RP3 := Lib.hid ((setRow_other (u3.setRow P #[.slice P1 q.1.words.length pc1, .slice Q1 q.1.lists.length qc1, .int .i64 q.1.tick]) D P #[.int .u64 ax1, .bool ap1, .bool aq1, .slice AL1 al1 ac1] HPD.out).trans RP2.out)
                  have RD3 := Lib.hid (setRow_heap (u3.setRow P #[.slice P1 q.1.words.length pc1, .slice Q1 q.1.lists.length qc1, .int .i64 q.1.tick]) D _ #[.int .u64 ax1, .bool ap1, .bool aq1, .slice AL1 al1 ac1] _ (0, 0) RD2.out)
                  have HU9 := Lib.hid (row_below (row_below HU3.out geP.out #[.slice P1 q.1.words.length pc1, .slice Q1 q.1.lists.length qc1, .int .i64 q.1.tick]) geD.out #[.int .u64 ax1, .bool ap1, .bool aq1, .slice AL1 al1 ac1])
                  have HSF : Hid (StM (Off B (B + 1) ((u3.setRow P #[.slice P1 q.1.words.length pc1, .slice Q1 q.1.lists.length qc1, .int .i64 q.1.tick]).setRow D #[.int .u64 ax1, .bool ap1, .bool aq1, .slice AL1 al1 ac1])) (.agg #[.slice P1 q.1.words.length pc1, .slice Q1 q.1.lists.length qc1, .int .i64 q.1.tick]) q.1) := HSO.out.sub fun w5 h5 => ⟨(Off.below HU9.out).trans h5, new_keep HLR.out HVC.out oP.out oD.out w5 h5⟩
                  go_wp2_with fail
                  go_meet
                  exact ⟨P, D, P1, Q1, pc1, qc1, ax1, ap1, aq1, AL1, al1, ac1, rfl, rfl, rfl, RP3, RD3, HU9, HSF, HEV, HEO⟩
                exact AllReadyU.nil
              exact AllReadyU.nil
            exact AllReadyU.nil
          exact AllReadyU.nil
        exact AllReadyU.nil
      case rest =>
        obtain ⟨P, D, P1, Q1, pc1, qc1, ax1, ap1, aq1, AL1, al1, ac1, rfl, rfl, rfl, RP, RD, HU, HSF, HEV, HEO⟩ := hcut
        obtain ⟨W1, rfl⟩ : ∃ W1 : World, W1 = wc := ⟨_, rfl⟩
        obtain ⟨-, i0, i1, i2, i3, i4, i5, i6, i7⟩ := KS.out _ HU.out
        obtain ⟨d0, d1, d2, d3⟩ := rowc4 RD.out
        have lD : D < W1.heap.size := (Array.getElem?_eq_some_iff.1 RD.out).1
        have lb1 : b < W1.heap.size := Nat.lt_of_lt_of_le hbo HU.out.size
        have E0 := ext_cell _ 0 lD _ d0
        have E1 := ext_cell _ 1 lD _ d1
        have I6 := ext_cell _ (off + k * 8 + 6) lb1 _ i6
        have I7 := ext_cell _ (off + k * 8 + 7) lb1 _ i7
        clear i0 i1 i2 i3 i4 i5 i6 i7 d0 d1 d2 d3 KS TR
        go_upto_region 5 with fail
        cases hok : okE m' x with
        | false =>
          have hr : (noMem, false) = r := by have := HN.out; rw [hok] at this; exact this
          subst hr
          have hko := HOK.out.symm.trans hok
          rw [← HEV.out, ← HEO.out] at hko
          clear HN HOK hok
          cases hq2 : q.2.2 with
          | false =>
            refine wp_region_ext W1 (by kernel_rfl) (by kernel_rfl) (Below.refl _ _) ?_
            repeat (go_big_quiet_step (fail))
            refine wpQuiet_nil ?_
            intro _ hw'
            obtain ⟨n9, rfl⟩ := hw'
            have hb9 := Lib.hid n9.below
            have HB9 := Lib.hid (below_then HU.out hb9.out)
            generalize n9.wd = w9 at *
            clear E0 E1 I6 I7
            have RR1 := Lib.hid ((HB9.out.block (B + 1) lR).trans RR.out)
            have HBf := Lib.hid (below_then HI.out.below HB9.out)
            have HRW := Lib.hid HI.out.rw
            go_wp2_with (refine wpList_store_row rfl 29 _ _ rfl (B + 1) _ rfl rfl 29 zeroMem RR1.out (by kernel_rfl) rfl (by simp [Value.oneCell']) ?_)
            refine bodyPost_ret (v := .tuple #[.agg #[.slice none 0 0, .slice none 0 0, .int .i64 0], .bool false]) (results_cell_tmp Try.results17 _ _ (B + 1) 29 _ (0, 0) _ rfl (setRow_heap _ _ _ _ 29 (0, 0) RR1.out) Try.underlying29 rfl (by kernel_rfl) _ rfl) rfl ?_
            exact ⟨_, rfl, ⟨_, _, [], rfl, SlI.nil _ _, SlL.nil _⟩, row_below HBf.out HRW.out _⟩
          | true =>
            rw [hq2] at hko
            by_cases hv : ax1 = x.val
            · have hvb : (ax1 != x.val) = false := by simpa using hv
              have hxo : x.ok = !ap1 := by
                rw [hv] at hko
                cases ap1 <;> cases hxo : x.ok <;> simp_all
              clear hv hko
              cases ap1
              all_goals
                simp only [Bool.not_false, Bool.not_true] at hxo
                refine wp_region_ext W1 (by kernel_rfl) (by kernel_rfl) (Below.refl _ _) ?_
                repeat (go_big_quiet_step (fail))
                refine wpQuiet_nil ?_
                intro _ hw'
                obtain ⟨n9, rfl⟩ := hw'
                have hb9 := Lib.hid n9.below
                have HB9 := Lib.hid (below_then HU.out hb9.out)
                generalize n9.wd = w9 at *
                clear E0 E1 I6 I7
                have RR1 := Lib.hid ((HB9.out.block (B + 1) lR).trans RR.out)
                have HBf := Lib.hid (below_then HI.out.below HB9.out)
                have HRW := Lib.hid HI.out.rw
                go_wp2_with (refine wpList_store_row rfl 29 _ _ rfl (B + 1) _ rfl rfl 29 zeroMem RR1.out (by kernel_rfl) rfl (by simp [Value.oneCell']) ?_)
                refine bodyPost_ret (v := .tuple #[.agg #[.slice none 0 0, .slice none 0 0, .int .i64 0], .bool false]) (results_cell_tmp Try.results17 _ _ (B + 1) 29 _ (0, 0) _ rfl (setRow_heap _ _ _ _ 29 (0, 0) RR1.out) Try.underlying29 rfl (by kernel_rfl) _ rfl) rfl ?_
                exact ⟨_, rfl, ⟨_, _, [], rfl, SlI.nil _ _, SlL.nil _⟩, row_below HBf.out HRW.out _⟩
            · have hvb : (ax1 != x.val) = true := by simpa using hv
              clear hv hko
              refine wp_region_ext W1 (by kernel_rfl) (by kernel_rfl) (Below.refl _ _) ?_
              repeat (go_big_quiet_step (fail))
              refine wpQuiet_nil ?_
              intro _ hw'
              obtain ⟨n9, rfl⟩ := hw'
              have hb9 := Lib.hid n9.below
              have HB9 := Lib.hid (below_then HU.out hb9.out)
              generalize n9.wd = w9 at *
              clear E0 E1 I6 I7
              have RR1 := Lib.hid ((HB9.out.block (B + 1) lR).trans RR.out)
              have HBf := Lib.hid (below_then HI.out.below HB9.out)
              have HRW := Lib.hid HI.out.rw
              go_wp2_with (refine wpList_store_row rfl 29 _ _ rfl (B + 1) _ rfl rfl 29 zeroMem RR1.out (by kernel_rfl) rfl (by simp [Value.oneCell']) ?_)
              refine bodyPost_ret (v := .tuple #[.agg #[.slice none 0 0, .slice none 0 0, .int .i64 0], .bool false]) (results_cell_tmp Try.results17 _ _ (B + 1) 29 _ (0, 0) _ rfl (setRow_heap _ _ _ _ 29 (0, 0) RR1.out) Try.underlying29 rfl (by kernel_rfl) _ rfl) rfl ?_
              exact ⟨_, rfl, ⟨_, _, [], rfl, SlI.nil _ _, SlL.nil _⟩, row_below HBf.out HRW.out _⟩
        | true =>
          have hr : Hid (replayE q.1 (l.drop (k + 1)) = r) := by have := HN.out; rw [hok] at this; exact this
          have hko := HOK.out.symm.trans hok
          rw [← HEV.out, ← HEO.out] at hko
          simp only [Bool.and_eq_true, beq_iff_eq] at hko
          obtain ⟨hq2, hv, ho⟩ := hko
          subst hv ho
          have hvb : (x.val != x.val) = false := by simp
          have hob : (x.ok != x.ok) = false := by simp
          clear HN HOK hok
          refine wp_region_ext W1 (by kernel_rfl) (by kernel_rfl) (Below.refl _ _) ?_
          repeat (go_big_quiet_step (fail))
          refine wpQuiet_nil ?_
          intro _ hw'
          obtain ⟨n9, rfl⟩ := hw'
          have hb9 := Lib.hid n9.below
          have HB9 := Lib.hid (below_then HU.out hb9.out)
          generalize n9.wd = w9 at *
          clear E0 E1 I6 I7
          have RM9 := Lib.hid ((HB9.out.block B lB).trans RM.out)
          have RP9 := Lib.hid ((hb9.out.block P (Array.getElem?_eq_some_iff.1 RP.out).1).trans RP.out)
          have HI8 := Lib.hid ((HI.out.next HB9.out).put (HSF.out.sub fun w5 h5 => (Off.below hb9.out).trans h5) HFR.out)
          obtain ⟨p0, p1, p2⟩ := rowc3 RP9.out
          go_wp2_with (refine wpList_store_row rfl 29 _ _ rfl B _ rfl rfl 29 _ RM9.out (by kernel_rfl) rfl (by simp [Value.oneCell']) ?_)
          go_roundw
          case rel => exact ⟨k + 1, by omega, by go_num, _, hr, HI8⟩
          case measure => simp [intOf]; omega
    · obtain rfl : k = l.length := by omega
      have hr : (m', true) = r := by rw [← HR.out, List.drop_length]; rfl
      subst hr
      clear HR
      obtain ⟨x0, x1, x2⟩ := rowc3 RM.out
      have hBl := HI.out.lt
      go_wp2_with (refine wpList_store_row rfl 29 _ _ rfl (B + 1) _ rfl rfl 29 zeroMem RR.out (by kernel_rfl) rfl (by simp [Value.oneCell']) ?_)
      have HV1 : Hid (MemV (wo.setRow (B + 1) #[.slice A m'.words.length c, .slice A2 m'.lists.length c2, .int .i64 m'.tick]) (.agg #[.slice A m'.words.length c, .slice A2 m'.lists.length c2, .int .i64 m'.tick]) m') := HST.out.at ⟨by simp [World.setRow], fun j hj h1 h2 => setRow_other _ _ _ _ h2⟩
      refine bodyPost_ret (v := .tuple #[.agg #[.slice A m'.words.length c, .slice A2 m'.lists.length c2, .int .i64 m'.tick], .bool true]) (results_cell_tmp Try.results17 _ _ (B + 1) 29 _ (0, 0) _ rfl (setRow_heap _ _ _ _ 29 (0, 0) RR.out) Try.underlying29 rfl (by kernel_rfl) _ rfl) rfl ?_
      exact ⟨_, rfl, HV1.out, row_below HI.out.below HI.out.rw _⟩
end Go.Proofs.Ytipjfcjdefdoeaa
