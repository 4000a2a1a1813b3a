/- What the program makes of a memory by an access. -/
import Derived.Test.YtipjfcjdefdoeaaMmB
import Derived.Test.YtipjfcjdefdoeaaMmG
namespace Go.Proofs.Ytipjfcjdefdoeaa
open Go.ChangeShapes Go.WideShapes Go.ChangeAt Go.RowKit
set_option maxRecDepth 100000

/-- a memory, an answer and a truth value are handed back -/
def TripR (G : World → Prop) (w : World) (r : MemM × AnsM × Bool) (e : Ending) (w' : World) : Prop :=
  ∃ v' b', e = .returned (.tuple #[v', b', .bool r.2.2]) ∧ StM (Nx G w w') v' r.1 ∧ StA (Nx G w w') b' r.2.1 ∧ Below w.heap.size w w'
theorem apply_not {m : MemM} {a : AccM} (h : grantB m a = false) : applyE m a = (m, ansZ, false) := by simp [applyE, h]
theorem apply_list {m : MemM} {a : AccM} (h : grantB m a = true) (hk : 7 ≤ a.kind) : applyE m a = ((listE m a).1, (listE m a).2, true) := by simp [applyE, h, hk]
theorem apply_word {m : MemM} {a : AccM} (h : grantB m a = true) (hk : ¬ 7 ≤ a.kind) : applyE m a = ((wordE m a).1, (wordE m a).2, true) := by simp [applyE, h, hk]
theorem grant_kind {m : MemM} {a : AccM} (h : grantB m a = true) : 1 ≤ a.kind ∧ a.kind ≤ 9 := by
  by_cases h4 : a.kind = 4
  · omega
  · simp only [grantB, h4, if_false, Bool.and_eq_true, decide_eq_true_eq] at h
    exact h
theorem StM.shape {G : World → Prop} {v : Value} {m : MemM} (h : StM G v m) (w : World) (hG : G w) : ∃ A n c A2 n2 c2 t, v = .agg #[.slice A n c, .slice A2 n2 c2, .int .i64 t] := by
  obtain ⟨a, cap, a2, cap2, rfl⟩ := h.open w hG
  exact ⟨_, _, _, _, _, _, _, rfl⟩
theorem StA.shape {G : World → Prop} {v : Value} {b : AnsM} (h : StA G v b) (w : World) (hG : G w) : ∃ x p q A n c, v = .agg #[.int .u64 x, .bool p, .bool q, .slice A n c] := by
  obtain ⟨vl, rfl, hl⟩ := h
  obtain ⟨A, c, rfl, -⟩ := (hl w hG).len
  exact ⟨_, _, _, _, _, _, rfl⟩
theorem put34_other (w : World) (g : Nat) (u0 u1 u2 r0 r1 r2 r3 : Value) (j : Nat) (h : j ≠ g) (h' : j ≠ g + 1) : (put34 w g u0 u1 u2 r0 r1 r2 r3).heap[j]? = w.heap[j]? := by
  have o : ∀ (x : World) (i : Nat) (u : Value), (x.setCell ⟨g, i, none⟩ u).heap[j]? = x.heap[j]? := fun x i u => heap_setCell_other x ⟨g, i, none⟩ j u h
  have o' : ∀ (x : World) (i : Nat) (u : Value), (x.setCell ⟨g + 1, i, none⟩ u).heap[j]? = x.heap[j]? := fun x i u => heap_setCell_other x ⟨g + 1, i, none⟩ j u h'
  unfold put34
  rw [heap_drew, o', o', o', o', o, o, o]
theorem put34_size (w : World) (g : Nat) (u0 u1 u2 r0 r1 r2 r3 : Value) : (put34 w g u0 u1 u2 r0 r1 r2 r3).heap.size = w.heap.size := by
  unfold put34
  simp
set_option maxHeartbeats 8000000 in
theorem apply_any (G : World → Prop) (v : Value) (m : MemM) (a : AccM) (w : World) (hG : G w) (hcl : Wide G) (h : StM G v m) (hm : m.fits) (ha : a.ok) :
    Calls Try.prog 40 #[v, accV a] w (TripR G w (applyE m a)) := by
  obtain ⟨a1, cap, a2, cap2, rfl⟩ := h.open w hG
  have HM := Lib.hid hm
  have HSM := Lib.hid h
  have HG := Lib.hid hG
  have HCL := Lib.hid hcl
  obtain ⟨k, ad, old, nw, til⟩ := a
  have HA := Lib.hid ha
  obtain ⟨hr0, hr1, hr2, hr3, hrs, hrb⟩ := heap_alloc4 w (.cells #[.slice a1 m.words.length cap, .slice a2 m.lists.length cap2, .int .i64 m.tick] 29) (.cells #[.int .i64 k, .int .i64 ad, .int .u64 old, .int .u64 nw, .int .i64 til] 34) (.cells zeroMem 29) (.cells zeroAns 38)
  obtain ⟨W, hW⟩ : ∃ W, (((w.alloc (.cells #[.slice a1 m.words.length cap, .slice a2 m.lists.length cap2, .int .i64 m.tick] 29)).alloc (.cells #[.int .i64 k, .int .i64 ad, .int .u64 old, .int .u64 nw, .int .i64 til] 34)).alloc (.cells zeroMem 29)).alloc (.cells zeroAns 38) = W := ⟨_, rfl⟩
  rw [hW] at hr0 hr1 hr2 hr3 hrs hrb
  have R0 := Lib.hid hr0
  have R1 := Lib.hid hr1
  have R2 := Lib.hid hr2
  have R3 := Lib.hid hr3
  have HB := Lib.hid hrb
  have HGW : Hid (G W) := hcl _ _ hG hrb
  have HW := Lib.hid hW
  have hsz : w.heap.size + 4 ≤ W.heap.size := by omega
  clear hr0 hr1 hr2 hr3 hrs hrb hW h hG hcl hm ha
  obtain ⟨x0, x1, x2⟩ := rowc3 R0.out
  obtain ⟨y0, y1, y2, y3, y4⟩ := rowc5 R1.out
  have GG := Lib.hid (granted_any _ m ⟨k, ad, old, nw, til⟩ W (HSM.out.at HGW.out) HM.out HA.out)
  unfold accV at GG ⊢
  dsimp only at GG ⊢
  go_enter Try.func40, Try.ntmps40
  go_upto_region 1 with fail
  rw [show (#[.slice none 0 0, .slice none 0 0, .int .i64 0] : Array Value) = zeroMem from rfl, show (#[.int .u64 0, .bool false, .bool false, .slice none 0 0] : Array Value) = zeroAns from rfl, HW.out]
  clear HW
  go_wp2_with fail
  refine GG.out.mono ?_; rintro e w1 ⟨rfl, hb1⟩
  have HB1 := Lib.hid (HB.out.trans (hb1.mono (by omega)))
  have Q0 := Lib.hid ((hb1.block w.heap.size (by omega)).trans R0.out)
  have Q1 := Lib.hid ((hb1.block (w.heap.size + 1) (by omega)).trans R1.out)
  have Q2 := Lib.hid ((hb1.block (w.heap.size + 2) (by omega)).trans R2.out)
  have Q3 := Lib.hid ((hb1.block (w.heap.size + 3) (by omega)).trans R3.out)
  have HG1 : Hid (G w1) := HCL.out _ _ HGW.out hb1
  have hs1 := hb1.size
  clear hb1 R0 R1 R2 R3 HB HGW x0 x1 x2 y0 y1 y2 y3 y4 GG
  generalize hWW : W.heap.size = WS at *
  clear hWW
  obtain ⟨W, rfl⟩ : ∃ W : World, W = w1 := ⟨_, rfl⟩
  have R2 := Q2
  have R3 := Q3
  obtain ⟨x0, x1, x2⟩ := rowc3 Q0.out
  obtain ⟨y0, y1, y2, y3, y4⟩ := rowc5 Q1.out
  cases hb : grantB m ⟨k, ad, old, nw, til⟩ with
  | false =>
    have HE := Lib.hid (apply_not hb)
    clear hb
    have T2 := R2
    have T3 : Hid (∀ cs, ((W).setRow (w.heap.size + 2) cs).heap[w.heap.size + 3]? = some (.cells zeroAns 38 (0, 0))) := fun cs => (setRow_other _ _ _ _ (by omega)).trans R3.out
    go_wp2_with (first
            | (refine wpList_store_row rfl 29 _ _ rfl (w.heap.size + 2) _ rfl rfl 29 zeroMem T2.out (by kernel_rfl) rfl (by simp [Value.oneCell']) ?_)
            | (refine wpList_store_row rfl 38 _ _ rfl (w.heap.size + 3) _ rfl rfl 38 zeroAns (T3.out _) (by kernel_rfl) rfl (by simp [Value.oneCell']) ?_))
    refine bodyPost_ret (v := .tuple #[.agg #[.slice a1 m.words.length cap, .slice a2 m.lists.length cap2, .int .i64 m.tick], .agg zeroAns, .bool false]) (results_cells3 Try.results40 _ _ (w.heap.size + 2) (w.heap.size + 3) 29 38 _ _ (0, 0) (0, 0) _ _ rfl rfl ((setRow_other _ _ _ _ (by omega)).trans (setRow_heap _ _ _ _ 29 (0, 0) T2.out)) (setRow_heap _ _ _ _ 38 (0, 0) (T3.out _)) Try.underlying29 rfl (by kernel_rfl) Try.underlying38 rfl (by kernel_rfl) _ rfl) rfl ?_
    have hbe := row_below (row_below HB1.out (show w.heap.size ≤ w.heap.size + 2 by omega) #[.slice a1 m.words.length cap, .slice a2 m.lists.length cap2, .int .i64 m.tick]) (show w.heap.size ≤ w.heap.size + 3 by omega) zeroAns
    unfold TripR
    rw [HE.out]
    exact ⟨_, _, rfl, HSM.out.sub fun _ (h : Nx G w _ _) => h.1, StA.bare _ _ _ _, hbe⟩

  | true =>
    have hkk := grant_kind hb
    dsimp only at hkk
    obtain ⟨WA, hWA⟩ : ∃ WA, W.alloc (.cells zeroAns 38) = WA := ⟨_, rfl⟩
    have hbA : Below W.heap.size W WA := hWA ▸ below_new (Below.refl _ _) _
    have hzA : W.heap.size + 1 = WA.heap.size := by rw [← hWA]; simp
    have A0 := Lib.hid ((hbA.block w.heap.size (by omega)).trans Q0.out)
    have A1 := Lib.hid ((hbA.block (w.heap.size + 1) (by omega)).trans Q1.out)
    have A2' := Lib.hid ((hbA.block (w.heap.size + 2) (by omega)).trans Q2.out)
    have A3 := Lib.hid ((hbA.block (w.heap.size + 3) (by omega)).trans Q3.out)
    have A4 : Hid (WA.heap[W.heap.size]? = some (.cells zeroAns 38 (0, 0))) := hWA ▸ heap_alloc_new _ _
    have HGA : Hid (G WA) := HCL.out _ _ HG1.out hbA
    have HBA := Lib.hid (HB1.out.trans (hbA.mono (by omega)))
    have HWA := Lib.hid hWA
    go_upto_region 4 with fail
    rw [show (#[.int .u64 0, .bool false, .bool false, .slice none 0 0] : Array Value) = zeroAns from rfl, HWA.out]
    clear HWA hWA hbA x0 x1 x2 y0 y1 y2 y3 y4 Q0 Q1 Q2 Q3 R2 R3 HB1 HG1
    generalize W.heap.size = N at *
    obtain ⟨x0, x1, x2⟩ := rowc3 A0.out
    obtain ⟨y0, y1, y2, y3, y4⟩ := rowc5 A1.out
    by_cases h7 : 7 ≤ k
    · have HE := Lib.hid (apply_list (m := m) (a := ⟨k, ad, old, nw, til⟩) hb h7)
      have LA := Lib.hid fun h => applyList_any G _ m ⟨k, ad, old, nw, til⟩ WA HGA.out HCL.out HSM.out HM.out HA.out h
      unfold accV at LA
      dsimp only at LA
      clear hb
      rcases (show k = 7 ∨ k = 8 ∨ k = 9 by omega) with rfl | rfl | rfl
      all_goals
        clear hkk h7
        go_wp2_with fail
        refine (LA.out (by simp)).mono ?_; rintro e w2 ⟨v2, b2, rfl, hs2, ha2, hb2⟩
        obtain ⟨A5, n5, c5, A6, n6, c6, t5, rfl⟩ := hs2.shape w2 (Nx.at HGA.out HCL.out hb2)
        obtain ⟨ax, ap, aq, A7, n7, c7, rfl⟩ := ha2.shape w2 (Nx.at HGA.out HCL.out hb2)
        have HS2 := Lib.hid hs2
        have HA2 := Lib.hid ha2
        have HB2 := Lib.hid (HBA.out.trans (hb2.mono (by omega)))
        have S0 := Lib.hid ((hb2.block w.heap.size (by omega)).trans A0.out)
        have S2 := Lib.hid ((hb2.block (w.heap.size + 2) (by omega)).trans A2'.out)
        have S3 := Lib.hid ((hb2.block (w.heap.size + 3) (by omega)).trans A3.out)
        have S4 := Lib.hid ((hb2.block N (by omega)).trans A4.out)
        have hs2z := hb2.size
        clear hs2 ha2 hb2 x0 x1 x2 y0 y1 y2 y3 y4 A0 A1 A2' A3 A4
        generalize listE m _ = r at *
        have V4 : Hid (∀ cs, (w2.setRow w.heap.size cs).heap[N]? = some (.cells zeroAns 38 (0, 0))) := fun cs => (setRow_other _ _ _ _ (by omega)).trans S4.out
        go_upto_region 10 with (first
                | (refine wpList_store_row rfl 29 _ _ rfl (w.heap.size) _ rfl rfl 29 _ S0.out (by kernel_rfl) rfl (by simp [Value.oneCell']) ?_)
                | (refine wpList_store_row rfl 38 _ _ rfl N _ rfl rfl 38 _ (V4.out _) (by kernel_rfl) rfl (by simp [Value.oneCell']) ?_))
        have hx0 := (setRow_other (w2.setRow w.heap.size #[.slice A5 n5 c5, .slice A6 n6 c6, .int .i64 t5]) N w.heap.size #[.int .u64 ax, .bool ap, .bool aq, .slice A7 n7 c7] (by omega)).trans (setRow_heap w2 w.heap.size _ #[.slice A5 n5 c5, .slice A6 n6 c6, .int .i64 t5] 29 (0, 0) S0.out)
        have hx4 := setRow_heap (w2.setRow w.heap.size #[.slice A5 n5 c5, .slice A6 n6 c6, .int .i64 t5]) N _ #[.int .u64 ax, .bool ap, .bool aq, .slice A7 n7 c7] 38 (0, 0) (V4.out _)
        have hx2 := (setRow_other (w2.setRow w.heap.size #[.slice A5 n5 c5, .slice A6 n6 c6, .int .i64 t5]) N (w.heap.size + 2) #[.int .u64 ax, .bool ap, .bool aq, .slice A7 n7 c7] (by omega)).trans ((setRow_other w2 w.heap.size (w.heap.size + 2) #[.slice A5 n5 c5, .slice A6 n6 c6, .int .i64 t5] (by omega)).trans S2.out)
        have hx3 := (setRow_other (w2.setRow w.heap.size #[.slice A5 n5 c5, .slice A6 n6 c6, .int .i64 t5]) N (w.heap.size + 3) #[.int .u64 ax, .bool ap, .bool aq, .slice A7 n7 c7] (by omega)).trans ((setRow_other w2 w.heap.size (w.heap.size + 3) #[.slice A5 n5 c5, .slice A6 n6 c6, .int .i64 t5] (by omega)).trans S3.out)
        have HXB := Lib.hid (row_below (row_below HB2.out (Nat.le_refl _) #[.slice A5 n5 c5, .slice A6 n6 c6, .int .i64 t5]) (show w.heap.size ≤ N by omega) #[.int .u64 ax, .bool ap, .bool aq, .slice A7 n7 c7])
        have HXO : Hid (∀ j, j ≠ w.heap.size → j ≠ N → ((w2.setRow w.heap.size #[.slice A5 n5 c5, .slice A6 n6 c6, .int .i64 t5]).setRow N #[.int .u64 ax, .bool ap, .bool aq, .slice A7 n7 c7]).heap[j]? = w2.heap[j]?) := fun j h1 h2 => (setRow_other _ _ _ _ h2).trans (setRow_other _ _ _ _ h1)
        have hXz : ((w2.setRow w.heap.size #[.slice A5 n5 c5, .slice A6 n6 c6, .int .i64 t5]).setRow N #[.int .u64 ax, .bool ap, .bool aq, .slice A7 n7 c7]).heap.size = w2.heap.size := by simp
        generalize (w2.setRow w.heap.size #[.slice A5 n5 c5, .slice A6 n6 c6, .int .i64 t5]).setRow N #[.int .u64 ax, .bool ap, .bool aq, .slice A7 n7 c7] = X at *
        have HXZ := Lib.hid hXz
        have HX2 := Lib.hid hx2
        have HX3 := Lib.hid hx3
        obtain ⟨x0, x1, x2⟩ := rowc3 hx0
        obtain ⟨y0, y1, y2, y3⟩ := rowc4 hx4
        obtain ⟨z0, z1, z2⟩ := rowc3 hx2
        obtain ⟨q0, q1, q2, q3⟩ := rowc4 hx3
        have fz0 := frozen_of_row _ _ 0 _ _ hx2
        have fz1 := frozen_of_row _ _ 1 _ _ hx2
        have fz2 := frozen_of_row _ _ 2 _ _ hx2
        have fq0 := frozen_of_row _ _ 0 _ _ hx3
        have fq1 := frozen_of_row _ _ 1 _ _ hx3
        have fq2 := frozen_of_row _ _ 2 _ _ hx3
        have fq3 := frozen_of_row _ _ 3 _ _ hx3
        clear hx0 hx4 hx2 hx3 hXz V4 S0 S2 S3 S4
        go_region
        all_goals
          go_wp2_with fail
          obtain ⟨t2, t3⟩ := put34_rows HX2.out HX3.out (.slice A5 n5 c5) (.slice A6 n6 c6) (.int .i64 t5) (.int .u64 ax) (.bool ap) (.bool aq) (.slice A7 n7 c7)
          have hbe := put34_below HXB.out (show w.heap.size ≤ w.heap.size + 2 by omega) (.slice A5 n5 c5) (.slice A6 n6 c6) (.int .i64 t5) (.int .u64 ax) (.bool ap) (.bool aq) (.slice A7 n7 c7)
          refine bodyPost_ret (v := .tuple #[.agg #[.slice A5 n5 c5, .slice A6 n6 c6, .int .i64 t5], .agg #[.int .u64 ax, .bool ap, .bool aq, .slice A7 n7 c7], .bool true]) (results_cells3 Try.results40 _ _ (w.heap.size + 2) (w.heap.size + 2 + 1) 29 38 _ _ (0, 0) (0, 0) _ _ rfl rfl t2 t3 Try.underlying29 rfl (by kernel_rfl) Try.underlying38 rfl (by kernel_rfl) _ rfl) rfl ?_
          unfold TripR
          rw [HE.out]
          have hsub : ∀ w5, Nx G w (put34 X (w.heap.size + 2) (.slice A5 n5 c5) (.slice A6 n6 c6) (.int .i64 t5) (.int .u64 ax) (.bool ap) (.bool aq) (.slice A7 n7 c7)) w5 → Nx G WA w2 w5 := fun w5 h => ⟨h.1, h.2.sub (by omega) (by rw [put34_size, HXZ.out]; exact Nat.le_refl _) fun j hj hj2 => (put34_other _ _ _ _ _ _ _ _ _ j (by omega) (by omega)).trans (HXO.out j (by omega) (by omega))⟩
          exact ⟨_, _, rfl, HS2.out.sub hsub, HA2.out.sub hsub, hbe⟩

    · have HE := Lib.hid (apply_word (m := m) (a := ⟨k, ad, old, nw, til⟩) hb h7)
      have LA := Lib.hid (applyWord_any G _ m ⟨k, ad, old, nw, til⟩ WA HGA.out HCL.out HSM.out HM.out HA.out)
      unfold accV at LA
      dsimp only at LA
      have k7 := ne_beq (show k ≠ 7 by omega)
      have k8 := ne_beq (show k ≠ 8 by omega)
      have k9 := ne_beq (show k ≠ 9 by omega)
      clear hb h7 hkk
      go_wp2_with fail
      refine (LA.out).mono ?_; rintro e w2 ⟨v2, b2, rfl, hs2, ha2, hb2⟩
      obtain ⟨A5, n5, c5, A6, n6, c6, t5, rfl⟩ := hs2.shape w2 (Nx.at HGA.out HCL.out hb2)
      obtain ⟨ax, ap, aq, A7, n7, c7, rfl⟩ := ha2.shape w2 (Nx.at HGA.out HCL.out hb2)
      have HS2 := Lib.hid hs2
      have HA2 := Lib.hid ha2
      have HB2 := Lib.hid (HBA.out.trans (hb2.mono (by omega)))
      have S0 := Lib.hid ((hb2.block w.heap.size (by omega)).trans A0.out)
      have S2 := Lib.hid ((hb2.block (w.heap.size + 2) (by omega)).trans A2'.out)
      have S3 := Lib.hid ((hb2.block (w.heap.size + 3) (by omega)).trans A3.out)
      have S4 := Lib.hid ((hb2.block N (by omega)).trans A4.out)
      have hs2z := hb2.size
      clear hs2 ha2 hb2 x0 x1 x2 y0 y1 y2 y3 y4 A0 A1 A2' A3 A4
      generalize wordE m _ = r at *
      have V4 : Hid (∀ cs, (w2.setRow w.heap.size cs).heap[N]? = some (.cells zeroAns 38 (0, 0))) := fun cs => (setRow_other _ _ _ _ (by omega)).trans S4.out
      go_upto_region 10 with (first
              | (refine wpList_store_row rfl 29 _ _ rfl (w.heap.size) _ rfl rfl 29 _ S0.out (by kernel_rfl) rfl (by simp [Value.oneCell']) ?_)
              | (refine wpList_store_row rfl 38 _ _ rfl N _ rfl rfl 38 _ (V4.out _) (by kernel_rfl) rfl (by simp [Value.oneCell']) ?_))
      have hx0 := (setRow_other (w2.setRow w.heap.size #[.slice A5 n5 c5, .slice A6 n6 c6, .int .i64 t5]) N w.heap.size #[.int .u64 ax, .bool ap, .bool aq, .slice A7 n7 c7] (by omega)).trans (setRow_heap w2 w.heap.size _ #[.slice A5 n5 c5, .slice A6 n6 c6, .int .i64 t5] 29 (0, 0) S0.out)
      have hx4 := setRow_heap (w2.setRow w.heap.size #[.slice A5 n5 c5, .slice A6 n6 c6, .int .i64 t5]) N _ #[.int .u64 ax, .bool ap, .bool aq, .slice A7 n7 c7] 38 (0, 0) (V4.out _)
      have hx2 := (setRow_other (w2.setRow w.heap.size #[.slice A5 n5 c5, .slice A6 n6 c6, .int .i64 t5]) N (w.heap.size + 2) #[.int .u64 ax, .bool ap, .bool aq, .slice A7 n7 c7] (by omega)).trans ((setRow_other w2 w.heap.size (w.heap.size + 2) #[.slice A5 n5 c5, .slice A6 n6 c6, .int .i64 t5] (by omega)).trans S2.out)
      have hx3 := (setRow_other (w2.setRow w.heap.size #[.slice A5 n5 c5, .slice A6 n6 c6, .int .i64 t5]) N (w.heap.size + 3) #[.int .u64 ax, .bool ap, .bool aq, .slice A7 n7 c7] (by omega)).trans ((setRow_other w2 w.heap.size (w.heap.size + 3) #[.slice A5 n5 c5, .slice A6 n6 c6, .int .i64 t5] (by omega)).trans S3.out)
      have HXB := Lib.hid (row_below (row_below HB2.out (Nat.le_refl _) #[.slice A5 n5 c5, .slice A6 n6 c6, .int .i64 t5]) (show w.heap.size ≤ N by omega) #[.int .u64 ax, .bool ap, .bool aq, .slice A7 n7 c7])
      have HXO : Hid (∀ j, j ≠ w.heap.size → j ≠ N → ((w2.setRow w.heap.size #[.slice A5 n5 c5, .slice A6 n6 c6, .int .i64 t5]).setRow N #[.int .u64 ax, .bool ap, .bool aq, .slice A7 n7 c7]).heap[j]? = w2.heap[j]?) := fun j h1 h2 => (setRow_other _ _ _ _ h2).trans (setRow_other _ _ _ _ h1)
      have hXz : ((w2.setRow w.heap.size #[.slice A5 n5 c5, .slice A6 n6 c6, .int .i64 t5]).setRow N #[.int .u64 ax, .bool ap, .bool aq, .slice A7 n7 c7]).heap.size = w2.heap.size := by simp
      generalize (w2.setRow w.heap.size #[.slice A5 n5 c5, .slice A6 n6 c6, .int .i64 t5]).setRow N #[.int .u64 ax, .bool ap, .bool aq, .slice A7 n7 c7] = X at *
      have HXZ := Lib.hid hXz
      have HX2 := Lib.hid hx2
      have HX3 := Lib.hid hx3
      obtain ⟨x0, x1, x2⟩ := rowc3 hx0
      obtain ⟨y0, y1, y2, y3⟩ := rowc4 hx4
      obtain ⟨z0, z1, z2⟩ := rowc3 hx2
      obtain ⟨q0, q1, q2, q3⟩ := rowc4 hx3
      have fz0 := frozen_of_row _ _ 0 _ _ hx2
      have fz1 := frozen_of_row _ _ 1 _ _ hx2
      have fz2 := frozen_of_row _ _ 2 _ _ hx2
      have fq0 := frozen_of_row _ _ 0 _ _ hx3
      have fq1 := frozen_of_row _ _ 1 _ _ hx3
      have fq2 := frozen_of_row _ _ 2 _ _ hx3
      have fq3 := frozen_of_row _ _ 3 _ _ hx3
      clear hx0 hx4 hx2 hx3 hXz V4 S0 S2 S3 S4
      go_region
      all_goals
        go_wp2_with fail
        obtain ⟨t2, t3⟩ := put34_rows HX2.out HX3.out (.slice A5 n5 c5) (.slice A6 n6 c6) (.int .i64 t5) (.int .u64 ax) (.bool ap) (.bool aq) (.slice A7 n7 c7)
        have hbe := put34_below HXB.out (show w.heap.size ≤ w.heap.size + 2 by omega) (.slice A5 n5 c5) (.slice A6 n6 c6) (.int .i64 t5) (.int .u64 ax) (.bool ap) (.bool aq) (.slice A7 n7 c7)
        refine bodyPost_ret (v := .tuple #[.agg #[.slice A5 n5 c5, .slice A6 n6 c6, .int .i64 t5], .agg #[.int .u64 ax, .bool ap, .bool aq, .slice A7 n7 c7], .bool true]) (results_cells3 Try.results40 _ _ (w.heap.size + 2) (w.heap.size + 2 + 1) 29 38 _ _ (0, 0) (0, 0) _ _ rfl rfl t2 t3 Try.underlying29 rfl (by kernel_rfl) Try.underlying38 rfl (by kernel_rfl) _ rfl) rfl ?_
        unfold TripR
        rw [HE.out]
        have hsub : ∀ w5, Nx G w (put34 X (w.heap.size + 2) (.slice A5 n5 c5) (.slice A6 n6 c6) (.int .i64 t5) (.int .u64 ax) (.bool ap) (.bool aq) (.slice A7 n7 c7)) w5 → Nx G WA w2 w5 := fun w5 h => ⟨h.1, h.2.sub (by omega) (by rw [put34_size, HXZ.out]; exact Nat.le_refl _) fun j hj hj2 => (put34_other _ _ _ _ _ _ _ _ _ j (by omega) (by omega)).trans (HXO.out j (by omega) (by omega))⟩
        exact ⟨_, _, rfl, HS2.out.sub hsub, HA2.out.sub hsub, hbe⟩

end Go.Proofs.Ytipjfcjdefdoeaa
