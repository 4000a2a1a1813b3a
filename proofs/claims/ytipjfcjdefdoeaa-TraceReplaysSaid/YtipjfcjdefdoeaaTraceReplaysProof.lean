/- Proved: TraceReplays returns true, and its arguments read afterwards as before, for every list of codes, every at, every cut and every by; no condition. -/
import Derived.Test.YtipjfcjdefdoeaaLaw
import Derived.Test.YtipjfcjdefdoeaaL6Awake
import Derived.Test.YtipjfcjdefdoeaaRt
import Derived.Test.YtipjfcjdefdoeaaRq
import Derived.Test.YtipjfcjdefdoeaaIt
import Derived.Test.YtipjfcjdefdoeaaMmE
import Derived.Test.YtipjfcjdefdoeaaReads
import Derived.Test.YtipjfcjdefdoeaaTk
import Derived.Test.YtipjfcjdefdoeaaRz
import Derived.Deep.DeepCutAuto
import Derived.Deep.CutBlock
import Derived.LoopTactic
import Derived.WalkKit
import Derived.ProofKit
import Derived.OpenShut
import Derived.SizedLaws
namespace Go.Proofs.Ytipjfcjdefdoeaa.traceReplays
open Go.ChangeShapes Go.WideShapes Go.ChangeAt Go.RowKit
set_option linter.unusedVariables false
theorem one_at {w : World} {g : Nat} {x : ItemM} (h : w.heap[g]? = some (.cells #[.int .i64 x.thr, .int .i64 x.acc.kind, .int .i64 x.acc.addr, .int .u64 x.acc.old, .int .u64 x.acc.new, .int .i64 x.acc.til, .int .u64 x.val, .bool x.ok] 42 (0, 0))) : ItemAt w g 0 x := ⟨cell_of_row _ _ 0 _ _ _ h, cell_of_row _ _ 1 _ _ _ h, cell_of_row _ _ 2 _ _ _ h, cell_of_row _ _ 3 _ _ _ h, cell_of_row _ _ 4 _ _ _ h, cell_of_row _ _ 5 _ _ _ h, cell_of_row _ _ 6 _ _ _ h, cell_of_row _ _ 7 _ _ _ h⟩
theorem wrapu_wrapu (x : Int) : IntKind.u64.wrap x = IntKind.u64.wrap (IntKind.u64.wrap x) := by rw [IntKind.wrap_u64, IntKind.wrap_u64]; omega
theorem val_wf {m : MemM} {a : AccM} (h : m.fits) : (applyE m a).2.1.val = IntKind.u64.wrap (applyE m a).2.1.val := by
  have hw : ∀ i, m.words.getD i 0 = IntKind.u64.wrap (m.words.getD i 0) := fun i => by
    by_cases hi : i < m.words.length
    · rw [List.getD_eq_getElem?_getD, List.getElem?_eq_getElem hi]
      exact h.wf _ (List.getElem_mem hi)
    · rw [List.getD_eq_getElem?_getD, List.getElem?_eq_none (by omega)]; decide
  have hl : ∀ l : List Int, l.length ≤ 100000 → ((l.length : Nat) : Int) = IntKind.u64.wrap ((l.length : Nat) : Int) := fun l hl => by rw [IntKind.wrap_u64]; omega
  have hz : (0 : Int) = IntKind.u64.wrap 0 := by decide
  unfold applyE
  split
  · exact hz
  · split
    · unfold listE
      split
      · exact hz
      · split
        · exact hz
        · exact hl _ (nextL_length _ _ _ (h.each _))
    · unfold wordE
      split
      · exact hz
      · split
        · exact hz
        · split
          · split
            · exact hw _
            · exact hw _
          · split
            · exact hw _
            · exact hw _
set_option maxRecDepth 100000 in
set_option maxHeartbeats 16000000 in
theorem walk (w : World) (v0 : Value) (l0 : List Int) (s0 : SlI w .u8 v0 l0) (a1 : Int) (w1 : (Lit.int .i64 a1).wf = true) (a2 : Int) (w2 : (Lit.int .i64 a2).wf = true) (a3 : Int) (w3 : (Lit.int .u8 a3).wf = true) :
    Calls Try.prog 3 #[v0, .int .i64 a1, .int .i64 a2, .int .u8 a3] w fun e w' => e = .returned (.bool true) ∧ Below w.heap.size w w' := by
  have AW := Lib.hid fun w' => awake6_any w'
  have HS0 := Lib.hid s0
  have HA1 : Hid (a1 = IntKind.i64.wrap a1) := wrap_of_wf w1
  have HA2 : Hid (a2 = IntKind.i64.wrap a2) := wrap_of_wf w2
  have HA3 : Hid (a3 = IntKind.u8.wrap a3) := wrap_of_wf w3
  clear s0 w1 w2 w3
  go_enter Try.func3, Try.ntmps3
  go_wp2_with fail
  refine (AW.out _).mono ?_; rintro e wa ⟨rfl, hba⟩
  have HBA := Lib.hid hba
  have HBW := HBA
  clear hba AW
  go_wp2_with fail
  refine (new_any _ l0 160 _ (HS0.out.below HBA.out) (by omega)).mono ?_; rintro e wb ⟨rfl, hcb, hbb⟩
  have HCB : Hid (CodesE wb wa.heap.size) := ⟨_, _, hcb⟩
  have HBB : Hid (Below wa.heap.size wa wb) := hbb
  clear hcb hbb HS0
  obtain ⟨g, hg⟩ : ∃ g, wa.heap.size = g := ⟨_, rfl⟩
  rw [hg] at HCB
  rw [hg]
  go_wp2_with fail
  refine (memoryE g _ HCB.out).mono ?_; rintro e w3 ⟨v3, m3, rfl, hst, hfits, ht, hwn, hln, hc3, hg3⟩
  have HB23 : Hid (Below wa.heap.size wa w3) := HBB.out.grown hg3 HBB.out.size (fun k hk => by cases hk; omega)
  obtain ⟨A3, c3, A4, c4, rfl⟩ := hst.open w3 (grownBy_refl _ _)
  have HST := Lib.hid hst
  have HF3 := Lib.hid hfits
  have HC3 := Lib.hid hc3
  have hgl := hc3.lt
  clear hst hfits hc3 hg3 HCB HBB ht
  obtain ⟨W4, hW4⟩ : ∃ W4, (w3.alloc (.cells zeroMem 29)).setRow w3.heap.size #[.slice A3 m3.words.length c3, .slice A4 m3.lists.length c4, .int .i64 m3.tick] = W4 := ⟨_, rfl⟩
  have N4 : Hid ((w3.alloc (.cells zeroMem 29)).heap[w3.heap.size]? = some (.cells zeroMem 29 (0, 0))) := heap_alloc_new _ _
  have HB4 : Hid (Below w3.heap.size w3 W4) := hW4 ▸ row_below (below_new (Below.refl _ _) _) (Nat.le_refl _) _
  have R4 : Hid (W4.heap[w3.heap.size]? = some (.cells #[.slice A3 m3.words.length c3, .slice A4 m3.lists.length c4, .int .i64 m3.tick] 29 (0, 0))) := hW4 ▸ setRow_heap _ _ _ _ _ (0, 0) N4.out
  have HW4 := Lib.hid hW4
  clear hW4
  go_upto_region 5 with (refine wpList_store_row rfl 29 _ _ rfl (w3.heap.size) _ rfl rfl 29 zeroMem N4.out (by kernel_rfl) rfl (by simp [Value.oneCell']) ?_)
  rw [show (#[.slice none 0 0, .slice none 0 0, .int .i64 0] : Array Value) = zeroMem from rfl, HW4.out]
  try simp only [Act.put]
  clear HW4 N4
  obtain ⟨W5, hW5⟩ : ∃ W5, (W4.alloc (.cells zeroMem 29)).setRow W4.heap.size #[.slice A3 m3.words.length c3, .slice A4 m3.lists.length c4, .int .i64 m3.tick] = W5 := ⟨_, rfl⟩
  have N5 : Hid ((W4.alloc (.cells zeroMem 29)).heap[W4.heap.size]? = some (.cells zeroMem 29 (0, 0))) := heap_alloc_new _ _
  have HB5 : Hid (Below W4.heap.size W4 W5) := hW5 ▸ row_below (below_new (Below.refl _ _) _) (Nat.le_refl _) _
  have R5 : Hid (W5.heap[W4.heap.size]? = some (.cells #[.slice A3 m3.words.length c3, .slice A4 m3.lists.length c4, .int .i64 m3.tick] 29 (0, 0))) := hW5 ▸ setRow_heap _ _ _ _ _ (0, 0) N5.out
  have hz5 : W4.heap.size + 1 = W5.heap.size := by rw [← hW5]; simp
  have HW5 := Lib.hid hW5
  clear hW5
  obtain ⟨x0, x1, x2⟩ := rowc3 R4.out
  go_upto_region 6 with (refine wpList_store_row rfl 29 _ _ rfl (W4.heap.size) _ rfl rfl 29 zeroMem N5.out (by kernel_rfl) rfl (by simp [Value.oneCell']) ?_)
  rw [show (#[.slice none 0 0, .slice none 0 0, .int .i64 0] : Array Value) = zeroMem from rfl, HW5.out]
  try simp only [Act.put]
  clear HW5 N5 x0 x1 x2
  have h34 : w3.heap.size < W4.heap.size := (Array.getElem?_eq_some_iff.1 R4.out).1
  have HB35 := Lib.hid (below_then HB4.out HB5.out)
  have HS5 : Hid (StM (OffV g w3.heap.size (.slice none 0 0) W5) (.agg #[.slice A3 m3.words.length c3, .slice A4 m3.lists.length c4, .int .i64 m3.tick]) m3) := (HST.out.off HB35.out (Nat.le_refl _)).sub fun w5 h5 => ⟨h5.1, fun j hj ha hb => h5.2 j hj ha hb (by simp [Value.ownBlock])⟩
  have HI0 : Hid (TrI wa W5 g w3.heap.size W4.heap.size W5.heap.size #[.slice A3 m3.words.length c3, .slice A4 m3.lists.length c4, .int .i64 m3.tick] m3 m3 (.slice none 0 0) []) := ⟨by omega, hgl, h34, by omega, Nat.le_refl _, HC3.out.kept hgl HB35.out, ⟨A3, c3, A4, c4, (HB5.out.block _ h34).trans R4.out, HS5.out⟩, HF3.out, hwn, hln, R5.out, HS5.out, OwnT.nil _ _, fun x hx => by simp at hx, replay_nil m3, below_then HB23.out HB35.out⟩
  obtain ⟨M, hM⟩ : ∃ M, w3.heap.size = M := ⟨_, rfl⟩
  obtain ⟨F, hF⟩ : ∃ F, W4.heap.size = F := ⟨_, rfl⟩
  obtain ⟨D, hD⟩ : ∃ D, W5.heap.size = D := ⟨_, rfl⟩
  rw [hM, hF, hD] at HI0
  rw [hM, hF]
  clear HST HC3 HB23 HB4 HB5 HB35 HS5 R4 R5 hwn hln hM hF hD hgl hz5 h34
  go_wp2_with fail
  go_loopw [12, 13] (fun u12 u13 wr => ∃ (i : Nat) (A0 : Option Addr) (c0 : Nat) (l : List ItemM), i ≤ 12 ∧ l.length ≤ i ∧ u12 = .slice A0 l.length c0 ∧ u13 = .int .i64 i ∧ ∃ m, Hid (TrI wa wr g M F D #[.slice A3 m3.words.length c3, .slice A4 m3.lists.length c4, .int .i64 m3.tick] m3 m (.slice A0 l.length c0) l)) (fun _ u13 _ => 13 - (intOf u13).toNat)
  case atStart => exact ⟨0, none, 0, [], by omega, by simp, rfl, rfl, _, HI0⟩
  case round =>
    clear HI0
    obtain ⟨i, A0, c0, l, hi, hli, rfl, rfl, m, HI⟩ := hrel
    obtain ⟨wo, rfl⟩ : ∃ wo : World, wo = wr := ⟨_, rfl⟩
    by_cases hlt : i < 12
    · have hltI : (i : Int) < 12 := by omega
      obtain ⟨A, c, A2, c2, rm, -⟩ := HI.out.mem
      have RM := Lib.hid rm
      clear rm
      obtain ⟨x0, x1, x2⟩ := rowc3 RM.out
      have hwl := HI.out.wl
      have hll := HI.out.ll
      go_wp2_with fail
      refine (accessE g A A2 _ c _ c2 _ _ HI.out.codes (by omega) (by omega)).mono ?_; rintro e w5 ⟨a, rfl, hac, hc5, hg5⟩
      have HI5 := Lib.hid (HI.out.drawn hc5 hg5)
      have HA := Lib.hid hac
      clear hac hc5 hg5 HI x0 x1 x2 RM
      unfold accV
      obtain ⟨W5, hW5⟩ : ∃ W5, (w5.alloc (.cells zeroAccI 34)).setRow w5.heap.size #[.int .i64 a.kind, .int .i64 a.addr, .int .u64 a.old, .int .u64 a.new, .int .i64 a.til] = W5 := ⟨_, rfl⟩
      have N5 : Hid ((w5.alloc (.cells zeroAccI 34)).heap[w5.heap.size]? = some (.cells zeroAccI 34 (0, 0))) := heap_alloc_new _ _
      have HB5 : Hid (Below w5.heap.size w5 W5) := hW5 ▸ row_below (below_new (Below.refl _ _) _) (Nat.le_refl _) _
      have RX : Hid (W5.heap[w5.heap.size]? = some (.cells #[.int .i64 a.kind, .int .i64 a.addr, .int .u64 a.old, .int .u64 a.new, .int .i64 a.til] 34 (0, 0))) := hW5 ▸ setRow_heap _ _ _ _ _ (0, 0) N5.out
      have HW5 := Lib.hid hW5
      clear hW5
      go_upto_region 11 with (refine wpList_store_row rfl 34 _ _ rfl (w5.heap.size) _ rfl rfl 34 zeroAccI N5.out (by kernel_rfl) rfl (by simp [Value.oneCell']) ?_)
      rw [show (#[.int .i64 0, .int .i64 0, .int .u64 0, .int .u64 0, .int .i64 0] : Array Value) = zeroAccI from rfl, HW5.out]
      try simp only [Act.put]
      clear HW5 N5
      have HI7 := Lib.hid (HI5.out.next HB5.out)
      obtain ⟨w7, rfl⟩ : ∃ w7 : World, w7 = W5 := ⟨_, rfl⟩
      have hDX : D ≤ w5.heap.size := HI5.out.dw
      have hgM := HI5.out.gm
      have hMF := HI5.out.mf
      have hFD := HI5.out.fd
      have hoX : Hid (∀ j, (Value.slice A0 l.length c0).ownBlock = some j → j < w5.heap.size) := fun j hj => (World.ownsRow.lt HI5.out.own j hj).2
      clear HI5 HB5
      obtain ⟨X, hX⟩ : ∃ X, w5.heap.size = X := ⟨_, rfl⟩
      rw [hX] at RX hDX hoX
      rw [hX]
      clear hX
      obtain ⟨A, c, A2, c2, rm, hst⟩ := HI7.out.mem
      have RM := Lib.hid rm
      have HST := Lib.hid hst
      clear rm hst
      have lM : M < w7.heap.size := (Array.getElem?_eq_some_iff.1 RM.out).1
      have lX : X < w7.heap.size := (Array.getElem?_eq_some_iff.1 RX.out).1
      obtain ⟨x0, x1, x2⟩ := rowc3 RM.out
      obtain ⟨y0, y1, y2, y3, y4⟩ := rowc5 RX.out
      have TR := Lib.hid fun w' (hb : Below w7.heap.size w7 w') => rapply_any (OffV g M (.slice A0 l.length c0) w7) _ m a w' (OffV.below hb) (OffV.wide g M _ w7) HST.out HI7.out.fits HA.out
      have HFR := Lib.hid (fits_apply HI7.out.fits HA.out)
      have HSZ := Lib.hid (applyE_one m a).sizes
      unfold accV at TR
      try dsimp only at TR
      have HREC := Lib.hid fun (t : Int) (h : (applyE m a).2.2 = true) => replay_snoc HI7.out.rep (ok_record (m := m) (a := a) (t := t) h)
      obtain ⟨q, hq⟩ : ∃ q, applyE m a = q := ⟨_, rfl⟩
      rw [hq] at TR HFR HSZ
      have HREC : Hid (∀ t : Int, q.2.2 = true → replayE m3 (l ++ [⟨t, a, q.2.1.val, q.2.1.ok⟩]) = (q.1, true)) := fun t h => by have := HREC.out t (by rw [hq]; exact h); rw [hq] at this; exact this
      have HQV : Hid (q.2.1.val = IntKind.u64.wrap q.2.1.val) := by have := val_wf (a := a) HI7.out.fits; rw [hq] at this; exact this
      clear hq
      have lM0 := lM
      have lX0 := lX
      have HBz : Hid (Below w7.heap.size w7 w7) := Below.refl _ _
      go_wp2_with fail
      refine (TR.out w7 HBz.out).mono ?_; rintro e v1 ⟨u1, z1, rfl, hs1, ha1, hb1⟩
      obtain ⟨P1, pn1, pc1, Q1, qn1, qc1, pt1, rfl⟩ := hs1.shape v1 (Nx.at (OffV.below HBz.out) (OffV.wide _ _ _ _) hb1)
      obtain ⟨ax1, ap1, aq1, AL1, al1, ac1, rfl⟩ := ha1.shape v1 (Nx.at (OffV.below HBz.out) (OffV.wide _ _ _ _) hb1)
      have HSa := Lib.hid hs1
      have HVa := Lib.hid (hs1.at (Nx.at (OffV.below HBz.out) (OffV.wide _ _ _ _) hb1))
      have HUa : Hid (AnsV v1 (.agg #[.int .u64 ax1, .bool ap1, .bool aq1, .slice AL1 al1 ac1]) q.2.1) := StA.at ha1 (Nx.at (OffV.below HBz.out) (OffV.wide _ _ _ _) hb1)
      have HBa := Lib.hid hb1
      have HBq := Lib.hid (below_then HBz.out hb1)
      have RM := Lib.hid ((HBa.out.block (M) lM).trans RM.out)
      have RX := Lib.hid ((HBa.out.block (X) lX).trans RX.out)
      have lM := Nat.lt_of_lt_of_le lM HBa.out.size
      have lX := Nat.lt_of_lt_of_le lX HBa.out.size
      clear hs1 ha1 hb1 x0 x1 x2 y0 y1 y2 y3 y4
      have Z11 : Hid (((v1.alloc (.cells zeroMem 29)).alloc (.cells zeroAns 38)).heap[v1.heap.size]? = some (.cells zeroMem 29 (0, 0))) := heap_alloc2_old _ _ _
      have Z21 : Hid (∀ cs, (((v1.alloc (.cells zeroMem 29)).alloc (.cells zeroAns 38)).setRow v1.heap.size cs).heap[v1.heap.size + 1]? = some (.cells zeroAns 38 (0, 0))) := fun cs => (setRow_other _ _ _ _ (by omega)).trans (heap_alloc2_new _ _ _)
      obtain ⟨W1, hW1⟩ : ∃ W1, (((v1.alloc (.cells zeroMem 29)).alloc (.cells zeroAns 38)).setRow v1.heap.size #[.slice P1 pn1 pc1, .slice Q1 qn1 qc1, .int .i64 pt1]).setRow (v1.heap.size + 1) #[.int .u64 ax1, .bool ap1, .bool aq1, .slice AL1 al1 ac1] = W1 := ⟨_, rfl⟩
      have HBWa : Hid (Below v1.heap.size v1 W1) := hW1 ▸ row_below (row_below (below_new (below_new (Below.refl _ _) _) _) (Nat.le_refl _) _) (Nat.le_succ _) _
      have RMa : Hid (W1.heap[v1.heap.size]? = some (.cells #[.slice P1 pn1 pc1, .slice Q1 qn1 qc1, .int .i64 pt1] 29 (0, 0))) := hW1 ▸ (setRow_other _ _ _ _ (by omega)).trans (setRow_heap _ _ _ _ _ (0, 0) Z11.out)
      have RAa : Hid (W1.heap[v1.heap.size + 1]? = some (.cells #[.int .u64 ax1, .bool ap1, .bool aq1, .slice AL1 al1 ac1] 38 (0, 0))) := hW1 ▸ setRow_heap _ _ _ _ _ (0, 0) (Z21.out _)
      have HW1 := Lib.hid hW1
      clear hW1
      go_upto_region 12 with (first
        | (refine wpList_store_row rfl 29 _ _ rfl (v1.heap.size) _ rfl rfl 29 zeroMem Z11.out (by kernel_rfl) rfl (by simp [Value.oneCell']) ?_)
        | (refine wpList_store_row rfl 38 _ _ rfl (v1.heap.size + 1) _ rfl rfl 38 zeroAns (Z21.out _) (by kernel_rfl) rfl (by simp [Value.oneCell']) ?_))
      rw [show (#[.slice none 0 0, .slice none 0 0, .int .i64 0] : Array Value) = zeroMem from rfl, show (#[.int .u64 0, .bool false, .bool false, .slice none 0 0] : Array Value) = zeroAns from rfl, HW1.out]
      try simp only [Act.put]
      clear HW1 Z11 Z21
      have HMa := Lib.hid (HVa.out.below HBWa.out)
      have HAa := Lib.hid (HUa.out.below HBWa.out)
      have HBz := Lib.hid (below_then HBq.out HBWa.out)
      have RM := Lib.hid ((HBWa.out.block (M) lM).trans RM.out)
      have RX := Lib.hid ((HBWa.out.block (X) lX).trans RX.out)
      have lM := Nat.lt_of_lt_of_le lM HBWa.out.size
      have lX := Nat.lt_of_lt_of_le lX HBWa.out.size
      obtain ⟨x0, x1, x2⟩ := rowc3 RM.out
      obtain ⟨y0, y1, y2, y3, y4⟩ := rowc5 RX.out
      obtain ⟨eqv, eqo⟩ := AnsV.parts HUa.out
      have HEV := Lib.hid eqv
      have HEO := Lib.hid eqo
      obtain ⟨eq1, eq2, eq3⟩ := agg_mem6 HSa.out v1 (Nx.at (OffV.below (Below.refl _ _)) (OffV.wide _ _ _ _) HBa.out)
      subst eq1 eq2 eq3
      clear eqv eqo
      have HI1' := Lib.hid (HI7.out.next HBz.out)
      cases hq2 : q.2.2 with
      | false =>
        clear x0 x1 x2 y0 y1 y2 y3 y4
        go_wp2
        go_roundw
        case rel => exact ⟨i + 1, A0, c0, l, by omega, by omega, rfl, by go_num, m, HI1'⟩
        case measure => simp [intOf]; omega
      | true =>
        have HVW : Hid (ax1 = IntKind.u64.wrap ax1) := Lib.hid (by have h := HQV.out; rw [← HEV.out] at h; exact h)
        obtain ⟨P, hP⟩ : ∃ P, v1.heap.size = P := ⟨_, rfl⟩
        have hXP : X < P := by have := HBa.out.size; omega
        have RP := RMa
        have RE := RAa
        rw [hP] at RP RE
        rw [hP]
        obtain ⟨E, hE⟩ : ∃ E, P + 1 = E := ⟨_, rfl⟩
        rw [hE] at RE
        rw [hE]
        have hPE : P < E := by omega
        have hP1 : P < W1.heap.size := (Array.getElem?_eq_some_iff.1 RP.out).1
        have hE1 : E < W1.heap.size := (Array.getElem?_eq_some_iff.1 RE.out).1
        have hX1 : X < W1.heap.size := (Array.getElem?_eq_some_iff.1 RX.out).1
        have HSM : Hid (StM (OffV g M (.slice A0 l.length c0) W1) (.agg #[.slice P1 q.1.words.length pc1, .slice Q1 q.1.lists.length qc1, .int .i64 q.1.tick]) q.1) := HSa.out.sub fun w5 h5 => OffV.nx (OffV.self _ _ _ _) HBa.out HI7.out.codes.lt lM0 (fun j hj => by have := hoX.out j hj; omega) w5 ((OffV.below HBWa.out).trans1 h5)
        have TI := Lib.hid fun (z : Int) w' => ritem_any z a ⟨ax1, ap1, aq1, []⟩ AL1 al1 ac1 w'
        unfold accV itemV at TI
        try dsimp only at TI
        have KS : Hid (∀ w', Below W1.heap.size W1 w' → (fun w' : World => (w'.cell? ⟨X, 0, none⟩ = some (.int .i64 a.kind) ∧ w'.cell? ⟨X, 1, none⟩ = some (.int .i64 a.addr) ∧ w'.cell? ⟨X, 2, none⟩ = some (.int .u64 a.old) ∧ w'.cell? ⟨X, 3, none⟩ = some (.int .u64 a.new) ∧ w'.cell? ⟨X, 4, none⟩ = some (.int .i64 a.til)) ∧ (w'.cell? ⟨E, 0, none⟩ = some (.int .u64 ax1) ∧ w'.cell? ⟨E, 1, none⟩ = some (.bool ap1) ∧ w'.cell? ⟨E, 2, none⟩ = some (.bool aq1) ∧ w'.cell? ⟨E, 3, none⟩ = some (.slice AL1 al1 ac1))) w') := fun w' hb => by
          obtain ⟨y0, y1, y2, y3, y4⟩ := rowc5 ((hb.block X hX1).trans RX.out)
          obtain ⟨d0, d1, d2, d3⟩ := rowc4 ((hb.block E hE1).trans RE.out)
          exact ⟨⟨y0, y1, y2, y3, y4⟩, ⟨d0, d1, d2, d3⟩⟩
        clear x0 x1 x2 y0 y1 y2 y3 y4 hP hE
        go_upto_region 13 with fail
        refine wp_region_until (fun w' : World => (w'.cell? ⟨X, 0, none⟩ = some (.int .i64 a.kind) ∧ w'.cell? ⟨X, 1, none⟩ = some (.int .i64 a.addr) ∧ w'.cell? ⟨X, 2, none⟩ = some (.int .u64 a.old) ∧ w'.cell? ⟨X, 3, none⟩ = some (.int .u64 a.new) ∧ w'.cell? ⟨X, 4, none⟩ = some (.int .i64 a.til)) ∧ (w'.cell? ⟨E, 0, none⟩ = some (.int .u64 ax1) ∧ w'.cell? ⟨E, 1, none⟩ = some (.bool ap1) ∧ w'.cell? ⟨E, 2, none⟩ = some (.bool aq1) ∧ w'.cell? ⟨E, 3, none⟩ = some (.slice AL1 al1 ac1))) 5 9 (by kernel_rfl) rfl ?_
        obtain ⟨u0, hu0, HU0⟩ := drew_pack W1
        rw [hu0]
        clear hu0
        have HIu := Lib.hid (HI1'.out.next HU0.out)
        have RXu := Lib.hid ((HU0.out.block X (by omega)).trans RX.out)
        have REu := Lib.hid ((HU0.out.block E (by omega)).trans RE.out)
        have RPu := Lib.hid ((HU0.out.block P (by omega)).trans RP.out)
        have HSMu := Lib.hid (HSM.out.sub fun w5 h5 => (OffV.below HU0.out).trans1 h5)
        have hu0s := HU0.out.size
        have hSU0 : (fun w' : World => (w'.cell? ⟨X, 0, none⟩ = some (.int .i64 a.kind) ∧ w'.cell? ⟨X, 1, none⟩ = some (.int .i64 a.addr) ∧ w'.cell? ⟨X, 2, none⟩ = some (.int .u64 a.old) ∧ w'.cell? ⟨X, 3, none⟩ = some (.int .u64 a.new) ∧ w'.cell? ⟨X, 4, none⟩ = some (.int .i64 a.til)) ∧ (w'.cell? ⟨E, 0, none⟩ = some (.int .u64 ax1) ∧ w'.cell? ⟨E, 1, none⟩ = some (.bool ap1) ∧ w'.cell? ⟨E, 2, none⟩ = some (.bool aq1) ∧ w'.cell? ⟨E, 3, none⟩ = some (.slice AL1 al1 ac1))) (u0) := KS.out _ HU0.out
        refine wpAnyU_take (v := ?_) 3 (ListAt.succ (ListAt.succ (ListAt.succ ListAt.zero))) (by kernel_rfl) (by kernel_rfl) (by kernel_rfl) (by kernel_rfl) (by kernel_rfl) (fun _ _ _ h => h) hSU0 rfl ?_ ?_
        rotate_left
        · (intro w hSw; (try dsimp only at hSw); go_simp <;> with_reducible rfl)
        simp only [Act.put, List.setIfInBounds_toArray, List.set_cons_zero, List.set_cons_succ]
        refine wpAnyU_take (v := ?_) 4 (ListAt.succ (ListAt.succ (ListAt.succ (ListAt.succ ListAt.zero)))) (by kernel_rfl) (by kernel_rfl) (by kernel_rfl) (by kernel_rfl) (by kernel_rfl) (fun _ _ _ h => h) hSU0 rfl ?_ ?_
        rotate_left
        · (intro w hSw; (try dsimp only at hSw); go_simp <;> with_reducible rfl)
        simp only [Act.put, List.setIfInBounds_toArray, List.set_cons_zero, List.set_cons_succ]
        refine wpAnyU_takeW (v := ?_) 0 ListAt.zero (by kernel_rfl) (by kernel_rfl) (by kernel_rfl) (by kernel_rfl) (fun _ _ _ h => h) (fun _ => hSU0) rfl ?_ ?_
        rotate_left
        · (intro w; go_simp <;> with_reducible rfl)
        simp only [Act.put, List.setIfInBounds_toArray, List.set_cons_zero, List.set_cons_succ]
        refine wpAnyU_takeW (v := ?_) 1 (ListAt.succ ListAt.zero) (by kernel_rfl) (by kernel_rfl) (by kernel_rfl) (by kernel_rfl) (fun _ _ _ h => h) (fun _ => hSU0) rfl ?_ ?_
        rotate_left
        · (intro w; go_simp <;> with_reducible rfl)
        simp only [Act.put, List.setIfInBounds_toArray, List.set_cons_zero, List.set_cons_succ]
        refine wpAnyU_ready (rs := [2]) (by kernel_rfl) rfl ?_
        refine AllReadyU.cons (ListAt.succ (ListAt.succ ListAt.zero)) rfl (fun K hK => ?_) ?_
        · go_simp
          go_at_call 13
          refine (nextE g 3 _ HIu.out.codes (by omega) (by omega)).mono ?_
          rintro e u1 ⟨z, rfl, hz0, hz1, hc1, hg1⟩
          have HI1 := Lib.hid (HIu.out.drawn hc1 hg1)
          have RX1 := Lib.hid ((hg1.block X (by omega) (by simp; omega)).trans RXu.out)
          have RE1 := Lib.hid ((hg1.block E (by omega) (by simp; omega)).trans REu.out)
          have RP1 := Lib.hid ((hg1.block P (by omega) (by simp; omega)).trans RPu.out)
          have hg1s := hg1.size
          have HSM1 := Lib.hid (HSMu.out.sub fun w5 h5 => (OffV.grown hg1).trans1 h5)
          clear hc1 hg1
          obtain ⟨y0, y1, y2, y3, y4⟩ := rowc5 RX1.out
          obtain ⟨d0, d1, d2, d3⟩ := rowc4 RE1.out
          refine hK.out _ _ ?_ (fun hSU1 => ?_)
          · exact ⟨⟨y0, y1, y2, y3, y4⟩, ⟨d0, d1, d2, d3⟩⟩
          clear hK K hSU0
          try simp only [Act.put, List.setIfInBounds_toArray, List.set_cons_zero, List.set_cons_succ]
          refine wpAnyU_ready (rs := [5]) (by kernel_rfl) rfl ?_
          refine AllReadyU.free (ListAt.succ (ListAt.succ (ListAt.succ (ListAt.succ (ListAt.succ ListAt.zero))))) rfl (by kernel_rfl) (fun K hK => ?_) ?_
          · go_simp
            go_at_call 12
            refine (TI.out z u1).mono ?_
            rintro e u2 ⟨rfl, hb2⟩
            have HI2 := Lib.hid (HI1.out.next hb2)
            have RP2 := Lib.hid ((hb2.block P (by omega)).trans RP1.out)
            have hb2s := hb2.size
            have HSM2 := Lib.hid (HSM1.out.sub fun w5 h5 => (OffV.below hb2).trans1 h5)
            clear hb2 y0 y1 y2 y3 y4 d0 d1 d2 d3
            refine hK.out _ _ ?_
            clear hK K hSU1
            try simp only [Act.put, List.setIfInBounds_toArray, List.set_cons_zero, List.set_cons_succ]
            refine wpAnyU_ready (rs := [6]) (by kernel_rfl) rfl ?_
            refine AllReadyU.free (ListAt.succ (ListAt.succ (ListAt.succ (ListAt.succ (ListAt.succ (ListAt.succ ListAt.zero)))))) rfl (by kernel_rfl) (fun K hK => ?_) ?_
            · go_simp
              obtain ⟨u3, bX, hv, hXe, RL, hbX, ltX⟩ := alloc_pack u2 (.cells #[.int .i64 z, .int .i64 a.kind, .int .i64 a.addr, .int .u64 a.old, .int .u64 a.new, .int .i64 a.til, .int .u64 ax1, .bool ap1] 42)
              rw [hv, hXe]
              have HI3 := Lib.hid (HI2.out.next hbX.out)
              have RP3 := Lib.hid ((hbX.out.block P (by omega)).trans RP2.out)
              have HSM3 := Lib.hid (HSM2.out.sub fun w5 h5 => (OffV.below hbX.out).trans1 h5)
              have hbs := hbX.out.size
              clear hv hXe hbX
              refine hK.out _ _ ?_
              clear hK K
              try simp only [Act.put, List.setIfInBounds_toArray, List.set_cons_zero, List.set_cons_succ]
              refine wpAnyU_ready (rs := [7]) (by kernel_rfl) rfl ?_
              refine AllReadyU.free (ListAt.succ (ListAt.succ (ListAt.succ (ListAt.succ (ListAt.succ (ListAt.succ (ListAt.succ ListAt.zero))))))) rfl (by kernel_rfl) (fun K hK => ?_) ?_
              · refine step_append_item2 (w := u3) (by rfl) _ _ (by rfl) D (.slice A0 l.length c0) l (by rfl) HI3.out.own ⟨z, a, ax1, ap1⟩ bX (by rfl) (one_at RL.out) (by omega) HI3.out.dw ?_
                intro v9 u4 ho9 hg9 hbk9
                have HO9 := Lib.hid ho9
                have HG9 := Lib.hid hg9
                have HK9 := Lib.hid hbk9
                clear ho9 hg9 hbk9
                refine hK.out _ _ ?_
                clear hK K
                try simp only [Act.put, List.setIfInBounds_toArray, List.set_cons_zero, List.set_cons_succ]
                refine wpAnyU_takeW (v := ?_) 8 (ListAt.succ (ListAt.succ (ListAt.succ (ListAt.succ (ListAt.succ (ListAt.succ (ListAt.succ (ListAt.succ ListAt.zero)))))))) (by kernel_rfl) (by kernel_rfl) (by kernel_rfl) (by kernel_rfl) (fun _ _ _ h => h) (past_k (by kernel_rfl)) rfl ?_ ?_
                rotate_left
                · (intro w; go_simp <;> with_reducible rfl)
                simp only [Act.put, List.setIfInBounds_toArray, List.set_cons_zero, List.set_cons_succ]
                refine wpAnyU_done (by kernel_rfl) ?_ _
                obtain ⟨A9, c9, e9⟩ := HO9.out.len
                subst e9
                have hoP : ∀ j, (Value.slice A0 l.length c0).ownBlock = some j → j < X := hoX.out
                have RP4 := Lib.hid ((HG9.out.block P (by omega) (fun e => by have := hoP P e.symm; omega)).trans RP3.out)
                obtain ⟨E1, e1, E2, e2, rm3, -⟩ := HI3.out.mem
                have RM4 := Lib.hid ((HG9.out.block M (by omega) (fun e => by have := HI3.out.own.own_ge M e.symm; omega)).trans rm3)
                clear rm3
                have HGX : Hid (ItemM.good ⟨z, a, ax1, ap1⟩) := ⟨by show z = IntKind.i64.wrap z; rw [IntKind.wrap_i64]; omega, HA.out, HVW.out⟩
                have HRP : Hid (replayE m3 (l ++ [⟨z, a, ax1, ap1⟩]) = (q.1, true)) := by have := HREC.out z hq2; rw [← HEV.out, ← HEO.out] at this; exact this
                have hsz := HSZ.out
                have HI8 := Lib.hid (HI3.out.add HO9.out HG9.out HK9.out HSM3.out HFR.out (by rw [hsz.1]; exact HI3.out.wl) (by rw [hsz.2.1]; exact HI3.out.ll) HGX.out HRP.out)
                clear hsz
                obtain ⟨p0, p1, p2⟩ := rowc3 RP4.out
                go_wp2_with (refine wpList_store_row rfl 29 _ _ rfl M _ rfl rfl 29 _ RM4.out (by kernel_rfl) rfl (by simp [Value.oneCell']) ?_)
                go_roundw
                case rel => exact ⟨i + 1, A9, c9, l ++ [⟨z, a, ax1, ap1⟩], by omega, by simp; omega, by simp, by go_num, q.1, HI8⟩
                case measure => simp [intOf]; omega
              exact AllReadyU.nil
            exact AllReadyU.nil
          exact AllReadyU.nil
        exact AllReadyU.nil
    · obtain rfl : i = 12 := by omega
      obtain ⟨B0, b0, B2, b2, rm, sm⟩ := HI.out.mem
      have RM := Lib.hid rm
      have SM := Lib.hid (sm.at (OffV.self _ _ _ _))
      have SF := Lib.hid (HI.out.first.at (OffV.self _ _ _ _))
      have RF := Lib.hid HI.out.frow
      have HL := Lib.hid (HI.out.own.read (by omega) HI.out.good)
      have HRP := Lib.hid HI.out.rep
      have T1 := replay_any _ _ m3 l _ SF.out HF3.out HL.out (by omega)
      rw [HRP.out] at T1
      have T1 := Lib.hid T1
      clear rm sm
      obtain ⟨x0, x1, x2⟩ := rowc3 RF.out
      go_wp2_with fail
      refine T1.out.mono ?_
      rintro e wA ⟨vA, rfl, hA, hbA⟩
      dsimp only at hA
      dsimp only
      have HA := Lib.hid hA
      have HBA : Hid (Below wo.heap.size wo wA) := hbA
      obtain ⟨C0, k0, C2, k2, rfl⟩ : ∃ A c A2 c2, vA = .agg #[.slice A m.words.length c, .slice A2 m.lists.length c2, .int .i64 m.tick] := hA.over.open wA (Over.self wA)
      clear hA hbA x0 x1 x2 T1
      obtain ⟨W6, hW6⟩ : ∃ W6, (wA.alloc (.cells zeroMem 29)).setRow wA.heap.size #[.slice C0 m.words.length k0, .slice C2 m.lists.length k2, .int .i64 m.tick] = W6 := ⟨_, rfl⟩
      have N6 : Hid ((wA.alloc (.cells zeroMem 29)).heap[wA.heap.size]? = some (.cells zeroMem 29 (0, 0))) := heap_alloc_new _ _
      have HB6 : Hid (Below wA.heap.size wA W6) := hW6 ▸ row_below (below_new (Below.refl _ _) _) (Nat.le_refl _) _
      have R6 : Hid (W6.heap[wA.heap.size]? = some (.cells #[.slice C0 m.words.length k0, .slice C2 m.lists.length k2, .int .i64 m.tick] 29 (0, 0))) := hW6 ▸ setRow_heap _ _ _ _ _ (0, 0) N6.out
      have HW6 := Lib.hid hW6
      clear hW6
      go_upto_region 16 with (refine wpList_store_row rfl 29 _ _ rfl (wA.heap.size) _ rfl rfl 29 zeroMem N6.out (by kernel_rfl) rfl (by simp [Value.oneCell']) ?_)
      rw [show (#[.slice none 0 0, .slice none 0 0, .int .i64 0] : Array Value) = zeroMem from rfl, HW6.out]
      try simp only [Act.put]
      clear HW6 N6
      have HB06 := Lib.hid (below_then HBA.out HB6.out)
      obtain ⟨P6, hP6⟩ : ∃ P, wA.heap.size = P := ⟨_, rfl⟩
      rw [hP6] at R6
      rw [hP6]
      have HA6 := Lib.hid (HA.out.below HB6.out)
      have HM6 := Lib.hid (SM.out.below HB06.out)
      have hM0 := (Array.getElem?_eq_some_iff.1 RM.out).1
      have hF0 := (Array.getElem?_eq_some_iff.1 RF.out).1
      have RM6 := Lib.hid ((HB06.out.block M hM0).trans RM.out)
      have RF6 := Lib.hid ((HB06.out.block F hF0).trans RF.out)
      obtain ⟨x0, x1, x2⟩ := rowc3 R6.out
      obtain ⟨y0, y1, y2⟩ := rowc3 RM6.out
      go_wp2_with fail
      refine (sameMem_true _ _ m _ HA6.out HM6.out).mono ?_
      rintro e wB ⟨rfl, hbB⟩
      have HBB : Hid (Below W6.heap.size W6 wB) := hbB
      clear hbB x0 x1 x2 y0 y1 y2
      go_wp2_with fail
      refine (mod_any a2 ((l.length : Int) + 1) _ (by omega) (by omega)).mono ?_
      rintro e wB2 ⟨rfl, hwB⟩
      obtain rfl := hwB
      obtain ⟨k, hk⟩ : ∃ k : Nat, a2 % ((l.length : Int) + 1) = (k : Int) := ⟨(a2 % ((l.length : Int) + 1)).toNat, by have := Int.emod_nonneg a2 (show (l.length : Int) + 1 ≠ 0 by omega); omega⟩
      have hkl : k ≤ l.length := by have := Int.emod_lt_of_pos a2 (show (0 : Int) < (l.length : Int) + 1 by omega); omega
      rw [hk]
      have HK := Lib.hid hk
      clear hk
      have HB0B := Lib.hid (below_then HB06.out HBB.out)
      obtain ⟨x0, x1, x2⟩ := rowc3 ((HBB.out.block F (Array.getElem?_eq_some_iff.1 RF6.out).1).trans RF6.out)
      have HL2 := Lib.hid (HL.out.below HB0B.out)
      go_upto_region 19 with fail
      obtain ⟨mk, hk1, hk2⟩ := replay_parts HRP.out k
      have HG := Lib.hid HI.out.good
      have HFK : Hid mk.fits := by
        have := replay_fits m3 (l.take k) HF3.out (fun x hx => HG.out x (List.mem_of_mem_take hx))
        rw [hk1] at this
        exact this
      have HSB := Lib.hid (SF.out.below HB0B.out)
      have hlk : (l.take k).length ≤ 1000 := by simp; omega
      have hld : (l.drop k).length ≤ 1000 := by simp; omega
      have TK : Hid (∀ w', Below wB.heap.size wB w' → Calls Try.prog 14 #[.agg #[.slice A3 m3.words.length c3, .slice A4 m3.lists.length c4, .int .i64 m3.tick], .slice (if c0 = 0 then A0 else A0.map (·.add (0 * 8))) k c0] w' (RepR (mk, true) w')) := fun w' hb => by
        have := replay_any _ _ m3 (l.take k) w' (HSB.out.below hb) HF3.out ((SlT.takeAny HL2.out k hkl).below hb) hlk
        rw [hk1] at this
        exact this
      have TKX : Hid (∀ X w', X < w'.heap.size → wB.heap.size ≤ X → Below wB.heap.size wB w' → Calls Try.prog 14 #[.agg #[.slice A3 m3.words.length c3, .slice A4 m3.lists.length c4, .int .i64 m3.tick], .slice (if c0 = 0 then A0 else A0.map (·.add (0 * 8))) k c0] w' (RepS X (mk, true) w')) := fun X w' hx hx2 hb => by
        have := replay_stm X _ _ m3 (l.take k) w' hx (HSB.out.ofNew hb hx2) HF3.out ((SlT.takeAny HL2.out k hkl).below hb) hlk
        rw [hk1] at this
        exact this
      have TD : Hid (∀ (v : Value) w', MemV w' v mk → Below wB.heap.size wB w' → Calls Try.prog 14 #[v, .slice (if c0 = k then A0 else A0.map (·.add (k * 8))) (l.length - k) (c0 - k)] w' (RepR (m, true) w')) := fun v w' hv hb => by
        have := replay_any _ _ mk (l.drop k) w' hv HFK.out ((SlT.dropAny HL2.out k hkl).below hb) hld
        rw [hk2] at this
        exact this
      have TDX : Hid (∀ X (v : Value) w', X < w'.heap.size → StM (Of3 X X X w') v mk → Below wB.heap.size wB w' → Calls Try.prog 14 #[v, .slice (if c0 = k then A0 else A0.map (·.add (k * 8))) (l.length - k) (c0 - k)] w' (RepS X (m, true) w')) := fun X v w' hx hv hb => by
        have := replay_stm X _ _ mk (l.drop k) w' hx hv HFK.out ((SlT.dropAny HL2.out k hkl).below hb) hld
        rw [hk2] at this
        exact this
      have hcap : l.length ≤ c0 := by obtain ⟨a', cap', e', h'⟩ := HL2.out.len; simp only [Value.slice.injEq] at e'; obtain ⟨-, -, rfl⟩ := e'; exact h'
      have HR1 := Lib.hid fun wx => run_take_item wx A0 l.length c0 k (by omega)
      have HR2 := Lib.hid fun wx => run_drop_item wx A0 l.length c0 k hkl
      obtain ⟨VT, hVT⟩ : ∃ V : Option Addr, (if c0 = 0 then A0 else A0.map (·.add (0 * 8))) = V := ⟨_, rfl⟩
      rw [hVT] at TK TKX HR1
      obtain ⟨VD, hVD⟩ : ∃ V : Option Addr, (if c0 = k then A0 else A0.map (·.add (k * 8))) = V := ⟨_, rfl⟩
      rw [hVD] at TD TDX HR2
      clear hk1 hk2 hlk hld hVT hVD
      have F3 : F < wB.heap.size := (Array.getElem?_eq_some_iff.1 ((HBB.out.block F (Array.getElem?_eq_some_iff.1 RF6.out).1).trans RF6.out)).1
      have KS : Hid (∀ w', Below wB.heap.size wB w' → (fun w' : World => w'.cell? ⟨F, 0, none⟩ = some (.slice A3 m3.words.length c3) ∧ w'.cell? ⟨F, 1, none⟩ = some (.slice A4 m3.lists.length c4) ∧ w'.cell? ⟨F, 2, none⟩ = some (.int .i64 m3.tick)) w') := fun w' hb => rowc3 ((hb.block F F3).trans ((HBB.out.block F (Array.getElem?_eq_some_iff.1 RF6.out).1).trans RF6.out))
      clear x0 x1 x2
      go_cut [21, 22] (fun s21 s22 wx => ∃ (P : Nat) (Q1 : Option Addr) (q1 : Nat) (Q2 : Option Addr) (q2 : Nat), s21 = .pointer (some ⟨P, 0, none⟩) ∧ s22 = .bool true ∧ Hid (wx.heap[P]? = some (.cells #[.slice Q1 mk.words.length q1, .slice Q2 mk.lists.length q2, .int .i64 mk.tick] 29 (0, 0))) ∧ Hid (MemV wx (.agg #[.slice Q1 mk.words.length q1, .slice Q2 mk.lists.length q2, .int .i64 mk.tick]) mk) ∧ Hid (Below wB.heap.size wB wx))
      case first =>
        have hsl := HR1.out
        refine wp_region_until (fun w' : World => w'.cell? ⟨F, 0, none⟩ = some (.slice A3 m3.words.length c3) ∧ w'.cell? ⟨F, 1, none⟩ = some (.slice A4 m3.lists.length c4) ∧ w'.cell? ⟨F, 2, none⟩ = some (.int .i64 m3.tick)) 4 11 (by kernel_rfl) rfl ?_
        obtain ⟨u0, hu0, HU0⟩ := drew_pack wB
        rw [hu0]
        clear hu0
        have hSU0 : (fun w' : World => w'.cell? ⟨F, 0, none⟩ = some (.slice A3 m3.words.length c3) ∧ w'.cell? ⟨F, 1, none⟩ = some (.slice A4 m3.lists.length c4) ∧ w'.cell? ⟨F, 2, none⟩ = some (.int .i64 m3.tick)) (u0) := KS.out _ HU0.out
        refine wpAnyU_take (v := ?_) 0 ListAt.zero (by kernel_rfl) (by kernel_rfl) (by kernel_rfl) (by kernel_rfl) (by kernel_rfl) (fun _ _ _ h => h) hSU0 rfl ?_ ?_
        rotate_left
        · (intro w hSw; (try dsimp only at hSw); go_simp <;> with_reducible rfl)
        simp only [Act.put, List.setIfInBounds_toArray, List.set_cons_zero, List.set_cons_succ]
        refine wpAnyU_takeW (v := ?_) 1 (ListAt.succ ListAt.zero) (by kernel_rfl) (by kernel_rfl) (by kernel_rfl) (by kernel_rfl) (fun _ _ _ h => h) (fun _ => hSU0) rfl ?_ ?_
        rotate_left
        · (intro w; go_simp <;> with_reducible rfl)
        simp only [Act.put, List.setIfInBounds_toArray, List.set_cons_zero, List.set_cons_succ]
        refine wpAnyU_takeW (v := ?_) 2 (ListAt.succ (ListAt.succ ListAt.zero)) (by kernel_rfl) (by kernel_rfl) (by kernel_rfl) (by kernel_rfl) (fun _ _ _ h => h) (fun _ => hSU0) rfl ?_ ?_
        rotate_left
        · (intro w; go_simp <;> with_reducible rfl)
        simp only [Act.put, List.setIfInBounds_toArray, List.set_cons_zero, List.set_cons_succ]
        refine wpAnyU_take (v := ?_) 3 (ListAt.succ (ListAt.succ (ListAt.succ ListAt.zero))) (by kernel_rfl) (by kernel_rfl) (by kernel_rfl) (by kernel_rfl) (by kernel_rfl) (fun _ _ _ h => h) hSU0 rfl ?_ ?_
        rotate_left
        · (intro w hSw; (try dsimp only at hSw); go_simp <;> with_reducible rfl)
        simp only [Act.put, List.setIfInBounds_toArray, List.set_cons_zero, List.set_cons_succ]
        refine wpAnyU_ready (rs := [4, 8]) (by kernel_rfl) rfl ?_
        refine AllReadyU.free (ListAt.succ (ListAt.succ (ListAt.succ (ListAt.succ ListAt.zero)))) rfl (by kernel_rfl) (fun K hK => ?_) ?_
        · go_simp
          go_at_call 14
          refine (TK.out _ HU0.out).mono ?_
          rintro e u1 ⟨vq, rfl, hq, hbq⟩
          dsimp only at hq
          dsimp only
          have hbq' : Below u0.heap.size u0 u1 := hbq
          obtain ⟨Q1, q1, Q2, q2, rfl⟩ : ∃ A c A2 c2, vq = .agg #[.slice A mk.words.length c, .slice A2 mk.lists.length c2, .int .i64 mk.tick] := hq.over.open u1 (Over.self u1)
          have HQ1 := Lib.hid hq
          have HU1 := Lib.hid (below_then HU0.out hbq')
          clear hq hbq hbq'
          refine hK.out _ _ ?_
          clear hK K hSU0
          try simp only [Act.put, List.setIfInBounds_toArray, List.set_cons_zero, List.set_cons_succ]
          refine wpAnyU_takeW (v := ?_) 5 (ListAt.succ (ListAt.succ (ListAt.succ (ListAt.succ (ListAt.succ ListAt.zero))))) (by kernel_rfl) (by kernel_rfl) (by kernel_rfl) (by kernel_rfl) (fun _ _ _ h => h) (past_k (by kernel_rfl)) rfl ?_ ?_
          rotate_left
          · (intro w; go_simp <;> with_reducible rfl)
          simp only [Act.put, List.setIfInBounds_toArray, List.set_cons_zero, List.set_cons_succ]
          refine wpAnyU_takeW (v := ?_) 6 (ListAt.succ (ListAt.succ (ListAt.succ (ListAt.succ (ListAt.succ (ListAt.succ ListAt.zero)))))) (by kernel_rfl) (by kernel_rfl) (by kernel_rfl) (by kernel_rfl) (fun _ _ _ h => h) (past_k (by kernel_rfl)) rfl ?_ ?_
          rotate_left
          · (intro w; go_simp <;> with_reducible rfl)
          simp only [Act.put, List.setIfInBounds_toArray, List.set_cons_zero, List.set_cons_succ]
          refine wpAnyU_takeW (v := ?_) 7 (ListAt.succ (ListAt.succ (ListAt.succ (ListAt.succ (ListAt.succ (ListAt.succ (ListAt.succ ListAt.zero))))))) (by kernel_rfl) (by kernel_rfl) (by kernel_rfl) (by kernel_rfl) (fun _ _ _ h => h) (past_k (by kernel_rfl)) rfl ?_ ?_
          rotate_left
          · (intro w; go_simp <;> with_reducible rfl)
          simp only [Act.put, List.setIfInBounds_toArray, List.set_cons_zero, List.set_cons_succ]
          refine wpAnyU_ready (rs := [8]) (by kernel_rfl) rfl ?_
          refine AllReadyU.free (ListAt.succ (ListAt.succ (ListAt.succ (ListAt.succ (ListAt.succ (ListAt.succ (ListAt.succ (ListAt.succ ListAt.zero)))))))) rfl (by kernel_rfl) (fun K hK => ?_) ?_
          · go_simp
            obtain ⟨u2, bX, hv, hXe, RX2, hbX, ltX⟩ := alloc_pack u1 (.cells #[.slice none 0 0, .slice none 0 0, .int .i64 0] 29)
            rw [hv, hXe]
            have HU2 := Lib.hid (below_then HU1.out hbX.out)
            have hbXw : Hid (wB.heap.size ≤ bX) := hXe ▸ HU1.out.size
            have HQ2 := Lib.hid (HQ1.out.below (row_below hbX.out (Nat.le_of_eq hXe) #[.slice Q1 mk.words.length q1, .slice Q2 mk.lists.length q2, .int .i64 mk.tick]))
            clear hv hXe hbX
            refine hK.out _ _ ?_
            clear hK K
            try simp only [Act.put, List.setIfInBounds_toArray, List.set_cons_zero, List.set_cons_succ]
            refine wpAnyU_ready (rs := [9]) (by kernel_rfl) rfl ?_
            refine AllReadyU.free (ListAt.succ (ListAt.succ (ListAt.succ (ListAt.succ (ListAt.succ (ListAt.succ (ListAt.succ (ListAt.succ (ListAt.succ ListAt.zero))))))))) rfl (by kernel_rfl) (fun K hK => ?_) ?_
            · refine step_store_row rfl 29 _ _ rfl bX _ rfl rfl 29 zeroMem RX2.out (by kernel_rfl) rfl (by simp [Value.oneCell']) ?_
              have R9 := Lib.hid (setRow_heap u2 bX _ #[.slice Q1 mk.words.length q1, .slice Q2 mk.lists.length q2, .int .i64 mk.tick] _ (0, 0) RX2.out)
              have HU9 := Lib.hid (row_below HU2.out hbXw.out #[.slice Q1 mk.words.length q1, .slice Q2 mk.lists.length q2, .int .i64 mk.tick])
              have HQ9 := HQ2
              generalize u2.setRow bX #[.slice Q1 mk.words.length q1, .slice Q2 mk.lists.length q2, .int .i64 mk.tick] = u9 at *
              refine hK.out _ _ ?_
              clear hK K
              try simp only [Act.put, List.setIfInBounds_toArray, List.set_cons_zero, List.set_cons_succ]
              refine wpAnyU_takeW (v := ?_) 10 (ListAt.succ (ListAt.succ (ListAt.succ (ListAt.succ (ListAt.succ (ListAt.succ (ListAt.succ (ListAt.succ (ListAt.succ (ListAt.succ ListAt.zero)))))))))) (by kernel_rfl) (by kernel_rfl) (by kernel_rfl) (by kernel_rfl) (fun _ _ _ h => h) (past_k (by kernel_rfl)) rfl ?_ ?_
              rotate_left
              · (intro w; go_simp <;> with_reducible rfl)
              simp only [Act.put, List.setIfInBounds_toArray, List.set_cons_zero, List.set_cons_succ]
              refine wpAnyU_done (by kernel_rfl) ?_ _
              go_wp2_with fail
              go_meet
              exact ⟨bX, Q1, q1, Q2, q2, rfl, rfl, R9, HQ9, HU9⟩
            exact AllReadyU.nil
          exact AllReadyU.nil
        refine AllReadyU.cons (ListAt.succ (ListAt.succ (ListAt.succ (ListAt.succ (ListAt.succ (ListAt.succ (ListAt.succ (ListAt.succ ListAt.zero)))))))) rfl (fun K hK => ?_) ?_
        · go_simp
          obtain ⟨u1, bX, hv, hXe, RX1, hbX, ltX⟩ := alloc_pack u0 (.cells #[.slice none 0 0, .slice none 0 0, .int .i64 0] 29)
          rw [hv, hXe]
          have HU1 := Lib.hid (below_then HU0.out hbX.out)
          have hbXw : Hid (wB.heap.size ≤ bX) := hXe ▸ HU0.out.size
          clear hv hXe hbX
          refine hK.out _ _ ?_ (fun hSU1 => ?_)
          · exact KS.out _ HU1.out
          clear hK K hSU0
          try simp only [Act.put, List.setIfInBounds_toArray, List.set_cons_zero, List.set_cons_succ]
          refine wpAnyU_ready (rs := [4]) (by kernel_rfl) rfl ?_
          refine AllReadyU.free (ListAt.succ (ListAt.succ (ListAt.succ (ListAt.succ ListAt.zero)))) rfl (by kernel_rfl) (fun K hK => ?_) ?_
          · go_simp
            go_at_call 14
            refine (TKX.out bX _ ltX.out hbXw.out HU1.out).mono ?_
            rintro e u2 ⟨vq, rfl, hq, hbq⟩
            dsimp only at hq
            dsimp only
            have hbq' : Below u1.heap.size u1 u2 := hbq
            obtain ⟨Q1, q1, Q2, q2, rfl⟩ : ∃ A c A2 c2, vq = .agg #[.slice A mk.words.length c, .slice A2 mk.lists.length c2, .int .i64 mk.tick] := hq.open u2 (Of3.self _ _ _ _)
            have HQ2 := Lib.hid hq
            have HU2 := Lib.hid (below_then HU1.out hbq')
            have RX2 := Lib.hid ((hbq'.block bX ltX.out).trans RX1.out)
            clear hq hbq hbq'
            refine hK.out _ _ ?_
            clear hK K hSU1
            try simp only [Act.put, List.setIfInBounds_toArray, List.set_cons_zero, List.set_cons_succ]
            refine wpAnyU_takeW (v := ?_) 5 (ListAt.succ (ListAt.succ (ListAt.succ (ListAt.succ (ListAt.succ ListAt.zero))))) (by kernel_rfl) (by kernel_rfl) (by kernel_rfl) (by kernel_rfl) (fun _ _ _ h => h) (past_k (by kernel_rfl)) rfl ?_ ?_
            rotate_left
            · (intro w; go_simp <;> with_reducible rfl)
            simp only [Act.put, List.setIfInBounds_toArray, List.set_cons_zero, List.set_cons_succ]
            refine wpAnyU_takeW (v := ?_) 6 (ListAt.succ (ListAt.succ (ListAt.succ (ListAt.succ (ListAt.succ (ListAt.succ ListAt.zero)))))) (by kernel_rfl) (by kernel_rfl) (by kernel_rfl) (by kernel_rfl) (fun _ _ _ h => h) (past_k (by kernel_rfl)) rfl ?_ ?_
            rotate_left
            · (intro w; go_simp <;> with_reducible rfl)
            simp only [Act.put, List.setIfInBounds_toArray, List.set_cons_zero, List.set_cons_succ]
            refine wpAnyU_takeW (v := ?_) 7 (ListAt.succ (ListAt.succ (ListAt.succ (ListAt.succ (ListAt.succ (ListAt.succ (ListAt.succ ListAt.zero))))))) (by kernel_rfl) (by kernel_rfl) (by kernel_rfl) (by kernel_rfl) (fun _ _ _ h => h) (past_k (by kernel_rfl)) rfl ?_ ?_
            rotate_left
            · (intro w; go_simp <;> with_reducible rfl)
            simp only [Act.put, List.setIfInBounds_toArray, List.set_cons_zero, List.set_cons_succ]
            refine wpAnyU_ready (rs := [9]) (by kernel_rfl) rfl ?_
            refine AllReadyU.free (ListAt.succ (ListAt.succ (ListAt.succ (ListAt.succ (ListAt.succ (ListAt.succ (ListAt.succ (ListAt.succ (ListAt.succ ListAt.zero))))))))) rfl (by kernel_rfl) (fun K hK => ?_) ?_
            · refine step_store_row rfl 29 _ _ rfl bX _ rfl rfl 29 zeroMem RX2.out (by kernel_rfl) rfl (by simp [Value.oneCell']) ?_
              have R9 := Lib.hid (setRow_heap u2 bX _ #[.slice Q1 mk.words.length q1, .slice Q2 mk.lists.length q2, .int .i64 mk.tick] _ (0, 0) RX2.out)
              have HU9 := Lib.hid (row_below HU2.out hbXw.out #[.slice Q1 mk.words.length q1, .slice Q2 mk.lists.length q2, .int .i64 mk.tick])
              have HQ9 := Lib.hid (HQ2.out.at (Of3.setRow bX u2 #[.slice Q1 mk.words.length q1, .slice Q2 mk.lists.length q2, .int .i64 mk.tick]))
              generalize u2.setRow bX #[.slice Q1 mk.words.length q1, .slice Q2 mk.lists.length q2, .int .i64 mk.tick] = u9 at *
              refine hK.out _ _ ?_
              clear hK K
              try simp only [Act.put, List.setIfInBounds_toArray, List.set_cons_zero, List.set_cons_succ]
              refine wpAnyU_takeW (v := ?_) 10 (ListAt.succ (ListAt.succ (ListAt.succ (ListAt.succ (ListAt.succ (ListAt.succ (ListAt.succ (ListAt.succ (ListAt.succ (ListAt.succ ListAt.zero)))))))))) (by kernel_rfl) (by kernel_rfl) (by kernel_rfl) (by kernel_rfl) (fun _ _ _ h => h) (past_k (by kernel_rfl)) rfl ?_ ?_
              rotate_left
              · (intro w; go_simp <;> with_reducible rfl)
              simp only [Act.put, List.setIfInBounds_toArray, List.set_cons_zero, List.set_cons_succ]
              refine wpAnyU_done (by kernel_rfl) ?_ _
              go_wp2_with fail
              go_meet
              exact ⟨bX, Q1, q1, Q2, q2, rfl, rfl, R9, HQ9, HU9⟩
            exact AllReadyU.nil
          exact AllReadyU.nil
        exact AllReadyU.nil
      case rest =>
        obtain ⟨P, Q1, q1, Q2, q2, rfl, rfl, RP, HMQ, HBC⟩ := hcut
        obtain ⟨wC, rfl⟩ : ∃ w3 : World, w3 = wc := ⟨_, rfl⟩
        clear TK TKX KS F3
        have P3 : P < wC.heap.size := (Array.getElem?_eq_some_iff.1 RP.out).1
        have KS : Hid (∀ w', Below wC.heap.size wC w' → (fun w' : World => w'.cell? ⟨P, 0, none⟩ = some (.slice Q1 mk.words.length q1) ∧ w'.cell? ⟨P, 1, none⟩ = some (.slice Q2 mk.lists.length q2) ∧ w'.cell? ⟨P, 2, none⟩ = some (.int .i64 mk.tick)) w') := fun w' hb => rowc3 ((hb.block P P3).trans RP.out)
        have TE : Hid (∀ w', Below wC.heap.size wC w' → Calls Try.prog 14 #[.agg #[.slice Q1 mk.words.length q1, .slice Q2 mk.lists.length q2, .int .i64 mk.tick], .slice VD (l.length - k) (c0 - k)] w' (RepR (m, true) w')) := fun w' hb => TD.out _ w' (HMQ.out.below hb) (below_then HBC.out hb)
        have TEX : Hid (∀ X w', X < w'.heap.size → wC.heap.size ≤ X → Below wC.heap.size wC w' → Calls Try.prog 14 #[.agg #[.slice Q1 mk.words.length q1, .slice Q2 mk.lists.length q2, .int .i64 mk.tick], .slice VD (l.length - k) (c0 - k)] w' (RepS X (m, true) w')) := fun X w' hx hx2 hb => TDX.out X _ w' hx (HMQ.out.ofNew hb hx2) (below_then HBC.out hb)
        clear TD TDX
        go_upto_region 20 with fail
        go_cut [23, 24] (fun s23 s24 wx => ∃ (X : Nat) (Q1 : Option Addr) (q1 : Nat) (Q2 : Option Addr) (q2 : Nat), s23 = .pointer (some ⟨X, 0, none⟩) ∧ s24 = .bool true ∧ Hid (wx.heap[X]? = some (.cells #[.slice Q1 m.words.length q1, .slice Q2 m.lists.length q2, .int .i64 m.tick] 29 (0, 0))) ∧ Hid (MemV wx (.agg #[.slice Q1 m.words.length q1, .slice Q2 m.lists.length q2, .int .i64 m.tick]) m) ∧ Hid (Below wC.heap.size wC wx))
        case first =>
          have hsl := HR2.out
          refine wp_region_until (fun w' : World => w'.cell? ⟨P, 0, none⟩ = some (.slice Q1 mk.words.length q1) ∧ w'.cell? ⟨P, 1, none⟩ = some (.slice Q2 mk.lists.length q2) ∧ w'.cell? ⟨P, 2, none⟩ = some (.int .i64 mk.tick)) 4 11 (by kernel_rfl) rfl ?_
          obtain ⟨u0, hu0, HU0⟩ := drew_pack wC
          rw [hu0]
          clear hu0
          have hSU0 : (fun w' : World => w'.cell? ⟨P, 0, none⟩ = some (.slice Q1 mk.words.length q1) ∧ w'.cell? ⟨P, 1, none⟩ = some (.slice Q2 mk.lists.length q2) ∧ w'.cell? ⟨P, 2, none⟩ = some (.int .i64 mk.tick)) (u0) := KS.out _ HU0.out
          refine wpAnyU_take (v := ?_) 0 ListAt.zero (by kernel_rfl) (by kernel_rfl) (by kernel_rfl) (by kernel_rfl) (by kernel_rfl) (fun _ _ _ h => h) hSU0 rfl ?_ ?_
          rotate_left
          · (intro w hSw; (try dsimp only at hSw); go_simp <;> with_reducible rfl)
          simp only [Act.put, List.setIfInBounds_toArray, List.set_cons_zero, List.set_cons_succ]
          refine wpAnyU_takeW (v := ?_) 1 (ListAt.succ ListAt.zero) (by kernel_rfl) (by kernel_rfl) (by kernel_rfl) (by kernel_rfl) (fun _ _ _ h => h) (fun _ => hSU0) rfl ?_ ?_
          rotate_left
          · (intro w; go_simp <;> with_reducible rfl)
          simp only [Act.put, List.setIfInBounds_toArray, List.set_cons_zero, List.set_cons_succ]
          refine wpAnyU_takeW (v := ?_) 2 (ListAt.succ (ListAt.succ ListAt.zero)) (by kernel_rfl) (by kernel_rfl) (by kernel_rfl) (by kernel_rfl) (fun _ _ _ h => h) (fun _ => hSU0) rfl ?_ ?_
          rotate_left
          · (intro w; go_simp <;> with_reducible rfl)
          simp only [Act.put, List.setIfInBounds_toArray, List.set_cons_zero, List.set_cons_succ]
          refine wpAnyU_take (v := ?_) 3 (ListAt.succ (ListAt.succ (ListAt.succ ListAt.zero))) (by kernel_rfl) (by kernel_rfl) (by kernel_rfl) (by kernel_rfl) (by kernel_rfl) (fun _ _ _ h => h) hSU0 rfl ?_ ?_
          rotate_left
          · (intro w hSw; (try dsimp only at hSw); go_simp <;> with_reducible rfl)
          simp only [Act.put, List.setIfInBounds_toArray, List.set_cons_zero, List.set_cons_succ]
          refine wpAnyU_ready (rs := [4, 8]) (by kernel_rfl) rfl ?_
          refine AllReadyU.free (ListAt.succ (ListAt.succ (ListAt.succ (ListAt.succ ListAt.zero)))) rfl (by kernel_rfl) (fun K hK => ?_) ?_
          · go_simp
            go_at_call 14
            refine (TE.out _ HU0.out).mono ?_
            rintro e u1 ⟨vq, rfl, hq, hbq⟩
            dsimp only at hq
            dsimp only
            have hbq' : Below u0.heap.size u0 u1 := hbq
            obtain ⟨Q1, q1, Q2, q2, rfl⟩ : ∃ A c A2 c2, vq = .agg #[.slice A m.words.length c, .slice A2 m.lists.length c2, .int .i64 m.tick] := hq.over.open u1 (Over.self u1)
            have HQ1 := Lib.hid hq
            have HU1 := Lib.hid (below_then HU0.out hbq')
            clear hq hbq hbq'
            refine hK.out _ _ ?_
            clear hK K hSU0
            try simp only [Act.put, List.setIfInBounds_toArray, List.set_cons_zero, List.set_cons_succ]
            refine wpAnyU_takeW (v := ?_) 5 (ListAt.succ (ListAt.succ (ListAt.succ (ListAt.succ (ListAt.succ ListAt.zero))))) (by kernel_rfl) (by kernel_rfl) (by kernel_rfl) (by kernel_rfl) (fun _ _ _ h => h) (past_k (by kernel_rfl)) rfl ?_ ?_
            rotate_left
            · (intro w; go_simp <;> with_reducible rfl)
            simp only [Act.put, List.setIfInBounds_toArray, List.set_cons_zero, List.set_cons_succ]
            refine wpAnyU_takeW (v := ?_) 6 (ListAt.succ (ListAt.succ (ListAt.succ (ListAt.succ (ListAt.succ (ListAt.succ ListAt.zero)))))) (by kernel_rfl) (by kernel_rfl) (by kernel_rfl) (by kernel_rfl) (fun _ _ _ h => h) (past_k (by kernel_rfl)) rfl ?_ ?_
            rotate_left
            · (intro w; go_simp <;> with_reducible rfl)
            simp only [Act.put, List.setIfInBounds_toArray, List.set_cons_zero, List.set_cons_succ]
            refine wpAnyU_takeW (v := ?_) 7 (ListAt.succ (ListAt.succ (ListAt.succ (ListAt.succ (ListAt.succ (ListAt.succ (ListAt.succ ListAt.zero))))))) (by kernel_rfl) (by kernel_rfl) (by kernel_rfl) (by kernel_rfl) (fun _ _ _ h => h) (past_k (by kernel_rfl)) rfl ?_ ?_
            rotate_left
            · (intro w; go_simp <;> with_reducible rfl)
            simp only [Act.put, List.setIfInBounds_toArray, List.set_cons_zero, List.set_cons_succ]
            refine wpAnyU_ready (rs := [8]) (by kernel_rfl) rfl ?_
            refine AllReadyU.free (ListAt.succ (ListAt.succ (ListAt.succ (ListAt.succ (ListAt.succ (ListAt.succ (ListAt.succ (ListAt.succ ListAt.zero)))))))) rfl (by kernel_rfl) (fun K hK => ?_) ?_
            · go_simp
              obtain ⟨u2, bX, hv, hXe, RX2, hbX, ltX⟩ := alloc_pack u1 (.cells #[.slice none 0 0, .slice none 0 0, .int .i64 0] 29)
              rw [hv, hXe]
              have HU2 := Lib.hid (below_then HU1.out hbX.out)
              have hbXw : Hid (wC.heap.size ≤ bX) := hXe ▸ HU1.out.size
              have HQ2 := Lib.hid (HQ1.out.below (row_below hbX.out (Nat.le_of_eq hXe) #[.slice Q1 m.words.length q1, .slice Q2 m.lists.length q2, .int .i64 m.tick]))
              clear hv hXe hbX
              refine hK.out _ _ ?_
              clear hK K
              try simp only [Act.put, List.setIfInBounds_toArray, List.set_cons_zero, List.set_cons_succ]
              refine wpAnyU_ready (rs := [9]) (by kernel_rfl) rfl ?_
              refine AllReadyU.free (ListAt.succ (ListAt.succ (ListAt.succ (ListAt.succ (ListAt.succ (ListAt.succ (ListAt.succ (ListAt.succ (ListAt.succ ListAt.zero))))))))) rfl (by kernel_rfl) (fun K hK => ?_) ?_
              · refine step_store_row rfl 29 _ _ rfl bX _ rfl rfl 29 zeroMem RX2.out (by kernel_rfl) rfl (by simp [Value.oneCell']) ?_
                have R9 := Lib.hid (setRow_heap u2 bX _ #[.slice Q1 m.words.length q1, .slice Q2 m.lists.length q2, .int .i64 m.tick] _ (0, 0) RX2.out)
                have HU9 := Lib.hid (row_below HU2.out hbXw.out #[.slice Q1 m.words.length q1, .slice Q2 m.lists.length q2, .int .i64 m.tick])
                have HQ9 := HQ2
                generalize u2.setRow bX #[.slice Q1 m.words.length q1, .slice Q2 m.lists.length q2, .int .i64 m.tick] = u9 at *
                refine hK.out _ _ ?_
                clear hK K
                try simp only [Act.put, List.setIfInBounds_toArray, List.set_cons_zero, List.set_cons_succ]
                refine wpAnyU_takeW (v := ?_) 10 (ListAt.succ (ListAt.succ (ListAt.succ (ListAt.succ (ListAt.succ (ListAt.succ (ListAt.succ (ListAt.succ (ListAt.succ (ListAt.succ ListAt.zero)))))))))) (by kernel_rfl) (by kernel_rfl) (by kernel_rfl) (by kernel_rfl) (fun _ _ _ h => h) (past_k (by kernel_rfl)) rfl ?_ ?_
                rotate_left
                · (intro w; go_simp <;> with_reducible rfl)
                simp only [Act.put, List.setIfInBounds_toArray, List.set_cons_zero, List.set_cons_succ]
                refine wpAnyU_done (by kernel_rfl) ?_ _
                go_wp2_with fail
                go_meet
                exact ⟨bX, Q1, q1, Q2, q2, rfl, rfl, R9, HQ9, HU9⟩
              exact AllReadyU.nil
            exact AllReadyU.nil
          refine AllReadyU.cons (ListAt.succ (ListAt.succ (ListAt.succ (ListAt.succ (ListAt.succ (ListAt.succ (ListAt.succ (ListAt.succ ListAt.zero)))))))) rfl (fun K hK => ?_) ?_
          · go_simp
            obtain ⟨u1, bX, hv, hXe, RX1, hbX, ltX⟩ := alloc_pack u0 (.cells #[.slice none 0 0, .slice none 0 0, .int .i64 0] 29)
            rw [hv, hXe]
            have HU1 := Lib.hid (below_then HU0.out hbX.out)
            have hbXw : Hid (wC.heap.size ≤ bX) := hXe ▸ HU0.out.size
            clear hv hXe hbX
            refine hK.out _ _ ?_ (fun hSU1 => ?_)
            · exact KS.out _ HU1.out
            clear hK K hSU0
            try simp only [Act.put, List.setIfInBounds_toArray, List.set_cons_zero, List.set_cons_succ]
            refine wpAnyU_ready (rs := [4]) (by kernel_rfl) rfl ?_
            refine AllReadyU.free (ListAt.succ (ListAt.succ (ListAt.succ (ListAt.succ ListAt.zero)))) rfl (by kernel_rfl) (fun K hK => ?_) ?_
            · go_simp
              go_at_call 14
              refine (TEX.out bX _ ltX.out hbXw.out HU1.out).mono ?_
              rintro e u2 ⟨vq, rfl, hq, hbq⟩
              dsimp only at hq
              dsimp only
              have hbq' : Below u1.heap.size u1 u2 := hbq
              obtain ⟨Q1, q1, Q2, q2, rfl⟩ : ∃ A c A2 c2, vq = .agg #[.slice A m.words.length c, .slice A2 m.lists.length c2, .int .i64 m.tick] := hq.open u2 (Of3.self _ _ _ _)
              have HQ2 := Lib.hid hq
              have HU2 := Lib.hid (below_then HU1.out hbq')
              have RX2 := Lib.hid ((hbq'.block bX ltX.out).trans RX1.out)
              clear hq hbq hbq'
              refine hK.out _ _ ?_
              clear hK K hSU1
              try simp only [Act.put, List.setIfInBounds_toArray, List.set_cons_zero, List.set_cons_succ]
              refine wpAnyU_takeW (v := ?_) 5 (ListAt.succ (ListAt.succ (ListAt.succ (ListAt.succ (ListAt.succ ListAt.zero))))) (by kernel_rfl) (by kernel_rfl) (by kernel_rfl) (by kernel_rfl) (fun _ _ _ h => h) (past_k (by kernel_rfl)) rfl ?_ ?_
              rotate_left
              · (intro w; go_simp <;> with_reducible rfl)
              simp only [Act.put, List.setIfInBounds_toArray, List.set_cons_zero, List.set_cons_succ]
              refine wpAnyU_takeW (v := ?_) 6 (ListAt.succ (ListAt.succ (ListAt.succ (ListAt.succ (ListAt.succ (ListAt.succ ListAt.zero)))))) (by kernel_rfl) (by kernel_rfl) (by kernel_rfl) (by kernel_rfl) (fun _ _ _ h => h) (past_k (by kernel_rfl)) rfl ?_ ?_
              rotate_left
              · (intro w; go_simp <;> with_reducible rfl)
              simp only [Act.put, List.setIfInBounds_toArray, List.set_cons_zero, List.set_cons_succ]
              refine wpAnyU_takeW (v := ?_) 7 (ListAt.succ (ListAt.succ (ListAt.succ (ListAt.succ (ListAt.succ (ListAt.succ (ListAt.succ ListAt.zero))))))) (by kernel_rfl) (by kernel_rfl) (by kernel_rfl) (by kernel_rfl) (fun _ _ _ h => h) (past_k (by kernel_rfl)) rfl ?_ ?_
              rotate_left
              · (intro w; go_simp <;> with_reducible rfl)
              simp only [Act.put, List.setIfInBounds_toArray, List.set_cons_zero, List.set_cons_succ]
              refine wpAnyU_ready (rs := [9]) (by kernel_rfl) rfl ?_
              refine AllReadyU.free (ListAt.succ (ListAt.succ (ListAt.succ (ListAt.succ (ListAt.succ (ListAt.succ (ListAt.succ (ListAt.succ (ListAt.succ ListAt.zero))))))))) rfl (by kernel_rfl) (fun K hK => ?_) ?_
              · refine step_store_row rfl 29 _ _ rfl bX _ rfl rfl 29 zeroMem RX2.out (by kernel_rfl) rfl (by simp [Value.oneCell']) ?_
                have R9 := Lib.hid (setRow_heap u2 bX _ #[.slice Q1 m.words.length q1, .slice Q2 m.lists.length q2, .int .i64 m.tick] _ (0, 0) RX2.out)
                have HU9 := Lib.hid (row_below HU2.out hbXw.out #[.slice Q1 m.words.length q1, .slice Q2 m.lists.length q2, .int .i64 m.tick])
                have HQ9 := Lib.hid (HQ2.out.at (Of3.setRow bX u2 #[.slice Q1 m.words.length q1, .slice Q2 m.lists.length q2, .int .i64 m.tick]))
                generalize u2.setRow bX #[.slice Q1 m.words.length q1, .slice Q2 m.lists.length q2, .int .i64 m.tick] = u9 at *
                refine hK.out _ _ ?_
                clear hK K
                try simp only [Act.put, List.setIfInBounds_toArray, List.set_cons_zero, List.set_cons_succ]
                refine wpAnyU_takeW (v := ?_) 10 (ListAt.succ (ListAt.succ (ListAt.succ (ListAt.succ (ListAt.succ (ListAt.succ (ListAt.succ (ListAt.succ (ListAt.succ (ListAt.succ ListAt.zero)))))))))) (by kernel_rfl) (by kernel_rfl) (by kernel_rfl) (by kernel_rfl) (fun _ _ _ h => h) (past_k (by kernel_rfl)) rfl ?_ ?_
                rotate_left
                · (intro w; go_simp <;> with_reducible rfl)
                simp only [Act.put, List.setIfInBounds_toArray, List.set_cons_zero, List.set_cons_succ]
                refine wpAnyU_done (by kernel_rfl) ?_ _
                go_wp2_with fail
                go_meet
                exact ⟨bX, Q1, q1, Q2, q2, rfl, rfl, R9, HQ9, HU9⟩
              exact AllReadyU.nil
            exact AllReadyU.nil
          exact AllReadyU.nil
        case rest =>
          obtain ⟨X, Q1, q1, Q2, q2, rfl, rfl, RX, HMX, HBD⟩ := hcut
          obtain ⟨wD, rfl⟩ : ∃ w3 : World, w3 = wc := ⟨_, rfl⟩
          clear TE TEX KS P3
          have HBE := Lib.hid (below_then HB0B.out (below_then HBC.out HBD.out))
          have RM7 := Lib.hid ((HBE.out.block M hM0).trans RM.out)
          obtain ⟨x0, x1, x2⟩ := rowc3 RX.out
          obtain ⟨y0, y1, y2⟩ := rowc3 RM7.out
          go_wp2_with fail
          refine (sameMem_true _ _ m _ HMX.out (SM.out.below HBE.out)).mono ?_
          rintro e wE ⟨rfl, hbE⟩
          have HBF := Lib.hid (below_then HBE.out hbE)
          clear hbE x0 x1 x2 y0 y1 y2
          have HLE := Lib.hid (HL.out.below HBF.out)
          have HB0 := Lib.hid (below_then HBW.out HI.out.below)
          have RF7 := Lib.hid ((HBF.out.block F hF0).trans RF.out)
          by_cases hl0 : (l.length : Int) = 0
          · have HBZ := Lib.hid (below_then HB0.out HBF.out)
            go_wp2_with fail
            go_ret
            exact ⟨rfl, HBZ.out⟩
          have hl1 : 1 ≤ (l.length : Int) := by omega
          have hl1' : ¬ (l.length = 0) := by omega
          clear HL HL2 HRP RP RX HMQ HMX HBC HBD HB0B HB06 HBB HBA HR1 HR2 HFK RM7 hcap
          go_wp2_with fail
          refine (mod_any a1 (l.length : Int) _ (by omega) (by omega)).mono ?_
          rintro e wE2 ⟨rfl, hwE⟩
          obtain rfl := hwE
          obtain ⟨n, hn⟩ : ∃ n : Nat, a1 % (l.length : Int) = (n : Int) := ⟨(a1 % (l.length : Int)).toNat, by have := Int.emod_nonneg a1 (show (l.length : Int) ≠ 0 by omega); omega⟩
          have hnl : n < l.length := by have := Int.emod_lt_of_pos a1 (show (0 : Int) < (l.length : Int) by omega); omega
          rw [hn]
          clear hn
          go_upto_region 27 with (at_builtin; refine wp_copy_item_any _ rfl _ _ rfl _ l rfl rfl HLE.out (by omega) _ (Nat.le_refl _) ?_; intro v' wF ho hbF)
          have HO := Lib.hid ho
          have HBG := Lib.hid (below_then HBF.out hbF)
          have hDE := HBF.out.size
          clear ho hbF
          obtain ⟨g2, cap2, rfl, hg2, hg2l⟩ : ∃ g2 cap2, v' = .slice (some ⟨g2, 0, none⟩) l.length cap2 ∧ wE.heap.size ≤ g2 ∧ g2 < wF.heap.size := by
            rcases HO.out.shape with ⟨-, h⟩ | ⟨g, cap, h, h1, h2, -⟩
            · rw [h] at hl1; simp at hl1
            · exact ⟨g, cap, h, h1, h2⟩
          have SF2 := Lib.hid (SF.out.below HBG.out)
          have RF8 := Lib.hid ((HBG.out.block F hF0).trans RF.out)
          obtain ⟨x, hx⟩ : ∃ x, l.getD n noItem = x := ⟨_, rfl⟩
          have HX := Lib.hid hx
          have HXG : Hid x.good := by
            have h1 : (l[n]'hnl).good := HG.out _ (List.getElem_mem hnl)
            have h2 : l[n]'hnl = x := by rw [← hx, List.getD_eq_getElem?_getD, List.getElem?_eq_getElem hnl]; rfl
            exact h2 ▸ h1
          have HC : Hid (∀ j, j < 8 → wF.cell? ⟨g2, n * 8 + j, none⟩ = (itemCells x)[j]?) := fun j hj => by
            have h1 := World.ownsRow.cellAt HO.out (n * 8 + j) (by omega)
            rw [flatT_get l n j hnl hj, hx] at h1
            exact h1
          have HFZ : Hid (∀ j, wF.frozen? ⟨g2, j, none⟩ = false) := fun j => World.ownsRow.frozenAt HO.out j
          have hnI : (n : Int) < (l.length : Int) := by omega
          have h30 : 0 ≤ a3 ∧ a3 < 256 := by have := HA3.out; rw [IntKind.wrap_u8] at this; omega
          obtain ⟨h31, h32⟩ := h30
          clear hx RF7 SF HLE
          go_upto_block 2 with (fail)
          obtain ⟨r, hr⟩ : ∃ r, a3 % 4 = r := ⟨_, rfl⟩
          rw [hr]
          have HR4 : Hid (r = 0 ∨ r = 1 ∨ r = 2 ∨ r = 3) := by show r = 0 ∨ r = 1 ∨ r = 2 ∨ r = 3; omega
          clear hr
          go_cut [] (fun wx => ∃ (l2 : List ItemM), l2.length = l.length ∧ Hid (OwnT wx wE.heap.size (.slice (some ⟨g2, 0, none⟩) l.length cap2) l2) ∧ Hid (∀ y ∈ l2, y.good) ∧ Hid (Below wo.heap.size wo wx))
          case first =>
            have KB : Hid (∀ j v, Below wo.heap.size wo (wF.setCell ⟨g2, j, none⟩ v)) := fun j v => HBG.out.setCell (Nat.le_trans hDE hg2) v
            have KG : Hid (∀ y : ItemM, y.good → ∀ z ∈ l.set n y, z.good) := fun y hy z hz => by
              rcases List.mem_or_eq_of_mem_set hz with h | h
              · exact HG.out z h
              · exact h ▸ hy
            rcases HR4.out with rfl | rfl | rfl | rfl
            · have c := HC.out 6 (by omega)
              have f := HFZ.out (n * 8 + 6)
              simp [itemCells] at c
              go_wp2_with fail
              go_meet
              exact ⟨l.set n ⟨x.thr, x.acc, IntKind.u64.wrap (x.val + a3), x.ok⟩, by simp, Lib.hid (OwnT.setAt HO.out n 6 x _ _ hnl HX.out rfl (by omega) rfl), Lib.hid (KG.out _ ⟨HXG.out.thr, HXG.out.acc, wrapu_wrapu _⟩), Lib.hid (KB.out _ _)⟩
            · have c := HC.out 7 (by omega)
              have f := HFZ.out (n * 8 + 7)
              simp [itemCells] at c
              go_wp2_with fail
              go_meet
              exact ⟨l.set n ⟨x.thr, x.acc, x.val, !x.ok⟩, by simp, Lib.hid (OwnT.setAt HO.out n 7 x _ _ hnl HX.out rfl (by omega) rfl), Lib.hid (KG.out _ ⟨HXG.out.thr, HXG.out.acc, HXG.out.val⟩), Lib.hid (KB.out _ _)⟩
            · have c := HC.out 4 (by omega)
              have f := HFZ.out (n * 8 + 4)
              simp [itemCells] at c
              go_wp2_with fail
              go_meet
              exact ⟨l.set n ⟨x.thr, ⟨x.acc.kind, x.acc.addr, x.acc.old, IntKind.u64.wrap (x.acc.new + a3), x.acc.til⟩, x.val, x.ok⟩, by simp, Lib.hid (OwnT.setAt HO.out n 4 x _ _ hnl HX.out rfl (by omega) rfl), Lib.hid (KG.out _ ⟨HXG.out.thr, ⟨HXG.out.acc.1, HXG.out.acc.2, HXG.out.acc.3, wrapu_wrapu _, HXG.out.acc.5⟩, HXG.out.val⟩), Lib.hid (KB.out _ _)⟩
            · have c := HC.out 2 (by omega)
              have f := HFZ.out (n * 8 + 2)
              simp [itemCells] at c
              go_wp2_with fail
              go_meet
              exact ⟨l.set n ⟨x.thr, ⟨x.acc.kind, a3 / 4 % 8, x.acc.old, x.acc.new, x.acc.til⟩, x.val, x.ok⟩, by simp, Lib.hid (OwnT.setAt HO.out n 2 x _ _ hnl HX.out rfl (by omega) rfl), Lib.hid (KG.out _ ⟨HXG.out.thr, ⟨HXG.out.acc.1, (by show a3 / 4 % 8 = IntKind.i64.wrap (a3 / 4 % 8); rw [IntKind.wrap_i64]; omega), HXG.out.acc.3, HXG.out.acc.4, HXG.out.acc.5⟩, HXG.out.val⟩), Lib.hid (KB.out _ _)⟩
          case rest =>
            obtain ⟨l2, hl2, HO2, HG2, HBH⟩ := hcut
            obtain ⟨wG, rfl⟩ : ∃ w3 : World, w3 = wc := ⟨_, rfl⟩
            clear HC HFZ HX HO HBG HBF HBE HXG SF2 RF8
            have SF := Lib.hid (HI.out.first.at (OffV.self _ _ _ _))
            have HL3 : Hid (SlT wG (.slice (some ⟨g2, 0, none⟩) l.length cap2) l2) := HO2.out.read (by omega) HG2.out
            obtain ⟨mz, bz, hz⟩ : ∃ mz bz, replayE m3 l2 = (mz, bz) := ⟨_, _, rfl⟩
            have TZ : Hid (∀ w', Below wo.heap.size wo w' → Below wG.heap.size wG w' → Calls Try.prog 14 #[.agg #[.slice A3 m3.words.length c3, .slice A4 m3.lists.length c4, .int .i64 m3.tick], .slice (some ⟨g2, 0, none⟩) l.length cap2] w' (RepR (mz, bz) w')) := fun w' hb hb2 => by
              have := replay_any _ _ m3 l2 w' (SF.out.below hb) HF3.out (HL3.out.below hb2) (by omega)
              rw [hz] at this
              exact this
            have TZ2 : Hid (∀ w', Below wo.heap.size wo w' → Below wG.heap.size wG w' → Calls Try.prog 17 #[.agg #[.slice A3 m3.words.length c3, .slice A4 m3.lists.length c4, .int .i64 m3.tick], .slice (some ⟨g2, 0, none⟩) l.length cap2] w' (RepR (mz, bz) w')) := fun w' hb hb2 => by
              have := rreplay_any _ _ m3 l2 w' (SF.out.below hb) HF3.out (HL3.out.below hb2) (by omega)
              rw [hz] at this
              exact this
            clear hz
            have RF9 := Lib.hid ((HBH.out.block F hF0).trans RF.out)
            obtain ⟨x0, x1, x2⟩ := rowc3 RF9.out
            go_wp2_with fail
            refine (TZ.out _ HBH.out (Below.refl _ _)).mono ?_
            rintro e wH ⟨vH, rfl, hH, hbH⟩
            dsimp only at hH
            dsimp only
            have HH := Lib.hid hH
            have HBHG : Hid (Below wG.heap.size wG wH) := hbH
            obtain ⟨C0, k0, C2, k2, rfl⟩ : ∃ A c A2 c2, vH = .agg #[.slice A mz.words.length c, .slice A2 mz.lists.length c2, .int .i64 mz.tick] := hH.over.open wH (Over.self wH)
            clear hH hbH x0 x1 x2
            obtain ⟨W10, hW10⟩ : ∃ W10, (wH.alloc (.cells zeroMem 29)).setRow wH.heap.size #[.slice C0 mz.words.length k0, .slice C2 mz.lists.length k2, .int .i64 mz.tick] = W10 := ⟨_, rfl⟩
            have N10 : Hid ((wH.alloc (.cells zeroMem 29)).heap[wH.heap.size]? = some (.cells zeroMem 29 (0, 0))) := heap_alloc_new _ _
            have HB10 : Hid (Below wH.heap.size wH W10) := hW10 ▸ row_below (below_new (Below.refl _ _) _) (Nat.le_refl _) _
            have R10 : Hid (W10.heap[wH.heap.size]? = some (.cells #[.slice C0 mz.words.length k0, .slice C2 mz.lists.length k2, .int .i64 mz.tick] 29 (0, 0))) := hW10 ▸ setRow_heap _ _ _ _ _ (0, 0) N10.out
            have HW10 := Lib.hid hW10
            clear hW10
            go_upto_region 37 with (refine wpList_store_row rfl 29 _ _ rfl (wH.heap.size) _ rfl rfl 29 zeroMem N10.out (by kernel_rfl) rfl (by simp [Value.oneCell']) ?_)
            rw [show (#[.slice none 0 0, .slice none 0 0, .int .i64 0] : Array Value) = zeroMem from rfl, HW10.out]
            try simp only [Act.put]
            clear HW10 N10
            have HB10G := Lib.hid (below_then HBHG.out HB10.out)
            have HB10O := Lib.hid (below_then HBH.out HB10G.out)
            have HM10 := Lib.hid (HH.out.below HB10.out)
            have RF10 := Lib.hid ((HB10O.out.block F hF0).trans RF.out)
            obtain ⟨PH, hPH⟩ : ∃ P, wH.heap.size = P := ⟨_, rfl⟩
            rw [hPH] at R10
            rw [hPH]
            clear hPH
            obtain ⟨x0, x1, x2⟩ := rowc3 RF10.out
            go_wp2_with fail
            refine (TZ2.out _ HB10O.out HB10G.out).mono ?_
            rintro e wI ⟨vI, rfl, hI, hbI⟩
            dsimp only at hI
            dsimp only
            have HHI := Lib.hid hI
            have HBI : Hid (Below W10.heap.size W10 wI) := hbI
            obtain ⟨E0, e0, E2, e2, rfl⟩ : ∃ A c A2 c2, vI = .agg #[.slice A mz.words.length c, .slice A2 mz.lists.length c2, .int .i64 mz.tick] := hI.over.open wI (Over.self wI)
            clear hI hbI x0 x1 x2
            obtain ⟨W11, hW11⟩ : ∃ W11, (wI.alloc (.cells zeroMem 29)).setRow wI.heap.size #[.slice E0 mz.words.length e0, .slice E2 mz.lists.length e2, .int .i64 mz.tick] = W11 := ⟨_, rfl⟩
            have N11 : Hid ((wI.alloc (.cells zeroMem 29)).heap[wI.heap.size]? = some (.cells zeroMem 29 (0, 0))) := heap_alloc_new _ _
            have HB11 : Hid (Below wI.heap.size wI W11) := hW11 ▸ row_below (below_new (Below.refl _ _) _) (Nat.le_refl _) _
            have R11 : Hid (W11.heap[wI.heap.size]? = some (.cells #[.slice E0 mz.words.length e0, .slice E2 mz.lists.length e2, .int .i64 mz.tick] 29 (0, 0))) := hW11 ▸ setRow_heap _ _ _ _ _ (0, 0) N11.out
            have HW11 := Lib.hid hW11
            clear hW11
            go_upto_region 38 with (refine wpList_store_row rfl 29 _ _ rfl (wI.heap.size) _ rfl rfl 29 zeroMem N11.out (by kernel_rfl) rfl (by simp [Value.oneCell']) ?_)
            rw [show (#[.slice none 0 0, .slice none 0 0, .int .i64 0] : Array Value) = zeroMem from rfl, HW11.out]
            try simp only [Act.put]
            clear HW11 N11
            have HB1011 := Lib.hid (below_then HBI.out HB11.out)
            have HB11O := Lib.hid (below_then HB10O.out HB1011.out)
            have HM11 := Lib.hid (HHI.out.below HB11.out)
            have HM10' := Lib.hid (HM10.out.below HB1011.out)
            have R10' := Lib.hid ((HB1011.out.block PH (Array.getElem?_eq_some_iff.1 R10.out).1).trans R10.out)
            obtain ⟨PI, hPI⟩ : ∃ P, wI.heap.size = P := ⟨_, rfl⟩
            rw [hPI] at R11
            rw [hPI]
            clear hPI
            obtain ⟨x0, x1, x2⟩ := rowc3 R10'.out
            obtain ⟨y0, y1, y2⟩ := rowc3 R11.out
            go_wp2_with fail
            refine (sameMem_true _ _ mz _ HM10'.out HM11.out).mono ?_
            rintro e wJ ⟨rfl, hbJ⟩
            have HBJ := Lib.hid (below_then HB0.out (below_then HB11O.out hbJ))
            clear hbJ x0 x1 x2 y0 y1 y2
            go_wp2_with fail
            go_ret
            exact ⟨rfl, HBJ.out⟩
set_option maxRecDepth 100000 in
theorem lifted (os : Os) (started : os.Started) (H : Type) (enc : TypeId × Value → H) :
    ReturnsInHanded {} Try.checked os 3 .any (Rows.traceReplaysSpec.pre6 enc Try.prog Try.f3 Rows.traceReplaysRow.domain false) (Rows.traceReplaysSpec.post enc Try.prog Try.f3 false true false false) := by
  refine returnsInHanded_of_change_sized (C := Try.checked) own started (by kernel_rfl) Try.func3
    (ChangeSpec.witness6 (enc := enc) (C := Try.checked) false ⟨#[], #[.slice none 0 0, .int .i64 0, .int .i64 0, .int .u8 0], []⟩ 8 (by kernel_rfl) (by kernel_rfl) (by kernel_rfl) (by kernel_rfl)) ?_
  intro W base args ds gs before hval0 hW _ hsz0 _
  have hsz : (DataW.weightsEach Try.prog (Try.f3.params.toList ++ Rows.traceReplaysSpec.plain.varTypes Try.prog) (ds ++ gs)).all (· ≤ reachBytes) = true := hsz0
  clear hsz0
  have hval : ∀ (j : Nat) t v, Try.f3.params[j]? = some t → args[j]? = some v → Value.okWide Try.prog W .any base t v := hval0
  have hW' := hW
  obtain ⟨p, q, hA0, hV, rfl, _, _⟩ := hW
  have hA : DataW.TrodAll enc Try.prog W 0 (fun _ => true) true Try.f3.params.toList args.toList ds p := hA0
  rw [Try.params3] at hA hval hsz
  obtain ⟨v0, vs0, d0, ds0, p0, q0, hargs, rfl, rfl, h0, r0⟩ := trodAll_cons hA
  obtain ⟨v1, vs1, d1, ds1, p1, q1, rfl, rfl, rfl, h1, r1⟩ := trodAll_cons r0
  obtain ⟨v2, vs2, d2, ds2, p2, q2, rfl, rfl, rfl, h2, r2⟩ := trodAll_cons r1
  obtain ⟨v3, vs3, d3, ds3, p3, q3, rfl, rfl, rfl, h3, r3⟩ := trodAll_cons r2
  obtain ⟨rfl, rfl, rfl⟩ := trodAll_nil r3
  obtain rfl : args = #[v0, v1, v2, v3] := by cases args; simp_all
  obtain ⟨rfl, rfl⟩ := trodVars_none hV
  have k0 := h0
  have k1 := h1
  have k2 := h2
  have k3 := h3
  obtain ⟨l0, s0⟩ := view_sl (k := .u8) Try.underlying22 Try.underlying5 (by kernel_rfl) (fun elems sp hd => sized_slice hsz (j := 0) (t := 22) (e := 5) rfl (by rw [hd]; rfl) Try.underlying22) (of_decide_eq_true (by kernel_rfl)) (hval 0 22 v0 rfl rfl) h0
  obtain ⟨a1, rfl, -, -, w1⟩ := open_int Try.underlying3 (hval 1 3 v1 rfl rfl) h1
  obtain ⟨a2, rfl, -, -, w2⟩ := open_int Try.underlying3 (hval 2 3 v2 rfl rfl) h2
  obtain ⟨a3, rfl, -, -, w3⟩ := open_int Try.underlying5 (hval 3 5 v3 rfl rfl) h3
  clear hA0 hval0
  simp only [List.append_nil] at hW'
  have hlt := hW'.lt
  refine (walk W v0 l0 s0 a1 w1 a2 w2 a3 w3).mono fun e W' ⟨he, hb⟩ => ?_
  subst he
  exact ⟨_, rfl, _, _, _, [], _, [], hW', trodAll_cons_mk (shut_bool Try.underlying4 _) trodAll_mk0, (trodAll_cons_mk (Below.trod Try.laidOut (by kernel_rfl) (of_decide_eq_true (by kernel_rfl)) k0 hb (fun x hx => by simpa using hlt x (by simp [hx]))) (trodAll_cons_mk (Below.trod Try.laidOut (by kernel_rfl) (of_decide_eq_true (by kernel_rfl)) k1 hb (fun x hx => by simpa using hlt x (by simp [hx]))) (trodAll_cons_mk (Below.trod Try.laidOut (by kernel_rfl) (of_decide_eq_true (by kernel_rfl)) k2 hb (fun x hx => by simpa using hlt x (by simp [hx]))) (trodAll_cons_mk (Below.trod Try.laidOut (by kernel_rfl) (of_decide_eq_true (by kernel_rfl)) k3 hb (fun x hx => by simpa using hlt x (by simp [hx]))) trodAll_mk0)))), rfl, hb.frame _, fun h => by cases h⟩
theorem over : Rows.traceReplaysRow.holds Try.pinned (OpenSpec.ofChange Rows.traceReplaysSpec) :=
  OpenClaim.holds_of_wide 3 Try.f3 rfl rfl rfl rfl rfl rfl rfl ⟨rfl, rfl, rfl, rfl, rfl⟩ rfl rfl rfl rfl rfl (by kernel_rfl) Try.func3 (by kernel_rfl)
    (of_decide_eq_true (by kernel_rfl)) (by unfold Func.isWrapper; first | (rw [if_pos (by decide +kernel)]; kernel_rfl) | (rw [if_neg (by decide +kernel)]; exact ⟨rfl, rfl⟩))
    (fun os started H enc _ => lifted os started H enc)
/-- THE STATEMENT -/
theorem proved : Rows.TraceReplaysSaid :=
  over
end Go.Proofs.Ytipjfcjdefdoeaa.traceReplays
