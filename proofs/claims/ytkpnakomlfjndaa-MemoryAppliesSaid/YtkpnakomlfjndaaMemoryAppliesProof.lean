/- Proved: MemoryApplies returns true, and its arguments read afterwards as before, for every memory raw, every access a and every list of codes; no condition. -/
import Derived.Test.YtkpnakomlfjndaaLaw
import Derived.Test.YtkpnakomlfjndaaLawMm
import Derived.Test.YtkpnakomlfjndaaL4Awake
import Derived.Test.YtkpnakomlfjndaaMmS
import Derived.Test.YtkpnakomlfjndaaMmE
import Derived.Test.YtkpnakomlfjndaaMmH
import Derived.Deep.DeepCutAuto
import Derived.Deep.CutBlock
import Derived.LoopTactic
import Derived.WalkKit
import Derived.ProofKit
import Derived.OpenShut
import Derived.SizedLaws
namespace Go.Proofs.Ytkpnakomlfjndaa.memoryApplies
open Go.ChangeShapes Go.WideShapes Go.ChangeAt Go.RowKit
set_option linter.unusedVariables false
theorem agg_mem {A A2 : Option Addr} {n1 c n2 c2 : Nat} {t : Int} {G : World → Prop} {m : MemM} (h : StM G (.agg #[.slice A n1 c, .slice A2 n2 c2, .int .i64 t]) m) (w : World) (hG : G w) : n1 = m.words.length ∧ n2 = m.lists.length ∧ t = m.tick := by
  obtain ⟨a, cap, a2, cap2, e⟩ := h.open w hG
  simp only [Value.agg.injEq, Array.mk.injEq, List.cons.injEq, Value.slice.injEq, Value.int.injEq, and_true, true_and] at e
  exact ⟨e.1.2.1, e.2.1.2.1, e.2.2⟩
theorem StA.at {G : World → Prop} {v : Value} {b : AnsM} {w : World} (h : StA G v b) (hG : G w) : ∃ vl, v = .agg #[.int .u64 b.val, .bool b.ok, .bool b.late, vl] ∧ SlI w .i64 vl b.list := by
  obtain ⟨vl, e, h1⟩ := h; exact ⟨vl, e, h1 w hG⟩
def AnsV (w : World) (v : Value) (b : AnsM) : Prop := ∃ vl, v = .agg #[.int .u64 b.val, .bool b.ok, .bool b.late, vl] ∧ SlI w .i64 vl b.list
theorem AnsV.below {w w' : World} {v : Value} {b : AnsM} (h : AnsV w v b) (hb : Below w.heap.size w w') : AnsV w' v b := by
  obtain ⟨vl, e, h1⟩ := h; exact ⟨vl, e, h1.below hb⟩
set_option maxRecDepth 100000 in
set_option maxHeartbeats 16000000 in
theorem walk (w : World) (v0 : Value) (m0 : MemM) (s0 : MemV w v0 m0) (o0 : m0.tick = IntKind.i64.wrap m0.tick) (b1 : AccM) (o1 : b1.ok) (v2 : Value) (l2 : List Int) (s2 : SlI w .u8 v2 l2) :
    Calls Try.prog 3 #[v0, accV b1, v2] w fun e w' => e = .returned (.bool true) ∧ Below w.heap.size w w' := by
  have AW := Lib.hid fun w' => awake4_any w'
  have HS2 := Lib.hid s2
  have HV0 := Lib.hid s0
  have HO1 := Lib.hid o1
  have HT0 := Lib.hid o0
  have hwf0 : Hid (∀ x ∈ m0.words, x = IntKind.u64.wrap x) := by obtain ⟨vw, vl, us, -, h1, -⟩ := s0; exact h1.2.1
  obtain ⟨vw, vl, us, rfl, h1, h2⟩ := s0
  obtain ⟨a1, cap, rfl, -⟩ := h1.len
  obtain ⟨a2, cap2, rfl, -⟩ := h2.len
  clear h1 h2 s2 o1 o0
  obtain ⟨W, hW⟩ : ∃ W, (w.alloc (.cells #[.slice a1 m0.words.length cap, .slice a2 m0.lists.length cap2, .int .i64 m0.tick] 25)).alloc (.cells #[.int .i64 b1.kind, .int .i64 b1.addr, .int .u64 b1.old, .int .u64 b1.new, .int .i64 b1.til] 28) = W := ⟨_, rfl⟩
  have HB : Hid (Below w.heap.size w W) := hW ▸ below_new (below_new (Below.refl w.heap.size w) _) _
  have R0 : Hid (W.heap[w.heap.size]? = some (.cells #[.slice a1 m0.words.length cap, .slice a2 m0.lists.length cap2, .int .i64 m0.tick] 25 (0, 0))) := hW ▸ heap_alloc2_old _ _ _
  have R1 : Hid (W.heap[w.heap.size + 1]? = some (.cells #[.int .i64 b1.kind, .int .i64 b1.addr, .int .u64 b1.old, .int .u64 b1.new, .int .i64 b1.til] 28 (0, 0))) := hW ▸ heap_alloc2_new _ _ _
  have hz : w.heap.size + 2 = W.heap.size := by rw [← hW]; simp
  have HW := Lib.hid hW
  clear hW
  unfold accV
  go_enter Try.func3, Try.ntmps3
  go_upto_region 1 with fail
  rw [HW.out]
  clear HW
  go_wp2_with fail
  refine (AW.out _).mono ?_; rintro e wa ⟨rfl, hba⟩
  have HBA := Lib.hid (below_then HB.out hba)
  have Q0 := Lib.hid ((hba.block w.heap.size (by omega)).trans R0.out)
  have Q1 := Lib.hid ((hba.block (w.heap.size + 1) (by omega)).trans R1.out)
  have hza := hba.size
  clear hba HB R0 R1 AW
  obtain ⟨x0, x1, x2⟩ := rowc3 Q0.out
  go_wp2_with fail
  refine (memBig_any _ m0 _ (HV0.out.below HBA.out)).mono ?_; rintro e w2 ⟨bg, rfl, hbg, hb2⟩
  have HB2 := Lib.hid (below_then HBA.out hb2)
  have P0 := Lib.hid ((hb2.block w.heap.size (by omega)).trans Q0.out)
  have P1 := Lib.hid ((hb2.block (w.heap.size + 1) (by omega)).trans Q1.out)
  have hz2 := hb2.size
  clear hb2 x0 x1 x2 Q0 Q1 HBA
  cases bg with
  | true =>
    go_wp2
    go_ret
    exact ⟨rfl, HB2.out⟩
  | false =>
    have HF0 := Lib.hid (fits_raw hwf0.out HT0.out (hbg rfl))
    clear hbg hwf0 HT0
    go_wp2_with fail
    refine (new_any _ l2 120 _ (HS2.out.below HB2.out) (by omega)).mono ?_; rintro e wb ⟨rfl, hcb, hbb⟩
    have HCB : Hid (CodesE wb w2.heap.size) := ⟨_, _, hcb⟩
    have HBB : Hid (Below w2.heap.size w2 wb) := hbb
    clear hcb hbb HS2
    obtain ⟨g, hg⟩ : ∃ g, w2.heap.size = g := ⟨_, rfl⟩
    rw [hg] at HCB
    rw [hg]
    go_wp2_with fail
    refine (memoryE g _ HCB.out).mono ?_; rintro e w3 ⟨v3, m3, rfl, hst, hfits, ht, hwn, hln, hc3, hg3⟩
    have HB23 : Hid (Below w2.heap.size w2 w3) := HBB.out.grown hg3 HBB.out.size (fun k hk => by cases hk; omega)
    obtain ⟨A3, c3, A4, c4, rfl⟩ := hst.open w3 (grownBy_refl _ _)
    have HST := Lib.hid hst
    have HF3 := Lib.hid hfits
    have HC3 := Lib.hid hc3
    have hgl := hc3.lt
    have hgw : w.heap.size + 2 ≤ g := by omega
    clear hst hfits hc3 hg3 HCB HBB ht
    obtain ⟨W4, hW4⟩ : ∃ W4, (w3.alloc (.cells zeroMem 25)).setRow w3.heap.size #[.slice A3 m3.words.length c3, .slice A4 m3.lists.length c4, .int .i64 m3.tick] = W4 := ⟨_, rfl⟩
    have N4 : Hid ((w3.alloc (.cells zeroMem 25)).heap[w3.heap.size]? = some (.cells zeroMem 25 (0, 0))) := heap_alloc_new _ _
    have HB4 : Hid (Below w3.heap.size w3 W4) := hW4 ▸ row_below (below_new (Below.refl _ _) _) (Nat.le_refl _) _
    have R4 : Hid (W4.heap[w3.heap.size]? = some (.cells #[.slice A3 m3.words.length c3, .slice A4 m3.lists.length c4, .int .i64 m3.tick] 25 (0, 0))) := hW4 ▸ setRow_heap _ _ _ _ _ (0, 0) N4.out
    have HW4 := Lib.hid hW4
    clear hW4
    go_upto_region 7 with (refine wpList_store_row rfl 25 _ _ rfl (w3.heap.size) _ rfl rfl 25 zeroMem N4.out (by kernel_rfl) rfl (by simp [Value.oneCell']) ?_)
    rw [show (#[.slice none 0 0, .slice none 0 0, .int .i64 0] : Array Value) = zeroMem from rfl, HW4.out]
    try simp only [Act.put]
    clear HW4 N4
    have HI0 : Hid (MemS w2 W4 g w3.heap.size m3) := ⟨by omega, hgl, HC3.out.kept hgl HB4.out, ⟨A3, c3, A4, c4, R4.out, HST.out.off HB4.out (Nat.le_refl _)⟩, HF3.out, hwn, hln, below_then HB23.out HB4.out⟩
    obtain ⟨M, hM⟩ : ∃ M, w3.heap.size = M := ⟨_, rfl⟩
    rw [hM] at HI0
    rw [hM]
    clear HST HF3 HC3 HB23 HB4 R4 hwn hln hM hgl
    go_wp2_with fail
    go_loopw [9] (fun u wr => ∃ i : Nat, i ≤ 12 ∧ u = .int .i64 i ∧ ∃ m, Hid (MemS w2 wr g M m)) (fun u _ => 13 - (intOf u).toNat)
    case atStart => exact ⟨0, by omega, rfl, _, HI0⟩
    case round =>
      clear HI0
      obtain ⟨i, hi, rfl, m, HI⟩ := hrel
      obtain ⟨wo, rfl⟩ : ∃ wo : World, wo = wr := ⟨_, rfl⟩
      by_cases hlt : i < 12
      · have hltI : (i : Int) < 12 := by omega
        obtain ⟨A, c, A2, c2, RM, -⟩ := HI.out.open
        obtain ⟨x0, x1, x2⟩ := rowc3 RM.out
        have hwl := HI.out.wl
        have hll := HI.out.ll
        go_wp2_with fail
        refine (accessE g A A2 _ c _ c2 _ _ HI.out.codes (by omega) (by omega)).mono ?_; rintro e w5 ⟨ac, rfl, hac, hc5, hg5⟩
        have HI5 := Lib.hid (HI.out.drawn hc5 hg5)
        have HAC := Lib.hid hac
        clear hac hc5 hg5 HI x0 x1 x2 RM
        unfold accV
        obtain ⟨W5, hW5⟩ : ∃ W5, (w5.alloc (.cells zeroAcc 28)).setRow w5.heap.size #[.int .i64 ac.kind, .int .i64 ac.addr, .int .u64 ac.old, .int .u64 ac.new, .int .i64 ac.til] = W5 := ⟨_, rfl⟩
        have N5 : Hid ((w5.alloc (.cells zeroAcc 28)).heap[w5.heap.size]? = some (.cells zeroAcc 28 (0, 0))) := heap_alloc_new _ _
        have HB5 : Hid (Below w5.heap.size w5 W5) := hW5 ▸ row_below (below_new (Below.refl _ _) _) (Nat.le_refl _) _
        have R5 : Hid (W5.heap[w5.heap.size]? = some (.cells #[.int .i64 ac.kind, .int .i64 ac.addr, .int .u64 ac.old, .int .u64 ac.new, .int .i64 ac.til] 28 (0, 0))) := hW5 ▸ setRow_heap _ _ _ _ _ (0, 0) N5.out
        have HW5 := Lib.hid hW5
        clear hW5
        go_upto_region 11 with (refine wpList_store_row rfl 28 _ _ rfl (w5.heap.size) _ rfl rfl 28 zeroAcc N5.out (by kernel_rfl) rfl (by simp [Value.oneCell']) ?_)
        rw [show (#[.int .i64 0, .int .i64 0, .int .u64 0, .int .u64 0, .int .i64 0] : Array Value) = zeroAcc from rfl, HW5.out]
        try simp only [Act.put]
        clear HW5 N5
        have HI6 := Lib.hid (HI5.out.next HB5.out)
        have hMX : M < w5.heap.size := HI5.out.lt
        have hgM := HI5.out.gm
        obtain ⟨X, hX⟩ : ∃ X, w5.heap.size = X := ⟨_, rfl⟩
        rw [hX] at R5 hMX
        rw [hX]
        have HX := Lib.hid hX
        clear hX
        go_upto_if 39 with (fail)
        go_cut [] (fun wx => ∃ a : AccM, Hid a.ok ∧ Hid (wx.heap[X]? = some (.cells #[.int .i64 a.kind, .int .i64 a.addr, .int .u64 a.old, .int .u64 a.new, .int .i64 a.til] 28 (0, 0))) ∧ Hid (MemS w2 wx g M m))
        case first =>
          by_cases h5 : i = 5
          · subst h5
            have P1' := Lib.hid ((HI6.out.below.block (w.heap.size + 1) (by omega)).trans P1.out)
            obtain ⟨y0, y1, y2, y3, y4⟩ := rowc5 P1'.out
            have R6 := Lib.hid (setRow_heap W5 X _ #[.int .i64 b1.kind, .int .i64 b1.addr, .int .u64 b1.old, .int .u64 b1.new, .int .i64 b1.til] _ (0, 0) R5.out)
            have HI7 : Hid (MemS w2 (W5.setRow X #[.int .i64 b1.kind, .int .i64 b1.addr, .int .u64 b1.old, .int .u64 b1.new, .int .i64 b1.til]) g M m) := HI5.out.move ⟨by have := HB5.out.size; simp [World.setRow]; omega, fun j hj h1 h2 => (setRow_other _ _ _ _ (by have := HX.out; omega)).trans (HB5.out.block j hj)⟩ ((setRow_other _ _ _ _ (by omega)).trans (HB5.out.block M (by have := HX.out; omega))) (HI6.out.codes.kept (B := X) (by omega) (row_below (Below.refl X W5) (Nat.le_refl _) _)) (row_below HI6.out.below (by have := HI5.out.g0; omega) _)
            go_wp2_with (refine wpList_store_row rfl 28 _ _ rfl X _ rfl rfl 28 _ R5.out (by kernel_rfl) rfl (by simp [Value.oneCell']) ?_)
            go_meet
            exact ⟨b1, HO1, R6, HI7⟩
          · have h5b : ((i : Int) == 5) = false := ne_beq (by omega)
            go_wp2_with fail
            go_meet
            exact ⟨ac, HAC, R5, HI6⟩
        case rest =>
          obtain ⟨a, HA, RX, HI7⟩ := hcut
          obtain ⟨w7, rfl⟩ : ∃ w7 : World, w7 = wc := ⟨_, rfl⟩
          clear HI6 R5 HAC
          obtain ⟨A, c, A2, c2, RM, HST⟩ := HI7.out.open
          obtain ⟨x0, x1, x2⟩ := rowc3 RM.out
          obtain ⟨y0, y1, y2, y3, y4⟩ := rowc5 RX.out
          have lM : M < w7.heap.size := HI7.out.lt
          have lX : X < w7.heap.size := (Array.getElem?_eq_some_iff.1 RX.out).1
          have TA := Lib.hid fun w' (hb : Below w7.heap.size w7 w') => apply_any (Off g M w7) _ m a w' (Off.below hb) (Off.wide g M w7) HST.out HI7.out.fits HA.out
          have TR := Lib.hid fun w' (hb : Below w7.heap.size w7 w') => rapply_any (Off g M w7) _ m a w' (Off.below hb) (Off.wide g M w7) HST.out HI7.out.fits HA.out
          have HFR := Lib.hid (fits_apply HI7.out.fits HA.out)
          have HSZ := Lib.hid (applyE_one m a).sizes
          unfold accV at TA TR
          try dsimp only at TA TR
          obtain ⟨r, hr⟩ : ∃ r, applyE m a = r := ⟨_, rfl⟩
          rw [hr] at TA TR HFR HSZ
          clear hr
          have HBz : Hid (Below w7.heap.size w7 w7) := Below.refl _ _
          go_wp2_with fail
          refine (TA.out w7 HBz.out).mono ?_; rintro e v1 ⟨u1, z1, rfl, hs1, ha1, hb1⟩
          obtain ⟨P1, pn1, pc1, Q1, qn1, qc1, pt1, rfl⟩ := hs1.shape v1 (Nx.at (Off.below HBz.out) (Off.wide _ _ _) hb1)
          obtain ⟨ax1, ap1, aq1, AL1, al1, ac1, rfl⟩ := ha1.shape v1 (Nx.at (Off.below HBz.out) (Off.wide _ _ _) hb1)
          have HSa := Lib.hid hs1
          have HVa := Lib.hid (hs1.at (Nx.at (Off.below HBz.out) (Off.wide _ _ _) hb1))
          have HUa : Hid (AnsV v1 (.agg #[.int .u64 ax1, .bool ap1, .bool aq1, .slice AL1 al1 ac1]) r.2.1) := StA.at ha1 (Nx.at (Off.below HBz.out) (Off.wide _ _ _) hb1)
          have HBa := Lib.hid hb1
          have HBq := Lib.hid (below_then HBz.out hb1)
          have RM := Lib.hid ((HBa.out.block (M) lM).trans RM.out)
          have RX := Lib.hid ((HBa.out.block (X) lX).trans RX.out)
          have lM := Nat.lt_of_lt_of_le lM HBa.out.size
          have lX := Nat.lt_of_lt_of_le lX HBa.out.size
          clear hs1 ha1 hb1 x0 x1 x2 y0 y1 y2 y3 y4
          have Z11 : Hid (((v1.alloc (.cells zeroMem 25)).alloc (.cells zeroAns 38)).heap[v1.heap.size]? = some (.cells zeroMem 25 (0, 0))) := heap_alloc2_old _ _ _
          have Z21 : Hid (∀ cs, (((v1.alloc (.cells zeroMem 25)).alloc (.cells zeroAns 38)).setRow v1.heap.size cs).heap[v1.heap.size + 1]? = some (.cells zeroAns 38 (0, 0))) := fun cs => (setRow_other _ _ _ _ (by omega)).trans (heap_alloc2_new _ _ _)
          obtain ⟨W1, hW1⟩ : ∃ W1, (((v1.alloc (.cells zeroMem 25)).alloc (.cells zeroAns 38)).setRow v1.heap.size #[.slice P1 pn1 pc1, .slice Q1 qn1 qc1, .int .i64 pt1]).setRow (v1.heap.size + 1) #[.int .u64 ax1, .bool ap1, .bool aq1, .slice AL1 al1 ac1] = W1 := ⟨_, rfl⟩
          have HBWa : Hid (Below v1.heap.size v1 W1) := hW1 ▸ row_below (row_below (below_new (below_new (Below.refl _ _) _) _) (Nat.le_refl _) _) (Nat.le_succ _) _
          have RMa : Hid (W1.heap[v1.heap.size]? = some (.cells #[.slice P1 pn1 pc1, .slice Q1 qn1 qc1, .int .i64 pt1] 25 (0, 0))) := hW1 ▸ (setRow_other _ _ _ _ (by omega)).trans (setRow_heap _ _ _ _ _ (0, 0) Z11.out)
          have RAa : Hid (W1.heap[v1.heap.size + 1]? = some (.cells #[.int .u64 ax1, .bool ap1, .bool aq1, .slice AL1 al1 ac1] 38 (0, 0))) := hW1 ▸ setRow_heap _ _ _ _ _ (0, 0) (Z21.out _)
          have HW1 := Lib.hid hW1
          clear hW1
          go_upto_region 14 with (first
            | (refine wpList_store_row rfl 25 _ _ rfl (v1.heap.size) _ rfl rfl 25 zeroMem Z11.out (by kernel_rfl) rfl (by simp [Value.oneCell']) ?_)
            | (refine wpList_store_row rfl 38 _ _ rfl (v1.heap.size + 1) _ rfl rfl 38 zeroAns (Z21.out _) (by kernel_rfl) rfl (by simp [Value.oneCell']) ?_))
          rw [show (#[.slice none 0 0, .slice none 0 0, .int .i64 0] : Array Value) = zeroMem from rfl, show (#[.int .u64 0, .bool false, .bool false, .slice none 0 0] : Array Value) = zeroAns from rfl, HW1.out]
          try simp only [Act.put]
          clear HW1 Z11 Z21
          have HMa := Lib.hid (HVa.out.below HBWa.out)
          have HAa := Lib.hid (HUa.out.below HBWa.out)
          have HBz := Lib.hid (below_then HBq.out HBWa.out)
          have RM := Lib.hid ((HBWa.out.block (M) lM).trans RM.out)
          have RX := Lib.hid ((HBWa.out.block (X) lX).trans RX.out)
          have lM := Nat.lt_of_lt_of_le lM HBWa.out.size
          have lX := Nat.lt_of_lt_of_le lX HBWa.out.size
          obtain ⟨x0, x1, x2⟩ := rowc3 RM.out
          obtain ⟨y0, y1, y2, y3, y4⟩ := rowc5 RX.out
          have lPa : v1.heap.size < W1.heap.size := (Array.getElem?_eq_some_iff.1 RMa.out).1
          have lBa : v1.heap.size + 1 < W1.heap.size := (Array.getElem?_eq_some_iff.1 RAa.out).1
          have HBW1 := Lib.hid HBz.out
          go_wp2_with fail
          refine (TR.out W1 HBz.out).mono ?_; rintro e v2 ⟨u2, z2, rfl, hs2, ha2, hb2⟩
          obtain ⟨P2, pn2, pc2, Q2, qn2, qc2, pt2, rfl⟩ := hs2.shape v2 (Nx.at (Off.below HBW1.out) (Off.wide _ _ _) hb2)
          obtain ⟨ax2, ap2, aq2, AL2, al2, ac2, rfl⟩ := ha2.shape v2 (Nx.at (Off.below HBW1.out) (Off.wide _ _ _) hb2)
          have HSb := Lib.hid hs2
          have HVb := Lib.hid (hs2.at (Nx.at (Off.below HBW1.out) (Off.wide _ _ _) hb2))
          have HUb : Hid (AnsV v2 (.agg #[.int .u64 ax2, .bool ap2, .bool aq2, .slice AL2 al2 ac2]) r.2.1) := StA.at ha2 (Nx.at (Off.below HBW1.out) (Off.wide _ _ _) hb2)
          have HBb := Lib.hid hb2
          have HBq := Lib.hid (below_then HBz.out hb2)
          have RM := Lib.hid ((HBb.out.block (M) lM).trans RM.out)
          have RX := Lib.hid ((HBb.out.block (X) lX).trans RX.out)
          have RMa := Lib.hid ((HBb.out.block (v1.heap.size) lPa).trans RMa.out)
          have RAa := Lib.hid ((HBb.out.block (v1.heap.size + 1) lBa).trans RAa.out)
          have lM := Nat.lt_of_lt_of_le lM HBb.out.size
          have lX := Nat.lt_of_lt_of_le lX HBb.out.size
          have lPa := Nat.lt_of_lt_of_le lPa HBb.out.size
          have lBa := Nat.lt_of_lt_of_le lBa HBb.out.size
          clear hs2 ha2 hb2 x0 x1 x2 y0 y1 y2 y3 y4
          have Z12 : Hid (((v2.alloc (.cells zeroMem 25)).alloc (.cells zeroAns 38)).heap[v2.heap.size]? = some (.cells zeroMem 25 (0, 0))) := heap_alloc2_old _ _ _
          have Z22 : Hid (∀ cs, (((v2.alloc (.cells zeroMem 25)).alloc (.cells zeroAns 38)).setRow v2.heap.size cs).heap[v2.heap.size + 1]? = some (.cells zeroAns 38 (0, 0))) := fun cs => (setRow_other _ _ _ _ (by omega)).trans (heap_alloc2_new _ _ _)
          obtain ⟨W2, hW2⟩ : ∃ W2, (((v2.alloc (.cells zeroMem 25)).alloc (.cells zeroAns 38)).setRow v2.heap.size #[.slice P2 pn2 pc2, .slice Q2 qn2 qc2, .int .i64 pt2]).setRow (v2.heap.size + 1) #[.int .u64 ax2, .bool ap2, .bool aq2, .slice AL2 al2 ac2] = W2 := ⟨_, rfl⟩
          have HBWb : Hid (Below v2.heap.size v2 W2) := hW2 ▸ row_below (row_below (below_new (below_new (Below.refl _ _) _) _) (Nat.le_refl _) _) (Nat.le_succ _) _
          have RMb : Hid (W2.heap[v2.heap.size]? = some (.cells #[.slice P2 pn2 pc2, .slice Q2 qn2 qc2, .int .i64 pt2] 25 (0, 0))) := hW2 ▸ (setRow_other _ _ _ _ (by omega)).trans (setRow_heap _ _ _ _ _ (0, 0) Z12.out)
          have RAb : Hid (W2.heap[v2.heap.size + 1]? = some (.cells #[.int .u64 ax2, .bool ap2, .bool aq2, .slice AL2 al2 ac2] 38 (0, 0))) := hW2 ▸ setRow_heap _ _ _ _ _ (0, 0) (Z22.out _)
          have HW2 := Lib.hid hW2
          clear hW2
          go_upto_region 15 with (first
            | (refine wpList_store_row rfl 25 _ _ rfl (v2.heap.size) _ rfl rfl 25 zeroMem Z12.out (by kernel_rfl) rfl (by simp [Value.oneCell']) ?_)
            | (refine wpList_store_row rfl 38 _ _ rfl (v2.heap.size + 1) _ rfl rfl 38 zeroAns (Z22.out _) (by kernel_rfl) rfl (by simp [Value.oneCell']) ?_))
          rw [show (#[.slice none 0 0, .slice none 0 0, .int .i64 0] : Array Value) = zeroMem from rfl, show (#[.int .u64 0, .bool false, .bool false, .slice none 0 0] : Array Value) = zeroAns from rfl, HW2.out]
          try simp only [Act.put]
          clear HW2 Z12 Z22
          have HMb := Lib.hid (HVb.out.below HBWb.out)
          have HAb := Lib.hid (HUb.out.below HBWb.out)
          have HBz := Lib.hid (below_then HBq.out HBWb.out)
          have RM := Lib.hid ((HBWb.out.block (M) lM).trans RM.out)
          have RX := Lib.hid ((HBWb.out.block (X) lX).trans RX.out)
          have RMa := Lib.hid ((HBWb.out.block (v1.heap.size) lPa).trans RMa.out)
          have RAa := Lib.hid ((HBWb.out.block (v1.heap.size + 1) lBa).trans RAa.out)
          have lM := Nat.lt_of_lt_of_le lM HBWb.out.size
          have lX := Nat.lt_of_lt_of_le lX HBWb.out.size
          have lPa := Nat.lt_of_lt_of_le lPa HBWb.out.size
          have lBa := Nat.lt_of_lt_of_le lBa HBWb.out.size
          obtain ⟨x0, x1, x2⟩ := rowc3 RM.out
          obtain ⟨y0, y1, y2, y3, y4⟩ := rowc5 RX.out
          have HMa := Lib.hid ((HMa.out.below HBb.out).below HBWb.out)
          have HAa := Lib.hid ((HAa.out.below HBb.out).below HBWb.out)
          have lP : v1.heap.size < W2.heap.size := (Array.getElem?_eq_some_iff.1 RMa.out).1
          have lB : v1.heap.size + 1 < W2.heap.size := (Array.getElem?_eq_some_iff.1 RAa.out).1
          have lQ : v2.heap.size < W2.heap.size := (Array.getElem?_eq_some_iff.1 RMb.out).1
          have lD : v2.heap.size + 1 < W2.heap.size := (Array.getElem?_eq_some_iff.1 RAb.out).1
          obtain ⟨x0, x1, x2⟩ := rowc3 RM.out
          obtain ⟨y0, y1, y2, y3, y4⟩ := rowc5 RX.out
          obtain ⟨p0, p1, p2⟩ := rowc3 RMa.out
          obtain ⟨b0, b1', b2, b3⟩ := rowc4 RAa.out
          obtain ⟨q0, q1, q2⟩ := rowc3 RMb.out
          obtain ⟨d0, d1, d2, d3⟩ := rowc4 RAb.out
          have X0 := ext_cell _ 0 lM _ x0
          have X1 := ext_cell _ 1 lM _ x1
          have X2 := ext_cell _ 2 lM _ x2
          have Y0 := ext_cell _ 0 lX _ y0
          have Y1 := ext_cell _ 1 lX _ y1
          have Y2 := ext_cell _ 2 lX _ y2
          have Y3 := ext_cell _ 3 lX _ y3
          have Y4 := ext_cell _ 4 lX _ y4
          have PP0 := ext_cell _ 0 lP _ p0
          have PP1 := ext_cell _ 1 lP _ p1
          have PP2 := ext_cell _ 2 lP _ p2
          have BB0 := ext_cell _ 0 lB _ b0
          have BB1 := ext_cell _ 1 lB _ b1'
          have BB2 := ext_cell _ 2 lB _ b2
          have BB3 := ext_cell _ 3 lB _ b3
          have QQ0 := ext_cell _ 0 lQ _ q0
          have QQ1 := ext_cell _ 1 lQ _ q1
          have QQ2 := ext_cell _ 2 lQ _ q2
          have DD0 := ext_cell _ 0 lD _ d0
          have DD1 := ext_cell _ 1 lD _ d1
          have DD2 := ext_cell _ 2 lD _ d2
          have DD3 := ext_cell _ 3 lD _ d3
          clear x0 x1 x2 y0 y1 y2 y3 y4 p0 p1 p2 b0 b1' b2 b3 q0 q1 q2 d0 d1 d2 d3
          have KM : Hid (∀ n : Ext W2, MemV n.wd (.agg #[.slice A m.words.length c, .slice A2 m.lists.length c2, .int .i64 m.tick]) m) := fun n => HST.out.at ((Off.below HBz.out).trans (Off.below n.below))
          have K1 : Hid (∀ n : Ext W2, MemV n.wd (.agg #[.slice P1 pn1 pc1, .slice Q1 qn1 qc1, .int .i64 pt1]) r.1) := fun n => HMa.out.below n.below
          have K2 : Hid (∀ n : Ext W2, MemV n.wd (.agg #[.slice P2 pn2 pc2, .slice Q2 qn2 qc2, .int .i64 pt2]) r.1) := fun n => HMb.out.below n.below
          have L1 : Hid (∀ n : Ext W2, AnsV n.wd (.agg #[.int .u64 ax1, .bool ap1, .bool aq1, .slice AL1 al1 ac1]) r.2.1) := fun n => HAa.out.below n.below
          have L2 : Hid (∀ n : Ext W2, AnsV n.wd (.agg #[.int .u64 ax2, .bool ap2, .bool aq2, .slice AL2 al2 ac2]) r.2.1) := fun n => HAb.out.below n.below
          have G1 := Lib.hid fun n : Ext W2 => granted_any _ m a n.wd (KM.out n) HI7.out.fits HA.out
          have G2 := Lib.hid fun n : Ext W2 => rgranted_any _ m a n.wd (KM.out n) HI7.out.fits HA.out
          have G3 := Lib.hid fun n : Ext W2 => sameMem_true _ _ r.1 n.wd (K1.out n) (K2.out n)
          have G4 := Lib.hid fun n : Ext W2 => sameAns_true _ _ r.2.1 n.wd (L1.out n) (L2.out n)
          unfold accV at G1 G2
          generalize grantB m a = gr at *
          go_upto_region 15 with fail
          refine wp_region_ext W2 (by kernel_rfl) (by kernel_rfl) (Below.refl _ _) ?_
          repeat (go_big_quiet_step (first
            | (go_at_call 17; with_reducible exact calls_ext (G1.out _))
            | (go_at_call 18; with_reducible exact calls_ext (G2.out _))
            | (go_at_call 19; with_reducible exact calls_ext (G3.out _))
            | (go_at_call 20; with_reducible exact calls_ext (G4.out _))))
          refine wpQuiet_nil ?_
          intro _ hw'
          obtain ⟨n9, rfl⟩ := hw'
          have hb9 := Lib.hid n9.below
          have RM9 := Lib.hid ((hb9.out.block M lM).trans RM.out)
          have RQ9 := Lib.hid ((hb9.out.block v2.heap.size lQ).trans RMb.out)
          generalize n9.wd = w9 at *
          clear X0 X1 X2 Y0 Y1 Y2 Y3 Y4 PP0 PP1 PP2 BB0 BB1 BB2 BB3 QQ0 QQ1 QQ2 DD0 DD1 DD2 DD3 KM K1 K2 L1 L2 G1 G2 G3 G4
          obtain ⟨eq1, eq2, eq3⟩ := agg_mem HSb.out v2 (Nx.at (Off.below HBW1.out) (Off.wide _ _ _) HBb.out)
          subst eq1 eq2 eq3
          have HS2' : Hid (StM (Nx (Off g M W1) W1 v2) (.agg #[.slice P2 r.1.words.length pc2, .slice Q2 r.1.lists.length qc2, .int .i64 r.1.tick]) r.1) := HSb.out.sub fun w5 h => ⟨(Off.below HBW1.out).trans h.1, h.2⟩
          have hsz := HSZ.out
          have HI8 := Lib.hid ((HI7.out.next HBW1.out).taken HBb.out (below_then HBWb.out hb9.out) HS2'.out HFR.out (by rw [hsz.1]; exact HI7.out.wl) (by rw [hsz.2.1]; exact HI7.out.ll))
          clear hsz
          obtain ⟨q0, q1, q2⟩ := rowc3 RQ9.out
          go_wp2_with (refine wpList_store_row rfl 25 _ _ rfl M _ rfl rfl 25 _ RM9.out (by kernel_rfl) rfl (by simp [Value.oneCell']) ?_)
          go_roundw
          case rel => exact ⟨i + 1, by omega, by go_num, _, HI8⟩
          case measure => simp [intOf]; omega
      · obtain rfl : i = 12 := by omega
        have P0' := Lib.hid ((HI.out.below.block w.heap.size (by omega)).trans P0.out)
        have P1' := Lib.hid ((HI.out.below.block (w.heap.size + 1) (by omega)).trans P1.out)
        have HBo := Lib.hid (below_then HB2.out HI.out.below)
        have hoz := HBo.out.size
        obtain ⟨w7, rfl⟩ : ∃ w7 : World, w7 = wo := ⟨_, rfl⟩
        have hlw : w.heap.size + 1 < w7.heap.size := (Array.getElem?_eq_some_iff.1 P1'.out).1
        have hlw0 : w.heap.size < w7.heap.size := by omega
        have HV7 := Lib.hid (HV0.out.below HBo.out)
        have RM := P0'
        have RX := P1'
        have HST := Lib.hid HV7.out.over
        obtain ⟨lM, lX⟩ := And.intro hlw0 hlw
        obtain ⟨x0, x1, x2⟩ := rowc3 RM.out
        obtain ⟨y0, y1, y2, y3, y4⟩ := rowc5 RX.out
        have TA := Lib.hid fun w' (hb : Below w7.heap.size w7 w') => apply_any (Over w7) _ m0 b1 w' hb (Over.wide w7) HST.out HF0.out HO1.out
        have TR := Lib.hid fun w' (hb : Below w7.heap.size w7 w') => rapply_any (Over w7) _ m0 b1 w' hb (Over.wide w7) HST.out HF0.out HO1.out
        unfold accV at TA TR
        try dsimp only at TA TR
        obtain ⟨r, hr⟩ : ∃ r, applyE m0 b1 = r := ⟨_, rfl⟩
        rw [hr] at TA TR
        clear hr HI P0' P1' hoz
        have HBz : Hid (Below w7.heap.size w7 w7) := Below.refl _ _
        have M : Nat := w.heap.size
        go_wp2_with fail
        refine (TA.out w7 HBz.out).mono ?_; rintro e v1 ⟨u1, z1, rfl, hs1, ha1, hb1⟩
        obtain ⟨P1, pn1, pc1, Q1, qn1, qc1, pt1, rfl⟩ := hs1.shape v1 (Nx.at (HBz.out) (Over.wide _) hb1)
        obtain ⟨ax1, ap1, aq1, AL1, al1, ac1, rfl⟩ := ha1.shape v1 (Nx.at (HBz.out) (Over.wide _) hb1)
        have HSa := Lib.hid hs1
        have HVa := Lib.hid (hs1.at (Nx.at (HBz.out) (Over.wide _) hb1))
        have HUa : Hid (AnsV v1 (.agg #[.int .u64 ax1, .bool ap1, .bool aq1, .slice AL1 al1 ac1]) r.2.1) := StA.at ha1 (Nx.at (HBz.out) (Over.wide _) hb1)
        have HBa := Lib.hid hb1
        have HBq := Lib.hid (below_then HBz.out hb1)
        have RM := Lib.hid ((HBa.out.block (w.heap.size) lM).trans RM.out)
        have RX := Lib.hid ((HBa.out.block (w.heap.size + 1) lX).trans RX.out)
        have lM := Nat.lt_of_lt_of_le lM HBa.out.size
        have lX := Nat.lt_of_lt_of_le lX HBa.out.size
        clear hs1 ha1 hb1 x0 x1 x2 y0 y1 y2 y3 y4
        have Z11 : Hid (((v1.alloc (.cells zeroMem 25)).alloc (.cells zeroAns 38)).heap[v1.heap.size]? = some (.cells zeroMem 25 (0, 0))) := heap_alloc2_old _ _ _
        have Z21 : Hid (∀ cs, (((v1.alloc (.cells zeroMem 25)).alloc (.cells zeroAns 38)).setRow v1.heap.size cs).heap[v1.heap.size + 1]? = some (.cells zeroAns 38 (0, 0))) := fun cs => (setRow_other _ _ _ _ (by omega)).trans (heap_alloc2_new _ _ _)
        obtain ⟨W1, hW1⟩ : ∃ W1, (((v1.alloc (.cells zeroMem 25)).alloc (.cells zeroAns 38)).setRow v1.heap.size #[.slice P1 pn1 pc1, .slice Q1 qn1 qc1, .int .i64 pt1]).setRow (v1.heap.size + 1) #[.int .u64 ax1, .bool ap1, .bool aq1, .slice AL1 al1 ac1] = W1 := ⟨_, rfl⟩
        have HBWa : Hid (Below v1.heap.size v1 W1) := hW1 ▸ row_below (row_below (below_new (below_new (Below.refl _ _) _) _) (Nat.le_refl _) _) (Nat.le_succ _) _
        have RMa : Hid (W1.heap[v1.heap.size]? = some (.cells #[.slice P1 pn1 pc1, .slice Q1 qn1 qc1, .int .i64 pt1] 25 (0, 0))) := hW1 ▸ (setRow_other _ _ _ _ (by omega)).trans (setRow_heap _ _ _ _ _ (0, 0) Z11.out)
        have RAa : Hid (W1.heap[v1.heap.size + 1]? = some (.cells #[.int .u64 ax1, .bool ap1, .bool aq1, .slice AL1 al1 ac1] 38 (0, 0))) := hW1 ▸ setRow_heap _ _ _ _ _ (0, 0) (Z21.out _)
        have HW1 := Lib.hid hW1
        clear hW1
        go_upto_region 19 with (first
          | (refine wpList_store_row rfl 25 _ _ rfl (v1.heap.size) _ rfl rfl 25 zeroMem Z11.out (by kernel_rfl) rfl (by simp [Value.oneCell']) ?_)
          | (refine wpList_store_row rfl 38 _ _ rfl (v1.heap.size + 1) _ rfl rfl 38 zeroAns (Z21.out _) (by kernel_rfl) rfl (by simp [Value.oneCell']) ?_))
        rw [show (#[.slice none 0 0, .slice none 0 0, .int .i64 0] : Array Value) = zeroMem from rfl, show (#[.int .u64 0, .bool false, .bool false, .slice none 0 0] : Array Value) = zeroAns from rfl, HW1.out]
        try simp only [Act.put]
        clear HW1 Z11 Z21
        have HMa := Lib.hid (HVa.out.below HBWa.out)
        have HAa := Lib.hid (HUa.out.below HBWa.out)
        have HBz := Lib.hid (below_then HBq.out HBWa.out)
        have RM := Lib.hid ((HBWa.out.block (w.heap.size) lM).trans RM.out)
        have RX := Lib.hid ((HBWa.out.block (w.heap.size + 1) lX).trans RX.out)
        have lM := Nat.lt_of_lt_of_le lM HBWa.out.size
        have lX := Nat.lt_of_lt_of_le lX HBWa.out.size
        obtain ⟨x0, x1, x2⟩ := rowc3 RM.out
        obtain ⟨y0, y1, y2, y3, y4⟩ := rowc5 RX.out
        have lPa : v1.heap.size < W1.heap.size := (Array.getElem?_eq_some_iff.1 RMa.out).1
        have lBa : v1.heap.size + 1 < W1.heap.size := (Array.getElem?_eq_some_iff.1 RAa.out).1
        have HBW1 := Lib.hid HBz.out
        go_wp2_with fail
        refine (TR.out W1 HBz.out).mono ?_; rintro e v2 ⟨u2, z2, rfl, hs2, ha2, hb2⟩
        obtain ⟨P2, pn2, pc2, Q2, qn2, qc2, pt2, rfl⟩ := hs2.shape v2 (Nx.at (HBW1.out) (Over.wide _) hb2)
        obtain ⟨ax2, ap2, aq2, AL2, al2, ac2, rfl⟩ := ha2.shape v2 (Nx.at (HBW1.out) (Over.wide _) hb2)
        have HSb := Lib.hid hs2
        have HVb := Lib.hid (hs2.at (Nx.at (HBW1.out) (Over.wide _) hb2))
        have HUb : Hid (AnsV v2 (.agg #[.int .u64 ax2, .bool ap2, .bool aq2, .slice AL2 al2 ac2]) r.2.1) := StA.at ha2 (Nx.at (HBW1.out) (Over.wide _) hb2)
        have HBb := Lib.hid hb2
        have HBq := Lib.hid (below_then HBz.out hb2)
        have RM := Lib.hid ((HBb.out.block (w.heap.size) lM).trans RM.out)
        have RX := Lib.hid ((HBb.out.block (w.heap.size + 1) lX).trans RX.out)
        have RMa := Lib.hid ((HBb.out.block (v1.heap.size) lPa).trans RMa.out)
        have RAa := Lib.hid ((HBb.out.block (v1.heap.size + 1) lBa).trans RAa.out)
        have lM := Nat.lt_of_lt_of_le lM HBb.out.size
        have lX := Nat.lt_of_lt_of_le lX HBb.out.size
        have lPa := Nat.lt_of_lt_of_le lPa HBb.out.size
        have lBa := Nat.lt_of_lt_of_le lBa HBb.out.size
        clear hs2 ha2 hb2 x0 x1 x2 y0 y1 y2 y3 y4
        have Z12 : Hid (((v2.alloc (.cells zeroMem 25)).alloc (.cells zeroAns 38)).heap[v2.heap.size]? = some (.cells zeroMem 25 (0, 0))) := heap_alloc2_old _ _ _
        have Z22 : Hid (∀ cs, (((v2.alloc (.cells zeroMem 25)).alloc (.cells zeroAns 38)).setRow v2.heap.size cs).heap[v2.heap.size + 1]? = some (.cells zeroAns 38 (0, 0))) := fun cs => (setRow_other _ _ _ _ (by omega)).trans (heap_alloc2_new _ _ _)
        obtain ⟨W2, hW2⟩ : ∃ W2, (((v2.alloc (.cells zeroMem 25)).alloc (.cells zeroAns 38)).setRow v2.heap.size #[.slice P2 pn2 pc2, .slice Q2 qn2 qc2, .int .i64 pt2]).setRow (v2.heap.size + 1) #[.int .u64 ax2, .bool ap2, .bool aq2, .slice AL2 al2 ac2] = W2 := ⟨_, rfl⟩
        have HBWb : Hid (Below v2.heap.size v2 W2) := hW2 ▸ row_below (row_below (below_new (below_new (Below.refl _ _) _) _) (Nat.le_refl _) _) (Nat.le_succ _) _
        have RMb : Hid (W2.heap[v2.heap.size]? = some (.cells #[.slice P2 pn2 pc2, .slice Q2 qn2 qc2, .int .i64 pt2] 25 (0, 0))) := hW2 ▸ (setRow_other _ _ _ _ (by omega)).trans (setRow_heap _ _ _ _ _ (0, 0) Z12.out)
        have RAb : Hid (W2.heap[v2.heap.size + 1]? = some (.cells #[.int .u64 ax2, .bool ap2, .bool aq2, .slice AL2 al2 ac2] 38 (0, 0))) := hW2 ▸ setRow_heap _ _ _ _ _ (0, 0) (Z22.out _)
        have HW2 := Lib.hid hW2
        clear hW2
        go_upto_region 20 with (first
          | (refine wpList_store_row rfl 25 _ _ rfl (v2.heap.size) _ rfl rfl 25 zeroMem Z12.out (by kernel_rfl) rfl (by simp [Value.oneCell']) ?_)
          | (refine wpList_store_row rfl 38 _ _ rfl (v2.heap.size + 1) _ rfl rfl 38 zeroAns (Z22.out _) (by kernel_rfl) rfl (by simp [Value.oneCell']) ?_))
        rw [show (#[.slice none 0 0, .slice none 0 0, .int .i64 0] : Array Value) = zeroMem from rfl, show (#[.int .u64 0, .bool false, .bool false, .slice none 0 0] : Array Value) = zeroAns from rfl, HW2.out]
        try simp only [Act.put]
        clear HW2 Z12 Z22
        have HMb := Lib.hid (HVb.out.below HBWb.out)
        have HAb := Lib.hid (HUb.out.below HBWb.out)
        have HBz := Lib.hid (below_then HBq.out HBWb.out)
        have RM := Lib.hid ((HBWb.out.block (w.heap.size) lM).trans RM.out)
        have RX := Lib.hid ((HBWb.out.block (w.heap.size + 1) lX).trans RX.out)
        have RMa := Lib.hid ((HBWb.out.block (v1.heap.size) lPa).trans RMa.out)
        have RAa := Lib.hid ((HBWb.out.block (v1.heap.size + 1) lBa).trans RAa.out)
        have lM := Nat.lt_of_lt_of_le lM HBWb.out.size
        have lX := Nat.lt_of_lt_of_le lX HBWb.out.size
        have lPa := Nat.lt_of_lt_of_le lPa HBWb.out.size
        have lBa := Nat.lt_of_lt_of_le lBa HBWb.out.size
        obtain ⟨x0, x1, x2⟩ := rowc3 RM.out
        obtain ⟨y0, y1, y2, y3, y4⟩ := rowc5 RX.out
        have HMa := Lib.hid ((HMa.out.below HBb.out).below HBWb.out)
        have HAa := Lib.hid ((HAa.out.below HBb.out).below HBWb.out)
        have lP : v1.heap.size < W2.heap.size := (Array.getElem?_eq_some_iff.1 RMa.out).1
        have lB : v1.heap.size + 1 < W2.heap.size := (Array.getElem?_eq_some_iff.1 RAa.out).1
        have lQ : v2.heap.size < W2.heap.size := (Array.getElem?_eq_some_iff.1 RMb.out).1
        have lD : v2.heap.size + 1 < W2.heap.size := (Array.getElem?_eq_some_iff.1 RAb.out).1
        obtain ⟨x0, x1, x2⟩ := rowc3 RM.out
        obtain ⟨y0, y1, y2, y3, y4⟩ := rowc5 RX.out
        obtain ⟨p0, p1, p2⟩ := rowc3 RMa.out
        obtain ⟨b0, b1', b2, b3⟩ := rowc4 RAa.out
        obtain ⟨q0, q1, q2⟩ := rowc3 RMb.out
        obtain ⟨d0, d1, d2, d3⟩ := rowc4 RAb.out
        have X0 := ext_cell _ 0 lM _ x0
        have X1 := ext_cell _ 1 lM _ x1
        have X2 := ext_cell _ 2 lM _ x2
        have Y0 := ext_cell _ 0 lX _ y0
        have Y1 := ext_cell _ 1 lX _ y1
        have Y2 := ext_cell _ 2 lX _ y2
        have Y3 := ext_cell _ 3 lX _ y3
        have Y4 := ext_cell _ 4 lX _ y4
        have PP0 := ext_cell _ 0 lP _ p0
        have PP1 := ext_cell _ 1 lP _ p1
        have PP2 := ext_cell _ 2 lP _ p2
        have BB0 := ext_cell _ 0 lB _ b0
        have BB1 := ext_cell _ 1 lB _ b1'
        have BB2 := ext_cell _ 2 lB _ b2
        have BB3 := ext_cell _ 3 lB _ b3
        have QQ0 := ext_cell _ 0 lQ _ q0
        have QQ1 := ext_cell _ 1 lQ _ q1
        have QQ2 := ext_cell _ 2 lQ _ q2
        have DD0 := ext_cell _ 0 lD _ d0
        have DD1 := ext_cell _ 1 lD _ d1
        have DD2 := ext_cell _ 2 lD _ d2
        have DD3 := ext_cell _ 3 lD _ d3
        clear x0 x1 x2 y0 y1 y2 y3 y4 p0 p1 p2 b0 b1' b2 b3 q0 q1 q2 d0 d1 d2 d3
        have KM : Hid (∀ n : Ext W2, MemV n.wd (.agg #[.slice a1 m0.words.length cap, .slice a2 m0.lists.length cap2, .int .i64 m0.tick]) m0) := fun n => (HV7.out.below HBz.out).below n.below
        have K1 : Hid (∀ n : Ext W2, MemV n.wd (.agg #[.slice P1 pn1 pc1, .slice Q1 qn1 qc1, .int .i64 pt1]) r.1) := fun n => HMa.out.below n.below
        have K2 : Hid (∀ n : Ext W2, MemV n.wd (.agg #[.slice P2 pn2 pc2, .slice Q2 qn2 qc2, .int .i64 pt2]) r.1) := fun n => HMb.out.below n.below
        have L1 : Hid (∀ n : Ext W2, AnsV n.wd (.agg #[.int .u64 ax1, .bool ap1, .bool aq1, .slice AL1 al1 ac1]) r.2.1) := fun n => HAa.out.below n.below
        have L2 : Hid (∀ n : Ext W2, AnsV n.wd (.agg #[.int .u64 ax2, .bool ap2, .bool aq2, .slice AL2 al2 ac2]) r.2.1) := fun n => HAb.out.below n.below
        have G1 := Lib.hid fun n : Ext W2 => granted_any _ m0 b1 n.wd (KM.out n) HF0.out HO1.out
        have G2 := Lib.hid fun n : Ext W2 => rgranted_any _ m0 b1 n.wd (KM.out n) HF0.out HO1.out
        have G3 := Lib.hid fun n : Ext W2 => sameMem_true _ _ r.1 n.wd (K1.out n) (K2.out n)
        have G4 := Lib.hid fun n : Ext W2 => sameAns_true _ _ r.2.1 n.wd (L1.out n) (L2.out n)
        unfold accV at G1 G2
        generalize grantB m0 b1 = gr at *
        go_upto_region 20 with fail
        refine wp_region_ext W2 (by kernel_rfl) (by kernel_rfl) (Below.refl _ _) ?_
        repeat (go_big_quiet_step (first
          | (go_at_call 17; with_reducible exact calls_ext (G1.out _))
          | (go_at_call 18; with_reducible exact calls_ext (G2.out _))
          | (go_at_call 19; with_reducible exact calls_ext (G3.out _))
          | (go_at_call 20; with_reducible exact calls_ext (G4.out _))))
        refine wpQuiet_nil ?_
        intro _ hw'
        obtain ⟨n9, rfl⟩ := hw'
        have HFN := Lib.hid (below_then HBo.out (below_then HBz.out n9.below))
        generalize n9.wd = w9 at *
        clear X0 X1 X2 Y0 Y1 Y2 Y3 Y4 PP0 PP1 PP2 BB0 BB1 BB2 BB3 QQ0 QQ1 QQ2 DD0 DD1 DD2 DD3 KM K1 K2 L1 L2 G1 G2 G3 G4
        go_wp2
        go_ret
        exact ⟨rfl, HFN.out⟩
set_option maxRecDepth 100000 in
theorem lifted (os : Os) (started : os.Started) (H : Type) (enc : TypeId × Value → H) :
    ReturnsInHanded {} Try.checked os 3 .any (Rows.memoryAppliesSpec.pre6 enc Try.prog Try.f3 Rows.memoryAppliesRow.domain false) (Rows.memoryAppliesSpec.post enc Try.prog Try.f3 false true false false) := by
  refine returnsInHanded_of_change_sized (C := Try.checked) own started (by kernel_rfl) Try.func3
    (ChangeSpec.witness6 (enc := enc) (C := Try.checked) false ⟨#[], #[.agg #[.slice none 0 0, .slice none 0 0, .int .i64 0], .agg #[.int .i64 0, .int .i64 0, .int .u64 0, .int .u64 0, .int .i64 0], .slice none 0 0], []⟩ 8 (by kernel_rfl) (by kernel_rfl) (by kernel_rfl) (by kernel_rfl)) ?_
  intro W base args ds gs before hval0 hW _ hsz0 _
  have hsz : (DataW.weightsEach Try.prog (Try.f3.params.toList ++ Rows.memoryAppliesSpec.plain.varTypes Try.prog) (ds ++ gs)).all (· ≤ reachBytes) = true := hsz0
  clear hsz0
  have hval : ∀ (j : Nat) t v, Try.f3.params[j]? = some t → args[j]? = some v → Value.okWide Try.prog W .any base t v := hval0
  have hW' := hW
  obtain ⟨p, q, hA0, hV, rfl, _, _⟩ := hW
  have hA : DataW.TrodAll enc Try.prog W 0 (fun _ => true) true Try.f3.params.toList args.toList ds p := hA0
  rw [Try.params3] at hA hval hsz
  obtain ⟨v0, vs0, d0, ds0, p0, q0, hargs, rfl, rfl, h0, r0⟩ := trodAll_cons hA
  obtain ⟨v1, vs1, d1, ds1, p1, q1, rfl, rfl, rfl, h1, r1⟩ := trodAll_cons r0
  obtain ⟨v2, vs2, d2, ds2, p2, q2, rfl, rfl, rfl, h2, r2⟩ := trodAll_cons r1
  obtain ⟨rfl, rfl, rfl⟩ := trodAll_nil r2
  obtain rfl : args = #[v0, v1, v2] := by cases args; simp_all
  obtain ⟨rfl, rfl⟩ := trodVars_none hV
  have k0 := h0
  have k1 := h1
  have k2 := h2
  obtain ⟨m0, s0, o0⟩ := view_mem (fun parts hd => sized_agg hsz (j := 0) (t := 25) rfl (by rw [hd]; rfl) Try.underlying25) (hval 0 25 v0 rfl rfl) h0
  obtain ⟨b1, rfl, o1⟩ := view_acc (hval 1 28 v1 rfl rfl) h1
  obtain ⟨l2, s2⟩ := view_sl (k := .u8) Try.underlying29 Try.underlying5 (by kernel_rfl) (fun elems sp hd => sized_slice hsz (j := 2) (t := 29) (e := 5) rfl (by rw [hd]; rfl) Try.underlying29) (of_decide_eq_true (by kernel_rfl)) (hval 2 29 v2 rfl rfl) h2
  clear hA0 hval0
  simp only [List.append_nil] at hW'
  have hlt := hW'.lt
  refine (walk W v0 m0 s0 o0 b1 o1 v2 l2 s2).mono fun e W' ⟨he, hb⟩ => ?_
  subst he
  exact ⟨_, rfl, _, _, _, [], _, [], hW', trodAll_cons_mk (shut_bool Try.underlying4 _) trodAll_mk0, (trodAll_cons_mk (Below.trod Try.laidOut (by kernel_rfl) (of_decide_eq_true (by kernel_rfl)) k0 hb (fun x hx => by simpa using hlt x (by simp [hx]))) (trodAll_cons_mk (Below.trod Try.laidOut (by kernel_rfl) (of_decide_eq_true (by kernel_rfl)) k1 hb (fun x hx => by simpa using hlt x (by simp [hx]))) (trodAll_cons_mk (Below.trod Try.laidOut (by kernel_rfl) (of_decide_eq_true (by kernel_rfl)) k2 hb (fun x hx => by simpa using hlt x (by simp [hx]))) trodAll_mk0))), rfl, hb.frame _, fun h => by cases h⟩
theorem over : Rows.memoryAppliesRow.holds Try.pinned (OpenSpec.ofChange Rows.memoryAppliesSpec) :=
  OpenClaim.holds_of_wide 3 Try.f3 rfl rfl rfl rfl rfl rfl rfl ⟨rfl, rfl, rfl, rfl, rfl⟩ rfl rfl rfl rfl rfl (by kernel_rfl) Try.func3 (by kernel_rfl)
    (of_decide_eq_true (by kernel_rfl)) (by unfold Func.isWrapper; first | (rw [if_pos (by decide +kernel)]; kernel_rfl) | (rw [if_neg (by decide +kernel)]; exact ⟨rfl, rfl⟩))
    (fun os started H enc _ => lifted os started H enc)
/-- THE STATEMENT -/
theorem proved : Rows.MemoryAppliesSaid :=
  over
end Go.Proofs.Ytkpnakomlfjndaa.memoryApplies
