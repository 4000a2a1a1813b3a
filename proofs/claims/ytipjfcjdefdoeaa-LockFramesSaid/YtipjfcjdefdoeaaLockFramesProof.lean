/- Proved: LockFrames returns true, and its arguments read afterwards as before, for every list of codes, every value and either answer; no condition. -/
import Derived.Test.YtipjfcjdefdoeaaLaw
import Derived.Test.YtipjfcjdefdoeaaL7Awake
import Derived.Test.YtipjfcjdefdoeaaCfg2
import Derived.LoopTactic
import Derived.WalkKit
import Derived.ProofKit
import Derived.OpenShut
import Derived.SizedLaws
namespace Go.Proofs.Ytipjfcjdefdoeaa.lockFrames
open Go.ChangeShapes Go.WideShapes Go.ChangeAt Go.RowKit
set_option linter.unusedVariables false
set_option maxRecDepth 100000 in
set_option maxHeartbeats 16000000 in
theorem walk (w : World) (v0 : Value) (l0 : List Int) (s0 : SlI w .u8 v0 l0) (a1 : Int) (w1 : (Lit.int .u64 a1).wf = true) (a2 : Bool) :
    Calls Try.prog 6 #[v0, .int .u64 a1, .bool a2] w fun e w' => e = .returned (.bool true) ∧ Below w.heap.size w w' := by
  have HS0 := Lib.hid s0
  clear s0 w1
  go_enter Try.func6, Try.ntmps6
  go_wp2_with fail
  refine (awake7_any _).mono ?_; rintro e wa ⟨rfl, hba⟩
  have HBA := Lib.hid hba
  clear hba
  go_wp2_with fail
  refine (new_any _ l0 40 _ (HS0.out.below HBA.out) (by omega)).mono ?_; rintro e wb ⟨rfl, hcb, hbb⟩
  have HCB : Hid (CodesE wb wa.heap.size) := ⟨_, _, hcb⟩
  have HBB : Hid (Below wa.heap.size wa wb) := hbb
  clear hcb hbb HS0
  go_wp2_with fail
  refine (configG _ _ HCB.out).mono ?_; rintro e wc ⟨vc, vs, c, rfl, hvc, hvs, -, -, hgood, hc1, hc3, -, hgc⟩
  have HBC : Hid (Below w.heap.size w wc) := below_then HBA.out (HBB.out.grown hgc HBB.out.size (fun k hk => by cases hk; exact Nat.le_refl _))
  obtain ⟨a, cap, rfl, -⟩ := hvc.len
  obtain ⟨a2', cap2, rfl, -⟩ := hvs.len
  have HV : Hid (ConfV wc (.agg #[.slice a c.caps.length cap, .slice a2' c.starts.length cap2, .int .i64 c.threads]) c) := ⟨_, _, rfl, hvc, hvs⟩
  have HG := Lib.hid hgood
  have hk0 : 0 < c.caps.length := hc1
  clear hvc hvs hgood hgc HBA HBB HCB
  obtain ⟨W1, hW1⟩ : ∃ W1, (wc.alloc (.cells #[.slice none 0 0, .slice none 0 0, .int .i64 0] 52)).setRow wc.heap.size #[.slice a c.caps.length cap, .slice a2' c.starts.length cap2, .int .i64 c.threads] = W1 := ⟨_, rfl⟩
  have N1 : Hid ((wc.alloc (.cells #[.slice none 0 0, .slice none 0 0, .int .i64 0] 52)).heap[wc.heap.size]? = some (.cells #[.slice none 0 0, .slice none 0 0, .int .i64 0] 52 (0, 0))) := heap_alloc_new _ _
  have HB1 : Hid (Below wc.heap.size wc W1) := hW1 ▸ row_below (below_new (Below.refl _ _) _) (Nat.le_refl _) _
  have R1 : Hid (W1.heap[wc.heap.size]? = some (.cells #[.slice a c.caps.length cap, .slice a2' c.starts.length cap2, .int .i64 c.threads] 52 (0, 0))) := hW1 ▸ setRow_heap _ _ _ _ _ (0, 0) N1.out
  have HW1 := Lib.hid hW1
  clear hW1
  go_upto_region 4 with (refine wpList_store_row rfl 52 _ _ rfl (wc.heap.size) _ rfl rfl 52 #[.slice none 0 0, .slice none 0 0, .int .i64 0] N1.out (by kernel_rfl) rfl (by simp [Value.oneCell']) ?_)
  rw [HW1.out]
  try simp only [Act.put]
  clear HW1 N1
  obtain ⟨C, hC⟩ : ∃ C, wc.heap.size = C := ⟨_, rfl⟩
  rw [hC] at R1
  rw [hC]
  clear hC
  obtain ⟨x0, x1, x2⟩ := rowc3 R1.out
  have HV1 := Lib.hid (HV.out.below HB1.out)
  go_wp2_with fail
  refine (release_any _ c 0 hk0 _ HV1.out HG.out).mono ?_; rintro e w2 ⟨b, rfl, -, -, HB2⟩
  go_wp2_with fail
  refine (lkRes2 (some ⟨b, 0, none⟩) 1 1 _ _ _ _ _).mono ?_; rintro e w3 ⟨rfl, hb3⟩
  unfold lkV
  have HB3 := Lib.hid hb3
  clear hb3 x0 x1 x2
  have HB13 := Lib.hid (below_then HB2.out HB3.out)
  obtain ⟨W4, hW4⟩ : ∃ W4, (w3.alloc (.cells #[.int .i64 0, .int .i64 0, .slice none 0 0, .slice none 0 0, .slice none 0 0] 71)).setRow w3.heap.size #[.int .i64 0, .int .i64 3, .slice none 0 0, .slice none 0 0, .slice none 0 0] = W4 := ⟨_, rfl⟩
  have N4 : Hid ((w3.alloc (.cells #[.int .i64 0, .int .i64 0, .slice none 0 0, .slice none 0 0, .slice none 0 0] 71)).heap[w3.heap.size]? = some (.cells #[.int .i64 0, .int .i64 0, .slice none 0 0, .slice none 0 0, .slice none 0 0] 71 (0, 0))) := heap_alloc_new _ _
  have HB4 : Hid (Below w3.heap.size w3 W4) := hW4 ▸ row_below (below_new (Below.refl _ _) _) (Nat.le_refl _) _
  have R4 : Hid (W4.heap[w3.heap.size]? = some (.cells #[.int .i64 0, .int .i64 3, .slice none 0 0, .slice none 0 0, .slice none 0 0] 71 (0, 0))) := hW4 ▸ setRow_heap _ _ _ _ _ (0, 0) N4.out
  have HW4 := Lib.hid hW4
  clear hW4
  go_upto_region 5 with (refine wpList_store_row rfl 71 _ _ rfl (w3.heap.size) _ rfl rfl 71 #[.int .i64 0, .int .i64 0, .slice none 0 0, .slice none 0 0, .slice none 0 0] N4.out (by kernel_rfl) rfl (by simp [Value.oneCell']) ?_)
  rw [HW4.out]
  try simp only [Act.put]
  clear HW4 N4
  have HFW : Hid (w.heap.size ≤ w3.heap.size) := (below_then HBC.out (below_then HB1.out HB13.out)).size
  obtain ⟨F, hF⟩ : ∃ F, w3.heap.size = F := ⟨_, rfl⟩
  rw [hF] at HFW
  rw [hF] at R4
  rw [hF]
  clear hF
  have HB14 := Lib.hid (below_then HB13.out HB4.out)
  have R1a := Lib.hid ((HB14.out.block C (Array.getElem?_eq_some_iff.1 R1.out).1).trans R1.out)
  obtain ⟨x0, x1, x2⟩ := rowc3 R1a.out
  have HV2 := Lib.hid (HV1.out.below HB14.out)
  go_wp2_with fail
  refine (take_any _ c 0 hk0 _ HV2.out HG.out).mono ?_; rintro e w5 ⟨b2, rfl, RB, hbw, HB5⟩
  have hFb : Hid (F ≠ b2) := by
    have h1 := (Array.getElem?_eq_some_iff.1 R4.out).1
    have h2 := hbw.out
    show F ≠ b2; omega
  clear hbw
  cases a2 with
  | true =>
    go_wp2_with fail
    refine (lkRes1 (some ⟨b2, 0, none⟩) 1 1 _ _ _ _).mono ?_; rintro e w6 ⟨rfl, hb6⟩
    unfold lkV
    have HB6 := Lib.hid hb6
    clear hb6 x0 x1 x2
    have HB56 := Lib.hid (below_then HB5.out HB6.out)
    have RB6 := Lib.hid ((HB6.out.block b2 (Array.getElem?_eq_some_iff.1 RB.out).1).trans RB.out)
    have R4a := Lib.hid ((HB56.out.block F (Array.getElem?_eq_some_iff.1 R4.out).1).trans R4.out)
    obtain ⟨W7, hW7⟩ : ∃ W7, (w6.alloc (.cells #[.int .i64 0, .int .i64 0, .slice none 0 0, .slice none 0 0, .slice none 0 0] 71)).setRow w6.heap.size #[.int .i64 0, .int .i64 3, .slice none 0 0, .slice none 0 0, .slice none 0 0] = W7 := ⟨_, rfl⟩
    have N7 : Hid ((w6.alloc (.cells #[.int .i64 0, .int .i64 0, .slice none 0 0, .slice none 0 0, .slice none 0 0] 71)).heap[w6.heap.size]? = some (.cells #[.int .i64 0, .int .i64 0, .slice none 0 0, .slice none 0 0, .slice none 0 0] 71 (0, 0))) := heap_alloc_new _ _
    have HB7 : Hid (Below w6.heap.size w6 W7) := hW7 ▸ row_below (below_new (Below.refl _ _) _) (Nat.le_refl _) _
    have R7 : Hid (W7.heap[w6.heap.size]? = some (.cells #[.int .i64 0, .int .i64 3, .slice none 0 0, .slice none 0 0, .slice none 0 0] 71 (0, 0))) := hW7 ▸ setRow_heap _ _ _ _ _ (0, 0) N7.out
    have HW7 := Lib.hid hW7
    clear hW7
    go_upto_region 6 with (refine wpList_store_row rfl 71 _ _ rfl (w6.heap.size) _ rfl rfl 71 #[.int .i64 0, .int .i64 0, .slice none 0 0, .slice none 0 0, .slice none 0 0] N7.out (by kernel_rfl) rfl (by simp [Value.oneCell']) ?_)
    rw [HW7.out]
    try simp only [Act.put]
    clear HW7 N7
    have hs4 := (Array.getElem?_eq_some_iff.1 R4a.out).1
    obtain ⟨F2, hF2⟩ : ∃ F2, w6.heap.size = F2 := ⟨_, rfl⟩
    have hFF2 : Hid (F ≠ F2) := by show F ≠ F2; omega
    clear hs4
    rw [hF2] at R7
    rw [hF2]
    clear hF2
    have RB7 := Lib.hid ((HB7.out.block b2 (Array.getElem?_eq_some_iff.1 RB6.out).1).trans RB6.out)
    have R4b := Lib.hid ((HB7.out.block F (Array.getElem?_eq_some_iff.1 R4a.out).1).trans R4a.out)
    have HX7 := Lib.hid (below_then HB56.out HB7.out)
    obtain ⟨x0, x1, x2, x3, x4⟩ := rowc5' R4b.out
    go_wp2_with fail
    refine (lkEnd3 _ _).mono ?_; rintro e w8 ⟨rfl, hb8⟩
    have HB8 := Lib.hid hb8
    clear x0 x1 x2 x3 x4
    clear hb8
    have R7a := Lib.hid ((HB8.out.block F2 (Array.getElem?_eq_some_iff.1 R7.out).1).trans R7.out)
    have RB8 := Lib.hid ((HB8.out.block b2 (Array.getElem?_eq_some_iff.1 RB7.out).1).trans RB7.out)
    have R4c := Lib.hid ((HB8.out.block F (Array.getElem?_eq_some_iff.1 R4b.out).1).trans R4b.out)
    obtain ⟨W9, hW9⟩ : ∃ W9, (w8.alloc (.cells #[.int .i64 0, .int .u64 0] 66)).setRow w8.heap.size #[.int .i64 1, .int .u64 0] = W9 := ⟨_, rfl⟩
    have N9 : Hid ((w8.alloc (.cells #[.int .i64 0, .int .u64 0] 66)).heap[w8.heap.size]? = some (.cells #[.int .i64 0, .int .u64 0] 66 (0, 0))) := heap_alloc_new _ _
    have HB9 : Hid (Below w8.heap.size w8 W9) := hW9 ▸ row_below (below_new (Below.refl _ _) _) (Nat.le_refl _) _
    have R9 : Hid (W9.heap[w8.heap.size]? = some (.cells #[.int .i64 1, .int .u64 0] 66 (0, 0))) := hW9 ▸ setRow_heap _ _ _ _ _ (0, 0) N9.out
    have HW9 := Lib.hid hW9
    clear hW9
    go_upto_region 7 with (refine wpList_store_row rfl 66 _ _ rfl (w8.heap.size) _ rfl rfl 66 #[.int .i64 0, .int .u64 0] N9.out (by kernel_rfl) rfl (by simp [Value.oneCell']) ?_)
    rw [HW9.out]
    try simp only [Act.put]
    clear HW9 N9
    have hs4 := (Array.getElem?_eq_some_iff.1 R4c.out).1
    obtain ⟨O, hO⟩ : ∃ O, w8.heap.size = O := ⟨_, rfl⟩
    have hFO : Hid (F ≠ O) := by show F ≠ O; omega
    clear hs4
    rw [hO] at R9
    rw [hO]
    clear hO
    have R7b := Lib.hid ((HB9.out.block F2 (Array.getElem?_eq_some_iff.1 R7a.out).1).trans R7a.out)
    have RB9 := Lib.hid ((HB9.out.block b2 (Array.getElem?_eq_some_iff.1 RB8.out).1).trans RB8.out)
    have R4d := Lib.hid ((HB9.out.block F (Array.getElem?_eq_some_iff.1 R4c.out).1).trans R4c.out)
    have HX9 := Lib.hid (below_then HX7.out (below_then HB8.out HB9.out))
    obtain ⟨x0, x1, x2, x3, x4⟩ := rowc5' R7b.out
    go_wp2_with fail
    refine (lkEnd3 _ _).mono ?_; rintro e w10 ⟨rfl, hb10⟩
    have HB10 := Lib.hid hb10
    clear x0 x1 x2 x3 x4
    clear hb10
    have R7c := Lib.hid ((HB10.out.block F2 (Array.getElem?_eq_some_iff.1 R7b.out).1).trans R7b.out)
    have RB10 := Lib.hid ((HB10.out.block b2 (Array.getElem?_eq_some_iff.1 RB9.out).1).trans RB9.out)
    have R4e := Lib.hid ((HB10.out.block F (Array.getElem?_eq_some_iff.1 R4d.out).1).trans R4d.out)
    have R9a := Lib.hid ((HB10.out.block O (Array.getElem?_eq_some_iff.1 R9.out).1).trans R9.out)
    obtain ⟨W11, hW11⟩ : ∃ W11, (w10.alloc (.cells #[.int .i64 0, .int .u64 0] 66)).setRow w10.heap.size #[.int .i64 1, .int .u64 0] = W11 := ⟨_, rfl⟩
    have N11 : Hid ((w10.alloc (.cells #[.int .i64 0, .int .u64 0] 66)).heap[w10.heap.size]? = some (.cells #[.int .i64 0, .int .u64 0] 66 (0, 0))) := heap_alloc_new _ _
    have HB11 : Hid (Below w10.heap.size w10 W11) := hW11 ▸ row_below (below_new (Below.refl _ _) _) (Nat.le_refl _) _
    have R11 : Hid (W11.heap[w10.heap.size]? = some (.cells #[.int .i64 1, .int .u64 0] 66 (0, 0))) := hW11 ▸ setRow_heap _ _ _ _ _ (0, 0) N11.out
    have HW11 := Lib.hid hW11
    clear hW11
    go_upto_region 8 with (refine wpList_store_row rfl 66 _ _ rfl (w10.heap.size) _ rfl rfl 66 #[.int .i64 0, .int .u64 0] N11.out (by kernel_rfl) rfl (by simp [Value.oneCell']) ?_)
    rw [HW11.out]
    try simp only [Act.put]
    clear HW11 N11
    obtain ⟨O2, hO2⟩ : ∃ O2, w10.heap.size = O2 := ⟨_, rfl⟩
    rw [hO2] at R11
    rw [hO2]
    clear hO2
    have R7d := Lib.hid ((HB11.out.block F2 (Array.getElem?_eq_some_iff.1 R7c.out).1).trans R7c.out)
    have RB11 := Lib.hid ((HB11.out.block b2 (Array.getElem?_eq_some_iff.1 RB10.out).1).trans RB10.out)
    have R4f := Lib.hid ((HB11.out.block F (Array.getElem?_eq_some_iff.1 R4e.out).1).trans R4e.out)
    have R9b := Lib.hid ((HB11.out.block O (Array.getElem?_eq_some_iff.1 R9a.out).1).trans R9a.out)
    have HX11 := Lib.hid (below_then HX9.out (below_then HB10.out HB11.out))
    obtain ⟨x0, x1⟩ := rowc2 R9b.out
    obtain ⟨y0, y1⟩ := rowc2 R11.out
    obtain ⟨z0, z1, z2, z3, z4⟩ := rowc5' R4f.out
    go_wp2_with fail
    refine (lkRes3 none 0 0 _ _ _ _ _).mono ?_; rintro e w12 ⟨rfl, hb12⟩
    unfold lkV
    have HB12 := Lib.hid hb12
    clear hb12
    clear x0 x1
    clear y0 y1
    clear z0 z1 z2 z3 z4
    have R7e := Lib.hid ((HB12.out.block F2 (Array.getElem?_eq_some_iff.1 R7d.out).1).trans R7d.out)
    have RB12 := Lib.hid ((HB12.out.block b2 (Array.getElem?_eq_some_iff.1 RB11.out).1).trans RB11.out)
    have R4g := Lib.hid ((HB12.out.block F (Array.getElem?_eq_some_iff.1 R4f.out).1).trans R4f.out)
    have R9c := Lib.hid ((HB12.out.block O (Array.getElem?_eq_some_iff.1 R9b.out).1).trans R9b.out)
    have HX12 : Hid (Below w.heap.size w w12) := below_then HBC.out (below_then HB1.out (below_then HB14.out (below_then HX11.out HB12.out)))
    obtain ⟨W13, hW13⟩ : ∃ W13, w12.setRow F #[.int .i64 0, .int .i64 3, .slice none 0 0, .slice none 0 0, .slice none 0 0] = W13 := ⟨_, rfl⟩
    have R13 : Hid (W13.heap[F]? = some (.cells #[.int .i64 0, .int .i64 3, .slice none 0 0, .slice none 0 0, .slice none 0 0] 71 (0, 0))) := hW13 ▸ setRow_heap _ _ _ _ _ (0, 0) R4g.out
    have R7f : Hid (W13.heap[F2]? = some (.cells #[.int .i64 0, .int .i64 3, .slice none 0 0, .slice none 0 0, .slice none 0 0] 71 (0, 0))) := hW13 ▸ (setRow_other w12 F F2 _ hFF2.out.symm).trans R7e.out
    have R9d : Hid (W13.heap[O]? = some (.cells #[.int .i64 1, .int .u64 0] 66 (0, 0))) := hW13 ▸ (setRow_other w12 F O _ hFO.out.symm).trans R9c.out
    have RB13 : Hid (W13.heap[b2]? = some (.cells #[.int .i64 (c.base 0 + 2)] 3 (0, 0))) := hW13 ▸ (setRow_other w12 F b2 _ hFb.out.symm).trans RB12.out
    have HX13 : Hid (Below w.heap.size w W13) := hW13 ▸ row_below HX12.out HFW.out _
    have HW13 := Lib.hid hW13
    clear hW13
    go_upto_region 11 with (refine wpList_store_row rfl 71 _ _ rfl F _ rfl rfl 71 _ R4g.out (by kernel_rfl) rfl (by simp [Value.oneCell']) ?_)
    rw [HW13.out]
    try simp only [Act.put]
    clear HW13
    obtain ⟨x0, x1, x2, x3, x4⟩ := rowc5' R13.out
    go_wp2_with fail
    refine (lkEnd3 _ _).mono ?_; rintro e w14 ⟨rfl, hb14⟩
    have HB14' := Lib.hid hb14
    clear x0 x1 x2 x3 x4
    clear hb14
    have R7g := Lib.hid ((HB14'.out.block F2 (Array.getElem?_eq_some_iff.1 R7f.out).1).trans R7f.out)
    have R9e := Lib.hid ((HB14'.out.block O (Array.getElem?_eq_some_iff.1 R9d.out).1).trans R9d.out)
    have RB14 := Lib.hid ((HB14'.out.block b2 (Array.getElem?_eq_some_iff.1 RB13.out).1).trans RB13.out)
    have R13a := Lib.hid ((HB14'.out.block F (Array.getElem?_eq_some_iff.1 R13.out).1).trans R13.out)
    obtain ⟨W15, hW15⟩ : ∃ W15, (w14.alloc (.cells #[.int .i64 0, .int .u64 0] 66)).setRow w14.heap.size #[.int .i64 1, .int .u64 0] = W15 := ⟨_, rfl⟩
    have N15 : Hid ((w14.alloc (.cells #[.int .i64 0, .int .u64 0] 66)).heap[w14.heap.size]? = some (.cells #[.int .i64 0, .int .u64 0] 66 (0, 0))) := heap_alloc_new _ _
    have HB15 : Hid (Below w14.heap.size w14 W15) := hW15 ▸ row_below (below_new (Below.refl _ _) _) (Nat.le_refl _) _
    have R15 : Hid (W15.heap[w14.heap.size]? = some (.cells #[.int .i64 1, .int .u64 0] 66 (0, 0))) := hW15 ▸ setRow_heap _ _ _ _ _ (0, 0) N15.out
    have HW15 := Lib.hid hW15
    clear hW15
    go_upto_region 12 with (refine wpList_store_row rfl 66 _ _ rfl (w14.heap.size) _ rfl rfl 66 #[.int .i64 0, .int .u64 0] N15.out (by kernel_rfl) rfl (by simp [Value.oneCell']) ?_)
    rw [HW15.out]
    try simp only [Act.put]
    clear HW15 N15
    obtain ⟨O3, hO3⟩ : ∃ O3, w14.heap.size = O3 := ⟨_, rfl⟩
    rw [hO3] at R15
    rw [hO3]
    clear hO3
    have R7h := Lib.hid ((HB15.out.block F2 (Array.getElem?_eq_some_iff.1 R7g.out).1).trans R7g.out)
    have R9f := Lib.hid ((HB15.out.block O (Array.getElem?_eq_some_iff.1 R9e.out).1).trans R9e.out)
    have RB15 := Lib.hid ((HB15.out.block b2 (Array.getElem?_eq_some_iff.1 RB14.out).1).trans RB14.out)
    have R13b := Lib.hid ((HB15.out.block F (Array.getElem?_eq_some_iff.1 R13a.out).1).trans R13a.out)
    obtain ⟨x0, x1⟩ := rowc2 R15.out
    obtain ⟨y0, y1⟩ := rowc2 R9f.out
    obtain ⟨z0, z1, z2, z3, z4⟩ := rowc5' R13b.out
    go_wp2_with fail
    refine (lkNext3 _).mono ?_; rintro e w16 ⟨rfl, hb16⟩
    unfold accV
    dsimp only
    have HB16 := Lib.hid hb16
    clear hb16
    clear x0 x1
    clear y0 y1
    clear z0 z1 z2 z3 z4
    have R7i := Lib.hid ((HB16.out.block F2 (Array.getElem?_eq_some_iff.1 R7h.out).1).trans R7h.out)
    have RB16 := Lib.hid ((HB16.out.block b2 (Array.getElem?_eq_some_iff.1 RB15.out).1).trans RB15.out)
    obtain ⟨x0, x1, x2, x3, x4⟩ := rowc5' R7i.out
    go_wp2_with fail
    refine (lkNext3 _).mono ?_; rintro e w17 ⟨rfl, hb17⟩
    unfold accV
    dsimp only
    clear x0 x1 x2 x3 x4
    have HBE := Lib.hid (below_then HX13.out (below_then HB14'.out (below_then HB15.out (below_then HB16.out hb17))))
    clear hb17
    go_wp2_with fail
    go_ret
    exact ⟨rfl, HBE.out⟩
  | false =>
    go_wp2_with fail
    refine (lkRes1n (some ⟨b2, 0, none⟩) 1 1 _ _ _ _).mono ?_; rintro e w6 ⟨rfl, hb6⟩
    unfold lkV
    have HB6 := Lib.hid hb6
    clear hb6 x0 x1 x2
    have HB56 := Lib.hid (below_then HB5.out HB6.out)
    have RB6 := Lib.hid ((HB6.out.block b2 (Array.getElem?_eq_some_iff.1 RB.out).1).trans RB.out)
    have R4a := Lib.hid ((HB56.out.block F (Array.getElem?_eq_some_iff.1 R4.out).1).trans R4.out)
    obtain ⟨W7, hW7⟩ : ∃ W7, (w6.alloc (.cells #[.int .i64 0, .int .i64 0, .slice none 0 0, .slice none 0 0, .slice none 0 0] 71)).setRow w6.heap.size #[.int .i64 0, .int .i64 1, .slice none 0 0, .slice (some ⟨b2, 0, none⟩) 1 1, .slice none 0 0] = W7 := ⟨_, rfl⟩
    have N7 : Hid ((w6.alloc (.cells #[.int .i64 0, .int .i64 0, .slice none 0 0, .slice none 0 0, .slice none 0 0] 71)).heap[w6.heap.size]? = some (.cells #[.int .i64 0, .int .i64 0, .slice none 0 0, .slice none 0 0, .slice none 0 0] 71 (0, 0))) := heap_alloc_new _ _
    have HB7 : Hid (Below w6.heap.size w6 W7) := hW7 ▸ row_below (below_new (Below.refl _ _) _) (Nat.le_refl _) _
    have R7 : Hid (W7.heap[w6.heap.size]? = some (.cells #[.int .i64 0, .int .i64 1, .slice none 0 0, .slice (some ⟨b2, 0, none⟩) 1 1, .slice none 0 0] 71 (0, 0))) := hW7 ▸ setRow_heap _ _ _ _ _ (0, 0) N7.out
    have HW7 := Lib.hid hW7
    clear hW7
    go_upto_region 6 with (refine wpList_store_row rfl 71 _ _ rfl (w6.heap.size) _ rfl rfl 71 #[.int .i64 0, .int .i64 0, .slice none 0 0, .slice none 0 0, .slice none 0 0] N7.out (by kernel_rfl) rfl (by simp [Value.oneCell']) ?_)
    rw [HW7.out]
    try simp only [Act.put]
    clear HW7 N7
    have hs4 := (Array.getElem?_eq_some_iff.1 R4a.out).1
    obtain ⟨F2, hF2⟩ : ∃ F2, w6.heap.size = F2 := ⟨_, rfl⟩
    have hFF2 : Hid (F ≠ F2) := by show F ≠ F2; omega
    clear hs4
    rw [hF2] at R7
    rw [hF2]
    clear hF2
    have RB7 := Lib.hid ((HB7.out.block b2 (Array.getElem?_eq_some_iff.1 RB6.out).1).trans RB6.out)
    have R4b := Lib.hid ((HB7.out.block F (Array.getElem?_eq_some_iff.1 R4a.out).1).trans R4a.out)
    have HX7 := Lib.hid (below_then HB56.out HB7.out)
    obtain ⟨x0, x1, x2, x3, x4⟩ := rowc5' R4b.out
    go_wp2_with fail
    refine (lkEnd3 _ _).mono ?_; rintro e w8 ⟨rfl, hb8⟩
    have HB8 := Lib.hid hb8
    clear x0 x1 x2 x3 x4
    clear hb8
    have R7a := Lib.hid ((HB8.out.block F2 (Array.getElem?_eq_some_iff.1 R7.out).1).trans R7.out)
    have RB8 := Lib.hid ((HB8.out.block b2 (Array.getElem?_eq_some_iff.1 RB7.out).1).trans RB7.out)
    have R4c := Lib.hid ((HB8.out.block F (Array.getElem?_eq_some_iff.1 R4b.out).1).trans R4b.out)
    obtain ⟨W9, hW9⟩ : ∃ W9, (w8.alloc (.cells #[.int .i64 0, .int .u64 0] 66)).setRow w8.heap.size #[.int .i64 1, .int .u64 0] = W9 := ⟨_, rfl⟩
    have N9 : Hid ((w8.alloc (.cells #[.int .i64 0, .int .u64 0] 66)).heap[w8.heap.size]? = some (.cells #[.int .i64 0, .int .u64 0] 66 (0, 0))) := heap_alloc_new _ _
    have HB9 : Hid (Below w8.heap.size w8 W9) := hW9 ▸ row_below (below_new (Below.refl _ _) _) (Nat.le_refl _) _
    have R9 : Hid (W9.heap[w8.heap.size]? = some (.cells #[.int .i64 1, .int .u64 0] 66 (0, 0))) := hW9 ▸ setRow_heap _ _ _ _ _ (0, 0) N9.out
    have HW9 := Lib.hid hW9
    clear hW9
    go_upto_region 7 with (refine wpList_store_row rfl 66 _ _ rfl (w8.heap.size) _ rfl rfl 66 #[.int .i64 0, .int .u64 0] N9.out (by kernel_rfl) rfl (by simp [Value.oneCell']) ?_)
    rw [HW9.out]
    try simp only [Act.put]
    clear HW9 N9
    have hs4 := (Array.getElem?_eq_some_iff.1 R4c.out).1
    obtain ⟨O, hO⟩ : ∃ O, w8.heap.size = O := ⟨_, rfl⟩
    have hFO : Hid (F ≠ O) := by show F ≠ O; omega
    clear hs4
    rw [hO] at R9
    rw [hO]
    clear hO
    have R7b := Lib.hid ((HB9.out.block F2 (Array.getElem?_eq_some_iff.1 R7a.out).1).trans R7a.out)
    have RB9 := Lib.hid ((HB9.out.block b2 (Array.getElem?_eq_some_iff.1 RB8.out).1).trans RB8.out)
    have R4d := Lib.hid ((HB9.out.block F (Array.getElem?_eq_some_iff.1 R4c.out).1).trans R4c.out)
    have HX9 := Lib.hid (below_then HX7.out (below_then HB8.out HB9.out))
    obtain ⟨x0, x1, x2, x3, x4⟩ := rowc5' R7b.out
    go_wp2_with fail
    refine (lkEnd1 _ _).mono ?_; rintro e w10 ⟨rfl, hb10⟩
    have HB10 := Lib.hid hb10
    clear x0 x1 x2 x3 x4
    clear hb10
    have R7c := Lib.hid ((HB10.out.block F2 (Array.getElem?_eq_some_iff.1 R7b.out).1).trans R7b.out)
    have RB10 := Lib.hid ((HB10.out.block b2 (Array.getElem?_eq_some_iff.1 RB9.out).1).trans RB9.out)
    have R4e := Lib.hid ((HB10.out.block F (Array.getElem?_eq_some_iff.1 R4d.out).1).trans R4d.out)
    have R9a := Lib.hid ((HB10.out.block O (Array.getElem?_eq_some_iff.1 R9.out).1).trans R9.out)
    obtain ⟨W11, hW11⟩ : ∃ W11, (w10.alloc (.cells #[.int .i64 0, .int .u64 0] 66)).setRow w10.heap.size #[.int .i64 0, .int .u64 0] = W11 := ⟨_, rfl⟩
    have N11 : Hid ((w10.alloc (.cells #[.int .i64 0, .int .u64 0] 66)).heap[w10.heap.size]? = some (.cells #[.int .i64 0, .int .u64 0] 66 (0, 0))) := heap_alloc_new _ _
    have HB11 : Hid (Below w10.heap.size w10 W11) := hW11 ▸ row_below (below_new (Below.refl _ _) _) (Nat.le_refl _) _
    have R11 : Hid (W11.heap[w10.heap.size]? = some (.cells #[.int .i64 0, .int .u64 0] 66 (0, 0))) := hW11 ▸ setRow_heap _ _ _ _ _ (0, 0) N11.out
    have HW11 := Lib.hid hW11
    clear hW11
    go_upto_region 8 with (refine wpList_store_row rfl 66 _ _ rfl (w10.heap.size) _ rfl rfl 66 #[.int .i64 0, .int .u64 0] N11.out (by kernel_rfl) rfl (by simp [Value.oneCell']) ?_)
    rw [HW11.out]
    try simp only [Act.put]
    clear HW11 N11
    obtain ⟨O2, hO2⟩ : ∃ O2, w10.heap.size = O2 := ⟨_, rfl⟩
    rw [hO2] at R11
    rw [hO2]
    clear hO2
    have R7d := Lib.hid ((HB11.out.block F2 (Array.getElem?_eq_some_iff.1 R7c.out).1).trans R7c.out)
    have RB11 := Lib.hid ((HB11.out.block b2 (Array.getElem?_eq_some_iff.1 RB10.out).1).trans RB10.out)
    have R4f := Lib.hid ((HB11.out.block F (Array.getElem?_eq_some_iff.1 R4e.out).1).trans R4e.out)
    have R9b := Lib.hid ((HB11.out.block O (Array.getElem?_eq_some_iff.1 R9a.out).1).trans R9a.out)
    have HX11 := Lib.hid (below_then HX9.out (below_then HB10.out HB11.out))
    obtain ⟨x0, x1⟩ := rowc2 R9b.out
    obtain ⟨y0, y1⟩ := rowc2 R11.out
    obtain ⟨z0, z1, z2, z3, z4⟩ := rowc5' R4f.out
    go_wp2_with fail
    refine (lkRes3 none 0 0 _ _ _ _ _).mono ?_; rintro e w12 ⟨rfl, hb12⟩
    unfold lkV
    have HB12 := Lib.hid hb12
    clear hb12
    clear x0 x1
    clear y0 y1
    clear z0 z1 z2 z3 z4
    have R7e := Lib.hid ((HB12.out.block F2 (Array.getElem?_eq_some_iff.1 R7d.out).1).trans R7d.out)
    have RB12 := Lib.hid ((HB12.out.block b2 (Array.getElem?_eq_some_iff.1 RB11.out).1).trans RB11.out)
    have R4g := Lib.hid ((HB12.out.block F (Array.getElem?_eq_some_iff.1 R4f.out).1).trans R4f.out)
    have R9c := Lib.hid ((HB12.out.block O (Array.getElem?_eq_some_iff.1 R9b.out).1).trans R9b.out)
    have HX12 : Hid (Below w.heap.size w w12) := below_then HBC.out (below_then HB1.out (below_then HB14.out (below_then HX11.out HB12.out)))
    obtain ⟨W13, hW13⟩ : ∃ W13, w12.setRow F #[.int .i64 0, .int .i64 3, .slice none 0 0, .slice none 0 0, .slice none 0 0] = W13 := ⟨_, rfl⟩
    have R13 : Hid (W13.heap[F]? = some (.cells #[.int .i64 0, .int .i64 3, .slice none 0 0, .slice none 0 0, .slice none 0 0] 71 (0, 0))) := hW13 ▸ setRow_heap _ _ _ _ _ (0, 0) R4g.out
    have R7f : Hid (W13.heap[F2]? = some (.cells #[.int .i64 0, .int .i64 1, .slice none 0 0, .slice (some ⟨b2, 0, none⟩) 1 1, .slice none 0 0] 71 (0, 0))) := hW13 ▸ (setRow_other w12 F F2 _ hFF2.out.symm).trans R7e.out
    have R9d : Hid (W13.heap[O]? = some (.cells #[.int .i64 1, .int .u64 0] 66 (0, 0))) := hW13 ▸ (setRow_other w12 F O _ hFO.out.symm).trans R9c.out
    have RB13 : Hid (W13.heap[b2]? = some (.cells #[.int .i64 (c.base 0 + 2)] 3 (0, 0))) := hW13 ▸ (setRow_other w12 F b2 _ hFb.out.symm).trans RB12.out
    have HX13 : Hid (Below w.heap.size w W13) := hW13 ▸ row_below HX12.out HFW.out _
    have HW13 := Lib.hid hW13
    clear hW13
    go_upto_region 11 with (refine wpList_store_row rfl 71 _ _ rfl F _ rfl rfl 71 _ R4g.out (by kernel_rfl) rfl (by simp [Value.oneCell']) ?_)
    rw [HW13.out]
    try simp only [Act.put]
    clear HW13
    obtain ⟨x0, x1, x2, x3, x4⟩ := rowc5' R13.out
    go_wp2_with fail
    refine (lkEnd3 _ _).mono ?_; rintro e w14 ⟨rfl, hb14⟩
    have HB14' := Lib.hid hb14
    clear x0 x1 x2 x3 x4
    clear hb14
    have R7g := Lib.hid ((HB14'.out.block F2 (Array.getElem?_eq_some_iff.1 R7f.out).1).trans R7f.out)
    have R9e := Lib.hid ((HB14'.out.block O (Array.getElem?_eq_some_iff.1 R9d.out).1).trans R9d.out)
    have RB14 := Lib.hid ((HB14'.out.block b2 (Array.getElem?_eq_some_iff.1 RB13.out).1).trans RB13.out)
    have R13a := Lib.hid ((HB14'.out.block F (Array.getElem?_eq_some_iff.1 R13.out).1).trans R13.out)
    obtain ⟨W15, hW15⟩ : ∃ W15, (w14.alloc (.cells #[.int .i64 0, .int .u64 0] 66)).setRow w14.heap.size #[.int .i64 1, .int .u64 0] = W15 := ⟨_, rfl⟩
    have N15 : Hid ((w14.alloc (.cells #[.int .i64 0, .int .u64 0] 66)).heap[w14.heap.size]? = some (.cells #[.int .i64 0, .int .u64 0] 66 (0, 0))) := heap_alloc_new _ _
    have HB15 : Hid (Below w14.heap.size w14 W15) := hW15 ▸ row_below (below_new (Below.refl _ _) _) (Nat.le_refl _) _
    have R15 : Hid (W15.heap[w14.heap.size]? = some (.cells #[.int .i64 1, .int .u64 0] 66 (0, 0))) := hW15 ▸ setRow_heap _ _ _ _ _ (0, 0) N15.out
    have HW15 := Lib.hid hW15
    clear hW15
    go_upto_region 12 with (refine wpList_store_row rfl 66 _ _ rfl (w14.heap.size) _ rfl rfl 66 #[.int .i64 0, .int .u64 0] N15.out (by kernel_rfl) rfl (by simp [Value.oneCell']) ?_)
    rw [HW15.out]
    try simp only [Act.put]
    clear HW15 N15
    obtain ⟨O3, hO3⟩ : ∃ O3, w14.heap.size = O3 := ⟨_, rfl⟩
    rw [hO3] at R15
    rw [hO3]
    clear hO3
    have R7h := Lib.hid ((HB15.out.block F2 (Array.getElem?_eq_some_iff.1 R7g.out).1).trans R7g.out)
    have R9f := Lib.hid ((HB15.out.block O (Array.getElem?_eq_some_iff.1 R9e.out).1).trans R9e.out)
    have RB15 := Lib.hid ((HB15.out.block b2 (Array.getElem?_eq_some_iff.1 RB14.out).1).trans RB14.out)
    have R13b := Lib.hid ((HB15.out.block F (Array.getElem?_eq_some_iff.1 R13a.out).1).trans R13a.out)
    obtain ⟨x0, x1⟩ := rowc2 R15.out
    obtain ⟨y0, y1⟩ := rowc2 R9f.out
    obtain ⟨z0, z1, z2, z3, z4⟩ := rowc5' R13b.out
    go_wp2_with fail
    refine (lkNext3 _).mono ?_; rintro e w16 ⟨rfl, hb16⟩
    unfold accV
    dsimp only
    have HB16 := Lib.hid hb16
    clear hb16
    clear x0 x1
    clear y0 y1
    clear z0 z1 z2 z3 z4
    have R7i := Lib.hid ((HB16.out.block F2 (Array.getElem?_eq_some_iff.1 R7h.out).1).trans R7h.out)
    have RB16 := Lib.hid ((HB16.out.block b2 (Array.getElem?_eq_some_iff.1 RB15.out).1).trans RB15.out)
    obtain ⟨x0, x1, x2, x3, x4⟩ := rowc5' R7i.out
    go_wp2_with fail
    refine (lkNext1 b2 _ _ RB16.out).mono ?_; rintro e w17 ⟨rfl, hb17⟩
    unfold accV
    dsimp only
    clear x0 x1 x2 x3 x4
    have HBE := Lib.hid (below_then HX13.out (below_then HB14'.out (below_then HB15.out (below_then HB16.out hb17))))
    clear hb17
    go_wp2_with fail
    go_ret
    exact ⟨rfl, HBE.out⟩
set_option maxRecDepth 100000 in
theorem lifted (os : Os) (started : os.Started) (H : Type) (enc : TypeId × Value → H) :
    ReturnsInHanded {} Try.checked os 6 .any (Rows.lockFramesSpec.pre6 enc Try.prog Try.f6 Rows.lockFramesRow.domain false) (Rows.lockFramesSpec.post enc Try.prog Try.f6 false true false false) := by
  refine returnsInHanded_of_change_sized (C := Try.checked) own started (by kernel_rfl) Try.func6
    (ChangeSpec.witness6 (enc := enc) (C := Try.checked) false ⟨#[], #[.slice none 0 0, .int .u64 0, .bool false], []⟩ 8 (by kernel_rfl) (by kernel_rfl) (by kernel_rfl) (by kernel_rfl)) ?_
  intro W base args ds gs before hval0 hW _ hsz0 _
  have hsz : (DataW.weightsEach Try.prog (Try.f6.params.toList ++ Rows.lockFramesSpec.plain.varTypes Try.prog) (ds ++ gs)).all (· ≤ reachBytes) = true := hsz0
  clear hsz0
  have hval : ∀ (j : Nat) t v, Try.f6.params[j]? = some t → args[j]? = some v → Value.okWide Try.prog W .any base t v := hval0
  have hW' := hW
  obtain ⟨p, q, hA0, hV, rfl, _, _⟩ := hW
  have hA : DataW.TrodAll enc Try.prog W 0 (fun _ => true) true Try.f6.params.toList args.toList ds p := hA0
  rw [Try.params6] at hA hval hsz
  obtain ⟨v0, vs0, d0, ds0, p0, q0, hargs, rfl, rfl, h0, r0⟩ := trodAll_cons hA
  obtain ⟨v1, vs1, d1, ds1, p1, q1, rfl, rfl, rfl, h1, r1⟩ := trodAll_cons r0
  obtain ⟨v2, vs2, d2, ds2, p2, q2, rfl, rfl, rfl, h2, r2⟩ := trodAll_cons r1
  obtain ⟨rfl, rfl, rfl⟩ := trodAll_nil r2
  obtain rfl : args = #[v0, v1, v2] := by cases args; simp_all
  obtain ⟨rfl, rfl⟩ := trodVars_none hV
  have k0 := h0
  have k1 := h1
  have k2 := h2
  obtain ⟨l0, s0⟩ := view_sl (k := .u8) Try.underlying22 Try.underlying5 (by kernel_rfl) (fun elems sp hd => sized_slice hsz (j := 0) (t := 22) (e := 5) rfl (by rw [hd]; rfl) Try.underlying22) (of_decide_eq_true (by kernel_rfl)) (hval 0 22 v0 rfl rfl) h0
  obtain ⟨a1, rfl, -, -, w1⟩ := open_int Try.underlying32 (hval 1 32 v1 rfl rfl) h1
  obtain ⟨a2, rfl, -, -⟩ := open_bool Try.underlying4 (hval 2 4 v2 rfl rfl) h2
  clear hA0 hval0
  simp only [List.append_nil] at hW'
  have hlt := hW'.lt
  refine (walk W v0 l0 s0 a1 w1 a2).mono fun e W' ⟨he, hb⟩ => ?_
  subst he
  exact ⟨_, rfl, _, _, _, [], _, [], hW', trodAll_cons_mk (shut_bool Try.underlying4 _) trodAll_mk0, (trodAll_cons_mk (Below.trod Try.laidOut (by kernel_rfl) (of_decide_eq_true (by kernel_rfl)) k0 hb (fun x hx => by simpa using hlt x (by simp [hx]))) (trodAll_cons_mk (Below.trod Try.laidOut (by kernel_rfl) (of_decide_eq_true (by kernel_rfl)) k1 hb (fun x hx => by simpa using hlt x (by simp [hx]))) (trodAll_cons_mk (Below.trod Try.laidOut (by kernel_rfl) (of_decide_eq_true (by kernel_rfl)) k2 hb (fun x hx => by simpa using hlt x (by simp [hx]))) trodAll_mk0))), rfl, hb.frame _, fun h => by cases h⟩
theorem over : Rows.lockFramesRow.holds Try.pinned (OpenSpec.ofChange Rows.lockFramesSpec) :=
  OpenClaim.holds_of_wide 6 Try.f6 rfl rfl rfl rfl rfl rfl rfl ⟨rfl, rfl, rfl, rfl, rfl⟩ rfl rfl rfl rfl rfl (by kernel_rfl) Try.func6 (by kernel_rfl)
    (of_decide_eq_true (by kernel_rfl)) (by unfold Func.isWrapper; first | (rw [if_pos (by decide +kernel)]; kernel_rfl) | (rw [if_neg (by decide +kernel)]; exact ⟨rfl, rfl⟩))
    (fun os started H enc _ => lifted os started H enc)
/-- THE STATEMENT -/
theorem proved : Rows.LockFramesSaid :=
  over
end Go.Proofs.Ytipjfcjdefdoeaa.lockFrames
