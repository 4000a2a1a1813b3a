/- MemoryOne's walk, from the contract of Codes.Access. -/
import Derived.Test.YtkciejealeinoaaLaw
import Derived.Test.YtkciejealeinoaaL4Awake
import Derived.Test.YtkciejealeinoaaL4Kinds
import Derived.Test.YtkciejealeinoaaMmS
import Derived.Test.YtkciejealeinoaaMmP
import Derived.Test.YtkciejealeinoaaMmD
import Derived.Test.YtkciejealeinoaaMmF
import Derived.LoopTactic
import Derived.WalkKit
import Derived.ProofKit
namespace Go.Proofs.Ytkciejealeinoaa
open Go.ChangeShapes Go.WideShapes Go.ChangeAt Go.RowKit
set_option maxRecDepth 100000
set_option linter.unusedVariables false
theorem wrP_writes {k : Int} (h : wrP k) : writesB k = true := by
  rcases h with e | e | e | e | e <;> subst e <;> decide
theorem same_quietB (u v : Value) (l l' : List Int) (w : World) (n : Nat) (hl : SlI w .i64 u l) (hm : SlI w .i64 v l') :
    Calls Try.prog 18 #[u, v] (w.drewN n) fun e w' => e = .returned (.bool (decide (l = l'))) ∧ ∃ m, w' = w.drewN m := by
  refine Calls.quiet_of ?_
  refine (same_any u v l l' _ (hl.drew n) (hm.drew n)).mono ?_
  rintro e w' ⟨m, rfl, rfl⟩
  exact ⟨rfl, m, rfl⟩
set_option maxHeartbeats 8000000 in
theorem one_of (HA : ∀ (g : Nat) (A A2 : Option Addr) (n c n2 c2 : Nat) (t : Int) (w : World), CodesE w g → n ≤ 200 → n2 ≤ 200 →
    Calls Try.prog 30 #[.pointer (some ⟨g, 0, none⟩), .agg #[.slice A n c, .slice A2 n2 c2, .int .i64 t]] w fun e w' => ∃ a, e = .returned (accV a) ∧ a.ok ∧ CodesE w' g ∧ w.grownBy w' (some g))
    (w : World) (v0 : Value) (l0 : List Int) (s0 : SlI w .u8 v0 l0) :
    Calls Try.prog 7 #[v0] w fun e w' => e = .returned (.bool true) ∧ Below w.heap.size w w' := by
  have HACC := Lib.hid HA
  clear HA
  have AW := Lib.hid fun w' => awake4_any w'
  have HS0 := Lib.hid s0
  clear s0
  go_enter Try.func7, Try.ntmps7
  go_wp2_with fail
  refine (AW.out _).mono ?_; rintro e wa ⟨rfl, hba⟩
  have HBA := Lib.hid hba
  clear hba AW
  go_wp2_with fail
  refine (new_any _ l0 60 _ (HS0.out.below HBA.out) (by omega)).mono ?_; rintro e wb ⟨rfl, hcb, hbb⟩
  have HBB := Lib.hid (below_then HBA.out hbb)
  have hgz := HBA.out.size
  have HCB : Hid (CodesE wb wa.heap.size) := ⟨_, _, hcb⟩
  clear hcb hbb HS0
  generalize wa.heap.size = g at *
  go_wp2_with fail
  refine (memoryE g _ HCB.out).mono ?_; rintro e w3 ⟨v, m, rfl, hst, hfits, ht, hwn, hln, hc3, hg3⟩
  obtain ⟨A, c, A2, c2, rfl⟩ := hst.open w3 (grownBy_refl _ _)
  have HST := Lib.hid hst
  have HFI := Lib.hid hfits
  have HC3 := Lib.hid hc3
  have hg3z := hc3.lt
  have HB3 : Hid (Below w.heap.size w w3) := (HBB.out).grown hg3 HBB.out.size (fun k hk => by cases hk; exact hgz)
  clear hst hfits ht hc3 hg3 HCB HBB HBA
  generalize hn1 : m.words.length = n1 at *
  generalize hn2 : m.lists.length = n2 at *
  generalize htk : m.tick = t at *
  have HN := Lib.hid (And.intro hn1 (And.intro hn2 htk))
  clear hn1 hn2 htk
  -- the memory's box
  have N4 : Hid ((w3.alloc (.cells zeroMem 48)).heap[w3.heap.size]? = some (.cells zeroMem 48 (0, 0))) := heap_alloc_new _ _
  obtain ⟨w4, hw4⟩ : ∃ w4, (w3.alloc (.cells zeroMem 48)).setRow w3.heap.size #[.slice A n1 c, .slice A2 n2 c2, .int .i64 t] = w4 := ⟨_, rfl⟩
  have HB34 : Hid (Below w3.heap.size w3 w4) := hw4 ▸ row_below (below_new (Below.refl _ _) _) (Nat.le_refl _) _
  have R4 : Hid (w4.heap[w3.heap.size]? = some (.cells #[.slice A n1 c, .slice A2 n2 c2, .int .i64 t] 48 (0, 0))) := hw4 ▸ setRow_heap _ _ _ _ _ (0, 0) N4.out
  have hz4 : w3.heap.size + 1 = w4.heap.size := by rw [← hw4]; simp
  have HC4 := Lib.hid (HC3.out.kept hg3z HB34.out)
  have HW4 := Lib.hid hw4
  clear hw4 HC3
  go_upto_region 5 with (refine wpList_store_row rfl 48 _ _ rfl (w3.heap.size) _ rfl rfl 48 zeroMem N4.out (by kernel_rfl) rfl (by simp [Value.oneCell']) ?_)
  rw [show (#[.slice none 0 0, .slice none 0 0, .int .i64 0] : Array Value) = zeroMem from rfl, HW4.out]
  clear HW4 N4
  obtain ⟨x0, x1, x2⟩ := rowc3 R4.out
  go_wp2_with fail
  refine (HACC.out g A A2 n1 c n2 c2 t w4 HC4.out (by omega) (by omega)).mono ?_; rintro e w5 ⟨a, rfl, hok, hc5, hg5⟩
  have HOK := Lib.hid hok
  have HONE := Lib.hid (applyE_one m a)
  clear hok hc5 x0 x1 x2
  obtain ⟨kd, ad, od, nd, ud⟩ := a
  dsimp only [accV]
  -- the access's box
  have N5 : Hid ((w5.alloc (.cells zeroAcc 50)).heap[w5.heap.size]? = some (.cells zeroAcc 50 (0, 0))) := heap_alloc_new _ _
  obtain ⟨w6, hw6⟩ : ∃ w6, (w5.alloc (.cells zeroAcc 50)).setRow w5.heap.size #[.int .i64 kd, .int .i64 ad, .int .u64 od, .int .u64 nd, .int .i64 ud] = w6 := ⟨_, rfl⟩
  have HB56 : Hid (Below w5.heap.size w5 w6) := hw6 ▸ row_below (below_new (Below.refl _ _) _) (Nat.le_refl _) _
  have R5 : Hid (w6.heap[w5.heap.size]? = some (.cells #[.int .i64 kd, .int .i64 ad, .int .u64 od, .int .u64 nd, .int .i64 ud] 50 (0, 0))) := hw6 ▸ setRow_heap _ _ _ _ _ (0, 0) N5.out
  have hz6 : w5.heap.size + 1 = w6.heap.size := by rw [← hw6]; simp
  have hz45 := hg5.size
  have R6 : Hid (w6.heap[w3.heap.size]? = some (.cells #[.slice A n1 c, .slice A2 n2 c2, .int .i64 t] 48 (0, 0))) := (HB56.out.block _ (by omega)).trans ((hg5.block _ (by omega) (by simp; omega)).trans R4.out)
  have HMV : Hid (MemV w6 (.agg #[.slice A n1 c, .slice A2 n2 c2, .int .i64 t]) m) := HST.out.at (grownBy_trans (grown_below HB34.out) (grownBy_trans hg5 (grown_below HB56.out)))
  have HBW6 : Hid (Below w.heap.size w w6) := below_then (below_grown (below_then HB3.out HB34.out) hg5 hgz) HB56.out
  have AP := Lib.hid (apply_any (Over w6) _ m ⟨kd, ad, od, nd, ud⟩ w6 (Over.self w6) (Over.wide w6) HMV.out.over HFI.out HOK.out)
  have HW6 := Lib.hid hw6
  clear hw6 hg5 HB34 R4 HC4 HST HFI HOK HB3 HB56
  go_upto_region 6 with (refine wpList_store_row rfl 50 _ _ rfl (w5.heap.size) _ rfl rfl 50 zeroAcc N5.out (by kernel_rfl) rfl (by simp [Value.oneCell']) ?_)
  rw [show (#[.int .i64 0, .int .i64 0, .int .u64 0, .int .u64 0, .int .i64 0] : Array Value) = zeroAcc from rfl, HW6.out]
  clear HW6 N5
  obtain ⟨x0, x1, x2⟩ := rowc3 R6.out
  obtain ⟨y0, y1, y2, y3, y4⟩ := rowc5 R5.out
  have HSZ := Lib.hid HONE.out.sizes
  have HWA := Lib.hid HONE.out.word_at
  have HLA := Lib.hid HONE.out.list_at
  clear HONE
  generalize hE : applyE m ⟨kd, ad, od, nd, ud⟩ = r at *
  clear hE
  obtain ⟨p, ⟨bv, bo, bl, bls⟩, gr⟩ := r
  go_wp2_with fail
  refine AP.out.mono ?_; rintro e w7 ⟨v7, b7, rfl, hs7, ha7, hb7⟩
  obtain ⟨A5, c5, A6, c6, rfl⟩ := hs7.open w7 (Nx.at (Over.self w6) (Over.wide w6) hb7)
  obtain ⟨A7, rfl, hA7⟩ := ha7
  obtain ⟨a7, c7, rfl, -⟩ := (hA7 w7 (Nx.at (Over.self w6) (Over.wide w6) hb7)).len
  rw [show p.words.length = n1 from HSZ.out.1.trans HN.out.1, show p.lists.length = n2 from HSZ.out.2.1.trans HN.out.2.1, show p.tick = t from HSZ.out.2.2.trans HN.out.2.2] at hs7 ⊢
  have hz7 := hb7.size
  have hw7 := below_new (below_new (Below.refl w7.heap.size w7) (.cells zeroMem 48)) (.cells zeroAns 55)
  have V0 : Hid (((w7.alloc (.cells zeroMem 48)).alloc (.cells zeroAns 55)).heap[w7.heap.size]? = some (.cells zeroMem 48 (0, 0))) := heap_alloc2_old _ _ _
  have V1 : Hid (∀ cs, (((w7.alloc (.cells zeroMem 48)).alloc (.cells zeroAns 55)).setRow w7.heap.size cs).heap[w7.heap.size + 1]? = some (.cells zeroAns 55 (0, 0))) := fun cs => (setRow_other _ _ _ _ (by omega)).trans (heap_alloc2_new _ _ _)
  obtain ⟨W8, hW8⟩ : ∃ W8, (((w7.alloc (.cells zeroMem 48)).alloc (.cells zeroAns 55)).setRow w7.heap.size #[.slice A5 n1 c5, .slice A6 n2 c6, .int .i64 t]).setRow (w7.heap.size + 1) #[.int .u64 bv, .bool bo, .bool bl, .slice a7 bls.length c7] = W8 := ⟨_, rfl⟩
  have HB78 : Below w7.heap.size w7 W8 := hW8 ▸ row_below (row_below hw7 (Nat.le_refl _) _) (by omega) _
  have T0 : Hid (W8.heap[w7.heap.size]? = some (.cells #[.slice A5 n1 c5, .slice A6 n2 c6, .int .i64 t] 48 (0, 0))) := hW8 ▸ (setRow_other _ _ _ _ (by omega)).trans (setRow_heap _ _ _ _ _ (0, 0) V0.out)
  have T1 : Hid (W8.heap[w7.heap.size + 1]? = some (.cells #[.int .u64 bv, .bool bo, .bool bl, .slice a7 bls.length c7] 55 (0, 0))) := hW8 ▸ setRow_heap _ _ _ _ _ (0, 0) (V1.out _)
  have HB68 := below_then hb7 HB78
  have TM := Lib.hid ((HB68.block w3.heap.size (by omega)).trans R6.out)
  have TA := Lib.hid ((HB68.block w5.heap.size (by omega)).trans R5.out)
  have HBW : Hid (Below w.heap.size w W8) := below_then HBW6.out HB68
  have HP : Hid (MemV W8 (.agg #[.slice A5 n1 c5, .slice A6 n2 c6, .int .i64 t]) p) := (hs7.at (Nx.at (Over.self w6) (Over.wide w6) hb7)).below HB78
  have HM : Hid (MemV W8 (.agg #[.slice A n1 c, .slice A2 n2 c2, .int .i64 t]) m) := HMV.out.below HB68
  have HW8 := Lib.hid hW8
  clear hs7 hA7 hb7 hw7 HB78 HB68 hW8 x0 x1 x2 y0 y1 y2 y3 y4 AP R5 R6 HMV HBW6
  go_upto_region 7 with (first
    | (refine wpList_store_row rfl 48 _ _ rfl (w7.heap.size) _ rfl rfl 48 zeroMem V0.out (by kernel_rfl) rfl (by simp [Value.oneCell']) ?_)
    | (refine wpList_store_row rfl 55 _ _ rfl (w7.heap.size + 1) _ rfl rfl 55 zeroAns (V1.out _) (by kernel_rfl) rfl (by simp [Value.oneCell']) ?_))
  rw [show (#[.slice none 0 0, .slice none 0 0, .int .i64 0] : Array Value) = zeroMem from rfl, show (#[.int .u64 0, .bool false, .bool false, .slice none 0 0] : Array Value) = zeroAns from rfl, HW8.out]
  clear HW8 V0 V1 hz4 hz6 hz45 hz7 hg3z hgz
  generalize w3.heap.size = B4 at *
  generalize w5.heap.size = B5 at *
  generalize w7.heap.size = B6 at *
  obtain ⟨x0, x1, x2⟩ := rowc3 TM.out
  obtain ⟨y0, y1, y2, y3, y4⟩ := rowc5 TA.out
  obtain ⟨z0, z1, z2⟩ := rowc3 T0.out
  obtain ⟨r0, r1, r2, r3⟩ := rowc4 T1.out
  have HWM := Lib.hid (HM.out.over.words W8 (Over.self W8))
  have HWP := Lib.hid (HP.out.over.words W8 (Over.self W8))
  obtain ⟨us, hus⟩ := HM.out.over.listsOf
  obtain ⟨us', hus'⟩ := HP.out.over.listsOf
  have HLM := Lib.hid (hus W8 (Over.self W8))
  have HLP := Lib.hid (hus' W8 (Over.self W8))
  have HNP : Hid (p.words.length = n1 ∧ p.lists.length = n2) := ⟨HSZ.out.1.trans HN.out.1, HSZ.out.2.1.trans HN.out.2.1⟩
  have HW1 : Hid (∀ i : Nat, p.words.getD i 0 ≠ m.words.getD i 0 → (i : Int) = ad ∧ kd < 7 ∧ wrP kd ∧ (kd = 3 → bo = true)) := HWA.out
  have HL1 : Hid (∀ i : Nat, p.lists.getD i [] ≠ m.lists.getD i [] → (i : Int) = ad ∧ 7 ≤ kd ∧ wrP kd) := HLA.out
  clear hus hus' HWA HLA HSZ HP HM
  go_wp2_with fail
  go_loopw [9, 54] (fun s9 s54 wr => ∃ (k : Nat) (q : Int), k ≤ n1 ∧ s54 = .int .i64 k ∧ s9 = .int .i64 q ∧ Hid (∃ n, wr = W8.drewN n) ∧ Hid (q = 0 ∨ (q = 1 ∧ wrP kd ∧ (kd = 3 → bo = true) ∧ kd < 7 ∧ ad < k))) (fun _ s54 _ => n1 - (intOf s54).toNat)
  case atStart => exact ⟨0, 0, by omega, rfl, rfl, ⟨0, rfl⟩, .inl rfl⟩
  case round =>
    obtain ⟨k, q, hk, rfl, rfl, hw, hcn⟩ := hrel
    obtain ⟨wo, rfl⟩ : ∃ wo : World, wo = wr := ⟨_, rfl⟩
    obtain ⟨n, hn⟩ := hw.out
    have X0 : wo.cell? ⟨B4, 0, none⟩ = some (.slice A n1 c) := by rw [hn]; exact x0
    have X1 : wo.cell? ⟨B4, 1, none⟩ = some (.slice A2 n2 c2) := by rw [hn]; exact x1
    have Y0 : wo.cell? ⟨B5, 0, none⟩ = some (.int .i64 kd) := by rw [hn]; exact y0
    have Y1 : wo.cell? ⟨B5, 1, none⟩ = some (.int .i64 ad) := by rw [hn]; exact y1
    have Z0 : wo.cell? ⟨B6, 0, none⟩ = some (.slice A5 n1 c5) := by rw [hn]; exact z0
    by_cases hlt : k < n1
    · obtain ⟨_, _, b, cc, e, _, h5⟩ := HWM.out
      obtain ⟨b0, o0, hA, _, v0⟩ := h5 k (by rw [HN.out.1]; exact hlt)
      simp only [Value.slice.injEq] at e
      obtain ⟨eA, -, -⟩ := e
      rw [hA] at eA
      obtain ⟨_, _, b', cc', e', _, h6⟩ := HWP.out
      obtain ⟨b1, o1, hA', _, v1⟩ := h6 k (by rw [HNP.out.1]; exact hlt)
      simp only [Value.slice.injEq] at e'
      obtain ⟨eA', -, -⟩ := e'
      rw [hA'] at eA'
      have V0 : wo.cell? ⟨b0, o0 + k, none⟩ = some (.int .u64 (m.words.getD k 0)) := by rw [hn]; exact v0
      have V1 : wo.cell? ⟨b1, o1 + k, none⟩ = some (.int .u64 (p.words.getD k 0)) := by rw [hn]; exact v1
      have HK := Lib.hid (HW1.out k)
      rw [eA] at X0
      rw [eA'] at Z0
      clear h5 h6 hA hA' eA eA' v0 v1 x0 x1 x2 y0 y1 y2 y3 y4 z0 z1 z2 r0 r1 r2 r3 hn
      generalize p.words.getD k 0 = y at *
      generalize m.words.getD k 0 = z at *
      have hltI : (k : Int) < n1 := by omega
      by_cases hyx : y = z
      · subst hyx
        go_wp2
        go_quiet (fail)
        go_wp2
        go_roundw
        case rel => exact ⟨k + 1, q, by omega, by go_num, rfl, by obtain ⟨n, rfl⟩ := hw.out; exact ⟨n + nq, World.drewN_drewN W8 n nq⟩, hcn.out.imp id fun ⟨h1, h2, h3, h4, h5⟩ => ⟨h1, h2, h3, h4, by omega⟩⟩
        case measure => simp [intOf]; omega
      · obtain ⟨hka, hk7, hwr, hc3⟩ := HK.out hyx
        have hq2 : (y == z) = false := by simpa using hyx
        have HR := Lib.hid (And.intro hwr (And.intro hc3 (And.intro hk7 hka)))
        have hq0 : q = 0 := by
          rcases hcn.out with h | ⟨_, _, _, _, h⟩
          · exact h
          · omega
        subst hq0
        have hk7B : decide (7 ≤ kd) = false := decide_eq_false (by omega)
        rw [← hka] at Y1
        clear hwr hc3 hka hyx
        go_wp2
        go_quiet (fail)
        go_wp2
        go_roundw
        case rel => exact ⟨k + 1, 1, by omega, by go_num, rfl, by obtain ⟨n, rfl⟩ := hw.out; exact ⟨n + nq, World.drewN_drewN W8 n nq⟩, .inr ⟨rfl, HR.out.1, HR.out.2.1, HR.out.2.2.1, by have := HR.out.2.2.2; omega⟩⟩
        case measure => simp [intOf]; omega
    · clear hn
      go_wp2_with fail
      go_loopw [9, 83] (fun s9 s83 wr => ∃ (j : Nat) (q : Int), j ≤ n2 ∧ s83 = .int .i64 j ∧ s9 = .int .i64 q ∧ Hid (∃ n, wr = W8.drewN n) ∧ Hid (q = 0 ∨ (q = 1 ∧ wrP kd ∧ (kd = 3 → bo = true) ∧ (7 ≤ kd → ad < j)))) (fun _ s83 _ => n2 - (intOf s83).toNat)
      case atStart => exact ⟨0, q, by omega, rfl, rfl, hw.out, hcn.out.imp id fun ⟨h1, h2, h3, h4, h5⟩ => ⟨h1, h2, h3, by omega⟩⟩
      case round =>
        clear X0 X1 Y0 Y1 Z0 hw hcn
        obtain ⟨j, q, hj, rfl, rfl, hw, hcn⟩ := hrel
        obtain ⟨wo, rfl⟩ : ∃ wo : World, wo = wr := ⟨_, rfl⟩
        obtain ⟨n, hn⟩ := hw.out
        have X1 : wo.cell? ⟨B4, 1, none⟩ = some (.slice A2 n2 c2) := by rw [hn]; exact x1
        have Y0 : wo.cell? ⟨B5, 0, none⟩ = some (.int .i64 kd) := by rw [hn]; exact y0
        have Y1 : wo.cell? ⟨B5, 1, none⟩ = some (.int .i64 ad) := by rw [hn]; exact y1
        have Z1 : wo.cell? ⟨B6, 1, none⟩ = some (.slice A6 n2 c6) := by rw [hn]; exact z1
        have R1 : wo.cell? ⟨B6 + 1, 1, none⟩ = some (.bool bo) := by rw [hn]; exact r1
        by_cases hlt : j < n2
        · obtain ⟨_, _, b, cc, e, _, h5⟩ := HLM.out
          obtain ⟨b0, o0, hA, _, v0, hu0⟩ := h5 j (by rw [HN.out.2.1]; exact hlt)
          simp only [Value.slice.injEq] at e
          obtain ⟨eA, -, -⟩ := e
          rw [hA] at eA
          obtain ⟨_, _, b', cc', e', _, h6⟩ := HLP.out
          obtain ⟨b1, o1, hA', _, v1, hu1⟩ := h6 j (by rw [HNP.out.2]; exact hlt)
          simp only [Value.slice.injEq] at e'
          obtain ⟨eA', -, -⟩ := e'
          rw [hA'] at eA'
          have V0 : wo.cell? ⟨b0, o0 + j, none⟩ = some (us.getD j (.slice none 0 0)) := by rw [hn]; exact v0
          have V1 : wo.cell? ⟨b1, o1 + j, none⟩ = some (us'.getD j (.slice none 0 0)) := by rw [hn]; exact v1
          have SQ : Hid (∀ q, Calls Try.prog 18 #[us'.getD j (.slice none 0 0), us.getD j (.slice none 0 0)] (wo.drewN q) fun e w' => e = .returned (.bool (decide (p.lists.getD j [] = m.lists.getD j []))) ∧ ∃ m, w' = wo.drewN m) := fun q => same_quietB _ _ _ _ wo q (by rw [hn]; exact hu1.drew n) (by rw [hn]; exact hu0.drew n)
          have HK := Lib.hid (HL1.out j)
          rw [eA] at X1
          rw [eA'] at Z1
          clear h5 h6 hA hA' eA eA' hu0 hu1 v0 v1 x0 x1 x2 y0 y1 y2 y3 y4 z0 z1 z2 r0 r1 r2 r3 hn
          generalize us'.getD j (.slice none 0 0) = g1 at *
          generalize us.getD j (.slice none 0 0) = g0 at *
          have hltI : (j : Int) < n2 := by omega
          by_cases hyx : p.lists.getD j [] = m.lists.getD j []
          · rw [decide_eq_true hyx] at SQ
            clear hyx HK
            go_upto_region 21 with fail
            go_quiet ((go_at_call 18; exact SQ.out _))
            go_wp2
            go_roundw
            case rel => exact ⟨j + 1, q, by omega, by go_num, rfl, by obtain ⟨n, rfl⟩ := hw.out; exact ⟨n + nq, World.drewN_drewN W8 n nq⟩, hcn.out.imp id fun ⟨h1, h2, h3, h4⟩ => ⟨h1, h2, h3, fun h => by have := h4 h; omega⟩⟩
            case measure => simp [intOf]; omega
          · obtain ⟨hka, hk7, hwr⟩ := HK.out hyx
            rw [decide_eq_false hyx] at SQ
            have HR := Lib.hid (And.intro hwr (And.intro hk7 hka))
            have hq0 : q = 0 := by
              rcases hcn.out with h | ⟨_, _, _, h⟩
              · exact h
              · have := h hk7; omega
            subst hq0
            have hk7B : decide (kd < 7) = false := decide_eq_false (by omega)
            rw [← hka] at Y1
            clear hwr hka hyx HK
            go_upto_region 21 with fail
            go_quiet ((go_at_call 18; exact SQ.out _))
            go_wp2
            go_roundw
            case rel => exact ⟨j + 1, 1, by omega, by go_num, rfl, by obtain ⟨n, rfl⟩ := hw.out; exact ⟨n + nq, World.drewN_drewN W8 n nq⟩, .inr ⟨rfl, HR.out.1, fun h => by have := HR.out.2.1; omega, fun _ => by have := HR.out.2.2; omega⟩⟩
            case measure => simp [intOf]; omega
        · have HE : Hid (Below w.heap.size w wo) := hn ▸ below_drewN HBW.out n
          clear hn x0 x1 x2 y0 y1 y2 y3 y4 z0 z1 z2 r0 r1 r2 r3 X1 Y1 Z1
          rcases hcn.out with rfl | ⟨rfl, hwr, hc3, -⟩
          · go_wp2
            go_ret
            exact ⟨rfl, HE.out⟩
          · have HWR := Lib.hid (wrP_writes hwr)
            clear hwr
            by_cases h3 : kd = 3
            · have hbo := hc3 h3
              subst hbo
              subst h3
              clear hc3
              go_wp2_with fail
              refine (writes_any 3 _).mono ?_; rintro e w' ⟨rfl, rfl⟩
              rw [HWR.out]
              go_wp2
              go_ret
              exact ⟨rfl, HE.out⟩
            · have h3B : (kd == 3) = false := by simpa using h3
              clear hc3
              go_wp2_with fail
              refine (writes_any kd _).mono ?_; rintro e w' ⟨rfl, rfl⟩
              rw [HWR.out]
              go_wp2
              go_ret
              exact ⟨rfl, HE.out⟩
end Go.Proofs.Ytkciejealeinoaa
