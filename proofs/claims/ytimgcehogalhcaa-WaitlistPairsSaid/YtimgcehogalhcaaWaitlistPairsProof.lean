/- Proved: WaitlistPairs returns true, and its arguments read afterwards as before, for every two lists of codes, every list of numbers, and many or not; no condition. -/
import Derived.Test.YtimgcehogalhcaaLaw
import Derived.Test.YtimgcehogalhcaaAwk
import Derived.Deep.CutBlock
import Derived.LoopTactic
import Derived.WalkKit
import Derived.ProofKit
import Derived.OpenShut
import Derived.SizedLaws
namespace Go.Proofs.Ytimgcehogalhcaa.waitlistPairs
open Go.ChangeShapes Go.WideShapes Go.ChangeAt Go.RowKit
set_option linter.unusedVariables false
set_option linter.unusedSimpArgs false
set_option maxRecDepth 100000 in
set_option maxHeartbeats 16000000 in
theorem walk (w : World) (v0 : Value) (l0 : List Int) (s0 : SlI w .u8 v0 l0) (v1 : Value) (l1 : List Int) (s1 : SlI w .u8 v1 l1) (v2 : Value) (l2 : List Int) (s2 : SlI w .i64 v2 l2) (a3 : Bool) :
    Calls Try.prog 5 #[v0, v1, v2, .bool a3] w fun e w' => e = .returned (.bool true) ∧ Below w.heap.size w w' := by
  have HS0 := Lib.hid s0
  have HS1 := Lib.hid s1
  have HS2 := Lib.hid s2
  obtain ⟨ar, cr, hve, -⟩ := s2.len
  subst hve
  clear s0 s1 s2
  go_enter Try.func5, Try.ntmps5
  go_wp2_with fail
  refine (awake_any _).mono ?_; rintro e wa ⟨rfl, hba⟩
  have HB := Lib.hid hba
  clear hba
  by_cases hbig : 40 < l2.length
  · have hbI : (40 : Int) < (l2.length : Int) := by omega
    go_wp2
    go_ret
    exact ⟨rfl, HB.out⟩
  have hbI : ¬ (40 : Int) < (l2.length : Int) := by omega
  go_wp2_with fail
  clear hbI
  refine (records_any _ l0 _ (HS0.out.below HB.out)).mono ?_; rintro e wb ⟨ux, rx, rfl, hox, HRx, hbx⟩
  obtain ⟨ax, cx, hux⟩ := hox.lenS
  subst hux
  have HSxr : Hid (SlI wb .i64 (.slice ax rx.length cx) rx) := hox.read (by have := HRx.out.1; omega) (fun x hx => by have := HRx.out.2 x hx; rw [IntKind.wrap_i64]; omega)
  have HBxr := Lib.hid (below_then HB.out hbx)
  have HOx := Lib.hid hox
  clear hox
  go_wp2_with fail
  refine (records_any _ l1 _ (HS1.out.below HBxr.out)).mono ?_; rintro e wk ⟨uy, ry, rfl, hoy, HRy, hby⟩
  obtain ⟨ay, cy, huy⟩ := hoy.lenS
  subst huy
  have HSyr : Hid (SlI wk .i64 (.slice ay ry.length cy) ry) := hoy.read (by have := HRy.out.1; omega) (fun x hx => by have := HRy.out.2 x hx; rw [IntKind.wrap_i64]; omega)
  have HByr := Lib.hid (below_then HBxr.out hby)
  have HOy := Lib.hid hoy
  have HOx2 := Lib.hid (HOx.out.below hby)
  have HAP : Hid (∀ g, Value.ownBlock (.slice ax rx.length cx) = some g → Value.ownBlock (.slice ay ry.length cy) ≠ some g) := fun g h1 h2 => by
    have h3 := (World.ownsRow.lt HOx.out g h1).2
    have h4 := HOy.out.own_ge g h2
    omega
  have hxb : w.heap.size ≤ wa.heap.size := HB.out.size
  have hyb : w.heap.size ≤ wb.heap.size := HBxr.out.size
  have HWx : Hid (rx.length ≤ 80 ∧ ∀ x ∈ rx, x = IntKind.i64.wrap x) := ⟨by have := HRx.out.1; omega, HSxr.out.2.1⟩
  have HWy : Hid (ry.length ≤ 80 ∧ ∀ x ∈ ry, x = IntKind.i64.wrap x) := ⟨by have := HRy.out.1; omega, HSyr.out.2.1⟩
  have hza : wa.heap.size ≤ wk.heap.size := Nat.le_trans hbx.size hby.size
  have hzb : wb.heap.size ≤ wk.heap.size := hby.size
  clear hoy hby hbx HSxr HSyr HRx HRy HS0 HS1 HB HBxr HOx
  have HSX : Hid (SlI wk .i64 (.slice ax rx.length cx) rx) := HOx2.out.read (by have := HWx.out.1; omega) HWx.out.2
  have HSY : Hid (SlI wk .i64 (.slice ay ry.length cy) ry) := HOy.out.read (by have := HWy.out.1; omega) HWy.out.2
  go_upto_region 6 with fail
  go_upto_if 25 with (fail)
  go_cut [9, 10] (fun s9 s10 wx => ∃ lx ly : List Int, Hid (SlI wx .i64 s9 lx) ∧ Hid (SlI wx .i64 s10 ly) ∧ Hid (Below w.heap.size w wx) ∧ Hid (ly.length ≤ 80))
  case first =>
    cases a3 with
    | false =>
      go_wp2_with fail
      go_meet
      exact ⟨rx, ry, HSX, HSY, HByr, HWy.out.1⟩
    | true =>
      clear HSX HSY
      go_wp2_with fail
      go_loopw [9] (fun u wr => ∃ (v : Value) (l : List Int), v = u ∧ Hid (OwnI wr wa.heap.size 3 .i64 v l) ∧ Hid (l.length ≤ 80 ∧ ∀ x ∈ l, x = IntKind.i64.wrap x) ∧ Hid (OwnI wr wb.heap.size 3 .i64 (.slice ay ry.length cy) ry) ∧ Hid (∀ g, v.ownBlock = some g → Value.ownBlock (.slice ay ry.length cy) ≠ some g) ∧ Hid (Below w.heap.size w wr ∧ wk.heap.size ≤ wr.heap.size)) (fun u _ => 81 - lenV u)
      case atStart => exact ⟨_, rx, rfl, HOx2, HWx, HOy, HAP, ⟨HByr.out, Nat.le_refl _⟩⟩
      case round =>
        clear HOx2 HWx HOy HAP HByr
        obtain ⟨v, l, rfl, HO, HW, HOy, HAP, HB⟩ := hrel
        obtain ⟨wo, rfl⟩ : ∃ wo : World, wo = wr := ⟨_, rfl⟩
        obtain ⟨va, vc, hve⟩ := HO.out.lenS
        have HSL : Hid (SlI wo .i64 v l) := HO.out.read (by have := HW.out.1; omega) HW.out.2
        have hz := HB.out.2
        have hz2 := HB.out.1.size
        have HNE : Hid (0 < l.length → l ≠ []) := fun h e => by rw [e] at h; simp at h
        subst hve
        go_upto_region 7 with fail
        go_cut [33] (fun s wx => Hid (∃ bq : Bool, s = .bool bq ∧ (bq = true → l.length < 40 ∧ 0 < l.length)) ∧ Hid (wx = wo))
        case first =>
          by_cases h40 : l.length < 40
          · have h40I : (l.length : Int) < 40 := by omega
            by_cases h0 : 0 < l.length
            · have h0I : (0 : Int) < (l.length : Int) := by omega
              go_wp2_with fail
              go_meet
              exact ⟨⟨true, rfl, fun _ => ⟨h40, h0⟩⟩, rfl⟩
            · have hq1 : decide ((0 : Int) < (l.length : Int)) = false := by simpa using h0
              go_wp2_with fail
              go_meet
              exact ⟨⟨false, by first | rfl | (simp; omega), fun h => by cases h⟩, rfl⟩
          · have h40I : decide ((l.length : Int) < 40) = false := by simp; omega
            go_wp2_with fail
            go_meet
            exact ⟨⟨false, rfl, fun h => by cases h⟩, rfl⟩
        case rest =>
          obtain ⟨hbb, hw⟩ := hcut
          obtain ⟨bq, rfl, hbq⟩ := hbb.out
          clear hbb
          have hw' := hw.out.symm
          subst hw'
          cases bq with
          | true =>
            obtain ⟨h40, h0⟩ := hbq rfl
            clear hbq hw
            go_wp2_with (at_builtin; refine wp_dbl _ rfl _ _ rfl wa.heap.size _ l rfl HO.out rfl HSL.out (HNE.out h0) (by omega) (by omega) ?_; intro v2 w2 h1 h2 h3; have H1 := Lib.hid h1; have H2 := Lib.hid h2; have H3 := Lib.hid h3; clear h1 h2 h3)
            have HB2 : Hid (Below w.heap.size w w2 ∧ wk.heap.size ≤ w2.heap.size) := ⟨HB.out.1.grown H2.out hz2 (fun j hj => by have := HO.out.own_ge j hj; omega), by have := H2.out.size; omega⟩
            have HY2 := Lib.hid (HOy.out.kept H2.out (by
              cases hh : Value.ownBlock (.slice ay ry.length cy) with
              | none => exact .inl rfl
              | some g => exact .inr fun e => HAP.out g e.symm hh))
            have HAP2 : Hid (∀ g, v2.ownBlock = some g → Value.ownBlock (.slice ay ry.length cy) ≠ some g) := fun g h1 h2 => by
              rcases H3.out with h3 | h3
              · exact HAP.out g (h3 ▸ h1) h2
              · have h4 := (World.ownsRow.lt HOy.out g h2).2
                rw [h3] at h1
                simp only [Option.some.injEq] at h1
                omega
            have HW2 : Hid ((l ++ l).length ≤ 80 ∧ ∀ x ∈ l ++ l, x = IntKind.i64.wrap x) := ⟨by rw [List.length_append]; omega, fun x hx => by rw [List.mem_append] at hx; exact HW.out.2 x (hx.elim id id)⟩
            obtain ⟨va2, vc2, hve⟩ := H1.out.lenS
            subst hve
            go_roundw
            case rel => exact ⟨_, l ++ l, rfl, H1, HW2, HY2, HAP2, HB2⟩
            case measure => simp [lenV]; omega
          | false =>
            clear hbq hw HSL
            have HO1 := HO
            have HW1 := HW
            have HB1 := HB
            have HAP1 : Hid (∀ g, Value.ownBlock (.slice ay ry.length cy) = some g → Value.ownBlock (.slice va l.length vc) ≠ some g) := fun g h1 h2 => HAP.out g h2 h1
            clear HO HW HB HAP HNE hz hz2
            obtain ⟨lx, hlx⟩ : ∃ x, l = x := ⟨_, rfl⟩
            obtain ⟨xa, hxa⟩ : ∃ x, va = x := ⟨_, rfl⟩
            obtain ⟨xc, hxc⟩ : ∃ x, vc = x := ⟨_, rfl⟩
            rw [hlx, hxa, hxc] at HO1 HAP1
            rw [hlx] at HW1
            rw [hlx, hxa, hxc]
            clear hlx hxa hxc
            go_wp2_with fail
            go_loopw [10] (fun u wr => ∃ (v : Value) (l : List Int), v = u ∧ Hid (OwnI wr wb.heap.size 3 .i64 v l) ∧ Hid (l.length ≤ 80 ∧ ∀ x ∈ l, x = IntKind.i64.wrap x) ∧ Hid (OwnI wr wa.heap.size 3 .i64 (.slice xa lx.length xc) lx) ∧ Hid (∀ g, v.ownBlock = some g → Value.ownBlock (.slice xa lx.length xc) ≠ some g) ∧ Hid (Below w.heap.size w wr ∧ wk.heap.size ≤ wr.heap.size)) (fun u _ => 81 - lenV u)
            case atStart => exact ⟨_, ry, rfl, HOy, HWy, HO1, HAP1, HB1⟩
            case round =>
              clear HOy HO1 HAP1 HB1
              obtain ⟨v, l, rfl, HO, HW, HOy, HAP, HB⟩ := hrel
              obtain ⟨wo, rfl⟩ : ∃ wo : World, wo = wr := ⟨_, rfl⟩
              obtain ⟨va, vc, hve⟩ := HO.out.lenS
              have HSL : Hid (SlI wo .i64 v l) := HO.out.read (by have := HW.out.1; omega) HW.out.2
              have hz := HB.out.2
              have hz2 := HB.out.1.size
              have HNE : Hid (0 < l.length → l ≠ []) := fun h e => by rw [e] at h; simp at h
              subst hve
              go_upto_region 9 with fail
              go_cut [44] (fun s wx => Hid (∃ bq : Bool, s = .bool bq ∧ (bq = true → l.length < 40 ∧ 0 < l.length)) ∧ Hid (wx = wo))
              case first =>
                by_cases h40 : l.length < 40
                · have h40I : (l.length : Int) < 40 := by omega
                  by_cases h0 : 0 < l.length
                  · have h0I : (0 : Int) < (l.length : Int) := by omega
                    go_wp2_with fail
                    go_meet
                    exact ⟨⟨true, rfl, fun _ => ⟨h40, h0⟩⟩, rfl⟩
                  · have hq1 : decide ((0 : Int) < (l.length : Int)) = false := by simpa using h0
                    go_wp2_with fail
                    go_meet
                    exact ⟨⟨false, by first | rfl | (simp; omega), fun h => by cases h⟩, rfl⟩
                · have h40I : decide ((l.length : Int) < 40) = false := by simp; omega
                  go_wp2_with fail
                  go_meet
                  exact ⟨⟨false, rfl, fun h => by cases h⟩, rfl⟩
              case rest =>
                obtain ⟨hbb, hw⟩ := hcut
                obtain ⟨bq, rfl, hbq⟩ := hbb.out
                clear hbb
                have hw' := hw.out.symm
                subst hw'
                cases bq with
                | true =>
                  obtain ⟨h40, h0⟩ := hbq rfl
                  clear hbq hw
                  go_wp2_with (at_builtin; refine wp_dbl _ rfl _ _ rfl wb.heap.size _ l rfl HO.out rfl HSL.out (HNE.out h0) (by omega) (by omega) ?_; intro v2 w2 h1 h2 h3; have H1 := Lib.hid h1; have H2 := Lib.hid h2; have H3 := Lib.hid h3; clear h1 h2 h3)
                  have HB2 : Hid (Below w.heap.size w w2 ∧ wk.heap.size ≤ w2.heap.size) := ⟨HB.out.1.grown H2.out hz2 (fun j hj => by have := HO.out.own_ge j hj; omega), by have := H2.out.size; omega⟩
                  have HY2 := Lib.hid (HOy.out.kept H2.out (by
                    cases hh : Value.ownBlock (.slice xa lx.length xc) with
                    | none => exact .inl rfl
                    | some g => exact .inr fun e => HAP.out g e.symm hh))
                  have HAP2 : Hid (∀ g, v2.ownBlock = some g → Value.ownBlock (.slice xa lx.length xc) ≠ some g) := fun g h1 h2 => by
                    rcases H3.out with h3 | h3
                    · exact HAP.out g (h3 ▸ h1) h2
                    · have h4 := (World.ownsRow.lt HOy.out g h2).2
                      rw [h3] at h1
                      simp only [Option.some.injEq] at h1
                      omega
                  have HW2 : Hid ((l ++ l).length ≤ 80 ∧ ∀ x ∈ l ++ l, x = IntKind.i64.wrap x) := ⟨by rw [List.length_append]; omega, fun x hx => by rw [List.mem_append] at hx; exact HW.out.2 x (hx.elim id id)⟩
                  obtain ⟨va2, vc2, hve⟩ := H1.out.lenS
                  subst hve
                  go_roundw
                  case rel => exact ⟨_, l ++ l, rfl, H1, HW2, HY2, HAP2, HB2⟩
                  case measure => simp [lenV]; omega
                | false =>
                  clear hbq hw HSL
                  have HSX : Hid (SlI wo .i64 (.slice xa lx.length xc) lx) := HOy.out.read (by have := HW1.out.1; omega) HW1.out.2
                  have HSY : Hid (SlI wo .i64 (.slice va l.length vc) l) := HO.out.read (by have := HW.out.1; omega) HW.out.2
                  have HBF := Lib.hid HB.out.1
                  go_wp2_with fail
                  go_meet
                  exact ⟨lx, l, HSX, HSY, HBF, HW.out.1⟩
  case rest =>
    obtain ⟨lx, ly, HX, HY, HB, HLY⟩ := hcut
    have HL2 : Hid (l2.length ≤ 100000) := by show _ ≤ _; omega
    obtain ⟨w2, rfl⟩ : ∃ w2 : World, w2 = wc := ⟨_, rfl⟩
    clear HSX HSY HByr HOx2 HOy HAP HWx HWy hxb hyb hza hzb
    obtain ⟨ax2, cx2, hxe, -⟩ := HX.out.len
    obtain ⟨ay2, cy2, hye, -⟩ := HY.out.len
    subst hxe
    subst hye
    have HSR : Hid (SlI w2 .i64 (.slice ar l2.length cr) l2) := HS2.out.below HB.out
    go_upto_region 12 with fail
    obtain ⟨w1, K, hv1, hX, RK0, hbn, ltn⟩ := alloc_pack w2 (.cells #[.slice ay2 ly.length cy2, .slice ar l2.length cr] 27)
    have HB1 := Lib.hid (below_then HB.out hbn.out)
    have HX1 := Lib.hid (HX.out.below hbn.out)
    have HY1 := Lib.hid (HY.out.below hbn.out)
    have HR1 := Lib.hid (HSR.out.below hbn.out)
    rw [hv1, hX]
    clear hv1 hX hbn ltn HB HX HY HSR
    go_loopw [52] (fun u52 wr => ∃ j : Nat, u52 = .int .i64 j ∧ j ≤ 2 ∧ Hid (wr.heap[K]? = some (.cells #[.slice ay2 ly.length cy2, .slice ar l2.length cr] 27 (0, 0))) ∧ Hid (Below w1.heap.size w1 wr)) (fun u52 _ => 3 - (intOf u52).toNat)
    case atStart => exact ⟨0, rfl, by omega, RK0, Below.refl _ _⟩
    case round =>
      clear RK0
      obtain ⟨j, rfl, hj, RK, HB⟩ := hrel
      obtain ⟨wo, rfl⟩ : ∃ wo : World, wo = wr := ⟨_, rfl⟩
      by_cases hlj : j < 2
      · have hljI : (j : Int) < 2 := by omega
        have HEL : ∃ le ll, wo.cell? ⟨K, j, none⟩ = some le ∧ Hid (SlI w1 .i64 le ll) ∧ Hid (ll.length ≤ 100000) := by
          have hj2 : j = 0 ∨ j = 1 := by omega
          rcases hj2 with rfl | rfl
          · exact ⟨_, ly, cell_of_row _ _ 0 _ _ _ RK.out, HY1, Nat.le_trans HLY.out (by omega)⟩
          · exact ⟨_, l2, cell_of_row _ _ 1 _ _ _ RK.out, HR1, HL2⟩
        obtain ⟨le, ll, c0, HLE, HLL⟩ := HEL
        obtain ⟨al, cl, hle, -⟩ := HLE.out.len
        subst hle
        go_wp2_with fail
        refine (ppairs_any _ _ lx ll wo (HX1.out.below HB.out) (HLE.out.below HB.out) HLL.out).mono ?_; rintro e w3 ⟨up, rfl, hp3, hb3⟩
        have HB3 := Lib.hid (below_then HB.out hb3)
        have HP3 := Lib.hid hp3
        have RK3 := Lib.hid ((hb3.block K (Array.getElem?_eq_some_iff.1 RK.out).1).trans RK.out)
        clear c0 hp3 hb3 RK HB
        go_wp2_with fail
        refine (rpairs_any _ _ lx ll w3 (HX1.out.below HB3.out) (HLE.out.below HB3.out)).mono ?_; rintro e w4 ⟨uq, rfl, hq4, hb4⟩
        have HB4 := Lib.hid (below_then HB3.out hb4)
        have HP4 := Lib.hid (HP3.out.below hb4)
        have HQ4 := Lib.hid hq4.slP
        have RK4 := Lib.hid ((hb4.block K (Array.getElem?_eq_some_iff.1 RK3.out).1).trans RK3.out)
        clear hq4 hb4 RK3 HB3 HP3
        have HNE : Hid (∀ p ∈ pairsE lx ll, threadE p.1 ≠ threadE p.2) := fun p hp => pairsE_ne hp
        have HLN : Hid ((pairsE lx ll).length ≤ 1000) := by unfold pairsE; show _ ≤ _; rw [List.length_take]; omega
        have H64 : Hid (∀ p ∈ pairsE lx ll, I64 p.1 ∧ I64 p.2) := fun p hp => pairsE_i64 (fun x hx => I64.of (HX1.out.2.1 x hx)) (fun x hx => I64.of (HLE.out.2.1 x hx)) hp
        obtain ⟨pl, hpl⟩ : ∃ l, pairsE lx ll = l := ⟨_, rfl⟩
        rw [hpl] at HNE HLN H64 HP4 HQ4
        clear hpl HLE
        obtain ⟨pa, pc, hpe, -⟩ := HP4.out
        obtain ⟨qa, qc, hqe, -⟩ := HQ4.out
        subst hpe
        subst hqe
        go_wp2_with fail
        go_loopw [69] (fun u69 wr => ∃ i : Nat, u69 = .int .i64 i ∧ i ≤ pl.length ∧ Hid (Below w4.heap.size w4 wr)) (fun u69 _ => 1001 - (intOf u69).toNat)
        case atStart => exact ⟨0, rfl, by omega, Below.refl _ _⟩
        case round =>
          obtain ⟨i, rfl, hi, HBi⟩ := hrel
          obtain ⟨wi, rfl⟩ : ∃ wo : World, wo = wr := ⟨_, rfl⟩
          have hln := HLN.out
          by_cases hlt : i < pl.length
          · have hltI : (i : Int) < (pl.length : Int) := by omega
            obtain ⟨pa', pc', hpe, hcp⟩ := HP4.out.below HBi.out
            obtain ⟨qa', qc', hqe, hcq⟩ := HQ4.out.below HBi.out
            simp only [Value.slice.injEq, true_and] at hpe hqe
            obtain ⟨rfl, rfl⟩ := hpe
            obtain ⟨rfl, rfl⟩ := hqe
            obtain ⟨bp, op, hpa, hbp, d0, d1⟩ := hcp i hlt
            obtain ⟨bq, oq, hqa, hbq, e0, e1⟩ := hcq i hlt
            subst hpa
            subst hqa
            obtain ⟨p1, p2, hpp⟩ : ∃ a b, pl.getD i (0, 0) = (a, b) := ⟨_, _, rfl⟩
            have hmem : (p1, p2) ∈ pl := by
              rw [← hpp, List.getD_eq_getElem?_getD, List.getElem?_eq_getElem hlt]
              exact List.getElem_mem hlt
            rw [hpp] at d0 d1 e0 e1
            try dsimp only at d0 d1 e0 e1
            have hz := HNE.out _ hmem
            obtain ⟨i1, i2⟩ := H64.out _ hmem
            have T1 := Lib.hid fun w' => pthread_any p1 w' i1
            have T2 := Lib.hid fun w' => pthread_any p2 w' i2
            try dsimp only at hz
            obtain ⟨z1, hz1⟩ : ∃ z, threadE p1 = z := ⟨_, rfl⟩
            obtain ⟨z2, hz2⟩ : ∃ z, threadE p2 = z := ⟨_, rfl⟩
            rw [hz1] at T1 hz
            rw [hz2] at T2 hz
            have hzq : (z1 == z2) = false := by simpa using hz
            have HBB := Lib.hid (And.intro hbp hbq)
            clear hcp hcq hpp hmem hz1 hz2 hz i1 i2 hbp hbq
            go_upto_region 20 with fail
            have hq := eq_pair p1 p2 p1 p2
            simp only [BEq.rfl, Bool.and_self] at hq
            have X1 := ext_cell _ _ HBB.out.1 _ d0
            have X2 := ext_cell _ _ HBB.out.1 _ d1
            have X3 := ext_cell _ _ HBB.out.2 _ e0
            have X4 := ext_cell _ _ HBB.out.2 _ e1
            clear d0 d1 e0 e1
            refine wp_region_ext wi (by kernel_rfl) (by kernel_rfl) (Below.refl _ _) ?_
            repeat (go_big_quiet_step (first
              | (go_at_call 11; with_reducible exact calls_ext (T1.out _))
              | (go_at_call 11; with_reducible exact calls_ext (T2.out _))))
            refine wpQuiet_nil ?_
            intro _ hw'
            obtain ⟨n9, rfl⟩ := hw'
            have HB9 := Lib.hid (below_then HBi.out n9.below)
            generalize n9.wd = w9 at *
            clear hq X1 X2 X3 X4 T1 T2 hzq
            go_wp2_with fail
            go_roundw
            case rel => exact ⟨i + 1, by go_num, by omega, HB9⟩
            case measure => simp [intOf]; omega
          · have hge : ¬ (i : Int) < (pl.length : Int) := by omega
            have HBj := Lib.hid (below_then HB4.out HBi.out)
            have RKj := Lib.hid ((HBi.out.block K (Array.getElem?_eq_some_iff.1 RK4.out).1).trans RK4.out)
            clear hln hi hlt HBi
            go_wp2_with fail
            go_roundw
            case rel => exact ⟨j + 1, by go_num, by omega, RKj, HBj⟩
            case measure => simp [intOf]; omega
      · have hge : ¬ (j : Int) < 2 := by omega
        have HBF := Lib.hid (below_then HB1.out HB.out)
        go_wp2
        go_ret
        exact ⟨rfl, HBF.out⟩
set_option maxRecDepth 100000 in
theorem lifted (os : Os) (started : os.Started) (H : Type) (enc : TypeId × Value → H) :
    ReturnsInHanded {} Try.checked os 5 .any (Rows.waitlistPairsSpec.pre6 enc Try.prog Try.f5 Rows.waitlistPairsRow.domain false) (Rows.waitlistPairsSpec.post enc Try.prog Try.f5 false true false false) := by
  refine returnsInHanded_of_change_sized (C := Try.checked) own started (by kernel_rfl) Try.func5
    (ChangeSpec.witness6 (enc := enc) (C := Try.checked) false ⟨#[], #[.slice none 0 0, .slice none 0 0, .slice none 0 0, .bool false], []⟩ 8 (by kernel_rfl) (by kernel_rfl) (by kernel_rfl) (by kernel_rfl)) ?_
  intro W base args ds gs before hval0 hW _ hsz0 _
  have hsz : (DataW.weightsEach Try.prog (Try.f5.params.toList ++ Rows.waitlistPairsSpec.plain.varTypes Try.prog) (ds ++ gs)).all (· ≤ reachBytes) = true := hsz0
  clear hsz0
  have hval : ∀ (j : Nat) t v, Try.f5.params[j]? = some t → args[j]? = some v → Value.okWide Try.prog W .any base t v := hval0
  have hW' := hW
  obtain ⟨p, q, hA0, hV, rfl, _, _⟩ := hW
  have hA : DataW.TrodAll enc Try.prog W 0 (fun _ => true) true Try.f5.params.toList args.toList ds p := hA0
  rw [Try.params5] at hA hval hsz
  obtain ⟨v0, vs0, d0, ds0, p0, q0, hargs, rfl, rfl, h0, r0⟩ := trodAll_cons hA
  obtain ⟨v1, vs1, d1, ds1, p1, q1, rfl, rfl, rfl, h1, r1⟩ := trodAll_cons r0
  obtain ⟨v2, vs2, d2, ds2, p2, q2, rfl, rfl, rfl, h2, r2⟩ := trodAll_cons r1
  obtain ⟨v3, vs3, d3, ds3, p3, q3, rfl, rfl, rfl, h3, r3⟩ := trodAll_cons r2
  obtain ⟨rfl, rfl, rfl⟩ := trodAll_nil r3
  obtain rfl : args = #[v0, v1, v2, v3] := by cases args; simp_all
  obtain ⟨rfl, rfl⟩ := trodVars_none hV
  have k0 := h0
  have k1 := h1
  have k2 := h2
  have k3 := h3
  obtain ⟨l0, s0⟩ := view_sl (k := .u8) Try.underlying29 Try.underlying5 (by kernel_rfl) (fun elems sp hd => sized_slice hsz (j := 0) (t := 29) (e := 5) rfl (by rw [hd]; rfl) Try.underlying29) (of_decide_eq_true (by kernel_rfl)) (hval 0 29 v0 rfl rfl) h0
  obtain ⟨l1, s1⟩ := view_sl (k := .u8) Try.underlying29 Try.underlying5 (by kernel_rfl) (fun elems sp hd => sized_slice hsz (j := 1) (t := 29) (e := 5) rfl (by rw [hd]; rfl) Try.underlying29) (of_decide_eq_true (by kernel_rfl)) (hval 1 29 v1 rfl rfl) h1
  obtain ⟨l2, s2⟩ := view_sl (k := .i64) Try.underlying27 Try.underlying3 (by kernel_rfl) (fun elems sp hd => sized_slice hsz (j := 2) (t := 27) (e := 3) rfl (by rw [hd]; rfl) Try.underlying27) (of_decide_eq_true (by kernel_rfl)) (hval 2 27 v2 rfl rfl) h2
  obtain ⟨a3, rfl, -, -⟩ := open_bool Try.underlying4 (hval 3 4 v3 rfl rfl) h3
  clear hA0 hval0
  simp only [List.append_nil] at hW'
  have hlt := hW'.lt
  refine (walk W v0 l0 s0 v1 l1 s1 v2 l2 s2 a3).mono fun e W' ⟨he, hb⟩ => ?_
  subst he
  exact ⟨_, rfl, _, _, _, [], _, [], hW', trodAll_cons_mk (shut_bool Try.underlying4 _) trodAll_mk0, (trodAll_cons_mk (Below.trod Try.laidOut (by kernel_rfl) (of_decide_eq_true (by kernel_rfl)) k0 hb (fun x hx => by simpa using hlt x (by simp [hx]))) (trodAll_cons_mk (Below.trod Try.laidOut (by kernel_rfl) (of_decide_eq_true (by kernel_rfl)) k1 hb (fun x hx => by simpa using hlt x (by simp [hx]))) (trodAll_cons_mk (Below.trod Try.laidOut (by kernel_rfl) (of_decide_eq_true (by kernel_rfl)) k2 hb (fun x hx => by simpa using hlt x (by simp [hx]))) (trodAll_cons_mk (Below.trod Try.laidOut (by kernel_rfl) (of_decide_eq_true (by kernel_rfl)) k3 hb (fun x hx => by simpa using hlt x (by simp [hx]))) trodAll_mk0)))), rfl, hb.frame _, fun h => by cases h⟩
theorem over : Rows.waitlistPairsRow.holds Try.pinned (OpenSpec.ofChange Rows.waitlistPairsSpec) :=
  OpenClaim.holds_of_wide 5 Try.f5 rfl rfl rfl rfl rfl rfl rfl ⟨rfl, rfl, rfl, rfl, rfl⟩ rfl rfl rfl rfl rfl (by kernel_rfl) Try.func5 (by kernel_rfl)
    (of_decide_eq_true (by kernel_rfl)) (by unfold Func.isWrapper; first | (rw [if_pos (by decide +kernel)]; kernel_rfl) | (rw [if_neg (by decide +kernel)]; exact ⟨rfl, rfl⟩))
    (fun os started H enc _ => lifted os started H enc)
/-- THE STATEMENT -/
theorem proved : Rows.WaitlistPairsSaid :=
  over
end Go.Proofs.Ytimgcehogalhcaa.waitlistPairs
