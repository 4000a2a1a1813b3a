/- Layer 13: the program's Pairs. -/
import Derived.Test.YtimgcehogalhcaaPe
import Derived.Test.YtimgcehogalhcaaRp
import Derived.Test.YtimgcehogalhcaaRec
namespace Go.Proofs.Ytimgcehogalhcaa
open Go.ChangeShapes Go.WideShapes Go.ChangeAt Go.RowKit
set_option maxRecDepth 100000

/-- a run of senders of the receiver's thread is passed over -/
theorem pairsAt_skip {rs ss : List Int} {i k : Nat} : ∀ e, k ≤ e → e ≤ ss.length → (∀ j, k ≤ j → j < e → threadE (ss.getD j 0) = threadE (rs.getD i 0)) → pairsAt rs ss i e = pairsAt rs ss i k := by
  intro e h1
  induction e with
  | zero => intro _ _; rw [show k = 0 by omega]
  | succ e ih =>
    intro h2 h3
    by_cases h : k = e + 1
    · rw [h]
    · rw [pairsAt_step (by omega), if_pos (h3 e (by omega) (by omega)).symm, List.append_nil]
      exact ih (by omega) (by omega) fun j h4 h5 => h3 j h4 (by omega)
section
variable {e : TypeId} {s base : Nat} {w : World} {v : Value} {rows : List (List Value)}
/-- a row is appended to an owned list of structs -/
theorem wp_append_s (st : TypeId) {bytes : Nat} {z : Value} (hu : Try.prog.underlying st = some (.slice e)) (hinfo : (Try.prog.info? e).map (fun i => (i.zero, i.size, i.bytes)) = some (some z, s, bytes)) (hzs : z.cells.size = s) (hsz : 0 < s) (hby : bytes ≤ 200)
    {ops : Array Oper} {rest : List Oper} {o : Oper} {a : Act} {Q : Exit → Act → World → Prop}
    (hgd : o.guard = none) (sl x : Operand) (hop : o.op = Op.call { callee := Callee.builtin Builtin.append, args := #[sl, x], argTypes := #[st, st] })
    (hs : a.eval sl = v) (hown : OwnS w base e s v rows) (r : List Value) (hr : r.length = s) (hr1 : ∀ u ∈ r, u.oneCell' = true) (g : Nat)
    (hx : a.eval x = .slice (some ⟨g, 0, none⟩) 1 1) (hcell : w.heap[g]? = some (.cells r.toArray e (0, 0))) (hl : rows.length ≤ 1000000) (hb : base ≤ w.heap.size)
    (hK : ∀ v' w', OwnS w' base e s v' (rows ++ [r]) → w.grownBy w' v.ownBlock → wpList Try.prog ops Q rest (a.put o.dst v') w') :
    wpList Try.prog ops Q (o :: rest) a w := by
  obtain ⟨i0, hi, hz0, hz1, hz2⟩ := info_parts hinfo
  obtain ⟨v', w', hrun, h2, h3, -, h4⟩ := run_append_own_at (P := Try.prog) w base st o.type e i0 z s bytes hu hi hz0 hz1 hz2 hzs hsz v rows.length _ hown.2 ⟨g, 0, none⟩ 1 1 r (by omega) (fun j u hj => by
    have : w.cell? ⟨g, j, none⟩ = r.toArray[j]? := cell_of_row _ _ j _ _ _ hcell
    have e2 : ((⟨g, 0, none⟩ : Addr).add j) = ⟨g, j, none⟩ := by rw [Addr.add_mid, Nat.zero_add]
    rw [e2, this]
    simpa using hj) hr1 (by unfold maxLen; omega) (by have : (rows.length + 1) * bytes ≤ 1000001 * 200 := Nat.mul_le_mul (by omega) hby; omega) hb
  refine Lib.wpList_append_run w hgd sl x _ _ hop _ _ hs hx v' w' hrun (hK v' w' ⟨hown.1.snoc hr hr1, ?_⟩ h3)
  rw [List.length_append, List.flatten_append]
  simpa using h2
end
set_option maxRecDepth 100000 in
set_option maxHeartbeats 4000000 in
theorem qpairs_any (v v2 : Value) (rs ss : List Int) (w : World) (hv : SlI w .i64 v rs) (hv2 : SlI w .i64 v2 ss) (hl2 : ss.length ≤ 100000) : Calls Try.prog 22 #[v, v2] w fun e w' => ∃ u, e = .returned u ∧ (∃ base, OwnS w' base 23 2 u (prow (pairsE rs ss))) ∧ Below w.heap.size w w' := by
  have HV := Lib.hid hv
  have HV2 := Lib.hid hv2
  have hl1 := hv.1
  obtain ⟨a1, cap1, rfl, -⟩ := hv.len
  obtain ⟨a2, cap2, rfl, -⟩ := hv2.len
  have H64 : Hid (∀ k, I64 (rs.getD k 0)) := fun k => hv.i64 k
  have H642 : Hid (∀ k, I64 (ss.getD k 0)) := fun k => hv2.i64 k
  clear hv hv2
  go_enter Try.func22, Try.ntmps22
  go_wp2_with fail
  refine (runEnds_any _ ss _ HV2.out hl2).mono ?_; rintro e wb ⟨ue, es, rfl, hE, hO, hB⟩
  have HE := Lib.hid hE
  have HB0 := Lib.hid hB
  have HSE : Hid (SlI wb .i64 ue es) := hO.read (by rw [hE.1]; omega) (hE.i64 hl2)
  have HLE : Hid (es.length = ss.length) := hE.1
  obtain ⟨ae, ce, hue⟩ := hO.lenS
  have HVb : Hid (SlI wb .i64 (.slice a1 rs.length cap1) rs) := HV.out.below hB
  have HV2b : Hid (SlI wb .i64 (.slice a2 ss.length cap2) ss) := HV2.out.below hB
  clear hE hO hB HV HV2
  subst hue
  go_wp2_with fail
  go_loopw [5, 15] (fun u5 u15 wr => ∃ (i : Nat) (u : Value), u = u5 ∧ u15 = .int .i64 i ∧ i ≤ rs.length ∧ Hid (OwnS wr wb.heap.size 23 2 u (prow (pairsAt rs ss i 0))) ∧ Hid ((pairsAt rs ss i 0).length < 1000) ∧ Hid (Below wb.heap.size wb wr)) (fun _ u15 _ => rs.length - (intOf u15).toNat)
  case atStart => exact ⟨0, _, rfl, rfl, by omega, OwnS.nil _ _ _ _, by show (0 : Nat) < 1000; omega, Below.refl _ _⟩
  case round =>
    obtain ⟨i, u, rfl, rfl, hi, HO, HL, HB⟩ := hrel
    obtain ⟨wo, rfl⟩ : ∃ wo : World, wo = wr := ⟨_, rfl⟩
    by_cases hlt : i < rs.length
    · have hltI : (i : Int) < (rs.length : Int) := by omega
      obtain ⟨b1, o1, c1, he1, -, hb1, hc1⟩ := (HVb.out.below HB.out).open (by intro h0; rw [h0] at hlt; simp at hlt)
      simp only [Value.slice.injEq] at he1
      obtain ⟨rfl, -, rfl⟩ := he1
      have d1 := hc1 i hlt
      obtain ⟨y1, hy1⟩ : ∃ y, rs.getD i 0 = y := ⟨_, rfl⟩
      rw [hy1] at d1
      have T1 := Lib.hid fun w' => qthread_any y1 w' (hy1 ▸ H64.out i)
      obtain ⟨z1, hz1⟩ : ∃ z, threadE y1 = z := ⟨_, rfl⟩
      rw [hz1] at T1
      have HZ1 := Lib.hid (And.intro hy1 hz1)
      clear hc1 hy1 hz1
      go_wp2_with fail
      refine (T1.out _).mono ?_; rintro e w' ⟨rfl, rfl⟩
      go_wp2_with fail
      go_loopw [5, 10] (fun u5 u10 wr => ∃ (k : Nat) (u : Value), u = u5 ∧ u10 = .int .i64 k ∧ k ≤ ss.length ∧ Hid (OwnS wr wb.heap.size 23 2 u (prow (pairsAt rs ss i k))) ∧ Hid ((pairsAt rs ss i k).length < 1000) ∧ Hid (Below wb.heap.size wb wr)) (fun _ u10 _ => ss.length - (intOf u10).toNat)
      case atStart => exact ⟨0, u, rfl, rfl, by omega, HO, HL, HB⟩
      case round =>
        clear HO HL HB d1
        obtain ⟨k, u, rfl, rfl, hk, HO, HL, HB⟩ := hrel
        obtain ⟨wo, rfl⟩ : ∃ wo : World, wo = wr := ⟨_, rfl⟩
        by_cases hlk : k < ss.length
        · have hlkI : (k : Int) < (ss.length : Int) := by omega
          obtain ⟨b2, o2, c2, he2, -, hb2, hc2⟩ := (HV2b.out.below HB.out).open (by intro h0; rw [h0] at hlk; simp at hlk)
          simp only [Value.slice.injEq] at he2
          obtain ⟨rfl, -, rfl⟩ := he2
          have d2 := hc2 k hlk
          obtain ⟨y2, hy2⟩ : ∃ y, ss.getD k 0 = y := ⟨_, rfl⟩
          rw [hy2] at d2
          have T2 := Lib.hid fun w' => qthread_any y2 w' (hy2 ▸ H642.out k)
          obtain ⟨z2, hz2⟩ : ∃ z, threadE y2 = z := ⟨_, rfl⟩
          rw [hz2] at T2
          have HZ2 := Lib.hid (And.intro hy2 hz2)
          have HSTEP := Lib.hid (pairsAt_step (rs := rs) (i := i) hlk)
          rw [HZ1.out.1, hy2, HZ1.out.2, hz2] at HSTEP
          clear hc2 hy2 hz2
          go_wp2_with fail
          refine (T2.out _).mono ?_; rintro e w' ⟨rfl, rfl⟩
          by_cases h : z2 = z1
          · have hq : (z2 == z1) = true := by simpa using h
            obtain ⟨en, he, h1, h2, h3⟩ := HE.out.2 k hlk
            have HS2 : Hid (pairsAt rs ss i en = pairsAt rs ss i k) := pairsAt_skip en (by omega) h2 fun j h4 h5 => by rw [h3 j h4 h5, HZ2.out.1, HZ2.out.2, HZ1.out.1, HZ1.out.2, h]
            have hke : k < es.length := by rw [HLE.out]; exact hlk
            obtain ⟨b3, o3, c3, he3, -, hb3, hc3⟩ := (HSE.out.below HB.out).open (by intro h0; rw [h0] at hke; simp at hke)
            simp only [Value.slice.injEq] at he3
            obtain ⟨rfl, -, rfl⟩ := he3
            have d3 := hc3 k hke
            rw [he] at d3
            have hkeI : (k : Int) < (es.length : Int) := by omega
            clear hc3 he h3 HSTEP
            go_wp2_with fail
            go_roundw
            case rel => exact ⟨en, _, rfl, rfl, by omega, by rw [HS2.out]; exact HO, by rw [HS2.out]; exact HL, HB⟩
            case measure => simp [intOf]; omega
          · have hq : (z2 == z1) = false := by simpa using h
            have HS2 : Hid (pairsAt rs ss i (k + 1) = pairsAt rs ss i k ++ [(y1, y2)]) := by show _ = _; rw [HSTEP.out, if_neg (fun e => h e.symm)]
            clear HSTEP
            go_upto_region 12 with (at_builtin; refine wp_append_s 24 (by kernel_rfl) Try.info_pair rfl (by decide) (by decide) rfl _ _ rfl rfl (HO.out.below (below_new (Below.refl _ _) _)) [.int .i64 y1, .int .i64 y2] rfl (by intro u hu; simp only [List.mem_cons, List.not_mem_nil, or_false] at hu; rcases hu with rfl | rfl <;> rfl) _ rfl (by show (Array.push _ _)[_]? = _; exact Array.getElem?_push_size) (by have := HL.out; rw [prow_length]; omega) (by have := HB.out.size; simp; omega) ?_; intro v2 w2 h1 h2; have H1 := Lib.hid h1; have H2 := Lib.hid h2; clear h1 h2)
            have HB2 : Hid (Below wb.heap.size wb w2) := (below_new HB.out _).grown H2.out (by have := HB.out.size; simp; omega) (fun j hj => (HO.out.lt j hj).1)
            have HO2 : Hid (OwnS w2 wb.heap.size 23 2 v2 (prow (pairsAt rs ss i (k + 1)))) := by rw [HS2.out, prow_snoc]; exact H1
            have hm1 : (pairsAt rs ss i (k + 1)).length ≤ 1000 := by rw [HS2.out, List.length_append]; have := HL.out; show _ + 1 ≤ 1000; omega
            obtain ⟨A, C, hv2e⟩ := HO2.out.len
            rw [prow_length] at hv2e
            obtain ⟨m, hm⟩ : ∃ m, (pairsAt rs ss i (k + 1)).length = m := ⟨_, rfl⟩
            rw [hm] at hv2e hm1
            subst hv2e
            by_cases hfull : m = 1000
            · subst hfull
              have HE2 : Hid (pairsAt rs ss i (k + 1) = pairsE rs ss) := pairs_full (pairsAt_pre (k + 1) hlt) hm
              have HO3 : Hid (OwnS w2 wb.heap.size 23 2 (.slice A 1000 C) (prow (pairsE rs ss))) := by have h := HO2.out; rw [HE2.out] at h; exact h
              clear hm HO2 HE2 HO H1 H2
              go_wp2
              go_ret
              exact ⟨_, rfl, ⟨_, HO3.out⟩, below_then HB0.out HB2.out⟩
            · have hmI : ¬ (m : Int) = 1000 := by omega
              have hmq : ((m : Int) == 1000) = false := by simpa using hmI
              have HL3 : Hid ((pairsAt rs ss i (k + 1)).length < 1000) := by show _ < _; omega
              clear hm HO H1 H2
              go_wp2
              go_roundw
              case rel => exact ⟨k + 1, _, rfl, by go_num, by omega, HO2, HL3, HB2⟩
              case measure => simp [intOf]; omega
        · have hge : ¬ (k : Int) < (ss.length : Int) := by omega
          have hkl : k = ss.length := by omega
          have HNX : Hid (pairsAt rs ss i k = pairsAt rs ss (i + 1) 0) := by show _ = _; rw [hkl]; exact pairsAt_next hlt
          have HO2 : Hid (OwnS wo wb.heap.size 23 2 u (prow (pairsAt rs ss (i + 1) 0))) := by have h := HO.out; rw [HNX.out] at h; exact h
          have HL2 : Hid ((pairsAt rs ss (i + 1) 0).length < 1000) := by have h := HL.out; rw [HNX.out] at h; exact h
          clear HO HL HNX hkl
          go_wp2_with fail
          go_roundw
          case rel => exact ⟨i + 1, u, rfl, by go_num, by omega, HO2, HL2, HB⟩
          case measure => simp [intOf]; omega
    · have hge : ¬ (i : Int) < (rs.length : Int) := by omega
      have hil : i = rs.length := by omega
      have HE : Hid (pairsAt rs ss i 0 = pairsE rs ss) := by
        have h := HL.out
        rw [hil, pairsAt_end] at h
        show _ = _
        rw [hil, pairsAt_end]
        exact pairs_few (by omega)
      have HO2 : Hid (OwnS wo wb.heap.size 23 2 u (prow (pairsE rs ss))) := by have h := HO.out; rw [HE.out] at h; exact h
      clear HO HL HE hil
      go_wp2
      go_ret
      exact ⟨u, rfl, ⟨_, HO2.out⟩, below_then HB0.out HB.out⟩
end Go.Proofs.Ytimgcehogalhcaa
