/- Proved: HistoryChecks returns true, and its arguments read afterwards as before, for every list of codes, every list of events and all numbers; no condition. -/
import Derived.Deep.DeepCutAuto
import Derived.Deep.CutBlock
import Derived.LoopTactic
import Derived.WalkKit
import Derived.ProofKit
import Derived.OpenShut
import Derived.SizedLaws
import Derived.Test.YtnbehigjeopniaaB01
import Derived.Test.YtnbehigjeopniaaB07
import Derived.Test.YtnbehigjeopniaaB15
import Derived.Test.YtnbehigjeopniaaB16
import Derived.Test.YtnbehigjeopniaaB20
import Derived.Test.YtnbehigjeopniaaB21
namespace Go.Proofs.Ytnbehigjeopniaa.historyChecks
open Go.ChangeShapes Go.WideShapes Go.ChangeAt Go.RowKit
set_option linter.unusedVariables false
set_option linter.unusedSimpArgs false
theorem own_blk {g n c j : Nat} (h : (Value.slice (some ⟨g, 0, none⟩) n c).ownBlock = some j) : g = j := by simpa [Value.ownBlock] using h
theorem evRows_at {l : List EvM} {k : Nat} (hk : k < l.length) {e : EvM} (he : l.getD k evZ = e) : (evRows l)[k]'(by rw [evRows_length]; exact hk) = evL e := by
  rw [List.getD_eq_getElem?_getD, List.getElem?_eq_getElem hk] at he
  have h2 : l[k] = e := he
  unfold evRows
  rw [List.getElem_map, h2]
theorem own_evc {w : World} {B g n cap : Nat} {T : TypeId} {l : List EvM} (h : OwnS w B T 8 (.slice (some ⟨g, 0, none⟩) n cap) (evRows l)) {k : Nat} (hk : k < l.length) {e : EvM} (he : l.getD k evZ = e) :
    (w.cell? ⟨g, k * 8, none⟩ = some (.int .i64 e.thr) ∧ w.cell? ⟨g, k * 8 + 1, none⟩ = some (.int .i64 e.op) ∧ w.cell? ⟨g, k * 8 + 2, none⟩ = some (.bool e.ret) ∧ w.cell? ⟨g, k * 8 + 3, none⟩ = some (.int .i64 e.res.kind) ∧ w.cell? ⟨g, k * 8 + 4, none⟩ = some (.int .i64 e.res.case) ∧ w.cell? ⟨g, k * 8 + 5, none⟩ = some (.int .u64 e.res.val) ∧ w.cell? ⟨g, k * 8 + 6, none⟩ = some (.bool e.res.ok) ∧ w.cell? ⟨g, k * 8 + 7, none⟩ = some (.int .i64 e.res.num)) ∧ w.there g (k * 8) 8 := by
  obtain ⟨h1, h2⟩ := h.row k (by rw [evRows_length]; exact hk)
  rw [evRows_at hk he] at h1
  exact ⟨⟨h1 0 _ rfl, h1 1 _ rfl, h1 2 _ rfl, h1 3 _ rfl, h1 4 _ rfl, h1 5 _ rfl, h1 6 _ rfl, h1 7 _ rfl⟩, h2⟩
theorem own_setE {w : World} {B g n cap : Nat} {T : TypeId} {l : List EvM} (h : OwnS w B T 8 (.slice (some ⟨g, 0, none⟩) n cap) (evRows l)) {k : Nat} (hk : k < l.length) {e : EvM} (he : l.getD k evZ = e) (a b : List Value) (x u : Value) (hx : evL e = a ++ x :: b) (e' : EvM) (hu : evL e' = a ++ u :: b) (h1 : u.oneCell' = true) :
    OwnS (w.setCell ⟨g, k * 8 + a.length, none⟩ u) B T 8 (.slice (some ⟨g, 0, none⟩) n cap) (evRows (l.set k e')) := by
  have h2 := h.setCell k (by rw [evRows_length]; exact hk) a b x u (by rw [evRows_at hk he, hx]) h1
  rw [evRows_set, hu]
  exact h2
theorem own_setRowE {w : World} {B g n cap : Nat} {T : TypeId} {l : List EvM} (h : OwnS w B T 8 (.slice (some ⟨g, 0, none⟩) n cap) (evRows l)) {k : Nat} (hk : k < l.length) (e' : EvM) : OwnS (w.setCells g (k * 8) (evL e')) B T 8 (.slice (some ⟨g, 0, none⟩) n cap) (evRows (l.set k e')) := by
  rw [evRows_set]
  exact h.setRow k (by rw [evRows_length]; exact hk) rfl (evL_one e')
/-- the head of what is owned -/
theorem own_take {w : World} {B g n cap : Nat} {T : TypeId} {l : List EvM} (h : OwnS w B T 8 (.slice (some ⟨g, 0, none⟩) n cap) (evRows l)) {k : Nat} (hk : k ≤ l.length) : OwnS w B T 8 (.slice (some ⟨g, 0, none⟩) k cap) (evRows (l.take k)) := by
  have hlen : (l.take k).length = k := by rw [List.length_take]; omega
  refine ⟨evRows_rows _, flatS_length _ (evRows_rows _), ?_⟩
  have h0 := h.2.2
  rcases h0 with ⟨h1, -⟩ | ⟨g', c', cur, h1, h2, h3, h4, h5, h6, h7⟩
  · simp at h1
  · simp only [Value.slice.injEq, Option.some.injEq, Addr.mk.injEq, true_and, and_true] at h1
    obtain ⟨rfl, rfl, rfl⟩ := h1
    rw [evRows_length] at h4 h7
    refine .inr ⟨g, cap, cur, by rw [evRows_length, hlen], h2, h3, by rw [evRows_length, hlen]; omega, h5, h6, ?_⟩
    rw [evRows_length, hlen]
    have e1 : (evRows (l.take k)).flatten = (evRows l).flatten.take (k * 8) := by
      have e2 : evRows l = evRows (l.take k) ++ evRows (l.drop k) := by rw [← evRows_append, List.take_append_drop]
      have e3 : (evRows (l.take k)).flatten.length = k * 8 := by rw [flatS_length _ (evRows_rows _), evRows_length, hlen]
      conv => rhs; rw [e2, List.flatten_append]
      rw [List.take_left' e3]
    rw [e1, ← h7, List.take_take, Nat.min_eq_left (by omega)]
set_option maxRecDepth 100000 in
set_option maxHeartbeats 16000000 in
theorem walk (w : World) (v0 : Value) (l0 : List Int) (s0 : SlI w .u8 v0 l0) (v1 : Value) (l1 : List EvM) (s1 : SlS w 8 v1 (evRows l1)) (o1 : ∀ e ∈ l1, C64 (callOf e)) (a2 : Int) (w2 : (Lit.int .i64 a2).wf = true) (a3 : Int) (w3 : (Lit.int .u8 a3).wf = true) (a4 : Int) (w4 : (Lit.int .u8 a4).wf = true) :
    Calls Try.prog 3 #[v0, v1, .int .i64 a2, .int .u8 a3, .int .u8 a4] w fun e w' => e = .returned (.bool true) ∧ Below w.heap.size w w' := by
  have hw3 := w3
  have hw4 := w4
  clear w2 w3 w4
  have AW := Lib.hid (awake_any w)
  have HS0 := Lib.hid s0
  have HS1 := Lib.hid s1
  obtain ⟨ar, kr, hve, -⟩ := s1.lenE
  subst hve
  clear s0 s1 o1
  go_enter Try.func3, Try.ntmps3
  go_wp2_with fail
  refine AW.out.mono ?_; rintro e w1 ⟨rfl, hb1⟩
  have HB1 := Lib.hid hb1
  clear hb1 AW
  by_cases hbig : 40 < l1.length
  · have hbI : (40 : Int) < (l1.length : Int) := by omega
    clear HS0 HS1
    go_wp2
    go_ret
    exact ⟨rfl, HB1.out⟩
  have hbI : ¬ (40 : Int) < (l1.length : Int) := by omega
  go_wp2_with fail
  refine (made_any v0 l0 w1 (HS0.out.below HB1.out)).mono ?_; rintro e w2 ⟨vo, ns, vl, L, rfl, hso, hsl, hhis, hlen, hns, hb2⟩
  have HB2 := Lib.hid (below_then HB1.out hb2)
  have HHIS := Lib.hid hhis
  have HSO := Lib.hid hso
  have HSL := Lib.hid hsl
  obtain ⟨al, kl, rfl, -⟩ := hsl.lenE
  obtain ⟨ao, ko, rfl⟩ := hso.len
  have HS2 := Lib.hid (HS1.out.below HB2.out)
  clear hso hsl hhis hb2 HS0 HS1 HB1 hbI
  have T1 := Lib.hid (hcheck_any _ _ L ns w2 HSL.out HSO.out (by omega))
  rw [HHIS.out] at T1
  have T2 := Lib.hid fun w' (hb : Below w2.heap.size w2 w') => hcheck_any _ _ l1 ns w' (HS2.out.below hb) (HSO.out.below hb) (by omega)
  have T3 := Lib.hid fun w' (hb : Below w2.heap.size w2 w') => ercheck_any _ _ l1 ns w' (HS2.out.below hb) (HSO.out.below hb) (by omega)
  obtain ⟨q1, hq1⟩ : ∃ q, histE ns l1 = q := ⟨_, rfl⟩
  rw [hq1] at T2 T3
  have HNS := Lib.hid hns
  obtain ⟨nr, hnr⟩ : ∃ n, l1.length = n := ⟨_, rfl⟩
  obtain ⟨nn, hnn⟩ : ∃ n, ns.length = n := ⟨_, rfl⟩
  obtain ⟨nl, hnl⟩ : ∃ n, L.length = n := ⟨_, rfl⟩
  have HNL := Lib.hid hnl
  rw [hnr] at T2 T3
  rw [hnn] at T1 T2 T3 HSO
  rw [hnl] at T1 HSL hlen
  rw [hnl, hnn]
  try rw [hnr]
  clear HS2 HHIS hq1 hnr hnn hnl hbig hns
  go_wp2_with fail
  try rw [‹l1.length = nr›]
  refine T1.out.mono ?_; rintro e w3 ⟨rfl, hb3⟩
  have HB3 := Lib.hid hb3
  clear hb3 T1
  go_wp2_with fail
  refine (T2.out _ HB3.out).mono ?_; rintro e w4 ⟨rfl, hb4⟩
  have HB4 := Lib.hid (below_then HB3.out hb4)
  clear hb4 T2 HB3
  go_wp2_with fail
  refine (T3.out _ HB4.out).mono ?_; rintro e w5 ⟨rfl, hb5⟩
  have HB5 := Lib.hid (below_then HB4.out hb5)
  clear hb5 T3 HB4
  have hqq : (q1 != q1) = false := by cases q1 <;> rfl
  by_cases h0 : nl = 0
  · subst h0
    cases q1 <;> (go_wp2; go_ret; exact ⟨rfl, below_then HB2.out HB5.out⟩)
  have hnlI : ((nl : Int) == 0) = false := by simp; omega
  have TM := Lib.hid (mod_any a2 (nl : Int) w5 (by omega) (by omega))
  obtain ⟨k, hk⟩ : ∃ k : Nat, a2 % (nl : Int) = k := ⟨(a2 % (nl : Int)).toNat, by have := Int.emod_nonneg a2 (b := (nl : Int)) (by omega); omega⟩
  have hkn : k < nl := by have := Int.emod_lt_of_pos a2 (b := (nl : Int)) (by omega); omega
  rw [hk] at TM
  clear hk
  go_wp2_with fail
  refine TM.out.mono ?_; rintro e w6 ⟨rfl, rfl⟩
  have HSL5 := Lib.hid (HSL.out.below HB5.out)
  have HLNE : Hid (evRows L ≠ []) := fun e => by have h9 := congrArg List.length e; rw [evRows_length, HNL.out] at h9; simp at h9; omega
  have ha3 : 0 ≤ a3 ∧ a3 < 256 := by have h9 := wrap_of_wf hw3; rw [IntKind.wrap_u8] at h9; omega
  have ha4 : 0 ≤ a4 ∧ a4 < 256 := by have h9 := wrap_of_wf hw4; rw [IntKind.wrap_u8] at h9; omega
  have hwa4 : IntKind.i64.wrap a4 = a4 := by rw [IntKind.wrap_i64]; omega
  obtain ⟨d, hd⟩ : ∃ d, a3.tmod 7 = d := ⟨_, rfl⟩
  have hdd : d = 0 ∨ d = 1 ∨ d = 2 ∨ d = 3 ∨ d = 4 ∨ d = 5 ∨ d = 6 := by rw [← hd, Int.tmod_eq_emod_of_nonneg ha3.1]; omega
  have hdw : IntKind.u8.wrap d = d := by rw [IntKind.wrap_u8]; omega
  go_upto_block 0 with (at_builtin; refine wp_copy_sls _ 23 (by kernel_rfl) Try.info_event rfl (by decide) (by decide) rfl _ _ rfl (base := w5.heap.size) rfl rfl HSL5.out HLNE.out (by rw [evRows_length, HNL.out]; omega) (Nat.le_refl _) ?_; intro vm wm hm1 hm2; have HM := Lib.hid hm1; have HBM : Hid (Below w5.heap.size w5 wm) := (Below.refl _ _).grown hm2 (Nat.le_refl _) (fun j hj => by cases hj); clear hm1 hm2)
  obtain ⟨g, cap, hve, hgb, hgl, hcap⟩ := HM.out.open (by rw [evRows_length, HNL.out]; omega)
  rw [evRows_length, HNL.out] at hve hcap
  subst hve
  obtain ⟨B, hB⟩ : ∃ B, w5.heap.size = B := ⟨_, rfl⟩
  have HBB := Lib.hid hB
  have HGB : Hid (w5.heap.size ≤ g) := hgb
  rw [hB] at HM
  have HGW : Hid (B ≤ wm.heap.size) := by show _ ≤ _; rw [← hB]; exact HBM.out.size
  have hkl : k < L.length := by rw [HNL.out]; exact hkn
  have hL31 : L.length ≤ 30 := by rw [HNL.out]; exact hlen
  obtain ⟨⟨et, eo, er, ⟨rk, rc, rv, ro, rn⟩⟩, he⟩ : ∃ e, L.getD k evZ = e := ⟨_, rfl⟩
  have HE := Lib.hid he
  obtain ⟨⟨c0, c1, c2, c3, c4, c5, c6, c7⟩, hth⟩ := own_evc HM.out hkl he
  have HTH := Lib.hid hth
  dsimp only at c0 c1 c2 c3 c4 c5 c6 c7
  have fz := fun j (hj : j < 8) => (hth j hj).2
  have f0 := fz 0 (by omega)
  have f1 := fz 1 (by omega)
  have f2 := fz 2 (by omega)
  have f3 := fz 3 (by omega)
  rw [Nat.add_zero] at f0
  clear hB hgb he hth fz
  clear hd
  go_cut [14] (fun s14 wx => ∃ (M : List EvM), SlS wx 8 s14 (evRows M) ∧ M.length ≤ 31 ∧ Below w5.heap.size w5 wx)
  case first =>
    clear hdw TM HSL5 HSL
    have hkI : (k : Int) < (nl : Int) := by omega
    rcases hdd with rfl | rfl | rfl | rfl | rfl | rfl | rfl
    · --0
      go_wp2_with fail
      go_meet
      refine ⟨L.set k ⟨a4 % 6 - 1, eo, er, ⟨rk, rc, rv, ro, rn⟩⟩, ?_, by rw [List.length_set]; omega, HBM.out.setCell (p := ⟨g, k * 8, none⟩) HGB.out _⟩
      refine (own_setE HM.out hkl HE.out [] [.int .i64 eo, .bool er, .int .i64 rk, .int .i64 rc, .int .u64 rv, .bool ro, .int .i64 rn] (.int .i64 et) _ rfl _ rfl rfl).sls (by rw [evRows_length, List.length_set]; omega)

    · --1
      go_wp2_with fail
      go_meet
      refine ⟨L.set k ⟨et, wrap64 (eo + (a4 % 3 - 1)), er, ⟨rk, rc, rv, ro, rn⟩⟩, ?_, by rw [List.length_set]; omega, HBM.out.setCell (p := ⟨g, k * 8 + 1, none⟩) HGB.out _⟩
      refine (own_setE HM.out hkl HE.out [.int .i64 et] [.bool er, .int .i64 rk, .int .i64 rc, .int .u64 rv, .bool ro, .int .i64 rn] (.int .i64 eo) _ rfl _ rfl rfl).sls (by rw [evRows_length, List.length_set]; omega)

    · --2
      go_wp2_with fail
      go_meet
      refine ⟨L.set k ⟨et, eo, !er, ⟨rk, rc, rv, ro, rn⟩⟩, ?_, by rw [List.length_set]; omega, HBM.out.setCell (p := ⟨g, k * 8 + 2, none⟩) HGB.out _⟩
      refine (own_setE HM.out hkl HE.out [.int .i64 et, .int .i64 eo] [.int .i64 rk, .int .i64 rc, .int .u64 rv, .bool ro, .int .i64 rn] (.bool er) _ rfl _ rfl rfl).sls (by rw [evRows_length, List.length_set]; omega)

    · --3
      clear c0 c1 c2 c3 c4 c5 c6 c7 f0 f1 f2 f3 HTH
      have hw1 : IntKind.i64.wrap ((k : Int) + 1) = (k : Int) + 1 := by rw [IntKind.wrap_i64]; omega
      have hi1 : (k : Int) + 1 ≤ (nl : Int) := by omega
      have hi0 : 0 ≤ (k : Int) + 1 := by omega
      have hik : k ≤ cap := by omega
      have hin : k ≤ nl := by omega
      have hik1 : k + 1 ≤ cap := by omega
      have hin1 : k + 1 ≤ nl := by omega
      have hI1 : ((k : Int) + 1).toNat = k + 1 := by omega
      obtain ⟨pa, hpa⟩ : ∃ z : Option Addr, (if cap = k + 1 then some ⟨g, 0, none⟩ else some ⟨g, (k + 1) * 8, none⟩) = z := ⟨_, rfl⟩
      have HPA := Lib.hid hpa
      have HSA : Hid (SlS wm 8 (.slice (some ⟨g, 0, none⟩) nl cap) (evRows L)) := HM.out.sls (by rw [evRows_length]; omega)
      have HSD : Hid (SlS wm 8 (.slice pa (nl - (k + 1)) (cap - (k + 1))) ((evRows L).drop (k + 1))) := HSA.out.drop (k + 1) (by rw [evRows_length]; omega) (by rw [← hpa, Nat.zero_add])
      clear hpa
      go_upto_region 20 with fail
      refine wp_region_until (fun w' : World => True) 7 9 (by kernel_rfl) rfl ?_
      obtain ⟨u0, hu0, HU0⟩ := drew_pack wm
      rw [hu0]
      clear hu0
      have hSU0 := trivial
      refine wpAnyU_takeW (v := ?_) 0 la0 (by kernel_rfl) (by kernel_rfl) (by kernel_rfl) (by kernel_rfl) (fun _ _ _ h => h) (fun _ => hSU0) rfl ?_ ?_
      rotate_left
      · (intro w; go_simp <;> with_reducible rfl)
      simp only [Act.put, List.setIfInBounds_toArray, List.set_cons_zero, List.set_cons_succ]
      refine wpAnyU_takeW (v := ?_) 1 la1 (by kernel_rfl) (by kernel_rfl) (by kernel_rfl) (by kernel_rfl) (fun _ _ _ h => h) (fun _ => hSU0) rfl ?_ ?_
      rotate_left
      · (intro w; go_simp <;> with_reducible rfl)
      simp only [Act.put, List.setIfInBounds_toArray, List.set_cons_zero, List.set_cons_succ]
      refine tkU (v := ?_) 2 la2 hSU0 (by kernel_rfl) (fun _ _ _ h => h) rfl ?_ ?_
      rotate_left
      · (intro w hSw; (try dsimp only at hSw); go_simp <;> with_reducible rfl)
      simp only [Act.put, List.setIfInBounds_toArray, List.set_cons_zero, List.set_cons_succ]
      refine wpAnyU_takeW (v := ?_) 3 la3 (by kernel_rfl) (by kernel_rfl) (by kernel_rfl) (by kernel_rfl) (fun _ _ _ h => h) (fun _ => hSU0) rfl ?_ ?_
      rotate_left
      · (intro w; go_simp <;> with_reducible rfl)
      simp only [Act.put, List.setIfInBounds_toArray, List.set_cons_zero, List.set_cons_succ]
      refine wpAnyU_takeW (v := ?_) 4 la4 (by kernel_rfl) (by kernel_rfl) (by kernel_rfl) (by kernel_rfl) (fun _ _ _ h => h) (fun _ => hSU0) rfl ?_ ?_
      rotate_left
      · (intro w; go_simp <;> with_reducible rfl)
      simp only [Act.put, List.setIfInBounds_toArray, List.set_cons_zero, List.set_cons_succ]
      refine wpAnyU_takeW (v := ?_) 5 la5 (by kernel_rfl) (by kernel_rfl) (by kernel_rfl) (by kernel_rfl) (fun _ _ _ h => h) (fun _ => hSU0) rfl ?_ ?_
      rotate_left
      · (intro w; go_simp <;> with_reducible rfl)
      simp only [Act.put, List.setIfInBounds_toArray, List.set_cons_zero, List.set_cons_succ]
      refine tkU (v := ?_) 6 la6 hSU0 (by kernel_rfl) (fun _ _ _ h => h) rfl ?_ ?_
      rotate_left
      · (intro w hSw; (try dsimp only at hSw); go_simp <;> with_reducible rfl)
      simp only [Act.put, List.setIfInBounds_toArray, List.set_cons_zero, List.set_cons_succ]
      refine wpAnyU_ready (rs := [7]) (by kernel_rfl) rfl ?_
      refine AllReadyU.free la7 rfl (by kernel_rfl) (fun K hK => ?_) ?_
      · refine step_app_ss (w := u0) 23 (by kernel_rfl) Try.info_event rfl (by decide) (by decide) (by rfl) _ _ (by rfl) (v0 := .slice (some ⟨g, 0, none⟩) k cap) (base := B) (by rfl) (by rw [← HPA.out]; rfl) ((own_take HM.out (Nat.le_of_lt hkl)).below HU0.out) (HSD.out.below HU0.out) (by rw [evRows_length, List.length_take, List.length_drop, evRows_length]; omega) (by have := HU0.out.size; have := HGW.out; omega) ?_
        intro v6 u1 ho1 hg1 hn1
        rw [← evRows_drop, ← evRows_append] at ho1
        have HO1 := Lib.hid ho1
        have HG1 := Lib.hid hg1
        clear ho1 hg1 hn1
        refine hK.out _ _ ?_
        clear hK K hSU0
        try simp only [Act.put, List.setIfInBounds_toArray, List.set_cons_zero, List.set_cons_succ]
        refine wpAnyU_takeW (v := ?_) 8 la8 (by kernel_rfl) (by kernel_rfl) (by kernel_rfl) (by kernel_rfl) (fun _ _ _ h => h) (past_k (by kernel_rfl)) rfl ?_ ?_
        rotate_left
        · (intro w; go_simp <;> with_reducible rfl)
        simp only [Act.put, List.setIfInBounds_toArray, List.set_cons_zero, List.set_cons_succ]
        refine wpAnyU_done (by kernel_rfl) ?_ _
        go_wp2_with fail
        all_goals (go_meet; refine ⟨L.take k ++ L.drop (k + 1), HO1.out.sls (by rw [evRows_length, List.length_append, List.length_take, List.length_drop]; omega), by rw [List.length_append, List.length_take, List.length_drop]; omega, ?_⟩; exact (below_then HBM.out HU0.out).grown HG1.out (by have := HU0.out.size; have := HBM.out.size; omega) (fun j hj => own_blk hj ▸ HGB.out))
      exact AllReadyU.nil
    · --4
      have HSZ := HBM.out.size
      go_wp2_with (at_builtin; refine wp_append_s1 23 (by kernel_rfl) Try.info_event rfl (by decide) (by decide) rfl _ _ rfl rfl (HM.out.below (below_new (Below.refl _ _) _)) (evL ⟨et, eo, er, ⟨rk, rc, rv, ro, rn⟩⟩) rfl (fun u hu => evL_one _ u hu) _ rfl (by show (Array.push _ _)[_]? = _; exact Array.getElem?_push_size) (by rw [evRows_length]; omega) (by have := HGW.out; simp; omega) ?_; intro v6 w7 h1 h2; have H1 := Lib.hid h1; have H2 := Lib.hid h2; clear h1 h2)
      rw [← evRows_snoc] at H1
      go_meet
      refine ⟨_, H1.out.sls (by rw [evRows_length, List.length_append]; simp; omega), by rw [List.length_append]; simp; omega, ?_⟩
      exact (below_new HBM.out _).grown H2.out (by have := HBM.out.size; simp; omega) (fun j hj => own_blk hj ▸ HGB.out)
    · --5
      go_wp2_with fail
      go_meet
      refine ⟨L.set k ⟨et, eo, er, ⟨a4 % 3, rc, rv, ro, rn⟩⟩, ?_, by rw [List.length_set]; omega, HBM.out.setCell (p := ⟨g, k * 8 + 3, none⟩) HGB.out _⟩
      refine (own_setE HM.out hkl HE.out [.int .i64 et, .int .i64 eo, .bool er] [.int .i64 rc, .int .u64 rv, .bool ro, .int .i64 rn] (.int .i64 rk) _ rfl _ rfl rfl).sls (by rw [evRows_length, List.length_set]; omega)

    · --6
      clear c0 c1 c2 c3 c4 c5 c6 c7 f0 f1 f2 f3 HTH
      obtain ⟨⟨ft, fo, fr, ⟨fk, fc, fv, fb, fn⟩⟩, he0⟩ : ∃ e, L.getD 0 evZ = e := ⟨_, rfl⟩
      have h0l : 0 < L.length := by omega
      have KSw : Hid (∀ w', Below wm.heap.size wm w' → (fun w' : World => w'.cell? ⟨g, k * 8, none⟩ = some (.int .i64 et) ∧ w'.cell? ⟨g, k * 8 + 1, none⟩ = some (.int .i64 eo) ∧ w'.cell? ⟨g, k * 8 + 2, none⟩ = some (.bool er) ∧ w'.cell? ⟨g, k * 8 + 3, none⟩ = some (.int .i64 rk) ∧ w'.cell? ⟨g, k * 8 + 4, none⟩ = some (.int .i64 rc) ∧ w'.cell? ⟨g, k * 8 + 5, none⟩ = some (.int .u64 rv) ∧ w'.cell? ⟨g, k * 8 + 6, none⟩ = some (.bool ro) ∧ w'.cell? ⟨g, k * 8 + 7, none⟩ = some (.int .i64 rn) ∧ w'.cell? ⟨g, 0, none⟩ = some (.int .i64 ft) ∧ w'.cell? ⟨g, 1, none⟩ = some (.int .i64 fo) ∧ w'.cell? ⟨g, 2, none⟩ = some (.bool fr) ∧ w'.cell? ⟨g, 3, none⟩ = some (.int .i64 fk) ∧ w'.cell? ⟨g, 4, none⟩ = some (.int .i64 fc) ∧ w'.cell? ⟨g, 5, none⟩ = some (.int .u64 fv) ∧ w'.cell? ⟨g, 6, none⟩ = some (.bool fb) ∧ w'.cell? ⟨g, 7, none⟩ = some (.int .i64 fn)) w') := fun w' hb => by
        obtain ⟨⟨q0, q1, q2, q3, q4, q5, q6, q7⟩, -⟩ := own_evc (HM.out.below hb) hkl HE.out
        obtain ⟨⟨r0, r1, r2, r3, r4, r5, r6, r7⟩, -⟩ := own_evc (HM.out.below hb) h0l he0
        rw [Nat.zero_mul] at r0 r1 r2 r3 r4 r5 r6 r7
        exact ⟨q0, q1, q2, q3, q4, q5, q6, q7, r0, r1, r2, r3, r4, r5, r6, r7⟩
      have h0I : (0 : Int) < (nl : Int) := by omega
      have h0n : 0 < nl := by omega
      clear he0
      go_upto_region 26 with fail
      refine untilK KSw 11 14 (by kernel_rfl) rfl ?_
      obtain ⟨u0, hu0, HU0⟩ := drew_pack wm
      rw [hu0]
      clear hu0
      have hSU0 := KSw.out _ HU0.out
      refine tkU (v := ?_) 0 la0 hSU0 (by kernel_rfl) (fun _ _ _ h => h) rfl ?_ ?_
      rotate_left
      · (intro w hSw; (try dsimp only at hSw); go_simp <;> with_reducible rfl)
      simp only [Act.put, List.setIfInBounds_toArray, List.set_cons_zero, List.set_cons_succ]
      refine tkU (v := ?_) 1 la1 hSU0 (by kernel_rfl) (fun _ _ _ h => h) rfl ?_ ?_
      rotate_left
      · (intro w hSw; (try dsimp only at hSw); go_simp <;> with_reducible rfl)
      simp only [Act.put, List.setIfInBounds_toArray, List.set_cons_zero, List.set_cons_succ]
      refine tkU (v := ?_) 3 la3 hSU0 (by kernel_rfl) (fun _ _ _ h => h) rfl ?_ ?_
      rotate_left
      · (intro w hSw; (try dsimp only at hSw); go_simp <;> with_reducible rfl)
      simp only [Act.put, List.setIfInBounds_toArray, List.set_cons_zero, List.set_cons_succ]
      refine tkU (v := ?_) 4 la4 hSU0 (by kernel_rfl) (fun _ _ _ h => h) rfl ?_ ?_
      rotate_left
      · (intro w hSw; (try dsimp only at hSw); go_simp <;> with_reducible rfl)
      simp only [Act.put, List.setIfInBounds_toArray, List.set_cons_zero, List.set_cons_succ]
      refine tkU (v := ?_) 5 la5 hSU0 (by kernel_rfl) (fun _ _ _ h => h) rfl ?_ ?_
      rotate_left
      · (intro w hSw; (try dsimp only at hSw); go_simp <;> with_reducible rfl)
      simp only [Act.put, List.setIfInBounds_toArray, List.set_cons_zero, List.set_cons_succ]
      refine wpAnyU_takeW (v := ?_) 2 la2 (by kernel_rfl) (by kernel_rfl) (by kernel_rfl) (by kernel_rfl) (fun _ _ _ h => h) (fun _ => hSU0) rfl ?_ ?_
      rotate_left
      · (intro w; go_simp <;> with_reducible rfl)
      simp only [Act.put, List.setIfInBounds_toArray, List.set_cons_zero, List.set_cons_succ]
      refine wpAnyU_takeW (v := ?_) 6 la6 (by kernel_rfl) (by kernel_rfl) (by kernel_rfl) (by kernel_rfl) (fun _ _ _ h => h) (fun _ => hSU0) rfl ?_ ?_
      rotate_left
      · (intro w; go_simp <;> with_reducible rfl)
      simp only [Act.put, List.setIfInBounds_toArray, List.set_cons_zero, List.set_cons_succ]
      refine wpAnyU_takeW (v := ?_) 7 la7 (by kernel_rfl) (by kernel_rfl) (by kernel_rfl) (by kernel_rfl) (fun _ _ _ h => h) (fun _ => hSU0) rfl ?_ ?_
      rotate_left
      · (intro w; go_simp <;> with_reducible rfl)
      simp only [Act.put, List.setIfInBounds_toArray, List.set_cons_zero, List.set_cons_succ]
      refine wpAnyU_takeW (v := ?_) 8 la8 (by kernel_rfl) (by kernel_rfl) (by kernel_rfl) (by kernel_rfl) (fun _ _ _ h => h) (fun _ => hSU0) rfl ?_ ?_
      rotate_left
      · (intro w; go_simp <;> with_reducible rfl)
      simp only [Act.put, List.setIfInBounds_toArray, List.set_cons_zero, List.set_cons_succ]
      refine tkU (v := ?_) 9 la9 hSU0 (by kernel_rfl) (fun _ _ _ h => h) rfl ?_ ?_
      rotate_left
      · (intro w hSw; (try dsimp only at hSw); go_simp <;> with_reducible rfl)
      simp only [Act.put, List.setIfInBounds_toArray, List.set_cons_zero, List.set_cons_succ]
      refine tkU (v := ?_) 10 la10 hSU0 (by kernel_rfl) (fun _ _ _ h => h) rfl ?_ ?_
      rotate_left
      · (intro w hSw; (try dsimp only at hSw); go_simp <;> with_reducible rfl)
      simp only [Act.put, List.setIfInBounds_toArray, List.set_cons_zero, List.set_cons_succ]
      refine wpAnyU_ready (rs := [11]) (by kernel_rfl) rfl ?_
      refine AllReadyU.free la11 rfl (by kernel_rfl) (fun K hK => ?_) ?_
      · refine step_store_mid rfl 34 (Operand.tmp 126) (Operand.tmp 121) rfl g (k * 8) #[.int .i64 ft, .int .i64 fo, .bool fr, .int .i64 fk, .int .i64 fc, .int .u64 fv, .bool fb, .int .i64 fn] (by rfl) (by rfl) (own_evc (HM.out.below HU0.out) hkl HE.out).2 (by kernel_rfl) (by simp [Value.oneCell']) ?_
        have ho1 := own_setRowE (HM.out.below HU0.out) hkl ⟨ft, fo, fr, ⟨fk, fc, fv, fb, fn⟩⟩
        have hg1 := setCells_grown g (evL ⟨ft, fo, fr, ⟨fk, fc, fv, fb, fn⟩⟩) (k * 8) u0
        have hs1 := setCells_size g (evL ⟨ft, fo, fr, ⟨fk, fc, fv, fb, fn⟩⟩) (k * 8) u0
        unfold evL at ho1 hg1 hs1
        dsimp only at ho1 hg1 hs1
        generalize hu1 : World.setCells u0 g (k * 8) _ = u1 at *
        clear hu1
        have HO1 := Lib.hid ho1
        have HG1 := Lib.hid hg1
        have HS1 := Lib.hid hs1
        clear ho1 hg1 hs1
        refine hK.out _ _ ?_
        clear hK K hSU0
        try simp only [Act.put, List.setIfInBounds_toArray, List.set_cons_zero, List.set_cons_succ]
        refine wpAnyU_takeW (v := ?_) 12 la12 (by kernel_rfl) (by kernel_rfl) (by kernel_rfl) (by kernel_rfl) (fun _ _ _ h => h) (past_k (by kernel_rfl)) rfl ?_ ?_
        rotate_left
        · (intro w; go_simp <;> with_reducible rfl)
        simp only [Act.put, List.setIfInBounds_toArray, List.set_cons_zero, List.set_cons_succ]
        refine wpAnyU_ready (rs := [13]) (by kernel_rfl) rfl ?_
        refine AllReadyU.free la13 rfl (by kernel_rfl) (fun K hK => ?_) ?_
        · refine step_store_mid rfl 34 (Operand.tmp 127) (Operand.tmp 125) rfl g 0 #[.int .i64 et, .int .i64 eo, .bool er, .int .i64 rk, .int .i64 rc, .int .u64 rv, .bool ro, .int .i64 rn] (by rfl) (by rfl) (by have h9 := (own_evc HO1.out (k := 0) (by rw [List.length_set]; omega) rfl).2; rw [Nat.zero_mul] at h9; exact h9) (by kernel_rfl) (by simp [Value.oneCell']) ?_
          have ho2 := own_setRowE HO1.out (k := 0) (by rw [List.length_set]; omega) ⟨et, eo, er, ⟨rk, rc, rv, ro, rn⟩⟩
          rw [Nat.zero_mul] at ho2
          have hg2 := setCells_grown g (evL ⟨et, eo, er, ⟨rk, rc, rv, ro, rn⟩⟩) 0 u1
          unfold evL at ho2 hg2
          dsimp only at ho2 hg2
          generalize hu2 : World.setCells u1 g 0 _ = u2 at *
          clear hu2
          have HO2 := Lib.hid ho2
          have HG2 := Lib.hid hg2
          clear ho2 hg2
          refine hK.out _ _ ?_
          clear hK K
          try simp only [Act.put, List.setIfInBounds_toArray, List.set_cons_zero, List.set_cons_succ]
          refine wpAnyU_done (by kernel_rfl) ?_ _
          go_wp2_with fail
          go_meet
          refine ⟨_, HO2.out.sls (by rw [evRows_length, List.length_set, List.length_set]; omega), by rw [List.length_set, List.length_set]; omega, ?_⟩
          exact ((below_then HBM.out HU0.out).grown HG1.out (by have := HU0.out.size; have := HBM.out.size; omega) (fun j hj => by cases hj; exact HGB.out)).grown HG2.out (by have := HU0.out.size; have := HBM.out.size; have := HS1.out; omega) (fun j hj => by cases hj; exact HGB.out)
        exact AllReadyU.nil
      exact AllReadyU.nil
  case rest =>
    clear c0 c1 c2 c3 c4 c5 c6 c7 f0 f1 f2 f3 HM HBM HE HTH HGB HGW HSL5
    obtain ⟨M, hsm, hm31, hbm⟩ := hcut
    obtain ⟨wd, rfl⟩ : ∃ w : World, w = wc := ⟨_, rfl⟩
    have HSM := Lib.hid hsm
    have HB7 := Lib.hid (below_then HB5.out hbm)
    obtain ⟨am, km, rfl, -⟩ := hsm.lenE
    have T1 := Lib.hid (hcheck_any _ _ M ns wd HSM.out (HSO.out.below HB7.out) (by omega))
    have T2 := Lib.hid fun w' (hb : Below wd.heap.size wd w') => ercheck_any _ _ M ns w' (HSM.out.below hb) ((HSO.out.below HB7.out).below hb) (by omega)
    obtain ⟨q2, hq2⟩ : ∃ q, histE ns M = q := ⟨_, rfl⟩
    rw [hq2] at T1 T2
    clear hsm hbm hq2
    go_wp2_with fail
    refine T1.out.mono ?_; rintro e w8 ⟨rfl, hb8⟩
    have HB8 := Lib.hid hb8
    clear hb8 T1
    go_wp2_with fail
    refine (T2.out _ HB8.out).mono ?_; rintro e w9 ⟨rfl, hb9⟩
    have HB9 := Lib.hid (below_then HB2.out (below_then HB7.out (below_then HB8.out hb9)))
    clear hb9 T2
    cases q2 <;> (go_wp2; go_ret; exact ⟨rfl, HB9.out⟩)
set_option maxRecDepth 100000 in
theorem lifted (os : Os) (started : os.Started) (H : Type) (enc : TypeId × Value → H) :
    ReturnsInHanded {} Try.checked os 3 .any (Rows.historyChecksSpec.pre6 enc Try.prog Try.f3 Rows.historyChecksRow.domain false) (Rows.historyChecksSpec.post enc Try.prog Try.f3 false true false false) := by
  refine returnsInHanded_of_change_sized (C := Try.checked) own started (by kernel_rfl) Try.func3
    (ChangeSpec.witness6 (enc := enc) (C := Try.checked) false ⟨#[], #[.slice none 0 0, .slice none 0 0, .int .i64 0, .int .u8 0, .int .u8 0], []⟩ 8 (by kernel_rfl) (by kernel_rfl) (by kernel_rfl) (by kernel_rfl)) ?_
  intro W base args ds gs before hval0 hW _ hsz0 _
  have hsz : (DataW.weightsEach Try.prog (Try.f3.params.toList ++ Rows.historyChecksSpec.plain.varTypes Try.prog) (ds ++ gs)).all (· ≤ reachBytes) = true := hsz0
  clear hsz0
  have hval : ∀ (j : Nat) t v, Try.f3.params[j]? = some t → args[j]? = some v → Value.okWide Try.prog W .any base t v := hval0
  have hW' := hW
  obtain ⟨p, q, hA0, hV, rfl, _, _⟩ := hW
  have hA : DataW.TrodAll enc Try.prog W 0 (fun _ => true) true Try.f3.params.toList args.toList ds p := hA0
  rw [Try.params3] at hA hval hsz
  obtain ⟨v0, vs0, d0, ds0, p0, q0, hargs, rfl, rfl, h0, rr0⟩ := trodAll_cons hA
  obtain ⟨v1, vs1, d1, ds1, p1, q1, rfl, rfl, rfl, h1, rr1⟩ := trodAll_cons rr0
  obtain ⟨v2, vs2, d2, ds2, p2, q2, rfl, rfl, rfl, h2, rr2⟩ := trodAll_cons rr1
  obtain ⟨v3, vs3, d3, ds3, p3, q3, rfl, rfl, rfl, h3, rr3⟩ := trodAll_cons rr2
  obtain ⟨v4, vs4, d4, ds4, p4, q4, rfl, rfl, rfl, h4, rr4⟩ := trodAll_cons rr3
  obtain ⟨rfl, rfl, rfl⟩ := trodAll_nil rr4
  obtain rfl : args = #[v0, v1, v2, v3, v4] := by cases args; simp_all
  obtain ⟨rfl, rfl⟩ := trodVars_none hV
  have k0 := h0
  have k1 := h1
  have k2 := h2
  have k3 := h3
  have k4 := h4
  obtain ⟨l0, s0⟩ := view_sl (k := .u8) Try.underlying22 Try.underlying5 (by kernel_rfl) (fun elems sp hd => sized_slice hsz (j := 0) (t := 22) (e := 5) rfl (by rw [hd]; rfl) Try.underlying22) (of_decide_eq_true (by kernel_rfl)) (hval 0 22 v0 rfl rfl) h0
  obtain ⟨l1, s1, o1⟩ := view_events (fun elems sp hd => sized_slice hsz (j := 1) (t := 23) (e := 34) rfl (by rw [hd]; rfl) Try.underlying23) (hval 1 23 v1 rfl rfl) h1
  obtain ⟨a2, rfl, -, -, w2⟩ := open_int Try.underlying3 (hval 2 3 v2 rfl rfl) h2
  obtain ⟨a3, rfl, -, -, w3⟩ := open_int Try.underlying5 (hval 3 5 v3 rfl rfl) h3
  obtain ⟨a4, rfl, -, -, w4⟩ := open_int Try.underlying5 (hval 4 5 v4 rfl rfl) h4
  clear hA0 hval0
  simp only [List.append_nil] at hW'
  have hlt := hW'.lt
  refine (walk W v0 l0 s0 v1 l1 s1 o1 a2 w2 a3 w3 a4 w4).mono fun e W' ⟨he, hb⟩ => ?_
  subst he
  exact ⟨_, rfl, _, _, _, [], _, [], hW', trodAll_cons_mk (shut_bool Try.underlying4 _) trodAll_mk0, (trodAll_cons_mk (Below.trod Try.laidOut (by kernel_rfl) (of_decide_eq_true (by kernel_rfl)) k0 hb (fun x hx => by simpa using hlt x (by simp [hx]))) (trodAll_cons_mk (Below.trod Try.laidOut (by kernel_rfl) (of_decide_eq_true (by kernel_rfl)) k1 hb (fun x hx => by simpa using hlt x (by simp [hx]))) (trodAll_cons_mk (Below.trod Try.laidOut (by kernel_rfl) (of_decide_eq_true (by kernel_rfl)) k2 hb (fun x hx => by simpa using hlt x (by simp [hx]))) (trodAll_cons_mk (Below.trod Try.laidOut (by kernel_rfl) (of_decide_eq_true (by kernel_rfl)) k3 hb (fun x hx => by simpa using hlt x (by simp [hx]))) (trodAll_cons_mk (Below.trod Try.laidOut (by kernel_rfl) (of_decide_eq_true (by kernel_rfl)) k4 hb (fun x hx => by simpa using hlt x (by simp [hx]))) trodAll_mk0))))), rfl, hb.frame _, fun h => by cases h⟩
theorem over : Rows.historyChecksRow.holds Try.pinned (OpenSpec.ofChange Rows.historyChecksSpec) :=
  OpenClaim.holds_of_wide 3 Try.f3 rfl rfl rfl rfl rfl rfl rfl ⟨rfl, rfl, rfl, rfl, rfl⟩ rfl rfl rfl rfl rfl (by kernel_rfl) Try.func3 (by kernel_rfl)
    (of_decide_eq_true (by kernel_rfl)) (by unfold Func.isWrapper; first | (rw [if_pos (by decide +kernel)]; kernel_rfl) | (rw [if_neg (by decide +kernel)]; exact ⟨rfl, rfl⟩))
    (fun os started H enc _ => lifted os started H enc)
/-- THE STATEMENT -/
theorem proved : Rows.HistoryChecksSaid :=
  over
end Go.Proofs.Ytnbehigjeopniaa.historyChecks
