import Derived.ChangeKeysEq
import Derived.Deep.DeepCutAuto
import Derived.Deep.CutBlock
import Derived.Maps.Own
import Derived.Maps.OwnOps
import Derived.Maps.Views
import Derived.WideKeyPair
import Derived.DeepKeys4
import Derived.Test.YtnbehigjeopniaaB06
import Derived.Test.YtnbehigjeopniaaB01
import Derived.Test.YtnbehigjeopniaaB05
set_option linter.unusedVariables false
set_option linter.unusedSimpArgs false
/- Layer 16: the reference's Open, SameCalls, SameEvents. -/
namespace Go.Proofs.Ytnbehigjeopniaa
open Go.ChangeShapes Go.WideShapes Go.ChangeAt Go.RowKit
set_option maxRecDepth 100000

theorem run_eql_caI (a b c d : Int) (w : World) : (Op.equalIn 10000 47 (.agg #[.int .i64 a, .int .i64 b]) (.agg #[.int .i64 c, .int .i64 d])).run Try.prog w = .ok ((a == c) && (b == d)) w := by
  have hu := Try.underlying47
  have hu3 := Try.underlying3
  obtain ⟨i0, hi, hz0, hz1, hz2⟩ := info_parts Try.info_i64
  have hC : Try.prog.cellsOf 3 = 1 := by kernel_rfl
  have hp : Try.prog.plainKey 3 = true := by kernel_rfl
  have p0 := run_part_plain (P := Try.prog) (w := w) hp (xs := #[.int .i64 a, .int .i64 b]) (off := 0) (v := .int .i64 a) rfl
  have p1 := run_part_plain (P := Try.prog) (w := w) hp (xs := #[.int .i64 a, .int .i64 b]) (off := 1) (v := .int .i64 b) rfl
  have p2 := run_part_plain (P := Try.prog) (w := w) hp (xs := #[.int .i64 c, .int .i64 d]) (off := 0) (v := .int .i64 c) rfl
  have p3 := run_part_plain (P := Try.prog) (w := w) hp (xs := #[.int .i64 c, .int .i64 d]) (off := 1) (v := .int .i64 d) rfl
  have q0 : (Op.equalIn 9999 3 (.int .i64 a) (.int .i64 c)).run Try.prog w = .ok (a == c) w := run_equalIn_int (P := Try.prog) w 9998 3 .i64 .i64 a c hu3
  have q1 : (Op.equalIn 9999 3 (.int .i64 b) (.int .i64 d)).run Try.prog w = .ok (b == d) w := run_equalIn_int (P := Try.prog) w 9998 3 .i64 .i64 b d hu3
  rw [run_equalIn_array (P := Try.prog) (w := w) 9999 _ _ hu hi, hC, show List.range 2 = [0, 1] from rfl]
  simp only [Op.eqItems, Sem.run_bind, Nat.zero_mul, Nat.one_mul, p0, p1, p2, p3, q0, q1, Result.andThen_ok]
  cases hac : (a == c) <;> cases hbd : (b == d) <;> simp [p1, p3, q1, hbd]
theorem run_eql_ca (a b c d : Int) (w : World) : (binOp .eql 47 (.agg #[.int .i64 a, .int .i64 b]) (.agg #[.int .i64 c, .int .i64 d])).run Try.prog w = .ok (.bool ((a == c) && (b == d))) w := by
  have hu := Try.underlying47
  have h := run_eql_caI a b c d w
  simp [go_sem, h]
theorem run_neq_ca (x y : Int) (w : World) : (binOp .neq 47 (.agg #[.int .i64 x, .int .i64 y]) (.agg #[.int .i64 x, .int .i64 y])).run Try.prog w = .ok (.bool false) w := by
  have hu := Try.underlying47
  have h := run_eql_caI x y x y w
  simp [go_sem, h]
theorem run_neq_ev (a b : Int) (c : Bool) (d e f : Int) (g : Bool) (h : Int) (w : World) : (binOp .neq 34 (.agg #[.int .i64 a, .int .i64 b, .bool c, .int .i64 d, .int .i64 e, .int .u64 f, .bool g, .int .i64 h]) (.agg #[.int .i64 a, .int .i64 b, .bool c, .int .i64 d, .int .i64 e, .int .u64 f, .bool g, .int .i64 h])).run Try.prog w = .ok (.bool false) w := by
  have hu := Try.underlying34
  have hu2 := Try.underlying32
  simp [go_sem]
theorem ownS_mono {w : World} {b b2 s : Nat} {e : TypeId} {v : Value} {rows : List (List Value)} (h : OwnS w b e s v rows) (hb : b2 ≤ b) : OwnS w b2 e s v rows := by
  refine ⟨h.1, h.2.1, ?_⟩
  rcases h.2.2 with h1 | ⟨g, cap, cur, h1, h2, h3⟩
  · exact .inl h1
  · exact .inr ⟨g, cap, cur, h1, Nat.le_trans hb h2, h3⟩
set_option maxRecDepth 100000 in
set_option maxHeartbeats 16000000 in
theorem ersameC_any (v v2 : Value) (l : List (Int × Int)) (w : World) (hv : SlS w 2 v (caRows l)) (hv2 : SlS w 2 v2 (caRows l)) : Calls Try.prog 20 #[v, v2] w fun e w' => e = .returned (.bool true) ∧ Below w.heap.size w w' := by
  have HV := Lib.hid hv
  have HV2 := Lib.hid hv2
  have hbd := hv.1
  rw [caRows_length] at hbd
  obtain ⟨a, cap, rfl, -⟩ := hv.lenC
  obtain ⟨a2, cap2, rfl, -⟩ := hv2.lenC
  clear hv hv2
  go_enter Try.func20, Try.ntmps20
  go_wp2_with fail
  go_loopw [5] (fun u5 wr => ∃ i : Nat, u5 = .int .i64 i ∧ i ≤ l.length ∧ Hid (Below w.heap.size w wr)) (fun u5 _ => l.length - (intOf u5).toNat)
  case atStart => exact ⟨0, rfl, by omega, Below.refl _ _⟩
  case round =>
    obtain ⟨i, rfl, hi, HB⟩ := hrel
    obtain ⟨wo, rfl⟩ : ∃ wo : World, wo = wr := ⟨_, rfl⟩
    by_cases hlt : i < l.length
    · have hltI : (i : Int) < (l.length : Int) := by omega
      obtain ⟨⟨x1, x2⟩, he⟩ : ∃ e, l.getD i (0, 0) = e := ⟨_, rfl⟩
      have HE := Lib.hid he
      obtain ⟨b, off, cp, hve, hb, c0, c1⟩ := (HV.out.below HB.out).ca i hlt he
      simp only [Value.slice.injEq] at hve
      obtain ⟨rfl, -, rfl⟩ := hve
      dsimp only at c0 c1
      clear he

      have he := HE.out
      have HE2 := Lib.hid he
      obtain ⟨b2, off2, cp2, hve, hb2, d0, d1⟩ := (HV2.out.below HB.out).ca i hlt he
      simp only [Value.slice.injEq] at hve
      obtain ⟨rfl, -, rfl⟩ := hve
      dsimp only at d0 d1
      clear he

      have hneq := fun w => run_neq_ca x1 x2 w
      go_upto_region 6 with fail
      have Xc0 := ext_cell _ _ hb _ c0
      have Xc1 := ext_cell _ _ hb _ c1
      have Xd0 := ext_cell _ _ hb2 _ d0
      have Xd1 := ext_cell _ _ hb2 _ d1
      clear c0 c1 d0 d1
      refine wp_region_ext wo (by kernel_rfl) (by kernel_rfl) (Below.refl _ _) ?_
      repeat (go_big_quiet_step (fail))
      refine wpQuiet_nil ?_
      intro _ hw'
      obtain ⟨n9, rfl⟩ := hw'
      have HN9 := Lib.hid n9.below
      generalize n9.wd = w9 at *

      have HB9 := Lib.hid (below_then HB.out HN9.out)
      go_wp2_with fail
      go_roundw
      case rel => exact ⟨i + 1, by go_num, by omega, HB9⟩
      case measure => simp [intOf]; omega
    · have hge : ¬ (i : Int) < (l.length : Int) := by omega
      go_wp2
      go_ret
      exact ⟨rfl, HB.out⟩
set_option maxRecDepth 100000 in
set_option maxHeartbeats 16000000 in
theorem ersameE_any (v v2 : Value) (l : List EvM) (w : World) (hv : SlS w 8 v (evRows l)) (hv2 : SlS w 8 v2 (evRows l)) : Calls Try.prog 17 #[v, v2] w fun e w' => e = .returned (.bool true) ∧ Below w.heap.size w w' := by
  have HV := Lib.hid hv
  have HV2 := Lib.hid hv2
  have hbd := hv.1
  rw [evRows_length] at hbd
  obtain ⟨a, cap, rfl, -⟩ := hv.lenE
  obtain ⟨a2, cap2, rfl, -⟩ := hv2.lenE
  clear hv hv2
  go_enter Try.func17, Try.ntmps17
  go_wp2_with fail
  go_loopw [5] (fun u5 wr => ∃ i : Nat, u5 = .int .i64 i ∧ i ≤ l.length ∧ Hid (Below w.heap.size w wr)) (fun u5 _ => l.length - (intOf u5).toNat)
  case atStart => exact ⟨0, rfl, by omega, Below.refl _ _⟩
  case round =>
    obtain ⟨i, rfl, hi, HB⟩ := hrel
    obtain ⟨wo, rfl⟩ : ∃ wo : World, wo = wr := ⟨_, rfl⟩
    by_cases hlt : i < l.length
    · have hltI : (i : Int) < (l.length : Int) := by omega
      obtain ⟨⟨et, eo, er, ⟨rk, rc, rv, ro, rn⟩⟩, he⟩ : ∃ e, l.getD i evZ = e := ⟨_, rfl⟩
      have HE := Lib.hid he
      obtain ⟨b, off, cp, hve, hb, c0, c1, c2, c3, c4, c5, c6, c7⟩ := (HV.out.below HB.out).ev i hlt he
      simp only [Value.slice.injEq] at hve
      obtain ⟨rfl, -, rfl⟩ := hve
      dsimp only at c0 c1 c2 c3 c4 c5 c6 c7
      clear he

      have he := HE.out
      have HE2 := Lib.hid he
      obtain ⟨b2, off2, cp2, hve, hb2, d0, d1, d2, d3, d4, d5, d6, d7⟩ := (HV2.out.below HB.out).ev i hlt he
      simp only [Value.slice.injEq] at hve
      obtain ⟨rfl, -, rfl⟩ := hve
      dsimp only at d0 d1 d2 d3 d4 d5 d6 d7
      clear he

      have hneq := fun w => run_neq_ev et eo er rk rc rv ro rn w
      go_upto_region 6 with fail
      have Xc0 := ext_cell _ _ hb _ c0
      have Xc1 := ext_cell _ _ hb _ c1
      have Xc2 := ext_cell _ _ hb _ c2
      have Xc3 := ext_cell _ _ hb _ c3
      have Xc4 := ext_cell _ _ hb _ c4
      have Xc5 := ext_cell _ _ hb _ c5
      have Xc6 := ext_cell _ _ hb _ c6
      have Xc7 := ext_cell _ _ hb _ c7
      have Xd0 := ext_cell _ _ hb2 _ d0
      have Xd1 := ext_cell _ _ hb2 _ d1
      have Xd2 := ext_cell _ _ hb2 _ d2
      have Xd3 := ext_cell _ _ hb2 _ d3
      have Xd4 := ext_cell _ _ hb2 _ d4
      have Xd5 := ext_cell _ _ hb2 _ d5
      have Xd6 := ext_cell _ _ hb2 _ d6
      have Xd7 := ext_cell _ _ hb2 _ d7
      clear c0 c1 c2 c3 c4 c5 c6 c7 d0 d1 d2 d3 d4 d5 d6 d7
      refine wp_region_ext wo (by kernel_rfl) (by kernel_rfl) (Below.refl _ _) ?_
      repeat (go_big_quiet_step (fail))
      refine wpQuiet_nil ?_
      intro _ hw'
      obtain ⟨n9, rfl⟩ := hw'
      have HN9 := Lib.hid n9.below
      generalize n9.wd = w9 at *

      have HB9 := Lib.hid (below_then HB.out HN9.out)
      go_wp2_with fail
      go_roundw
      case rel => exact ⟨i + 1, by go_num, by omega, HB9⟩
      case measure => simp [intOf]; omega
    · have hge : ¬ (i : Int) < (l.length : Int) := by omega
      go_wp2
      go_ret
      exact ⟨rfl, HB.out⟩
set_option maxRecDepth 100000 in
set_option maxHeartbeats 16000000 in
theorem eropen_any (v : Value) (l : List EvM) (w : World) (hv : SlS w 8 v (evRows l)) (hl : l.length ≤ 1000000) : Calls Try.prog 24 #[v] w fun e w' => ∃ u, e = .returned u ∧ OwnS w' w.heap.size 47 2 u (caRows (openE l)) ∧ Below w.heap.size w w' := by
  have TC := Lib.hid (ercalls_any v l w hv hl)
  have TF := Lib.hid fun t o w' (hb : Below w.heap.size w w') => keepB (erfind_any v l t o true w' (hv.below hb))
  have hlc := callsE_le l
  have HOP : Hid (openE l = (callsE l).filter (openP l)) := rfl
  have HQ : Hid (∀ c : Int × Int, openP l c = decide (findI l c.1 c.2 true < 0)) := fun c => rfl
  obtain ⟨cl, hcl⟩ : ∃ c, callsE l = c := ⟨_, rfl⟩
  rw [hcl] at TC HOP hlc
  obtain ⟨a, cap, rfl, -⟩ := hv.lenE
  clear hv hcl
  go_enter Try.func24, Try.ntmps24
  go_wp2_with fail
  refine TC.out.mono ?_; rintro e w1 ⟨uc, rfl, hoc, hb1⟩
  have HC : Hid (SlS w1 2 uc (caRows cl)) := hoc.sls (by rw [caRows_length]; omega)
  obtain ⟨ac, kc, hve⟩ := hoc.lenC
  subst hve
  have HB1 := Lib.hid hb1
  have hcl : cl.length ≤ 1000000 := by omega
  clear TC hoc hb1
  go_wp2_with fail
  go_loopw [3, 5] (fun u3 u5 wr => ∃ (i : Nat) (u : Value), u = u3 ∧ u5 = .int .i64 i ∧ i ≤ cl.length ∧ Hid (OwnS wr w1.heap.size 47 2 u (caRows ((cl.take i).filter (openP l)))) ∧ Hid (Below w1.heap.size w1 wr)) (fun _ u5 _ => cl.length - (intOf u5).toNat)
  case atStart => exact ⟨0, _, rfl, rfl, by omega, OwnS.nil _ _ _ _, Below.refl _ _⟩
  case round =>
    obtain ⟨i, u, rfl, rfl, hi, HO, HB⟩ := hrel
    obtain ⟨wo, rfl⟩ : ∃ wo : World, wo = wr := ⟨_, rfl⟩
    by_cases hlt : i < cl.length
    · have hltI : (i : Int) < (cl.length : Int) := by omega
      have HS := Lib.hid (filter_take (p := openP l) hlt (0, 0))
      have HLW : Hid (((cl.take i).filter (openP l)).length ≤ 1000000) := Nat.le_trans (List.length_filter_le _ _) (by rw [List.length_take]; omega)
      obtain ⟨⟨x1, x2⟩, he⟩ : ∃ e, cl.getD i (0, 0) = e := ⟨_, rfl⟩
      have HCI := Lib.hid he
      obtain ⟨b2, off2, cp2, hve, hb2, d0, d1⟩ := (HC.out.below HB.out).ca i hlt he
      simp only [Value.slice.injEq] at hve
      obtain ⟨rfl, -, rfl⟩ := hve
      dsimp only at d0 d1
      clear he

      rw [HCI.out] at HS
      have TG := Lib.hid fun w' (hb : Below wo.heap.size wo w') => TF.out x1 x2 w' (below_then (below_then HB1.out HB.out) hb)
      have HP := Lib.hid (HQ.out (x1, x2))
      dsimp only at HP
      obtain ⟨r, hr⟩ : ∃ r, findI l x1 x2 true = r := ⟨_, rfl⟩
      rw [hr] at HP TG
      obtain ⟨q, hq⟩ : ∃ q, decide (r < 0) = q := ⟨_, rfl⟩
      rw [hq] at HP
      clear hr
      go_upto_region 6 with fail
      have Xd0 := ext_cell _ _ hb2 _ d0
      have Xd1 := ext_cell _ _ hb2 _ d1
      have HD := Lib.hid (And.intro d0 d1)
      clear d0 d1
      refine wp_region_ext wo (by kernel_rfl) (by kernel_rfl) (Below.refl _ _) ?_
      repeat (go_big_quiet_step (first
        | (go_at_call 34; with_reducible exact calls_ext (TG.out _ (Ext.below _)))))
      refine wpQuiet_nil ?_
      intro _ hw'
      obtain ⟨n9, rfl⟩ := hw'
      have HN9 := Lib.hid n9.below
      generalize n9.wd = w9 at *

      have HB9 := Lib.hid (below_then HB.out HN9.out)
      have HO9 := Lib.hid (HO.out.below HN9.out)
      have d0 := (HN9.out.cell (p := ⟨b2, off2 + i * 2, none⟩) hb2).trans HD.out.1
      have d1 := (HN9.out.cell (p := ⟨b2, off2 + i * 2 + 1, none⟩) hb2).trans HD.out.2
      have hsz := HB9.out.size
      clear HD Xd0 Xd1 HO HB TG
      cases q with
      | false =>
        have HS2 : Hid ((cl.take (i + 1)).filter (openP l) = (cl.take i).filter (openP l)) := by show _ = _; rw [HS.out, HP.out, if_neg (by decide), List.append_nil]
        clear HS
        go_wp2_with fail
        go_roundw
        case rel => exact ⟨i + 1, u, rfl, by go_num, by omega, by rw [HS2.out]; exact HO9, HB9⟩
        case measure => simp [intOf]; omega
      | true =>
        have HS2 : Hid ((cl.take (i + 1)).filter (openP l) = (cl.take i).filter (openP l) ++ [(x1, x2)]) := by show _ = _; rw [HS.out, HP.out, if_pos rfl]
        clear HS
        go_wp2_with (at_builtin; refine wp_append_s1 44 (by kernel_rfl) Try.info_pair rfl (by decide) (by decide) rfl _ _ rfl rfl (HO9.out.below (below_new (Below.refl _ _) _)) (caRow (x1, x2)) rfl (fun u hu => caRow_one _ u hu) _ rfl (by show (Array.push _ _)[_]? = _; exact Array.getElem?_push_size) (by have := HLW.out; rw [caRows_length]; omega) (by simp; omega) ?_; intro v2 w2 h1 h2; have H1 := Lib.hid h1; have H2 := Lib.hid h2; clear h1 h2)
        have HB2 : Hid (Below w1.heap.size w1 w2) := (below_new HB9.out _).grown H2.out (by have := HB9.out.size; simp; omega) (fun j hj => (HO9.out.lt j hj).1)
        go_roundw
        case rel => exact ⟨i + 1, v2, rfl, by go_num, by omega, by rw [HS2.out, caRows_snoc]; exact H1, HB2⟩
        case measure => simp [intOf]; omega
    · have hge : ¬ (i : Int) < (cl.length : Int) := by omega
      have hkl : cl.take i = cl := List.take_of_length_le (by omega)
      have HO2 : Hid (OwnS wo w1.heap.size 47 2 u (caRows (openE l))) := by rw [hkl] at HO; rw [HOP.out]; exact HO
      clear HO hkl
      have HZ := HB1.out.size
      go_wp2
      go_ret
      exact ⟨u, rfl, ownS_mono HO2.out HZ, below_then HB1.out HB.out⟩
end Go.Proofs.Ytnbehigjeopniaa
/- A map from calls to truth values that the call makes. -/
namespace Go.Proofs.Ytnbehigjeopniaa
open Go.ChangeShapes Go.WideShapes Go.ChangeAt Go.RowKit Go.WideMaps
set_option maxRecDepth 100000
open Go.Maps (Keyed)

theorem Try.rowPR : (47 : TypeId) < Try.prog.types.size := of_decide_eq_true (by kernel_rfl)
theorem Try.widePR : (match Try.prog.underlying 47 with | some (.array _ _) | some (.struct _) => true | _ => false) = true := by rw [Try.underlying47]
theorem Try.keyPR : Keyed Try.prog 47 := Keyed.of_law (deep_law_laid Try.laidOut (m := 2) (by omega) Try.rowPR (by kernel_rfl) Try.widePR)
theorem Try.arrPR : ArrKey Try.prog 47 3 2 := ⟨Try.underlying47, by kernel_rfl, by kernel_rfl, by kernel_rfl⟩
def keyL (c : Int × Int) : Lit := .string (keyBytes [.int .i64 c.1, .int .i64 c.2])
def C64 (c : Int × Int) : Prop := (Lit.int .i64 c.1).wf = true ∧ (Lit.int .i64 c.2).wf = true
theorem keyOf_ca {c : Int × Int} (h : C64 c) : keyOf Try.prog 47 (caV c) = some (keyL c) := keyOf_pair Try.arrPR Try.underlying3 (match h : Try.prog.types.size with | 0 => absurd Try.rowPR (by rw [h]; exact Nat.not_lt_zero _) | n + 1 => ⟨n, rfl⟩) h.1 h.2
theorem keyL_ne {c d : Int × Int} (hc : C64 c) (hd : C64 d) (h : c ≠ d) : keyL c ≠ keyL d := fun e => by
  have h1 := Try.keyPR.inj (keyOf_ca hc) (e ▸ keyOf_ca hd)
  unfold caV at h1
  simp at h1
  exact h (Prod.ext h1.1 h1.2)
/-- block b of w is a map of at most n entries that answers as f -/
def MapB (w : World) (b n : Nat) (f : Int × Int → Bool) : Prop :=
  ∃ D : DataW Unit, w.ownsMap Try.prog 47 (plainElem Try.prog 4) b n D ∧ ∀ c, C64 c → D.atKey (keyL c) (.lit (.bool false)) = .lit (.bool (f c))
theorem MapB.lt {w : World} {b n : Nat} {f : Int × Int → Bool} (h : MapB w b n f) : b < w.heap.size := by
  obtain ⟨D, h, -⟩ := h
  exact h.lt
theorem MapB.made (w : World) : MapB (w.alloc (.map #[] 0)) w.heap.size 0 (fun _ => false) :=
  ⟨.map [], World.ownsMap_made _ _ _ _, fun c _ => WideAt.atKey_none _ (by simp)⟩
theorem MapB.kept {w w' : World} {b n : Nat} {f : Int × Int → Bool} {row : Option Nat} (h : MapB w b n f) (hg : w.grownBy w' row) (hne : some b ≠ row) : MapB w' b n f := by
  obtain ⟨D, h1, h2⟩ := h
  exact ⟨D, h1.kept hg hne, h2⟩
theorem MapB.below {w w' : World} {b n : Nat} {f : Int × Int → Bool} (h : MapB w b n f) (hb : Below w.heap.size w w') : MapB w' b n f :=
  h.kept (row := none) ⟨hb.os, hb.tape, hb.output, hb.size, fun j hj _ => hb.block j hj⟩ (by simp)
theorem plainB_inv {v : Value} {x : Bool} {ps : List MemPlace} (h : plainElem (H := Unit) Try.prog 4 v = some (.lit (.bool x), ps)) : v = .bool x := by
  unfold plainElem at h
  rw [Try.underlying4] at h
  cases v <;> simp at h
  rw [h.1]
/-- a look-up -/
theorem wp_look_b {w : World} {ops : Array Oper} {rest : List Oper} {o : Oper} {a : Act} {Q : Exit → Act → World → Prop} {b n : Nat} {f : Int × Int → Bool} (hM : MapB w b n f)
    (hg : o.guard = none) (m x : Operand) (hop : o.op = Op.lookup 68 m x false) (c : Int × Int) (hc : C64 c) (hm : a.eval m = .map (some b)) (hx : a.eval x = caV c)
    (hK : wpList Try.prog ops Q rest (a.put o.dst (.bool (f c))) w) : wpList Try.prog ops Q (o :: rest) a w := by
  refine wpList_plain hg fun K' hK' => ?_
  obtain ⟨D, h1, h2⟩ := hM
  obtain ⟨v, ps, hrun, hv⟩ := h1.lookup Try.keyPR Try.underlying68 (show (zeroValue 4).run Try.prog w = .ok (.bool false) w by kernel_rfl) (plainElem_bool Try.underlying4 false) (keyOf_ca hc)
  rw [h2 c hc] at hv
  have hv2 := plainB_inv hv
  subst hv2
  unfold Oper.wp
  simp [execOp, hop, hm, hx, hrun, Result.andThen]
  exact hK' _ _ hK
/-- 'true' is stored -/
theorem wp_put_b {w : World} {ops : Array Oper} {rest : List Oper} {o : Oper} {a : Act} {Q : Exit → Act → World → Prop} {b n : Nat} {f : Int × Int → Bool} (hM : MapB w b n f) (hn : n < 1000001)
    (hg : o.guard = none) (m x y : Operand) (hop : o.op = Op.mapUpdate 68 m x y) (c : Int × Int) (hc : C64 c) (hm : a.eval m = .map (some b)) (hx : a.eval x = caV c) (hy : a.eval y = .bool true)
    (hK : ∀ w', MapB w' b (n + 1) (fun d => d == c || f d) → w.grownBy w' (some b) → wpList Try.prog ops Q rest (a.put o.dst undef) w') : wpList Try.prog ops Q (o :: rest) a w := by
  obtain ⟨D, h1, h2⟩ := hM
  refine wpList_mapUpdate_own w hg m x y _ hop 47 4 Try.keyPR Try.underlying68 _ b n D hm h1 (by unfold maxLen; omega) _ _ (keyL c) hx hy (keyOf_ca hc) (.lit (.bool true)) [] (plainElem_bool Try.underlying4 true) fun w' h3 h4 => hK w' ⟨_, h3, fun d hd => ?_⟩ h4
  have hD : Maps.IsMap D := by obtain ⟨es, clock, -, -, -, rfl⟩ := h1; exact ⟨_, rfl⟩
  by_cases e : d = c
  · subst e
    rw [Maps.atKey_put_same hD (Try.keyPR.key (keyOf_ca hc))]
    simp
  · rw [Maps.atKey_put_other (keyL_ne hd hc e), h2 d hd]
    show _ = DataW.lit (Lit.bool (d == c || f d))
    rw [show (d == c) = false by simpa using e, Bool.false_or]
/-- the calls whose returns there are -/
def endF (l : List EvM) (c : Int × Int) : Bool := l.any fun e => e.ret && callOf e == c
theorem endF_nil : endF [] = fun _ => false := rfl
theorem endF_snoc (l : List EvM) (e : EvM) (c : Int × Int) : endF (l ++ [e]) c = (endF l c || (e.ret && callOf e == c)) := by
  unfold endF
  rw [List.any_append]
  simp
theorem endF_take {l : List EvM} {i : Nat} (hi : i < l.length) (c : Int × Int) : endF (l.take (i + 1)) c = (endF (l.take i) c || ((l.getD i evZ).ret && callOf (l.getD i evZ) == c)) := by
  rw [take_getD hi evZ, endF_snoc]
theorem openP_end (l : List EvM) (c : Int × Int) : openP l c = !endF l c := by
  unfold openP
  rcases findI_cases l c.1 c.2 true with h | ⟨i, h, hi, h1, -⟩
  · rw [h]
    have : endF l c = false := by
      unfold endF
      rw [List.any_eq_false]
      intro e he hb
      simp only [Bool.and_eq_true, beq_iff_eq] at hb
      unfold findI at h
      cases h2 : l.findIdx? (isE c.1 c.2 true) with
      | some i => rw [h2] at h; simp at h
      | none =>
        rw [List.findIdx?_eq_none_iff] at h2
        have := h2 e he
        unfold isE at this
        rw [← hb.2] at this
        unfold callOf at this
        simp [hb.1] at this
    rw [this]
    rfl
  · rw [h, decide_eq_false (by omega)]
    have : endF l c = true := by
      unfold endF
      rw [List.any_eq_true]
      refine ⟨l.getD i evZ, by rw [List.getD_eq_getElem?_getD, List.getElem?_eq_getElem hi]; exact List.getElem_mem hi, ?_⟩
      unfold isE at h1
      simp only [Bool.and_eq_true, beq_iff_eq] at h1 ⊢
      exact ⟨h1.2, Prod.ext h1.1.1 h1.1.2⟩
    rw [this]
    rfl
end Go.Proofs.Ytnbehigjeopniaa
/- Arguments that are a list of events, or a call. -/
namespace Go.Proofs.Ytnbehigjeopniaa
open Go.ChangeShapes Go.WideShapes Go.ChangeAt Go.RowKit Go.Deep Go.WideMaps
set_option maxRecDepth 100000

section
variable {H : Type} {enc : TypeId × Value → H} {W : World}
/-- one event of an argument -/
theorem view_event {cs : List Value} {fuel : Nat} {x : DataW H × List MemPlace} (hc : cs.length = 8) (h : DataW.trod enc Try.prog W 0 (fun _ => true) true fuel 34 cs = some x) : ∃ e : EvM, cs = evL e ∧ C64 (callOf e) := by
  match cs, hc with
  | [q0, q1, q2, q3, q4, q5, q6, q7], _ =>
    obtain ⟨xs, n, _, hx, _, hlen, hg⟩ := DataW.trod_struct Try.underlying34 h
    have k1 : Try.prog.cellsOf 3 = 1 := by kernel_rfl
    have k2 : Try.prog.cellsOf 4 = 1 := by kernel_rfl
    have k3 : Try.prog.cellsOf 32 = 5 := by kernel_rfl
    match xs, hlen with
    | [y0, y1, y2, y3], _ =>
      have g0 := hg 0 _ rfl
      have g1 := hg 1 _ rfl
      have g2 := hg 2 _ rfl
      have g3 := hg 3 _ rfl
      simp [k1, k2, k3] at g0 g1 g2 g3
      obtain ⟨z0, z1, z2, z3, z4, n2, -, r0, r1, r2, r3, r4⟩ := open5r Try.underlying32 (by kernel_rfl) g3
      obtain ⟨a0, e0, -, w0⟩ := DataW.trod_int Try.underlying3 g0
      obtain ⟨a1, e1, -, w1⟩ := DataW.trod_int Try.underlying3 g1
      obtain ⟨a2, e2, -⟩ := DataW.trod_bool Try.underlying4 g2
      obtain ⟨b0, f0, -, -⟩ := DataW.trod_int Try.underlying3 r0
      obtain ⟨b1, f1, -, -⟩ := DataW.trod_int Try.underlying3 r1
      obtain ⟨b2, f2, -, -⟩ := DataW.trod_int Try.underlying30 r2
      obtain ⟨b3, f3, -⟩ := DataW.trod_bool Try.underlying4 r3
      obtain ⟨b4, f4, -, -⟩ := DataW.trod_int Try.underlying3 r4
      simp at e0 e1 e2 f0 f1 f2 f3 f4
      subst e0 e1 e2 f0 f1 f2 f3 f4
      exact ⟨⟨a0, a1, a2, ⟨b0, b1, b2, b3, b4⟩⟩, rfl, w0, w1⟩
/-- AN ARGUMENT THAT IS A LIST OF EVENTS. -/
theorem view_events {v : Value} {d : DataW H} {p : List MemPlace} (hsz : ∀ elems sp, d = .slice elems sp → (elems.length + sp.length) * Try.prog.bytesOf 34 ≤ reachBytes)
    (hval : Value.okWide Try.prog W .any 0 23 v) (hd : DataW.Trod enc Try.prog W 0 (fun _ => true) true 23 v d p) : ∃ l, SlS W 8 v (evRows l) ∧ ∀ e ∈ l, C64 (callOf e) := by
  obtain ⟨a0, len0, cap0, rfl⟩ := okWide_slice Try.underlying23 hval
  obtain ⟨fuel, hf⟩ := hd
  have hC : Try.prog.cellsOf 34 = 8 := by kernel_rfl
  rcases open_slice Try.underlying23 hf with ⟨hcs, hx⟩ | ⟨a, len, cap, m, n', D, Pl, hcs, _, hl, hm, hmm, hx, hi⟩
  · simp [Value.cells] at hcs
    obtain ⟨rfl, rfl, rfl⟩ := hcs
    exact ⟨[], SlS.nil _ _, fun e h => by cases h⟩
  · simp [Value.cells] at hcs
    obtain ⟨rfl, rfl, rfl⟩ := hcs
    simp only [Prod.mk.injEq] at hx
    obtain ⟨rfl, rfl⟩ := hx
    simp only [if_true] at hmm
    subst hmm
    have hle : len0 ≤ 140737488351232 := by
      have h1 := hsz _ _ rfl
      have hb : Try.prog.bytesOf 34 = 64 := by kernel_rfl
      rw [hb] at h1
      simp only [List.length_map, List.length_range, reachBytes] at h1
      omega
    have each : ∀ i, i < m → ∃ e : EvM, C64 (callOf e) ∧ ∀ j u, (evL e)[j]? = some u → W.cell? (a.add (i * 8 + j)) = some u := by
      intro i him
      obtain ⟨cs', hc', ht'⟩ := hi i him
      rw [hC] at hc'
      obtain ⟨_, hcl, hat⟩ := World.cells?_some hc'
      obtain ⟨e, rfl, h64⟩ := view_event hcl ht'
      have aa : ∀ j, (a.add (i * 8)).add j = a.add (i * 8 + j) := fun j => by
        unfold Addr.add
        by_cases hi0 : i * 8 = 0 <;> by_cases hj : j = 0 <;> simp [hi0, hj, Nat.add_assoc]
      refine ⟨e, h64, fun j u hj => ?_⟩
      have hj8 : j < 8 := (List.getElem?_eq_some_iff.1 hj).1
      have h4 := hat j hj8
      rw [aa] at h4
      rw [h4, hj]
    have each' : ∀ i, ∃ e : EvM, i < m → C64 (callOf e) ∧ ∀ j u, (evL e)[j]? = some u → W.cell? (a.add (i * 8 + j)) = some u := fun i => by
      by_cases him : i < m
      · obtain ⟨c, hc⟩ := each i him; exact ⟨c, fun _ => hc⟩
      · exact ⟨evZ, fun h => absurd h him⟩
    refine ⟨(List.range len0).map fun i => (each' i).choose, ⟨by rw [evRows_length]; simpa using hle, evRows_rows _, some a, m, by rw [evRows_length]; simp, by rw [evRows_length]; simpa using hl, fun i hi' => ?_⟩, ?_⟩
    · rw [evRows_length] at hi'
      rw [evRows_get _ i hi']
      simp at hi'
      have hg : ((List.range len0).map fun i => (each' i).choose).getD i evZ = (each' i).choose := by
        simp [List.getD_eq_getElem?_getD, hi']
      rw [hg]
      generalize hch : (each' i).choose = ch
      have hsp := (each' i).choose_spec (by omega)
      rw [hch] at hsp
      have d0 := ((each' 0).choose_spec (by omega)).2 0 _ rfl
      clear hg hch
      obtain ⟨b, off, sp⟩ := a
      have hsp2 : sp = none := by simpa [Addr.add] using World.cell?_spot d0
      subst hsp2
      rw [add_plain] at d0
      refine ⟨b, off, rfl, by simpa using World.block_lt_of_cell? W _ d0, fun j u hj => ?_⟩
      have h6 := hsp.2 j u hj
      rw [add_plain] at h6
      rw [Nat.add_assoc]
      exact h6
    · intro e he
      obtain ⟨i, hir, rfl⟩ := List.mem_map.1 he
      exact ((each' i).choose_spec (by have := List.mem_range.1 hir; omega)).1
/-- AN ARGUMENT THAT IS A CALL. -/
theorem view_call {v : Value} {d : DataW H} {p : List MemPlace} (hval : Value.okWide Try.prog W .any 0 47 v) (hd : DataW.Trod enc Try.prog W 0 (fun _ => true) true 47 v d p) : ∃ c, v = caV c ∧ C64 c := by
  obtain ⟨a, b, rfl, -, -, wa, wb⟩ := open_pair Try.arrPR Try.underlying3 hval hd
  exact ⟨(a, b), rfl, wa, wb⟩
end
end Go.Proofs.Ytnbehigjeopniaa
/- Histories, plainly: which events are a history of operations (P16.1); lists of lists of which only the lengths matter. -/
namespace Go.Proofs.Ytnbehigjeopniaa
open Go.ChangeShapes Go.WideShapes Go.ChangeAt Go.RowKit
set_option maxRecDepth 100000

/-- v is a list of lists with these lengths -/
def SlO (w : World) (v : Value) (ns : List Nat) : Prop :=
  ns.length ≤ 1000000 ∧ ∃ a cap, v = .slice a ns.length cap ∧ ∀ i, i < ns.length → ∃ b off x c, a = some ⟨b, off, none⟩ ∧ b < w.heap.size ∧ w.cell? ⟨b, off + i, none⟩ = some (.slice x (ns.getD i 0) c)
theorem SlO.below {w w' : World} {v : Value} {ns : List Nat} (h : SlO w v ns) (hb : Below w.heap.size w w') : SlO w' v ns := by
  obtain ⟨h1, a, cap, rfl, h2⟩ := h
  refine ⟨h1, a, cap, rfl, fun i hi => ?_⟩
  obtain ⟨b, off, x, c, e, hlt, hc⟩ := h2 i hi
  exact ⟨b, off, x, c, e, Nat.lt_of_lt_of_le hlt hb.size, (hb.cell (p := ⟨b, off + i, none⟩) hlt).trans hc⟩
theorem SlO.len {w : World} {v : Value} {ns : List Nat} (h : SlO w v ns) : ∃ a cap, v = .slice a ns.length cap := by
  obtain ⟨-, a, cap, rfl, -⟩ := h
  exact ⟨a, cap, rfl⟩
theorem SlO.at {w : World} {v : Value} {ns : List Nat} (h : SlO w v ns) (i : Nat) (hi : i < ns.length) {k : Nat} (hk : ns.getD i 0 = k) : ∃ b off cap x c, v = .slice (some ⟨b, off, none⟩) ns.length cap ∧ b < w.heap.size ∧ w.cell? ⟨b, off + i, none⟩ = some (.slice x k c) := by
  obtain ⟨-, a, cap, rfl, h2⟩ := h
  obtain ⟨b, off, x, c, rfl, hlt, hc⟩ := h2 i hi
  exact ⟨b, off, cap, x, c, rfl, hlt, hk ▸ hc⟩

/-- how many events of a thread there are -/
def cntT (l : List EvM) (t : Int) : Nat := l.countP fun e => e.thr == t
theorem cntT_nil (t : Int) : cntT [] t = 0 := rfl
theorem cntT_snoc (l : List EvM) (e : EvM) (t : Int) : cntT (l ++ [e]) t = cntT l t + if e.thr = t then 1 else 0 := by
  unfold cntT
  rw [List.countP_append, List.countP_singleton]
  simp only [beq_iff_eq]
theorem cntT_le (l : List EvM) (t : Int) : cntT l t ≤ l.length := List.countP_le_length
theorem cntT_take {l : List EvM} {i : Nat} (hi : i < l.length) (t : Int) : cntT (l.take (i + 1)) t = cntT (l.take i) t + if (l.getD i evZ).thr = t then 1 else 0 := by
  rw [take_getD hi evZ, cntT_snoc]
def resZB (r : ResM) : Bool := r.kind == 0 && (r.case == 0 && (r.val == 0 && (r.ok == false && r.num == 0)))
/-- the event can be the next one of a thread with n operations, of which there are seen events -/
def okF (e : EvM) (seen n : Nat) : Bool := ((e.op == ((seen / 2 : Nat) : Int) && e.ret == (seen % 2 == 1)) && decide (e.op < (n : Int))) && (e.ret || resZB e.res)
def okEv (ns : List Nat) (pre : List EvM) (e : EvM) : Bool := (decide (0 ≤ e.thr) && decide (e.thr < (ns.length : Int))) && okF e (cntT pre e.thr) (ns.getD e.thr.toNat 0)
def histE (ns : List Nat) (l : List EvM) : Bool := (List.range l.length).all fun i => okEv ns (l.take i) (l.getD i evZ)
theorem histE_no {ns : List Nat} {l : List EvM} {i : Nat} (hi : i < l.length) (h : okEv ns (l.take i) (l.getD i evZ) = false) : histE ns l = false :=
  List.all_eq_false.2 ⟨i, List.mem_range.2 hi, by rw [h]; simp⟩
theorem histE_yes {ns : List Nat} {l : List EvM} (h : ∀ i, i < l.length → okEv ns (l.take i) (l.getD i evZ) = true) : histE ns l = true :=
  List.all_eq_true.2 fun i hi => h i (List.mem_range.1 hi)
theorem histE_at {ns : List Nat} {l : List EvM} (h : histE ns l = true) {i : Nat} (hi : i < l.length) : okEv ns (l.take i) (l.getD i evZ) = true :=
  List.all_eq_true.1 h i (List.mem_range.2 hi)
theorem histE_snoc {ns : List Nat} {l : List EvM} {e : EvM} (h : histE ns l = true) (he : okEv ns l e = true) : histE ns (l ++ [e]) = true := histE_yes fun i hi => by
  rw [List.length_append, List.length_singleton] at hi
  by_cases h1 : i < l.length
  · rw [List.take_append_of_le_length (by omega), List.getD_eq_getElem?_getD, List.getElem?_append_left h1, ← List.getD_eq_getElem?_getD]
    exact histE_at h h1
  · have : i = l.length := by omega
    subst this
    rw [List.take_left, List.getD_eq_getElem?_getD, List.getElem?_append_right (Nat.le_refl _), Nat.sub_self]
    exact he
/-- a thread that is busy has its operation -/
theorem busy_lt {ns : List Nat} {l : List EvM} {t : Nat} : ∀ i, i ≤ l.length → (∀ j, j < i → okEv ns (l.take j) (l.getD j evZ) = true) → cntT (l.take i) t % 2 = 1 → cntT (l.take i) t / 2 < ns.getD t 0 := by
  intro i
  induction i with
  | zero => intro _ _ h; simp [cntT] at h
  | succ i ih =>
    intro hi hok h
    have hlt : i < l.length := by omega
    have hc := cntT_take hlt (t : Int)
    by_cases ht : (l.getD i evZ).thr = t
    · rw [if_pos ht] at hc
      have h2 := hok i (by omega)
      unfold okEv okF at h2
      rw [ht] at h2
      simp only [Bool.and_eq_true, decide_eq_true_eq, beq_iff_eq, Int.toNat_natCast] at h2
      omega
    · rw [if_neg ht, Nat.add_zero] at hc
      rw [hc] at h ⊢
      exact ih (by omega) (fun j hj => hok j (by omega)) h
theorem run_eql_resZ (a b c : Int) (d : Bool) (e : Int) (w : World) : (binOp .eql 32 (.agg #[.int .i64 a, .int .i64 b, .int .u64 c, .bool d, .int .i64 e]) (.agg #[.int .i64 0, .int .i64 0, .int .u64 0, .bool false, .int .i64 0])).run Try.prog w = .ok (.bool (resZB ⟨a, b, c, d, e⟩)) w := by
  unfold resZB
  dsimp only
  have hu := Try.underlying32
  simp [go_sem]
  repeat' split
  all_goals simp_all
theorem run_neq_resZ (a b c : Int) (d : Bool) (e : Int) (w : World) : (binOp .neq 32 (.agg #[.int .i64 a, .int .i64 b, .int .u64 c, .bool d, .int .i64 e]) (.agg #[.int .i64 0, .int .i64 0, .int .u64 0, .bool false, .int .i64 0])).run Try.prog w = .ok (.bool (!resZB ⟨a, b, c, d, e⟩)) w := by
  unfold resZB
  dsimp only
  have hu := Try.underlying32
  simp [go_sem]
  repeat' split
  all_goals simp_all
end Go.Proofs.Ytnbehigjeopniaa
