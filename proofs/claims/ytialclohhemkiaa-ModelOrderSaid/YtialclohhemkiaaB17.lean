import Derived.Deep.DeepCutAuto
import Derived.Deep.CutBlock
import Derived.Test.YtialclohhemkiaaRows
import Derived.Deep.QuietTactic
import Derived.BigQuiet
import Derived.Test.YtialclohhemkiaaB08
import Derived.Test.YtialclohhemkiaaB09
import Derived.Test.YtialclohhemkiaaB12
import Derived.Test.YtialclohhemkiaaB01
set_option linter.unusedVariables false
set_option linter.unusedSimpArgs false
/- Layer 14: the program's New. -/
namespace Go.Proofs.Ytialclohhemkiaa
open Go.ChangeShapes Go.WideShapes Go.ChangeAt Go.RowKit
set_option maxRecDepth 100000

/-- the channels of a configuration, empty and open -/
def nchE (caps : List Int) : List ChanM := caps.map fun x => ⟨x, [], false⟩
theorem made3 (a b c : Value) (n : Nat) : (madeCells #[a, b, c] (n * 3)).toList = (List.replicate n [a, b, c]).flatten := by
  unfold madeCells
  rw [Array.toList_map, Array.toList_range]
  induction n with
  | zero => rfl
  | succ n ih =>
    rw [show (n + 1) * 3 = n * 3 + 1 + 1 + 1 by omega, List.range_succ, List.range_succ, List.range_succ, List.map_append, List.map_append, List.map_append, ih, List.replicate_succ', List.flatten_append]
    have h0 : n * 3 % 3 = 0 := by omega
    have h1 : (n * 3 + 1) % 3 = 1 := by omega
    have h2 : (n * 3 + 1 + 1) % 3 = 2 := by omega
    simp [h0, h1, h2]
/-- the first i channels have their capacity -/
def nchA (caps : List Int) (i : Nat) : List ChanM := (List.range caps.length).map fun j => ⟨if j < i then caps.getD j 0 else 0, [], false⟩
def nils (n : Nat) : List Value := List.replicate n (.slice none 0 0)
theorem nils_get (n i : Nat) : (nils n).getD i (.slice none 0 0) = .slice none 0 0 := by
  unfold nils
  rw [List.getD_eq_getElem?_getD, List.getElem?_replicate]
  split <;> rfl
theorem nchA_length (caps : List Int) (i : Nat) : (nchA caps i).length = caps.length := by simp [nchA]
theorem nchA_end (caps : List Int) : nchA caps caps.length = nchE caps := by
  unfold nchA nchE
  refine List.ext_getElem (by simp) fun i h1 h2 => ?_
  simp only [List.length_map, List.length_range] at h1
  simp [h1, List.getD_eq_getElem?_getD]
theorem nchA_set (caps : List Int) (i : Nat) (hi : i < caps.length) : (nchA caps i).set i ⟨caps.getD i 0, [], false⟩ = nchA caps (i + 1) := by
  unfold nchA
  refine List.ext_getElem (by simp) fun j h1 h2 => ?_
  simp only [List.length_set, List.length_map, List.length_range] at h1
  rw [List.getElem_set]
  simp only [List.getElem_map, List.getElem_range]
  by_cases h : i = j
  · subst h; simp
  · rw [if_neg h]
    by_cases h3 : j < i
    · rw [if_pos h3, if_pos (by omega)]
    · rw [if_neg h3, if_neg (by omega)]
theorem nchA_zero (caps : List Int) : chRows (nchA caps 0) (nils caps.length) = List.replicate caps.length [.int .i64 0, .slice none 0 0, .bool false] := by
  unfold nchA nils
  simp only [Nat.not_lt_zero, if_false]
  generalize caps.length = n
  rw [List.map_const', List.length_range]
  induction n with
  | zero => rfl
  | succ n ih =>
    rw [List.replicate_succ, List.replicate_succ, List.replicate_succ]
    show chRow _ _ :: chRows _ _ = _
    rw [ih]
    rfl
theorem nchA_get (caps : List Int) (i j : Nat) (hj : j < caps.length) : (nchA caps i).getD j noChan = ⟨if j < i then caps.getD j 0 else 0, [], false⟩ := by
  unfold nchA
  rw [List.getD_eq_getElem?_getD]
  simp [hj]
theorem nchE_length (caps : List Int) : (nchE caps).length = caps.length := List.length_map _
theorem nchE_get (caps : List Int) (j : Nat) (hj : j < caps.length) : (nchE caps).getD j noChan = ⟨caps.getD j 0, [], false⟩ := by
  rw [← nchA_end, nchA_get _ _ _ hj, if_pos hj]
theorem nchE_slH {W : World} {base : Nat} {v : Value} {caps : List Int} (h : OwnS W base 79 3 v (chRows (nchE caps) (nils caps.length))) (hl : caps.length ≤ 1000000) (hw : ∀ x ∈ caps, x = IntKind.i64.wrap x) : SlH W v (nchE caps) :=
  h.slH (by rw [nchE_length]; simp [nils]) (by rw [nchE_length]; exact hl) (fun i hi => by
    rw [nchE_length] at hi
    rw [nchE_get caps i hi, nils_get]
    exact SlU.nil W) (fun c hc => by
    obtain ⟨x, hx, rfl⟩ := List.mem_map.1 hc
    exact hw x hx)
set_option maxRecDepth 100000 in
set_option maxHeartbeats 16000000 in
theorem qNew_any (v : Value) (c : ConfM) (w : World) (h : ConfV w v c) (hg : c.good) : Calls Try.prog 21 #[v] w fun e w' => ∃ u, e = .returned u ∧ SlH w' u (nchE c.caps) ∧ Below w.heap.size w w' := by
  have TC := Lib.hid fun w' (hb : Below w.heap.size w w') => checkC_any v c w' (h.below hb)
  rw [checkC_good hg] at TC
  have hlen := hg.len
  obtain ⟨vc, vs, rfl, h1, h2⟩ := h
  obtain ⟨caps, starts, thr⟩ := c
  dsimp only at *
  have HC := Lib.hid h1
  have HW := Lib.hid h1.2.1
  obtain ⟨a1, cap1, rfl, -⟩ := h1.len
  obtain ⟨a2, cap2, rfl, -⟩ := h2.len
  clear h1 h2 hg
  obtain ⟨W, hW, HB, R0, hz⟩ := one_new w (.cells #[.slice a1 caps.length cap1, .slice a2 starts.length cap2, .int .i64 thr] 34)
  have HWW := Lib.hid hW
  clear hW
  go_enter Try.func21, Try.ntmps21
  go_upto_region 1 with fail
  rw [HWW.out]
  clear HWW
  obtain ⟨x0_0, x0_1, x0_2⟩ := rowc3 R0.out
  go_wp2_with fail
  refine (TC.out _ HB.out).mono ?_; rintro e w1 ⟨rfl, hb1⟩
  have HB1 := Lib.hid (below_then HB.out hb1)
  have R01 := Lib.hid ((hb1.block w.heap.size (Array.getElem?_eq_some_iff.1 R0.out).1).trans R0.out)
  clear x0_0 x0_1 x0_2 hb1 TC
  obtain ⟨x0, x1, x2⟩ := rowc3 R01.out
  go_upto_region 4 with (refine wpList_make_full _ rfl _ _ 29 rfl w1.heap.size 79 _ (.agg #[.int .i64 0, .slice none 0 0, .bool false]) 3 Try.underlying29 (info_parts Try.info_chan).choose_spec.1 (info_parts Try.info_chan).choose_spec.2.1 (info_parts Try.info_chan).choose_spec.2.2.1 _ _ _ _ caps.length rfl rfl rfl rfl (by rw [(info_parts Try.info_chan).choose_spec.2.2.2]; omega) (by unfold maxLen; omega) (Nat.le_refl _) ?_; intro w2 ho2 hg2; have HO2 := Lib.hid ho2; have HG2 := Lib.hid hg2; clear ho2 hg2)
  have HB2 : Hid (Below w1.heap.size w1 w2) := (Below.refl _ _).grown HG2.out (Nat.le_refl _) (fun j hj => by cases hj)
  have HO : Hid (OwnS w2 w1.heap.size 79 3 (.slice (some ⟨w1.heap.size, 0, none⟩) caps.length caps.length) (chRows (nchA caps 0) (nils caps.length))) := by
    have h := HO2.out
    rw [show (Value.agg #[.int .i64 0, .slice none 0 0, .bool false]).cells = #[.int .i64 0, .slice none 0 0, .bool false] from rfl, made3] at h
    rw [nchA_zero]
    refine ⟨fun r hr => ?_, ?_⟩
    · rw [List.eq_of_mem_replicate hr]
      exact ⟨rfl, by intro u hu; simp only [List.mem_cons, List.not_mem_nil, or_false] at hu; rcases hu with rfl | rfl | rfl <;> rfl⟩
    · rw [List.length_replicate]; exact h
  obtain ⟨g, hg⟩ : ∃ g, w1.heap.size = g := ⟨_, rfl⟩
  have HGE : Hid (w.heap.size + 1 ≤ g) := by have := HB1.out.size; have h9 := (Array.getElem?_eq_some_iff.1 R01.out).1; show _ ≤ _; omega
  have R02 := Lib.hid ((HB2.out.block w.heap.size (Array.getElem?_eq_some_iff.1 R01.out).1).trans R01.out)
  have HBZ : Hid (Below w.heap.size w w2) := below_then HB1.out HB2.out
  have hgl2 : g < w2.heap.size := by
    have := (HO.out.lt w1.heap.size rfl).2
    omega
  rw [hg] at HO
  rw [hg]
  clear x0 x1 x2 HO2 HG2 HB2 hg
  obtain ⟨x0, x1, x2⟩ := rowc3 R02.out
  go_wp2_with fail
  clear x0 x1 x2
  go_loopw [16] (fun u16 wr => ∃ i : Nat, u16 = .int .i64 i ∧ i ≤ caps.length ∧ Hid (OwnS wr g 79 3 (.slice (some ⟨g, 0, none⟩) caps.length caps.length) (chRows (nchA caps i) (nils caps.length))) ∧ Hid (Below g w2 wr)) (fun u16 _ => caps.length - (intOf u16).toNat)
  case atStart => exact ⟨0, rfl, by omega, HO, Below.refl _ _⟩
  case round =>
    obtain ⟨i, rfl, hi, HI, HBi⟩ := hrel
    obtain ⟨wo, rfl⟩ : ∃ wo : World, wo = wr := ⟨_, rfl⟩
    have HBo : Hid (Below w.heap.size w wo) := HBZ.out.trans (HBi.out.mono (by have := HGE.out; omega))
    by_cases hlt : i < caps.length
    · have hltI : (i : Int) < (caps.length : Int) := by omega
      obtain ⟨b, off, capx, hve, -, hb, hc⟩ := (HC.out.below HBo.out).open (by intro h0; rw [h0] at hlt; simp at hlt)
      simp only [Value.slice.injEq] at hve
      obtain ⟨rfl, -, rfl⟩ := hve
      have c0 := hc i hlt
      have hrl : (chRows (nchA caps i) (nils caps.length)).length = caps.length := by rw [chRows_length _ _ (by rw [nchA_length]; simp [nils]), nchA_length]
      have hown := HI.out.2
      rw [hrl] at hown
      have fz := World.ownsRow.frozenAt hown (i * 3)
      have hrow := (HI.out.row i (by omega)).1
      rw [chRows_row _ _ i (by rw [nchA_length]; simp [nils]) (by rw [nchA_length]; exact hlt) (by omega)] at hrow
      have d0 := hrow 0 _ rfl
      simp only [Nat.add_zero] at d0
      have hS := HI.out.setCell i (by omega) [] [.slice none 0 0, .bool false] (.int .i64 ((nchA caps i).getD i noChan).cap) (.int .i64 (caps.getD i 0)) (by rw [chRows_row _ _ i (by rw [nchA_length]; simp [nils]) (by rw [nchA_length]; exact hlt) (by omega), nils_get, nchA_get _ _ _ hlt]; rfl) rfl
      have HS : Hid (OwnS (wo.setCell ⟨g, i * 3, none⟩ (.int .i64 (caps.getD i 0))) g 79 3 (.slice (some ⟨g, 0, none⟩) caps.length caps.length) (chRows (nchA caps (i + 1)) (nils caps.length))) := by
        rw [← nchA_set caps i hlt]
        have h9 := chRows_put (nchA caps i) (nils caps.length) i (.slice none 0 0) (by rw [nchA_length]; simp [nils]) (by rw [nchA_length]; exact hlt)
        have h8 := chRows_set (nchA caps i) (nils caps.length) i ⟨caps.getD i 0, [], false⟩ (.slice none 0 0) (by rw [nchA_length]; simp [nils])
        rw [show (nils caps.length).set i (.slice none 0 0) = nils caps.length from by unfold nils; refine List.ext_getElem (by simp) fun j h1 h2 => ?_; rw [List.getElem_set]; split <;> simp] at h8
        rw [← h8]
        exact hS
      obtain ⟨y, hy⟩ : ∃ y, caps.getD i 0 = y := ⟨_, rfl⟩
      rw [hy] at c0 HS
      have HB4 : Hid (Below g w2 (wo.setCell ⟨g, i * 3, none⟩ (.int .i64 y))) := HBi.out.setCell (p := ⟨g, i * 3, none⟩) (Nat.le_refl _) _
      obtain ⟨W4, hW4⟩ : ∃ W4, wo.setCell ⟨g, i * 3, none⟩ (.int .i64 y) = W4 := ⟨_, rfl⟩
      rw [hW4] at HS HB4
      have HW4 := Lib.hid hW4
      obtain ⟨z, hz⟩ : ∃ z, ((nchA caps i).getD i noChan).cap = z := ⟨_, rfl⟩
      rw [hz] at d0
      clear hc hrow hown hS hW4 hrl hy hz
      go_upto_region 8 with fail
      rw [HW4.out]
      clear HW4 fz d0 c0
      go_wp2_with fail
      go_roundw
      case rel => exact ⟨i + 1, by go_num, by omega, HS, HB4⟩
      case measure => simp [intOf]; omega
    · have hge : ¬ (i : Int) < (caps.length : Int) := by omega
      have hil : i = caps.length := by omega
      have HS := HI.out
      rw [hil, nchA_end] at HS
      have HSS := Lib.hid HS
      clear HS hil HI HO
      go_wp2
      go_ret
      exact ⟨_, rfl, nchE_slH HSS.out (by omega) HW.out, HBo.out⟩
end Go.Proofs.Ytialclohhemkiaa
/- Layer 14: the reference's New. -/
namespace Go.Proofs.Ytialclohhemkiaa
open Go.ChangeShapes Go.WideShapes Go.ChangeAt Go.RowKit
set_option maxRecDepth 100000

theorem OwnS.mono_base {w : World} {base b' s : Nat} {e : TypeId} {v : Value} {rows : List (List Value)} (h : OwnS w base e s v rows) (hb : b' ≤ base) : OwnS w b' e s v rows := by
  refine ⟨h.1, h.2.1, ?_⟩
  rcases h.2.2 with h1 | ⟨g, cap, cur, h1, h2, h3⟩
  · exact .inl h1
  · exact .inr ⟨g, cap, cur, h1, Nat.le_trans hb h2, h3⟩
set_option maxRecDepth 100000 in
set_option maxHeartbeats 16000000 in
theorem rNew_any (v : Value) (c : ConfM) (w : World) (h : ConfV w v c) (hg : c.caps.length ≤ 8) : Calls Try.prog 48 #[v] w fun e w' => ∃ u, e = .returned u ∧ OwnS w' w.heap.size 79 3 u (chRows (nchE c.caps) (nils c.caps.length)) ∧ Below w.heap.size w w' := by
  obtain ⟨vc, vs, rfl, h1, h2⟩ := h
  obtain ⟨caps, starts, thr⟩ := c
  dsimp only at *
  have HC := Lib.hid h1
  obtain ⟨a1, cap1, rfl, -⟩ := h1.len
  obtain ⟨a2, cap2, rfl, -⟩ := h2.len
  have HSTEP : Hid (∀ i, i < caps.length → chRows (nchE (caps.take (i + 1))) (nils (i + 1)) = chRows (nchE (caps.take i)) (nils i) ++ [chRow ⟨caps.getD i 0, [], false⟩ (.slice none 0 0)]) := fun i hi => by
    have e1 : nchE (caps.take (i + 1)) = nchE (caps.take i) ++ [⟨caps.getD i 0, [], false⟩] := by
      unfold nchE
      rw [List.take_add_one, List.map_append, List.getD_eq_getElem?_getD, List.getElem?_eq_getElem hi]
      rfl
    have e2 : nils (i + 1) = nils i ++ [.slice none 0 0] := by
      unfold nils
      rw [List.replicate_succ']
    rw [e1, e2, chRows_snoc _ _ _ _ (by rw [nchE_length, List.length_take, Nat.min_eq_left (by omega)]; simp [nils])]
  have HRL : Hid (∀ i, i ≤ caps.length → (chRows (nchE (caps.take i)) (nils i)).length = i) := fun i hi => by
    rw [chRows_length _ _ (by rw [nchE_length, List.length_take, Nat.min_eq_left hi]; simp [nils]), nchE_length, List.length_take, Nat.min_eq_left hi]
  clear h1 h2
  obtain ⟨W, hW, HB, R0, hz⟩ := one_new w (.cells #[.slice a1 caps.length cap1, .slice a2 starts.length cap2, .int .i64 thr] 34)
  have HW := Lib.hid hW
  clear hW
  go_enter Try.func48, Try.ntmps48
  go_upto_region 1 with fail
  rw [HW.out]
  clear HW
  obtain ⟨x0_0, x0_1, x0_2⟩ := rowc3 R0.out
  clear x0_0 x0_1 x0_2
  go_wp2_with fail
  go_loopw [3, 4] (fun u3 u4 wr => ∃ (i : Nat) (u : Value), u = u3 ∧ u4 = .int .i64 i ∧ i ≤ caps.length ∧ Hid (OwnS wr W.heap.size 79 3 u (chRows (nchE (caps.take i)) (nils i))) ∧ Hid (Below W.heap.size W wr)) (fun _ u4 _ => caps.length - (intOf u4).toNat)
  case atStart => exact ⟨0, _, rfl, rfl, by omega, OwnS.nil _ _ _ _, Below.refl _ _⟩
  case round =>
    obtain ⟨i, u, rfl, rfl, hi, HO, HBi⟩ := hrel
    obtain ⟨wo, rfl⟩ : ∃ wo : World, wo = wr := ⟨_, rfl⟩
    have R0o := Lib.hid ((HBi.out.block w.heap.size (Array.getElem?_eq_some_iff.1 R0.out).1).trans R0.out)
    obtain ⟨x0, x1, x2⟩ := rowc3 R0o.out
    have hil := HRL.out i hi
    by_cases hlt : i < caps.length
    · have hltI : (i : Int) < (caps.length : Int) := by omega
      obtain ⟨b, off, capx, hve, -, hb, hc⟩ := (HC.out.below (below_then HB.out HBi.out)).open (by intro h0; rw [h0] at hlt; simp at hlt)
      simp only [Value.slice.injEq] at hve
      obtain ⟨rfl, -, rfl⟩ := hve
      have c0 := hc i hlt
      obtain ⟨y, hy⟩ : ∃ y, caps.getD i 0 = y := ⟨_, rfl⟩
      rw [hy] at c0
      have HST := Lib.hid (HSTEP.out i hlt)
      rw [hy] at HST
      clear hc hy
      go_upto_region 4 with (at_builtin; refine wp_append_ss 29 (by kernel_rfl) Try.info_chan rfl (by decide) (by decide) rfl _ _ rfl rfl (HO.out.below (below_new (Below.refl _ _) _)) [chRow ⟨y, [], false⟩ (.slice none 0 0)] (by intro r hr; rw [List.mem_singleton.1 hr]; exact ⟨rfl, by intro u hu; simp only [chRow, List.mem_cons, List.not_mem_nil, or_false] at hu; rcases hu with rfl | rfl | rfl <;> rfl⟩) _ 1 rfl rfl (by show (Array.push _ _)[_]? = _; exact Array.getElem?_push_size) (by rw [hil]; show i + 1 ≤ _; omega) (by have := HBi.out.size; simp; omega) ?_; intro v2 w2 h1 h2; have H1 := Lib.hid h1; have H2 := Lib.hid h2; clear h1 h2)
      have HB5 : Hid (Below W.heap.size W w2) := (below_new HBi.out _).grown H2.out (by have := HBi.out.size; simp; omega) (fun j hj => (HO.out.lt j hj).1)
      have HO5 : Hid (OwnS w2 W.heap.size 79 3 v2 (chRows (nchE (caps.take (i + 1))) (nils (i + 1)))) := by rw [HST.out]; exact H1
      clear H1 H2 x0 x1 x2 c0 hil hb
      go_wp2_with fail
      go_roundw
      case rel => exact ⟨i + 1, _, rfl, by go_num, by omega, HO5, HB5⟩
      case measure => simp [intOf]; omega
    · have hge : ¬ (i : Int) < (caps.length : Int) := by omega
      have hil2 : i = caps.length := by omega
      have HS := HO.out
      rw [hil2, List.take_length] at HS
      have hbz := HB.out.size
      obtain ⟨H1, H2⟩ := HS
      have HSS : Hid (OwnS wo w.heap.size 79 3 u (chRows (nchE caps) (nils caps.length))) := OwnS.mono_base ⟨H1, H2⟩ hbz
      have HBB := Lib.hid (below_then HB.out HBi.out)
      clear H1 H2 hil hil2 HO HSTEP HRL
      go_wp2
      go_ret
      exact ⟨u, rfl, HSS.out, HBB.out⟩
end Go.Proofs.Ytialclohhemkiaa
/- The reader of choices (package chanfabricdraw): its state in memory, and what its small methods do to it. -/
namespace Go.Proofs.Ytialclohhemkiaa
open Go.ChangeShapes Go.WideShapes Go.ChangeAt Go.RowKit
set_option maxRecDepth 100000

/-- the reader in block g has the choices r left, and its counter of values stands at val -/
def CodesAt (w : World) (g : Nat) (r : List Int) (val : Int) : Prop :=
  ∃ v l, ∃ k : Nat, w.heap[g]? = some (.cells #[v, .int .i64 k, .int .u64 val] 89 (0, 0)) ∧ SlI w .u8 v l ∧ k ≤ l.length ∧ r = l.drop k ∧ (l ≠ [] → ∀ a n c, v = .slice a n c → ∀ b, a = some b → b.block < g)
theorem CodesAt.drew {w : World} {g : Nat} {r : List Int} {val : Int} (h : CodesAt w g r val) (n : Nat) : CodesAt (w.drewN n) g r val := h
theorem CodesAt.lt {w : World} {g : Nat} {r : List Int} {val : Int} (h : CodesAt w g r val) : g < w.heap.size := by
  obtain ⟨v, l, k, hg, _⟩ := h
  exact (Array.getElem?_eq_some_iff.1 hg).1
theorem CodesAt.kept {w w' : World} {g B : Nat} {r : List Int} {val : Int} (h : CodesAt w g r val) (hB : g < B) (hb : Below B w w') : CodesAt w' g r val := by
  obtain ⟨v, l, k, hg, ⟨m1, m2, a, cap, rfl, hcap, h5⟩, hk, hr, h4⟩ := h
  refine ⟨_, l, k, (hb.block g hB).trans hg, ⟨m1, m2, a, cap, rfl, hcap, fun t ht => ?_⟩, hk, hr, h4⟩
  obtain ⟨b, off, e, hlt, hc⟩ := h5 t ht
  have hbg := h4 (by rintro rfl; simp at ht) _ _ _ rfl _ e
  exact ⟨b, off, e, Nat.lt_of_lt_of_le hlt hb.size, (hb.cell (p := ⟨b, off + t, none⟩) (by simp at hbg ⊢; omega)).trans hc⟩
/-- one choice -/
def nxt (r : List Int) (n : Int) : Int := match r with | [] => 0 | c :: _ => c % n

theorem nxt_bd (r : List Int) (n : Int) (h : 1 ≤ n) : 0 ≤ nxt r n ∧ nxt r n < n := by
  unfold nxt
  split
  · omega
  · exact ⟨Int.emod_nonneg _ (by omega), Int.emod_lt_of_pos _ (by omega)⟩
theorem left_any (g : Nat) (r : List Int) (val : Int) (w : World) (h : CodesAt w g r val) :
    Calls Try.prog 29 #[.pointer (some ⟨g, 0, none⟩)] w fun e w' => ∃ n, e = .returned (.bool (!r.isEmpty)) ∧ w.drewN n = w' := by
  obtain ⟨v, l, k, hg, hl, hk, rfl, _⟩ := h
  have hmx := hl.1
  obtain ⟨a, cap, rfl, _⟩ := hl.len
  have c0 := cell_of_row w g 0 _ _ _ hg
  have c1 := cell_of_row w g 1 _ _ _ hg
  simp at c0 c1
  clear hg hl
  have hr : ((l.drop k).isEmpty) = decide (l.length ≤ k) := by
    rw [Bool.eq_iff_iff]; simp
  have HR := Lib.hid hr
  clear hr
  go_enter Try.func29, Try.ntmps29
  go_wp2
  go_quiet (fail)
  go_wp2
  go_ret
  exact ⟨nq, ret_bool (by rw [HR.out]; by_cases e : k < l.length <;> simp [e] <;> omega), rfl⟩
theorem codes_step {w : World} {g : Nat} {val : Int} {b off n cap k : Nat} {l : List Int}
    (hg : w.heap[g]? = some (.cells #[.slice (some ⟨b, off, none⟩) n cap, .int .i64 k, .int .u64 val] 89 (0, 0)))
    (hl : SlI w .u8 (.slice (some ⟨b, off, none⟩) n cap) l) (hlt : k < l.length) (hbg0 : b < g) (m : Nat) :
    (CodesAt (w.setCell ⟨g, 1, none⟩ (.int .i64 ((k : Int) + 1))) g (l.drop k).tail val) ∧
    w.grownBy ((w.setCell ⟨g, 1, none⟩ (.int .i64 ((k : Int) + 1))).drewN m) (some g) ∧
    (w.setCell ⟨g, 1, none⟩ (.int .i64 ((k : Int) + 1))).cell? ⟨g, 0, none⟩ = some (.slice (some ⟨b, off, none⟩) n cap) ∧
    (w.setCell ⟨g, 1, none⟩ (.int .i64 ((k : Int) + 1))).cell? ⟨g, 1, none⟩ = some (.int .i64 ((k : Int) + 1)) ∧
    (w.setCell ⟨g, 1, none⟩ (.int .i64 ((k : Int) + 1))).cell? ⟨b, off + k, none⟩ = some (.int .u8 (l.getD k 0)) := by
  have hbg : b ≠ g := by omega
  have hs := heap_setCell_same w g 1 _ _ (.int .i64 ((k : Int) + 1)) hg
  have ho : ∀ j, j ≠ g → (w.setCell ⟨g, 1, none⟩ (.int .i64 ((k : Int) + 1))).heap[j]? = w.heap[j]? := fun j hj => heap_setCell_other w ⟨g, 1, none⟩ j _ hj
  have e0 := cell_of_row _ g 0 _ _ _ hs
  have e1 := cell_of_row _ g 1 _ _ _ hs
  have hcell : ∀ j, (w.setCell ⟨g, 1, none⟩ (.int .i64 ((k : Int) + 1))).cell? ⟨b, j, none⟩ = w.cell? ⟨b, j, none⟩ := fun j => World.cell?_of_block (ho b hbg)
  obtain ⟨m1, m2, a', cap', e, hle, h5⟩ := hl
  simp only [Value.slice.injEq] at e
  obtain ⟨rfl, rfl, rfl⟩ := e
  have hsz : (w.setCell ⟨g, 1, none⟩ (.int .i64 ((k : Int) + 1))).heap.size = w.heap.size := by simp
  refine ⟨⟨_, l, k + 1, by simpa using hs, ⟨m1, m2, _, _, rfl, hle, fun t ht => ?_⟩, hlt, by rw [List.tail_drop], ?_⟩, ⟨rfl, rfl, rfl, by simp, fun j _ hj => ho j (fun e => hj (by rw [e]))⟩, by simpa using e0, by simpa using e1, ?_⟩
  · obtain ⟨b1, o1, e2, h6, h7⟩ := h5 t ht
    simp only [Option.some.injEq, Addr.mk.injEq, and_true] at e2
    obtain ⟨rfl, rfl⟩ := e2
    exact ⟨_, _, rfl, by rw [hsz]; exact h6, (hcell _).trans h7⟩
  · intro _ a n c e bb e2
    simp only [Value.slice.injEq] at e
    rw [← e.1] at e2
    cases e2
    exact hbg0
  · obtain ⟨b1, o1, e2, h6, h7⟩ := h5 k hlt
    simp only [Option.some.injEq, Addr.mk.injEq, and_true] at e2
    obtain ⟨rfl, rfl⟩ := e2
    exact (hcell _).trans h7
theorem next_any (g : Nat) (r : List Int) (val n : Int) (w : World) (h : CodesAt w g r val) (h1 : 1 ≤ n) (h2 : n ≤ 256) :
    Calls Try.prog 22 #[.pointer (some ⟨g, 0, none⟩), .int .i64 n] w fun e w' => e = .returned (.int .i64 (nxt r n)) ∧ CodesAt w' g r.tail val ∧ w.grownBy w' (some g) := by
  have h0 := h
  obtain ⟨v, l, k, hg, hl, hk, hr, hv⟩ := h
  have hmx := hl.1
  by_cases hlt : k < l.length
  · obtain ⟨b, off, cap, rfl, hcap, hb, hc⟩ := hl.open (by rintro rfl; simp at hlt)
    have c0 := cell_of_row w g 0 _ _ _ hg
    have c1 := cell_of_row w g 1 _ _ _ hg
    have f1 := frozen_of_row w g 1 _ _ hg
    simp at c0 c1
    have hu := hl.2.1 (l.getD k 0) (by simp [List.getD_eq_getElem?_getD, hlt])
    have ST := Lib.hid fun m q => codes_step (w := w.drewN m) hg (hl.drew m) hlt (hv (by rintro rfl; simp at hlt) _ _ _ rfl _ rfl) q
    have hre : r.isEmpty = false := by rw [hr]; simp; omega
    have hn := Lib.hid (show nxt r n = l.getD k 0 % n by rw [hr, List.drop_eq_getElem_cons hlt]; simp [nxt, List.getD_eq_getElem?_getD, hlt])
    have L := Lib.hid fun w' => left_any g r val w'
    have H0 := Lib.hid h0
    have HR := Lib.hid hr
    have hkx : k ≤ 140737488351232 := by omega
    generalize l.getD k 0 = x at *
    have hx : 0 ≤ x ∧ x < 256 := by rw [hu, IntKind.wrap_u8]; omega
    obtain ⟨hx0, hx1⟩ := hx
    have e1 := Int.tmod_eq_emod_of_nonneg (b := n) hx0
    have e2 := Int.emod_nonneg x (show n ≠ 0 by omega)
    have e3 := Int.emod_lt_of_pos x (show 0 < n by omega)
    have hltI : (k : Int) < l.length := by omega
    clear hg hl hc hv hr h0 hu
    have EX := Lib.hid e1
    clear e1
    go_enter Try.func22, Try.ntmps22
    go_wp2_with (go_at_call 29; refine (L.out _ H0.out).mono ?_; rintro e w' ⟨m, rfl, rfl⟩)
    obtain ⟨s1, s5, s2, s3, s4⟩ := ST.out m 0
    have SS := Lib.hid (And.intro s1 s5)
    clear s1 s5 c0 c1 f1
    generalize (w.drewN m).setCell _ _ = W1 at *
    go_quiet (fail)
    go_wp2
    go_ret
    exact ⟨ret_i64 (hn.out.symm), by rw [HR.out]; exact SS.out.1, ⟨SS.out.2.os, SS.out.2.tape, SS.out.2.output, SS.out.2.size, SS.out.2.block⟩⟩
  · have hr0 : r = [] := by rw [hr]; simp; omega
    subst hr0
    have L := Lib.hid fun w' => left_any g [] val w'
    have H0 := Lib.hid h0
    clear hg hl hv hr h0
    go_enter Try.func22, Try.ntmps22
    go_wp2_with (go_at_call 29; refine (L.out _ H0.out).mono ?_; rintro e w' ⟨m, rfl, rfl⟩)
    go_ret
    exact ⟨rfl, H0.out, ⟨rfl, rfl, rfl, Nat.le_refl _, fun _ _ _ => rfl⟩⟩
theorem new_any (v : Value) (l : List Int) (m : Nat) (w : World) (hl : SlI w .u8 v l) (hm : m ≤ 1000) :
    Calls Try.prog 12 #[v, .int .i64 m] w fun e w' => e = .returned (.pointer (some ⟨w.heap.size, 0, none⟩)) ∧ CodesAt w' w.heap.size (l.take m) 0 ∧ Below w.heap.size w w' := by
  have h0 := hl
  obtain ⟨m1, m2, a, cap, rfl, hcap, h5⟩ := hl
  by_cases hlt : m < l.length
  · obtain ⟨b, off, rfl, hb, -⟩ := h5 m hlt
    have hlen : (l.take m).length = m := by simp; omega
    have hfin : SlI (w.alloc (.cells #[.slice (some ⟨b, off, none⟩) m cap, .int .i64 0, .int .u64 0] 89)) .u8 (.slice (some ⟨b, off, none⟩) m cap) (l.take m) := by
      refine ⟨by omega, fun x hx => m2 x (List.mem_of_mem_take hx), _, cap, by rw [hlen], by omega, fun t ht => ?_⟩
      have ht' : t < m := by simp at ht; omega
      obtain ⟨b', off', e, hb', hc⟩ := h5 t (by omega)
      simp only [Option.some.injEq, Addr.mk.injEq, and_true] at e
      obtain ⟨rfl, rfl⟩ := e
      refine ⟨b, off, rfl, by simp; omega, ?_⟩
      rw [World.cell?_alloc_past _ _ _ hb', hc]
      simp [List.getD_eq_getElem?_getD, ht']
    have HF := Lib.hid hfin
    clear hfin h5
    have hmc : (m : Int) ≤ cap := by omega
    have hb' : b < w.heap.size := hb
    clear hlen h0 m2
    go_enter Try.func12, Try.ntmps12
    go_wp2
    go_ret
    exact ⟨rfl, ⟨_, l.take m, 0, heap_alloc_new w _, HF.out, Nat.zero_le _, rfl, fun _ a n c e b2 e2 => by
      simp only [Value.slice.injEq] at e
      rw [← e.1] at e2
      cases e2
      exact hb'⟩, (Below.refl _ _).alloc (Nat.le_refl _) _⟩
  · have e : l.take m = l := List.take_of_length_le (by omega)
    rw [e]
    have hfin : SlI (w.alloc (.cells #[.slice a l.length cap, .int .i64 0, .int .u64 0] 89)) .u8 (.slice a l.length cap) l := h0.below ((Below.refl _ _).alloc (Nat.le_refl _) _)
    have HF := Lib.hid hfin
    have H5 := Lib.hid h5
    clear hfin h5 e h0 m2
    go_enter Try.func12, Try.ntmps12
    go_wp2
    go_ret
    refine ⟨rfl, ⟨_, l, 0, heap_alloc_new w _, HF.out, Nat.zero_le _, rfl, fun hne a n c e b2 e2 => ?_⟩, (Below.refl _ _).alloc (Nat.le_refl _) _⟩
    simp only [Value.slice.injEq] at e
    obtain ⟨b, off, e3, hb, _⟩ := H5.out 0 (List.length_pos_iff.2 hne)
    rw [← e.1, e3] at e2
    cases e2
    exact hb
end Go.Proofs.Ytialclohhemkiaa
/- The reader of choices: what Next returns, whatever the choices are. -/
namespace Go.Proofs.Ytialclohhemkiaa
open Go.ChangeShapes Go.WideShapes Go.ChangeAt Go.RowKit
set_option maxRecDepth 100000

def CodesE (w : World) (g : Nat) : Prop := ∃ r val, CodesAt w g r val
theorem CodesE.lt {w : World} {g : Nat} (h : CodesE w g) : g < w.heap.size := by obtain ⟨r, val, h⟩ := h; exact h.lt
theorem CodesE.kept {w w' : World} {g B : Nat} (h : CodesE w g) (hB : g < B) (hb : Below B w w') : CodesE w' g := by
  obtain ⟨r, val, h⟩ := h; exact ⟨r, val, h.kept hB hb⟩
theorem nextE (g : Nat) (n : Int) (w : World) (h : CodesE w g) (h1 : 1 ≤ n) (h2 : n ≤ 256) :
    Calls Try.prog 22 #[.pointer (some ⟨g, 0, none⟩), .int .i64 n] w fun e w' => ∃ x : Int, e = .returned (.int .i64 x) ∧ 0 ≤ x ∧ x < n ∧ CodesE w' g ∧ w.grownBy w' (some g) := by
  obtain ⟨r, val, h⟩ := h
  refine (next_any g r val n w h h1 h2).mono ?_
  rintro e w' ⟨rfl, hc, hg⟩
  have := nxt_bd r n h1
  exact ⟨_, rfl, this.1, this.2, ⟨_, _, hc⟩, hg⟩
end Go.Proofs.Ytialclohhemkiaa
