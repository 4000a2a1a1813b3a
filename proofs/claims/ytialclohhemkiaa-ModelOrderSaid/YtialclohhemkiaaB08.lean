import Derived.Deep.DeepCutAuto
import Derived.Deep.CutBlock
import Derived.Test.YtialclohhemkiaaRows
import Derived.Laws.BitsAllLaws
import Derived.LoopTactic
import Derived.Test.YtialclohhemkiaaB05
import Derived.Test.YtialclohhemkiaaB07
import Derived.Test.YtialclohhemkiaaB03
import Derived.Test.YtialclohhemkiaaB01
set_option linter.unusedVariables false
set_option linter.unusedSimpArgs false
/- Layer 14: channels are copied. -/
namespace Go.Proofs.Ytialclohhemkiaa
open Go.ChangeShapes Go.WideShapes Go.ChangeAt Go.RowKit
set_option maxRecDepth 100000

/-- a list that reads is appended to an empty one that the call owns -/
theorem run_copy_own (w : World) (st ty : TypeId) {e : TypeId} {s bytes : Nat} {z : Value} (hu : Try.prog.underlying st = some (.slice e)) (hinfo : (Try.prog.info? e).map (fun i => (i.zero, i.size, i.bytes)) = some (some z, s, bytes)) (hzs : z.cells.size = s) (hsz : 0 < s) (hby : bytes ≤ 200)
    {base : Nat} {v v0 : Value} {rows : List (List Value)} (hown : OwnS w base e s v0 []) (hS : SlS w s v rows) (hl : rows.length ≤ 1000000) (hb : base ≤ w.heap.size) :
    ∃ v' w', (Builtin.append_ #[st, st] ty #[v0, v]).run Try.prog w = .ok v' w' ∧ OwnS w' base e s v' rows ∧ w.grownBy w' v0.ownBlock := by
  obtain ⟨i0, hi, hz0, hz1, hz2⟩ := info_parts hinfo
  have hr1 := hS.2.1
  by_cases hne : rows = []
  · subst hne
    obtain ⟨B, c', rfl, -⟩ := hS.len
    have e : ∃ A c, v0 = .slice A 0 c ∧ 0 ≤ c := by
      rcases hown.shape with ⟨rfl, -⟩ | ⟨g, cap, rfl, -, -, h⟩
      · exact ⟨_, _, rfl, Nat.le_refl _⟩
      · exact ⟨_, _, rfl, h⟩
    obtain ⟨A, c, rfl, hc⟩ := e
    exact ⟨_, w, run_append_zero hu hi A B 0 c c' hc, hown, grownBy_refl _ _⟩
  obtain ⟨b, off, cap, rfl, hbl, hr⟩ := hS.open (List.length_pos_iff.2 hne)
  obtain ⟨v', w', hrun, h2, h3, -, h4⟩ := run_append_own_at (P := Try.prog) w base st ty e i0 z s bytes hu hi hz0 hz1 hz2 hzs hsz v0 0 [] hown.2 ⟨b, off, none⟩ rows.length cap rows.flatten (flatS_length rows hr1) (fun j u hj => by
      have hlt := (List.getElem?_eq_some_iff.1 hj).1
      rw [flatS_length rows hr1] at hlt
      have hq : j / s < rows.length := Nat.div_lt_of_lt_mul (by rw [Nat.mul_comm]; exact hlt)
      have hm : j % s < s := Nat.mod_lt _ hsz
      have hj2 : j = j / s * s + j % s := by rw [Nat.mul_comm]; exact (Nat.div_add_mod j s).symm
      have e2 : ((⟨b, off, none⟩ : Addr).add j) = ⟨b, off + (j / s) * s + j % s, none⟩ := by rw [Addr.add_mid, Nat.add_assoc, ← hj2]
      rw [e2]
      refine hr (j / s) hq (j % s) u ?_
      rw [List.getD_eq_getElem?_getD, List.getElem?_eq_getElem hq]
      have h9 := flatS_get rows hr1 (j / s) (j % s) hq hm
      rw [← hj2] at h9
      show rows[j / s][j % s]? = some u
      rw [← h9]
      exact hj) (fun u hu => by
      obtain ⟨r, hr, hur⟩ := List.mem_flatten.1 hu
      exact (hr1 r hr).2 u hur) (by unfold maxLen; omega) (by have : (0 + rows.length) * bytes ≤ 1000000 * 200 := Nat.mul_le_mul (by omega) hby; omega) hb
  rw [Nat.zero_add, List.nil_append] at h2
  exact ⟨v', w', hrun, ⟨hr1, h2⟩, h3⟩
theorem SlS.nil_of {w : World} {s n c : Nat} {rows : List (List Value)} (h : SlS w s (.slice none n c) rows) : rows = [] := by
  rcases Nat.eq_zero_or_pos rows.length with h0 | h0
  · exact List.length_eq_zero_iff.1 h0
  · obtain ⟨b, off, cap, e, -⟩ := h.open h0
    simp at e
set_option maxRecDepth 100000 in
set_option maxHeartbeats 16000000 in
theorem cloneS_any (v : Value) (rows : List (List Value)) (w : World) (h : SlS w 3 v rows) (hl : rows.length ≤ 1000000) :
    Calls Try.prog 92 #[v] w fun e w' => ∃ v', e = .returned v' ∧ OwnS w' w.heap.size 79 3 v' rows ∧ Below w.heap.size w w' := by
  obtain ⟨a, cap, e, hcap⟩ := h.len
  have H := Lib.hid h
  have HL := Lib.hid hl
  clear h hl
  have q0 : ∀ (w : World) (a : Option Addr) (n c n' c' : Nat), (binOp .eql 29 (.slice a n c) (.slice none n' c')).run Try.prog w = .ok (.bool a.isNone) w := fun w a n c n' c' => Lib.run_eql_slice_nil w _ _ a n c n' c' Try.underlying29
  cases a with
  | none =>
    subst e
    have hl0 := H.out.nil_of
    subst hl0
    go_enter Try.func92, Try.ntmps92
    go_wp2
    go_ret
    exact ⟨_, rfl, OwnS.nil _ _ _ _, Below.refl _ _⟩
  | some p =>
    subst e
    generalize hn : rows.length = n at *
    have HN := Lib.hid hn
    clear hn
    have hnew : Hid (SlS (w.alloc (.cells #[] 79)) 3 (.slice (some p) n cap) rows) := H.out.below (below_new (Below.refl _ _) _)
    obtain ⟨v', w', hr, h1, h2⟩ := run_copy_own (w.alloc (.cells #[] 79)) 29 29 (by kernel_rfl) Try.info_chan rfl (by decide) (by decide) (base := w.heap.size) (v0 := .slice (some ⟨w.heap.size, 0, none⟩) 0 0) ⟨by intro r h; simp at h, World.ownsRow_made w #[] 0 (Nat.le_refl _) (Nat.zero_le _) rfl⟩ hnew.out (by rw [HN.out]; exact HL.out) (by simp)
    have H1 := Lib.hid h1
    have H2 := Lib.hid h2
    clear h1 h2
    go_enter Try.func92, Try.ntmps92
    go_wp2_with (at_builtin; refine Lib.wpList_append_run _ rfl _ _ _ _ rfl _ _ rfl rfl _ _ hr ?_)
    go_ret
    exact ⟨v', rfl, H1.out, below_grown (below_new (Below.refl _ _) _) H2.out (Nat.le_refl _)⟩
/-- channels that were copied: new rows and new buffers, in blocks of their own -/
structure CopyR (l : List ChanM) (w w' : World) (v : Value) (us : List Value) (B : Nat) : Prop where
  len : us.length = l.length
  rows : OwnS w' w.heap.size 79 3 v (chRows l us)
  lo : w.heap.size ≤ B
  hi : B ≤ w'.heap.size
  vlt : ∀ j, v.ownBlock = some j → j < B
  bufs : ∀ i, i < l.length → OwnI w' B 23 .u64 (us.getD i (.slice none 0 0)) (l.getD i noChan).buf
  apart : ∀ i j, i < j → j < l.length → (us.getD i (.slice none 0 0)).ownBlock = none ∨ (us.getD i (.slice none 0 0)).ownBlock ≠ (us.getD j (.slice none 0 0)).ownBlock
  below : Below w.heap.size w w'
def CopyQ (l : List ChanM) (w : World) (e : Ending) (w' : World) : Prop := ∃ v us B, e = .returned v ∧ CopyR l w w' v us B
/-- the first i buffers are copied -/
structure CopyI (l : List ChanM) (w0 wc wr : World) (base : Nat) (v : Value) (us : List Value) (i : Nat) : Prop where
  len : us.length = l.length
  rows : OwnS wr base 79 3 v (chRows l us)
  bufs : ∀ j, j < i → OwnI wr wc.heap.size 23 .u64 (us.getD j (.slice none 0 0)) (l.getD j noChan).buf
  apart : ∀ a b, a < b → b < i → (us.getD a (.slice none 0 0)).ownBlock = none ∨ (us.getD a (.slice none 0 0)).ownBlock ≠ (us.getD b (.slice none 0 0)).ownBlock
  rest : ∀ j, i ≤ j → j < l.length → SlI w0 .u64 (us.getD j (.slice none 0 0)) (l.getD j noChan).buf
theorem chRows_row (l : List ChanM) (us : List Value) (i : Nat) (h : us.length = l.length) (hi : i < l.length) (hi2 : i < (chRows l us).length) : (chRows l us)[i] = chRow (l.getD i noChan) (us.getD i (.slice none 0 0)) := by
  have := chRows_get l us i h hi
  rw [List.getD_eq_getElem?_getD, List.getElem?_eq_getElem hi2] at this
  exact this
theorem chRows_put (l : List ChanM) (us : List Value) (i : Nat) (u : Value) (h : us.length = l.length) (hi : i < l.length) : (chRows l us).set i (chRow (l.getD i noChan) u) = chRows l (us.set i u) := by
  rw [chRows_set l us i _ _ h]
  congr 1
  rw [List.getD_eq_getElem?_getD, List.getElem?_eq_getElem hi]
  exact List.set_getElem_self hi
/-- one buffer more -/
theorem CopyI.next {l : List ChanM} {w0 wc wr w2 : World} {base g n cap i : Nat} {us : List Value} {u : Value} (h : CopyI l w0 wc wr base (.slice (some ⟨g, 0, none⟩) n cap) us i) (hi : i < l.length) (hb : Below wr.heap.size wr w2) (hwc : wc.heap.size ≤ wr.heap.size) (hg : g < wc.heap.size) (hu : OwnI w2 wr.heap.size 23 .u64 u (l.getD i noChan).buf) :
    CopyI l w0 wc (w2.setCell ⟨g, i * 3 + 1, none⟩ u) base (.slice (some ⟨g, 0, none⟩) n cap) (us.set i u) (i + 1) := by
  have hlen := chRows_length l us h.len
  have ho : u.oneCell' = true := by
    rcases hu.shape with ⟨rfl, -⟩ | ⟨g2, c2, rfl, -⟩ <;> rfl
  have hr2 := h.rows.below hb
  have hkeep : ∀ (b : Nat) (v : Value) (x : List Int), OwnI w2 b 23 .u64 v x → g < b → OwnI (w2.setCell ⟨g, i * 3 + 1, none⟩ u) b 23 .u64 v x := fun b v x hv hgb => hv.kept (grownBy_setCell w2 ⟨g, i * 3 + 1, none⟩ u) (hv.ne hgb)
  refine ⟨by rw [List.length_set]; exact h.len, ?_, fun j hj => ?_, fun a b hab hb3 => ?_, fun j hj hjl => ?_⟩
  · have hi2 : i < (chRows l us).length := by omega
    have h3 := hr2.setCell i hi2 [.int .i64 (l.getD i noChan).cap] [.bool (l.getD i noChan).closed] _ u (chRows_row l us i h.len hi hi2) ho
    rw [← chRows_put l us i u h.len hi]
    exact h3
  · rw [getD_setL]
    by_cases hji : i = j
    · subst hji
      rw [if_pos ⟨rfl, by rw [h.len]; exact hi⟩]
      exact (hkeep _ _ _ hu (by omega)).mono_base hwc
    · rw [if_neg (fun e => hji e.1)]
      exact hkeep _ _ _ ((h.bufs j (by omega)).below hb) hg
  · rw [getD_setL, getD_setL]
    rw [if_neg (fun e => by omega)]
    by_cases hib : i = b
    · rw [if_pos ⟨hib, by rw [h.len]; omega⟩]
      have h1 := h.bufs a (by omega)
      rcases h1.shape with ⟨e, -⟩ | ⟨g1, c1, e, -, hg1, -⟩
      · rw [e]; exact .inl rfl
      · rw [e]
        refine .inr fun e2 => ?_
        have := hu.own_ge g1 e2.symm
        omega
    · rw [if_neg (fun e => hib e.1)]
      exact h.apart a b hab (by omega)
  · rw [getD_setL, if_neg (fun e => by omega)]
    exact h.rest j (by omega) hjl
set_option maxRecDepth 100000 in
set_option maxHeartbeats 16000000 in
theorem qcopied_any (v : Value) (l : List ChanM) (w : World) (hv : SlH w v l) (hl : l.length ≤ 1000000) (hbf : ∀ c ∈ l, c.buf.length ≤ 999999) : Calls Try.prog 58 #[v] w fun e w' => CopyQ l w e w' := by
  obtain ⟨us0, h1, h2, h3', h4⟩ := hv
  have h3 : ∀ i, i < l.length → SlI w .u64 (us0.getD i (.slice none 0 0)) (l.getD i noChan).buf := fun i hi => (h3' i hi).1
  clear h3'
  have hlen := chRows_length l us0 h1
  have HLEN := Lib.hid hlen
  have HBF : Hid (∀ i, i < l.length → (l.getD i noChan).buf.length ≤ 1000000) := fun i hi => by
    rw [List.getD_eq_getElem?_getD, List.getElem?_eq_getElem hi]
    have := hbf _ (List.getElem_mem hi)
    show (l[i]).buf.length ≤ _
    omega
  have HF := Lib.hid fun (wc wr : World) (v : Value) (us : List Value) (hB : Below w.heap.size w wr) (hw : w.heap.size ≤ wc.heap.size) (hwr : wc.heap.size ≤ wr.heap.size) (hvl : ∀ j, v.ownBlock = some j → j < wc.heap.size) (hI : CopyI l w wc wr w.heap.size v us l.length) => (show CopyQ l w (.returned v) wr from ⟨v, us, wc.heap.size, rfl, hI.len, hI.rows, hw, hwr, hvl, hI.bufs, hI.apart, hB⟩)
  obtain ⟨CQ, hcq⟩ : ∃ q, CopyQ l w = q := ⟨_, rfl⟩
  rw [hcq] at HF
  simp only [hcq]
  clear hcq
  have HS := Lib.hid h2
  have H1 := Lib.hid h1
  have H3 := Lib.hid h3
  have T := Lib.hid (cloneS_any v _ w h2 (by rw [hlen]; exact hl))
  obtain ⟨a, cap, hve, -⟩ := h2.len
  rw [hlen] at hve
  subst hve
  clear h1 h2 h3 h4 hlen hbf
  go_enter Try.func58, Try.ntmps58
  go_wp2_with fail
  refine T.out.mono ?_; rintro e wc ⟨vc, rfl, hO, hB⟩
  have HB := Lib.hid hB
  have HO := Lib.hid hO
  have hwc := hB.size
  obtain ⟨a3, cap3, hv3⟩ := hO.len
  rw [HLEN.out] at hv3
  subst hv3
  have HVL : Hid (∀ j, (Value.slice a3 l.length cap3).ownBlock = some j → j < wc.heap.size) := fun j hj => (HO.out.lt j hj).2
  clear hO hB T HS
  go_wp2_with fail
  go_loopw [9] (fun u9 wr => ∃ (i : Nat) (us : List Value), u9 = .int .i64 i ∧ i ≤ l.length ∧ Hid (CopyI l w wc wr w.heap.size (.slice a3 l.length cap3) us i) ∧ Hid (Below w.heap.size w wr) ∧ wc.heap.size ≤ wr.heap.size) (fun u9 _ => l.length - (intOf u9).toNat)
  case atStart => exact ⟨0, us0, rfl, by omega, ⟨H1.out, HO.out, fun j hj => by omega, fun a b _ hb => by omega, fun j _ hj => H3.out j hj⟩, HB, Nat.le_refl _⟩
  case round =>
    obtain ⟨i, us, rfl, hi, HI, HBi, hwr⟩ := hrel
    obtain ⟨wo, rfl⟩ : ∃ wo : World, wo = wr := ⟨_, rfl⟩
    by_cases hlt : i < l.length
    · have hltI : (i : Int) < (l.length : Int) := by omega
      have hrl : (chRows l us).length = l.length := chRows_length l us HI.out.len
      obtain ⟨g, cap', hve, hg, -, -⟩ := HI.out.rows.open (by omega)
      rw [hrl] at hve
      simp only [Value.slice.injEq] at hve
      obtain ⟨rfl, -, rfl⟩ := hve
      have hgl := HVL.out g rfl
      have hrow := (HI.out.rows.row i (by omega)).1
      rw [chRows_row l us i HI.out.len hlt (by omega)] at hrow
      have d1 := hrow 1 _ rfl
      have HCB : Hid (SlI wo .u64 (us.getD i (.slice none 0 0)) (l.getD i noChan).buf) := (HI.out.rest i (Nat.le_refl _) hlt).below HBi.out
      obtain ⟨ui, hui⟩ : ∃ u, us.getD i (.slice none 0 0) = u := ⟨_, rfl⟩
      rw [hui] at d1 HCB
      have TC := Lib.hid (cloneU_any ui _ wo HCB.out (HBF.out i hlt))
      clear hrow hui hrl
      go_wp2_with fail
      refine TC.out.mono ?_; rintro e w2 ⟨u2, rfl, hO2, hb2⟩
      have hN := HI.out.next hlt hb2 hwr hgl hO2
      have hB4 : Below w.heap.size w (w2.setCell ⟨g, i * 3 + 1, none⟩ u2) := (below_then HBi.out hb2).setCell (p := ⟨g, i * 3 + 1, none⟩) hg u2
      have hsz4 : wc.heap.size ≤ (w2.setCell ⟨g, i * 3 + 1, none⟩ u2).heap.size := by have := hb2.size; simp; omega
      have hown2 := (HI.out.rows.below hb2).2
      rw [chRows_length l us HI.out.len] at hown2
      have fz := World.ownsRow.frozenAt hown2 (i * 3 + 1)
      clear hown2
      have d2 := (hb2.cell (p := ⟨g, i * 3 + 1, none⟩) (show g < wo.heap.size by omega)).trans d1
      obtain ⟨A2, N2, C2, rfl⟩ : ∃ p n q, u2 = .slice p n q := by
        rcases hO2.shape with ⟨rfl, -⟩ | ⟨g, c, rfl, -⟩
        · exact ⟨_, _, _, rfl⟩
        · exact ⟨_, _, _, rfl⟩
      have HN4 := Lib.hid (And.intro hN (And.intro hB4 hsz4))
      obtain ⟨W4, hW4⟩ : ∃ W4, w2.setCell ⟨g, i * 3 + 1, none⟩ (.slice A2 N2 C2) = W4 := ⟨_, rfl⟩
      rw [hW4] at HN4
      have HW4 := Lib.hid hW4
      clear hN hB4 hsz4 hW4 hO2 d1 hb2
      go_upto_region 6 with fail
      rw [HW4.out]
      clear fz d2 HW4 HI HBi
      go_wp2_with fail
      go_roundw
      case rel => exact ⟨i + 1, _, by go_num, by omega, HN4.out.1, HN4.out.2.1, HN4.out.2.2⟩
      case measure => simp [intOf]; omega
    · have hge : ¬ (i : Int) < (l.length : Int) := by omega
      have hil : i = l.length := by omega
      rw [hil] at HI
      clear hil
      have HFF := Lib.hid (HF.out wc wo _ us HBi.out hwc hwr HVL.out HI.out)
      clear HI HVL HF
      go_wp2
      exact HFF.out
end Go.Proofs.Ytialclohhemkiaa
/- Layer 14: what takes effect, plainly; copied channels with one change. -/
namespace Go.Proofs.Ytialclohhemkiaa
open Go.ChangeShapes Go.WideShapes Go.ChangeAt Go.RowKit
set_option maxRecDepth 100000

/-- what took effect -/
inductive ModR (l : List ChanM) (op : OpM) (r : ResM) (l' : List ChanM) : Prop
  | sent (x : CaseM) (i : Nat) (hk : r.kind = 1) (hc : chosenE op r = some x) (hx : x.chan = i) (hi : i < l.length) (e : l' = l.set i { l.getD i noChan with buf := (l.getD i noChan).buf ++ [x.val] })
  | got (x : CaseM) (i : Nat) (y : Int) (t : List Int) (hk : r.kind = 2) (ho : r.ok = true) (hc : chosenE op r = some x) (hx : x.chan = i) (hi : i < l.length) (hb : (l.getD i noChan).buf = y :: t) (e : l' = l.set i { l.getD i noChan with buf := t })
  | shut (i : Nat) (hk : r.kind = 6) (hx : op.chan = i) (hi : i < l.length) (e : l' = l.set i { l.getD i noChan with closed := true })
  | same (h1 : r.kind ≠ 1) (h2 : ¬ (r.kind = 2 ∧ r.ok = true)) (h6 : r.kind ≠ 6) (e : l' = l)
theorem ite_some {α : Type} {p : Prop} [Decidable p] {a b : α} (h : (if p then some a else none) = some b) : a = b := by
  by_cases hp : p
  · rw [if_pos hp] at h; exact Option.some.inj h
  · rw [if_neg hp] at h; cases h
theorem exB_nat {l : List ChanM} {n : Int} (h : exB l n = true) : ∃ i : Nat, n = i ∧ i < l.length ∧ chE l n = l.getD i noChan := by
  unfold exB at h
  simp only [Bool.and_eq_true, decide_eq_true_eq] at h
  exact ⟨n.toNat, by omega, by omega, rfl⟩
theorem doE_modR {l l' : List ChanM} {op : OpM} {r : ResM} {x : CaseM} (hc : chosenE op r = some x) (h : doE l x r = some l') : ModR l op r l' := by
  cases hex : exB l x.chan with
  | false => rw [doE_out hex] at h; cases h
  | true =>
    rw [doE_in hex] at h
    obtain ⟨i, hi, hil, hce⟩ := exB_nat hex
    unfold doB at h
    rw [hce] at h
    split at h
    · rename_i h1
      split at h
      · simp only [Option.some.injEq] at h
        refine .sent x i h1.1 hc hi hil ?_
        rw [← h, hi]
        rfl
      · cases h
    · split at h
      · rename_i h1 h2
        split at h
        · simp only [Option.some.injEq] at h
          exact .same (by rw [h2.1]; decide) (fun e => by rw [h2.1] at e; exact absurd e.1 (by decide)) (by rw [h2.1]; decide) h.symm
        · cases h
      · split at h
        · rename_i h1 h2 h3
          split at h
          · rename_i h4
            simp only [Option.some.injEq] at h
            have hb := h4.2
            cases hbf : (l.getD i noChan).buf with
            | nil => rw [hbf] at hb; cases hb
            | cons y t =>
              rw [hbf] at hb
              refine .got x i y t h3.1 h3.2.2 hc hi hil hbf ?_
              rw [← h, hi, hbf]
              rfl
          · cases h
        · split at h
          · rename_i h1 h2 h3 h4
            split at h
            · simp only [Option.some.injEq] at h
              exact .same (by rw [h4.1]; decide) (fun e => h3 ⟨e.1, h4.2, e.2⟩) (by rw [h4.1]; decide) h.symm
            · cases h
          · cases h
theorem modE_modR {l l' : List ChanM} {op : OpM} {r : ResM} (h : modE l op r = some l') : ModR l op r l' := by
  unfold modE at h
  have hbind : ∀ {l'}, ((chosenE op r).bind fun x => doE l x r) = some l' → ModR l op r l' := fun {l'} h => by
    cases hc : chosenE op r with
    | none => rw [hc] at h; cases h
    | some x => rw [hc] at h; exact doE_modR hc h
  split at h
  · exact hbind h
  · rename_i h12
    have hs : r.kind ≠ 6 → l' = l → ModR l op r l' := fun h6 e => .same (fun e => h12 (.inl e)) (fun e => h12 (.inr e.1)) h6 e
    split at h
    · rename_i h5
      split at h
      · split at h
        · simp only [Option.some.injEq] at h
          exact hs (by rw [h5]; decide) h.symm
        · cases h
      · exact hbind h
    · split at h
      · rename_i h6
        split at h
        · rename_i h7
          simp only [Option.some.injEq] at h
          obtain ⟨i, hi, hil, hce⟩ := exB_nat h7.2.2.2.1
          refine .shut i h6 hi hil ?_
          rw [← h, hce, hi]
          rfl
        · cases h
      · rename_i h6
        refine hs h6 ?_
        split at h
        · split at h
          · simp only [Option.some.injEq] at h; exact h.symm
          · cases h
        · split at h
          · split at h
            · simp only [Option.some.injEq] at h; exact h.symm
            · cases h
          · split at h
            · exact (ite_some h).symm
            · cases h
theorem cell_of_block {a b : World} {j o : Nat} (h : b.heap[j]? = a.heap[j]?) : b.cell? ⟨j, o, none⟩ = a.cell? ⟨j, o, none⟩ := by
  unfold World.cell?
  rw [h]
theorem frozen_of_block {a b : World} {j o : Nat} (h : b.heap[j]? = a.heap[j]?) : b.frozen? ⟨j, o, none⟩ = a.frozen? ⟨j, o, none⟩ := by
  unfold World.frozen?
  rw [h]
theorem own_below {w w' : World} {base s n : Nat} {e : TypeId} {v : Value} {xs : List Value} (h : w.ownsRow base e s v n xs) (hb : Below w.heap.size w w') : w'.ownsRow base e s v n xs := by
  refine World.ownsRow.kept h (row := none) ⟨hb.os, hb.tape, hb.output, hb.size, fun j hj _ => hb.block j hj⟩ ?_
  cases v.ownBlock with
  | none => exact .inl rfl
  | some x => exact .inr (by simp)
/-- the channels read, whose one row was changed -/
theorem slH_put {l : List ChanM} {W : World} {base : Nat} {v : Value} {us : List Value} {i : Nat} {c : ChanM} {u : Value} (hi : i < l.length) (hl : l.length ≤ 1000000) (h1 : us.length = l.length) (h4 : ∀ c ∈ l, c.cap = IntKind.i64.wrap c.cap) (hc : c.cap = IntKind.i64.wrap c.cap)
    (hr : OwnS W base 79 3 v ((chRows l us).set i (chRow c u))) (hu : SlU W u c.buf) (ho : ∀ j, j < l.length → j ≠ i → SlU W (us.getD j (.slice none 0 0)) (l.getD j noChan).buf) : SlH W v (l.set i c) := by
  rw [chRows_set l us i _ _ h1] at hr
  refine hr.slH (by rw [List.length_set, List.length_set]; exact h1) (by rw [List.length_set]; exact hl) (fun j hj => ?_) (fun d hd => ?_)
  · rw [List.length_set] at hj
    rw [getD_setL, getD_setL]
    by_cases hji : i = j
    · rw [if_pos ⟨hji, by rw [h1]; exact hj⟩, if_pos ⟨hji, hj⟩]
      exact hu
    · rw [if_neg (fun h => hji h.1), if_neg (fun h => hji h.1)]
      exact ho j hj (fun e => hji e.symm)
  · rcases List.mem_or_eq_of_mem_set hd with hd | rfl
    · exact h4 d hd
    · exact hc
theorem CopyR.slH {l : List ChanM} {w w' W : World} {v : Value} {us : List Value} {B : Nat} (h : CopyR l w w' v us B) (hl : l.length ≤ 1000000) (hbf : ∀ i, i < l.length → (l.getD i noChan).buf.length ≤ 1000000 ∧ ∀ x ∈ (l.getD i noChan).buf, x = IntKind.u64.wrap x) (h4 : ∀ c ∈ l, c.cap = IntKind.i64.wrap c.cap) (hb : Below w'.heap.size w' W) : SlH W v l :=
  (h.rows.below hb).slH h.len hl (fun i hi => ((h.bufs i hi).below hb).slU (by have := (hbf i hi).1; omega) (hbf i hi).2) h4
/-- a cell of a row is changed -/
theorem CopyR.put {l : List ChanM} {w w' W : World} {g n cap : Nat} {us : List Value} {B i : Nat} (h : CopyR l w w' (.slice (some ⟨g, 0, none⟩) n cap) us B) (hi : i < l.length) (hl : l.length ≤ 1000000) (hbf : ∀ i, i < l.length → (l.getD i noChan).buf.length ≤ 1000000 ∧ ∀ x ∈ (l.getD i noChan).buf, x = IntKind.u64.wrap x) (h4 : ∀ c ∈ l, c.cap = IntKind.i64.wrap c.cap)
    (hW : w'.grownBy W (us.getD i (.slice none 0 0)).ownBlock) (c : ChanM) (u x x2 : Value) (a b : List Value) (hc : c.cap = IntKind.i64.wrap c.cap) (he : chRow (l.getD i noChan) (us.getD i (.slice none 0 0)) = a ++ x :: b) (he2 : chRow c u = a ++ x2 :: b) (ho : x2.oneCell' = true)
    (hu : SlU (W.setCell ⟨g, i * 3 + a.length, none⟩ x2) u c.buf) : SlH (W.setCell ⟨g, i * 3 + a.length, none⟩ x2) (.slice (some ⟨g, 0, none⟩) n cap) (l.set i c) := by
  have hgB : g < B := h.vlt g rfl
  have hi2 : i < (chRows l us).length := by rw [chRows_length l us h.len]; exact hi
  have hne : (Value.slice (some ⟨g, 0, none⟩) n cap).ownBlock = none ∨ (Value.slice (some ⟨g, 0, none⟩) n cap).ownBlock ≠ (us.getD i (.slice none 0 0)).ownBlock := by
    refine .inr fun e => ?_
    have := (h.bufs i hi).own_ge g e.symm
    omega
  have hr2 := (h.rows.kept hW hne).setCell i hi2 a b x x2 (by rw [chRows_row l us i h.len hi hi2, he]) ho
  rw [← he2] at hr2
  refine slH_put hi hl h.len h4 hc hr2 hu fun j hj hji => ?_
  have hoj := h.bufs j hj
  have hnj : (us.getD j (.slice none 0 0)).ownBlock = none ∨ (us.getD j (.slice none 0 0)).ownBlock ≠ (us.getD i (.slice none 0 0)).ownBlock := by
    rcases Nat.lt_or_gt_of_ne hji with h1 | h1
    · exact h.apart j i h1 hi
    · rcases h.apart i j h1 hj with h2 | h2
      · rw [h2]
        cases (us.getD j (.slice none 0 0)).ownBlock <;> simp
      · exact .inr fun e => h2 e.symm
  exact ((hoj.kept hW hnj).kept (grownBy_setCell W ⟨g, i * 3 + a.length, none⟩ x2) ((hoj.kept hW hnj).ne hgB)).slU (by have := (hbf j hj).1; omega) (hbf j hj).2
end Go.Proofs.Ytialclohhemkiaa
/- Operations with a guard in a region that draws its order. -/
namespace Go.Proofs.Ytialclohhemkiaa
open Go.ChangeShapes Go.WideShapes Go.ChangeAt Go.RowKit
set_option maxRecDepth 100000

/-- an operation with a guard comes up; behind it S is shown -/
theorem AllReadyU.consG {P : Program} {md : Region.Mode} {Q : Exit → Act → World → Prop} {S : World → Prop} {k : Nat} {l : List Oper} {fuel : Nat} {listed : Array Bool} {a : Act} {w : World} {i : Nat} {o : Oper} {rs : List Nat} (ho : ListAt l i o)
    (h : ∀ K' : Act → World → Prop, ShutU (∀ a w, S w → (S w → wpAnyU P md l.toArray Q S k fuel (listed.setIfInBounds i true) a w) → K' a w) → if Region.wanted o (yielded l.toArray a.tmps) = true then Oper.wp P o a w K' Q else K' (a.put o.dst undef) w)
    (hs : AllReadyU P md l.toArray Q S k fuel listed a w rs) : AllReadyU P md l.toArray Q S k fuel listed a w (i :: rs) := fun j hj => by
  rcases List.mem_cons.1 hj with rfl | hj
  · exact wpOp_step ho.get (fun K' hK => h K' (fun a w hS hW => hK a w ⟨fun _ => hS, hW hS⟩))
  · exact hs j hj
/-- the same, and S is not asked any more -/
theorem AllReadyU.freeG {P : Program} {md : Region.Mode} {Q : Exit → Act → World → Prop} {S : World → Prop} {k : Nat} {l : List Oper} {fuel : Nat} {listed : Array Bool} {a : Act} {w : World} {i : Nat} {o : Oper} {rs : List Nat} (ho : ListAt l i o)
    (hk : (listed.setIfInBounds i true).getD k true = true)
    (h : ∀ K' : Act → World → Prop, ShutU (∀ a w, wpAnyU P md l.toArray Q S k fuel (listed.setIfInBounds i true) a w → K' a w) → if Region.wanted o (yielded l.toArray a.tmps) = true then Oper.wp P o a w K' Q else K' (a.put o.dst undef) w)
    (hs : AllReadyU P md l.toArray Q S k fuel listed a w rs) : AllReadyU P md l.toArray Q S k fuel listed a w (i :: rs) := fun j hj => by
  rcases List.mem_cons.1 hj with rfl | hj
  · exact wpOp_step ho.get (fun K' hK => h K' (fun a w hW => hK a w ⟨fun h0 => (by rw [hk] at h0; cases h0), hW⟩))
  · exact hs j hj
end Go.Proofs.Ytialclohhemkiaa
/- Sequence numbers, slots and sizes: plain arithmetic, and what package seqword and the document's answers for chapter 1 return. -/
namespace Go.Proofs.Ytialclohhemkiaa
open Go.ChangeShapes Go.WideShapes Go.ChangeAt Go.RowKit
set_option maxRecDepth 100000

theorem and63 (x : Int) (h0 : 0 ≤ x) (h1 : x < 18446744073709551616) : bits BinOp.and IntKind.u64 x 9223372036854775807 = x % 9223372036854775808 := by
  rw [u64_and x 9223372036854775807 h0 h1 (by omega) (by omega)]
  have := Nat.and_two_pow_sub_one_eq_mod x.toNat 63
  rw [show (9223372036854775807 : Int).toNat = 2 ^ 63 - 1 from rfl, this]
  omega
theorem and1 (x : Int) (h0 : 0 ≤ x) (h1 : x < 18446744073709551616) : bits BinOp.and IntKind.u64 x 1 = x % 2 := by
  rw [u64_and x 1 h0 h1 (by omega) (by omega)]
  have := Nat.and_two_pow_sub_one_eq_mod x.toNat 1
  rw [show (1 : Int).toNat = 2 ^ 1 - 1 from rfl, this]
  omega
theorem or1 (x : Int) (h0 : 0 ≤ x) (h1 : x < 18446744073709551616) (h2 : x % 2 = 0) : bits BinOp.or IntKind.u64 x 1 = x + 1 := by
  rw [u64_or x 1 h0 h1 (by omega) (by omega)]
  have := nat_join 1 x.toNat 1 (by omega) (by omega)
  rw [show (1 : Int).toNat = 1 from rfl, this]
  omega

def nextI (a n : Int) : Int := (a + n) % 9223372036854775808
theorem nextI_eq (a n : Int) : bits BinOp.and IntKind.u64 (IntKind.u64.wrap (a + IntKind.u64.wrap n)) 9223372036854775807 = nextI a n := by
  unfold nextI
  rw [IntKind.wrap_u64, IntKind.wrap_u64, and63 _ (by omega) (by omega)]
  omega
def diffI (a b : Int) : Int := (a - b + 4611686018427387904) % 9223372036854775808 - 4611686018427387904
theorem diffI_eq (a b : Int) : wrap64 (IntKind.u64.wrap (IntKind.u64.wrap (a - b) * 2)) / 2 = diffI a b := by
  unfold diffI wrap64
  rw [IntKind.wrap_u64, IntKind.wrap_u64]
  omega
theorem diffI_hi (a b x : Int) (hx : bits BinOp.and IntKind.u64 (IntKind.u64.wrap (a - b)) 9223372036854775807 = x) (h : 4611686018427387904 ≤ x) :
    wrap64 (wrap64 (wrap64 x - 4611686018427387904) - 4611686018427387904) = diffI a b := by
  rw [IntKind.wrap_u64, and63 _ (by omega) (by omega)] at hx
  unfold diffI wrap64
  omega
theorem diffI_lo (a b x : Int) (hx : bits BinOp.and IntKind.u64 (IntKind.u64.wrap (a - b)) 9223372036854775807 = x) (h : ¬ 4611686018427387904 ≤ x) :
    wrap64 x = diffI a b := by
  rw [IntKind.wrap_u64, and63 _ (by omega) (by omega)] at hx
  unfold diffI wrap64
  omega
def packI (s : Int) (c : Bool) : Int := (s * 2) % 18446744073709551616 + if c then 1 else 0
theorem packI_true (s : Int) : bits BinOp.or IntKind.u64 (IntKind.u64.wrap (s * 2)) 1 = packI s true := by
  unfold packI
  rw [IntKind.wrap_u64, or1 _ (by omega) (by omega) (by omega)]
  simp
theorem packI_false (s : Int) : IntKind.u64.wrap (s * 2) = packI s false := by
  unfold packI
  rw [IntKind.wrap_u64]
  simp
def closedB (a : Int) : Bool := decide (a % 2 = 1)
theorem closedB_eq (a : Int) (h0 : 0 ≤ a) (h1 : a < 18446744073709551616) : (bits BinOp.and IntKind.u64 a 1 != 0) = closedB a := by
  unfold closedB
  rw [and1 a h0 h1]
  by_cases h : a % 2 = 1
  · simp [h]
  · have : a % 2 = 0 := by omega
    simp [this]
def slotI (a n : Int) : Int := if n < 1 then 0 else a % 9223372036854775808 % n
theorem slotI_small (a n : Int) (h : n < 1) : 0 = slotI a n := by unfold slotI; rw [if_pos h]
theorem slotI_eq (a n : Int) (h0 : 0 ≤ a) (h1 : a < 18446744073709551616) (h : 1 ≤ n) :
    wrap64 ((bits BinOp.and IntKind.u64 a 9223372036854775807).tmod n) = slotI a n := by
  unfold slotI
  rw [if_neg (by omega), and63 a h0 h1, Int.tmod_eq_emod_of_nonneg (by omega)]
  have h2 := Int.emod_nonneg (a % 9223372036854775808) (show n ≠ 0 by omega)
  have h3 : a % 9223372036854775808 % n ≤ a % 9223372036854775808 := by
    have := Int.emod_add_mul_ediv (a % 9223372036854775808) n
    have h4 : 0 ≤ n * (a % 9223372036854775808 / n) := Int.mul_nonneg (by omega) (Int.ediv_nonneg (by omega) (by omega))
    omega
  unfold wrap64
  omega
/-- the slots of a ring for a capacity -/
def sizeI (k : Int) : Int := if k < 1 then 1 else if k = 1 then 2 else if 1073741824 < k then 0 else 2 * 2 ^ Nat.log2 (k.toNat - 1)
theorem sizeI_low (k : Int) (h : k < 1) : sizeI k = 1 := by unfold sizeI; rw [if_pos h]
theorem sizeI_one : sizeI 1 = 2 := by unfold sizeI; rw [if_neg (by omega), if_pos rfl]
theorem sizeI_high (k : Int) (h : 1073741824 < k) : sizeI k = 0 := by
  unfold sizeI; rw [if_neg (by omega), if_neg (by omega), if_pos h]
theorem sizeI_of (k : Int) (j : Nat) (h2 : 2 ≤ k) (h3 : k ≤ 1073741824) (h4 : (2 : Int) ^ j < k) (h5 : k ≤ 2 * 2 ^ j) : sizeI k = 2 * 2 ^ j := by
  unfold sizeI
  rw [if_neg (by omega), if_neg (by omega), if_neg (by omega)]
  have e : ((2 ^ j : Nat) : Int) = (2 : Int) ^ j := by simp
  have e1 : (k.toNat - 1).log2 = j := by
    rw [Nat.log2_eq_iff (by omega), Nat.pow_succ]
    omega
  rw [e1]
theorem sizeI_mid (k : Int) (h2 : 2 ≤ k) (h3 : k ≤ 1073741824) : ∃ j : Nat, sizeI k = 2 * 2 ^ j ∧ (2 : Int) ^ j < k ∧ k ≤ 2 * 2 ^ j := by
  have h := (Nat.log2_eq_iff (n := k.toNat - 1) (k := (k.toNat - 1).log2) (by omega)).1 rfl
  refine ⟨(k.toNat - 1).log2, ?_⟩
  have e : ((2 ^ (k.toNat - 1).log2 : Nat) : Int) = (2 : Int) ^ (k.toNat - 1).log2 := by simp
  rw [Nat.pow_succ] at h
  have h4 : (2 : Int) ^ (k.toNat - 1).log2 < k := by omega
  have h5 : k ≤ 2 * 2 ^ (k.toNat - 1).log2 := by omega
  exact ⟨sizeI_of k _ h2 h3 h4 h5, h4, h5⟩

theorem sizeI_16 (x : Int) (h0 : 0 ≤ x) (h1 : x ≤ 16) : 1 ≤ sizeI x ∧ sizeI x ≤ 16 := by
  rcases (show x = 0 ∨ x = 1 ∨ x = 2 ∨ x = 3 ∨ x = 4 ∨ x = 5 ∨ x = 6 ∨ x = 7 ∨ x = 8 ∨ x = 9 ∨ x = 10 ∨ x = 11 ∨ x = 12 ∨ x = 13 ∨ x = 14 ∨ x = 15 ∨ x = 16 by omega) with rfl | rfl | rfl | rfl | rfl | rfl | rfl | rfl | rfl | rfl | rfl | rfl | rfl | rfl | rfl | rfl | rfl <;> decide +kernel
theorem slotI_lt (a n : Int) (h0 : 0 ≤ a) (hn : 1 ≤ n) : 0 ≤ slotI a n ∧ slotI a n < n := by
  unfold slotI
  rw [if_neg (by omega)]
  exact ⟨Int.emod_nonneg _ (by omega), Int.emod_lt_of_pos _ (by omega)⟩
end Go.Proofs.Ytialclohhemkiaa
/- A valid configuration, plainly. -/
namespace Go.Proofs.Ytialclohhemkiaa
open Go.ChangeShapes Go.WideShapes Go.ChangeAt Go.RowKit
set_option maxRecDepth 100000

/-- a valid configuration -/
structure ConfM.good (c : ConfM) : Prop where
  len : c.caps.length ≤ 8
  same : c.starts.length = c.caps.length
  caps : ∀ x ∈ c.caps, 0 ≤ x ∧ x ≤ 16
  starts : ∀ x ∈ c.starts, 0 ≤ x ∧ x < 9223372036854775808
  thr : 1 ≤ c.threads ∧ c.threads ≤ 8
theorem below_setRow {B g : Nat} {a w : World} (h : Below B a w) (hB : B ≤ g) (cs : Array Value) : Below B a (w.setRow g cs) :=
  ⟨h.os, h.tape, h.output, by simpa [World.setRow] using h.size, fun k hk => (setRow_other w g k cs (by omega)).trans (h.block k hk)⟩
end Go.Proofs.Ytialclohhemkiaa
/- Where everything lies: plain arithmetic. -/
namespace Go.Proofs.Ytialclohhemkiaa
open Go.ChangeShapes Go.WideShapes Go.ChangeAt Go.RowKit
set_option maxRecDepth 100000

theorem ConfM.good.cap {c : ConfM} (h : c.good) (k : Nat) (hk : k < c.caps.length) : 0 ≤ c.caps.getD k 0 ∧ c.caps.getD k 0 ≤ 16 := by
  rw [List.getD_eq_getElem?_getD, List.getElem?_eq_getElem hk]
  exact h.caps _ (List.getElem_mem hk)
/-- the slots of the channel k -/
def ConfM.size (c : ConfM) (k : Nat) : Int := sizeI (c.caps.getD k 0)
theorem ConfM.good.size {c : ConfM} (h : c.good) (k : Nat) (hk : k < c.caps.length) : 1 ≤ c.size k ∧ c.size k ≤ 16 := sizeI_16 _ (h.cap k hk).1 (h.cap k hk).2
/-- the first word of channel k -/
def ConfM.base (c : ConfM) : Nat → Int
  | 0 => 0
  | k + 1 => c.base k + (5 + c.size k * 2)
theorem ConfM.good.base {c : ConfM} (h : c.good) (k : Nat) (hk : k ≤ c.caps.length) : 0 ≤ c.base k ∧ c.base k ≤ 37 * k := by
  induction k with
  | zero => exact ⟨Int.le_refl _, Int.le_refl _⟩
  | succ k ih =>
    have h1 := ih (by omega)
    have h2 := h.size k (by omega)
    show 0 ≤ c.base k + (5 + c.size k * 2) ∧ c.base k + (5 + c.size k * 2) ≤ _
    omega
theorem ConfM.good.base8 {c : ConfM} (h : c.good) (k : Nat) (hk : k ≤ c.caps.length) : 0 ≤ c.base k ∧ c.base k ≤ 296 := by
  have h1 := h.base k hk
  have h2 := h.len
  omega
/-- the slot's first word -/
def ConfM.slotW (c : ConfM) (k : Nat) (s : Int) : Int := c.base k + 5 + slotI s (c.size k) * 2
/-- the thread's first word -/
def ConfM.thrW (c : ConfM) (t : Int) : Int := c.base c.caps.length + t * 11
end Go.Proofs.Ytialclohhemkiaa
/- Where everything lies: what package layout and the document's answers for chapter 5 return. -/
namespace Go.Proofs.Ytialclohhemkiaa
open Go.ChangeShapes Go.WideShapes Go.ChangeAt Go.RowKit
set_option maxRecDepth 100000

theorem SlI.cellAt {w : World} {k : IntKind} {a : Option Addr} {n cap : Nat} {l : List Int} (h : SlI w k (.slice a n cap) l) (t : Nat) (ht : t < l.length) :
    ∃ b off, a = some ⟨b, off, none⟩ ∧ b < w.heap.size ∧ w.cell? ⟨b, off + t, none⟩ = some (.int k (l.getD t 0)) := by
  obtain ⟨_, _, a', cap', e, _, h5⟩ := h
  simp only [Value.slice.injEq] at e
  obtain ⟨rfl, _, _⟩ := e
  exact h5 t ht
end Go.Proofs.Ytialclohhemkiaa
/- Where everything lies: the numbers of all words and lists. -/
namespace Go.Proofs.Ytialclohhemkiaa
open Go.ChangeShapes Go.WideShapes Go.ChangeAt Go.RowKit
set_option maxRecDepth 100000

theorem slotW_eq (c : ConfM) (k : Nat) (s : Int) : c.slotW k s = c.base k + 5 + slotI s (c.size k) * 2 := rfl
theorem ConfM.good.thr8 {c : ConfM} (h : c.good) (t : Int) (h0 : 0 ≤ t) (h8 : t ≤ 8) : 0 ≤ c.thrW t ∧ c.thrW t ≤ 384 := by
  have h1 := h.base8 c.caps.length (Nat.le_refl _)
  show 0 ≤ c.base c.caps.length + t * 11 ∧ c.base c.caps.length + t * 11 ≤ 384
  omega
theorem ConfM.good.slot8 {c : ConfM} (h : c.good) (k : Nat) (s : Int) (hk : k < c.caps.length) (hs0 : 0 ≤ s) : 0 ≤ c.slotW k s ∧ c.slotW k s ≤ 400 := by
  have h1 := h.base8 k (Nat.le_of_lt hk)
  have h2 := h.size k hk
  have h3 := slotI_lt s (c.size k) hs0 h2.1
  show 0 ≤ c.base k + 5 + slotI s (c.size k) * 2 ∧ c.base k + 5 + slotI s (c.size k) * 2 ≤ 400
  omega
end Go.Proofs.Ytialclohhemkiaa
