/- Layer 7: whole plays of the law's worlds. -/
import Derived.Test.YtipjfcjdefdoeaaWm2
import Derived.StillTailTactics
namespace Go.Proofs.Ytipjfcjdefdoeaa
open Go.ChangeShapes Go.WideShapes Go.ChangeAt Go.RowKit
set_option maxRecDepth 100000

theorem wstepL_any {NE : ConfM → MachM → AccM} {RE : ConfM → MachM → AnsM → MachM} {R : (World → Prop) → ConfM → List Value → MachM → Prop} {K : ConfM → MachM → Prop} (hs : Sim NE RE (fun m => decide (m.what ≤ 2)) R) (hd : Doc NE RE K)
    {w0 w : World} {E : List (Option Nat)} {B D : Nat} {x : WV} {y : WM} (h : WI 61 w0 w E B D x y) (hf : FrI R (OffS (x.S E B) w) y) (hk : ∀ m ∈ y.l, K y.c m ∧ m.what ≤ 2) (i : Nat) (hi : i < y.l.length) (hl : y.l.length ≤ 1000) (ht : y.t.length ≤ 100000) (hpl : y.p.length ≤ 100000) : Calls Try.prog 26 #[.pointer (some ⟨B, 0, none⟩), .int .i64 i] w (StepW NE RE R w0 E B D y i) := by
  by_cases hp : y.l[i].pl = 0
  · exact wstepL_end hs hd h hf hk i hi hl _ rfl hp
  · cases hr : (applyE y.m (NE y.c y.l[i])).2.2 with
    | false => exact wstepL_not hs hd h hf hk i hi hl _ rfl hp hr
    | true => exact wstepL_yes hs hd h hf hk i hi hl _ rfl hp hr ht hpl
/-- what k steps leave -/
structure ReachN (K : ConfM → MachM → Prop) (y y2 : WM) (k : Nat) : Prop where
  c : y2.c = y.c
  l : y2.l.length = y.l.length
  all : ∀ m ∈ y2.l, K y2.c m ∧ m.what ≤ 2
  t : y2.t.length ≤ y.t.length + k
  p : y2.p.length ≤ y.p.length + k
theorem ReachN.step {NE : ConfM → MachM → AccM} {RE : ConfM → MachM → AnsM → MachM} {R : (World → Prop) → ConfM → List Value → MachM → Prop} {K : ConfM → MachM → Prop} (hs : Sim NE RE (fun m => decide (m.what ≤ 2)) R) (hd : Doc NE RE K) {y y2 y3 : WM} {k i : Nat} (h : ReachN K y y2 k) (hm : Moved NE RE y2 i y3) : ReachN K y y3 (k + 1) := by
  refine ⟨hm.c.trans h.c, by rw [hm.l, stepE_len]; exact h.l, ?_, by have := hm.t; have := h.t; omega, by have := hm.p; have := h.p; omega⟩
  rw [hm.l, hm.c]
  refine stepE_all (P := fun m => K y2.c m ∧ m.what ≤ 2) (fun k b hk => ⟨hd.stays _ _ _ hk.1, ?_⟩) _ _ _ h.all
  have h1 := hs.stays y2.c k b
  exact of_decide_eq_true (h1.trans (by simpa using hk.2))
theorem ReachN.le {K : ConfM → MachM → Prop} {y y2 : WM} {k n : Nat} (h : ReachN K y y2 k) (hk : k ≤ n) : ReachN K y y2 n := ⟨h.c, h.l, h.all, by have := h.t; omega, by have := h.p; omega⟩
def PlayQ (R : (World → Prop) → ConfM → List Value → MachM → Prop) (K : ConfM → MachM → Prop) (w0 : World) (E : List (Option Nat)) (B D : Nat) (y : WM) (k : Nat) (e : Ending) (w' : World) : Prop :=
  ∃ x2 y2, e = .returned (.bool true) ∧ Hid (WI 61 w0 w' E B D x2 y2) ∧ Hid (FrI R (OffS (x2.S E B) w') y2) ∧ Hid (ReachN K y y2 k)
def PlayI (R : (World → Prop) → ConfM → List Value → MachM → Prop) (K : ConfM → MachM → Prop) (w0 : World) (E : List (Option Nat)) (B D : Nat) (y : WM) (k : Nat) (wr : World) : Prop :=
  ∃ x2 y2, Hid (WI 61 w0 wr E B D x2 y2) ∧ Hid (FrI R (OffS (x2.S E B) wr) y2) ∧ Hid (ReachN K y y2 k)
set_option maxRecDepth 100000 in
set_option maxHeartbeats 32000000 in
theorem wplay_any {NE : ConfM → MachM → AccM} {RE : ConfM → MachM → AnsM → MachM} {R : (World → Prop) → ConfM → List Value → MachM → Prop} {K : ConfM → MachM → Prop} (hs : Sim NE RE (fun m => decide (m.what ≤ 2)) R) (hd : Doc NE RE K)
    {w0 w : World} {E : List (Option Nat)} {B D : Nat} {x : WV} {y : WM} (h : WI 61 w0 w E B D x y) (hf : FrI R (OffS (x.S E B) w) y) (hk : ∀ m ∈ y.l, K y.c m ∧ m.what ≤ 2) (hl0 : 1 ≤ y.l.length) (hl : y.l.length ≤ 20) (ht : y.t.length ≤ 1000) (hpl : y.p.length ≤ 1000) (v : Value) (l : List Int) (hv : SlI w0 .u8 v l) (most turns : Nat) (hmo : most ≤ 1000) (htu : turns ≤ 1000) : Calls Try.prog 22 #[.pointer (some ⟨B, 0, none⟩), v, .int .i64 most, .int .i64 turns] w (PlayQ R K w0 E B D y (most + turns * y.l.length)) := by
  have HV := Lib.hid hv
  obtain ⟨av, cv, rfl, hvc⟩ := hv.len
  have HP0 : Hid (PlayI R K w0 E B D y 0 w) := ⟨x, y, h, hf, rfl, rfl, hk, by omega, by omega⟩
  have hvl := hv.1
  clear h hf hk hv
  go_enter Try.func22, Try.ntmps22
  go_wp2_with fail
  go_loopw [9] (fun u9 wr => ∃ k : Nat, u9 = .int .i64 k ∧ k ≤ l.length ∧ k ≤ most ∧ Hid (PlayI R K w0 E B D y k wr)) (fun u9 _ => 1000 - (intOf u9).toNat)
  case atStart => exact ⟨0, rfl, by omega, by omega, HP0⟩
  case round =>
    clear HP0
    obtain ⟨k, rfl, hk1, hk2, x2, y2, HI, HF, HR⟩ := hrel
    obtain ⟨wo, rfl⟩ : ∃ wo : World, wo = wr := ⟨_, rfl⟩
    have row0 := HI.out.row
    have hBl := HI.out.lt
    unfold WV.row at row0
    have ROW := Lib.hid row0
    clear row0
    have hll : y2.l.length = y.l.length := HR.out.l
    have HLL := Lib.hid hll
    have hl1 : 1 ≤ y2.l.length := by omega
    have hl2 : y2.l.length ≤ 20 := by omega
    clear hll
    by_cases hlt : k < l.length ∧ k < most
    · obtain ⟨hlt1, hlt2⟩ := hlt
      obtain ⟨b, off, cap', e, hcap2, hb, hcell⟩ := HV.out.open (by rintro rfl; simp at hlt1)
      simp only [Value.slice.injEq] at e
      obtain ⟨rfl, -, rfl⟩ := e
      obtain ⟨p, hp⟩ : ∃ p, l.getD k 0 = p := ⟨_, rfl⟩
      have hck := hcell k hlt1
      rw [hp] at hck
      have hcw : wo.cell? ⟨b, off + k, none⟩ = some (.int .u8 p) := (HI.out.below.cell (p := ⟨b, off + k, none⟩) hb).trans hck
      have hpb : 0 ≤ p ∧ p < 256 := by
        have h1 := HV.out.2.1 _ (List.getElem_mem hlt1)
        rw [IntKind.wrap_u8] at h1
        have h2 : l[k]'hlt1 = p := by rw [← hp, List.getD_eq_getElem?_getD, List.getElem?_eq_getElem hlt1]; rfl
        omega
      obtain ⟨hp0, hp1⟩ := hpb
      have hkI : (k : Int) < (l.length : Int) := by omega
      have hkM : (k : Int) < (most : Int) := by omega
      have hnI : (0 : Int) < (y2.l.length : Int) := by omega
      obtain ⟨x0, x1, x2', x3, x4, x5, x6, x7, x8, x9⟩ := rowc10 ROW.out
      clear hcell hp hck x0 x1 x2' x3 x4 x5 x7 x8 x9
      go_wp2_with fail
      have hwp : IntKind.i64.wrap p = p := by rw [IntKind.wrap_i64]; omega
      obtain ⟨q, hq⟩ : ∃ q : Nat, p.tmod (y2.l.length : Int) = (q : Int) := ⟨(p.tmod (y2.l.length : Int)).toNat, by have := Int.tmod_nonneg (y2.l.length : Int) hp0; omega⟩
      have hql : q < y2.l.length := by have := Int.tmod_lt_of_pos p hnI; omega
      have hwq : IntKind.i64.wrap (q : Int) = (q : Int) := by rw [IntKind.wrap_i64]; omega
      have hne0 : ¬ y2.l = [] := by rintro e; rw [e] at hl1; simp at hl1
      have hne1 : ¬ ((y2.l.length : Int) = 0) := by omega
      go_still_tail 13, (by kernel_rfl)
      clear hwp hq hwq hne0 hne1
      change wpList _ _ _ _ _ wo.drew
      obtain ⟨u, hu, HU⟩ := drew_pack wo
      rw [hu]
      clear hu
      have HQ := Lib.hid (wstepL_any hs hd (HI.out.next HU.out) (HF.out.sub hs fun w3 h3 => (OffS.below HU.out).trans1 h3) HR.out.all q hql (by omega) (by have := HR.out.t; omega) (by have := HR.out.p; omega))
      clear hcw x6
      go_wp2_with fail
      refine HQ.out.mono ?_
      rintro e w5 ⟨x3, y3, rfl, HI3, HF3, HM3⟩
      have HR3 := Lib.hid (HR.out.step hs hd HM3.out)
      clear HQ HI HF HR HM3 ROW
      go_wp2_with fail
      go_roundw
      case rel => exact ⟨k + 1, by go_num, by omega, by omega, x3, y3, HI3, HF3, HR3⟩
      case measure => simp [intOf]; omega
    · have hc : (¬ k < l.length) ∨ (k < l.length ∧ ¬ k < most) := by omega
      have HP : Hid (PlayI R K w0 E B D y most wo) := ⟨x2, y2, HI, HF, HR.out.le hk2⟩
      clear HI HF HR ROW HLL hlt hl1 hl2 hBl
      rcases hc with hc | ⟨hc, hc2⟩
      all_goals
        go_wp2_with fail
        go_loopw [10] (fun u10 wr => ∃ n : Nat, u10 = .int .i64 n ∧ n ≤ turns ∧ Hid (PlayI R K w0 E B D y (most + n * y.l.length) wr)) (fun u10 _ => 1001 - (intOf u10).toNat)
        case atStart => exact ⟨0, rfl, by omega, by rw [Nat.zero_mul]; exact HP⟩
        case round =>
          clear HP
          obtain ⟨n, rfl, hn1, x3, y3, HI3, HF3, HR3⟩ := hrel
          obtain ⟨wn, rfl⟩ : ∃ wo : World, wo = wr := ⟨_, rfl⟩
          by_cases hnt : n < turns
          · have hlen : Hid (y3.l.length = y.l.length) := HR3.out.l
            have hmul : Hid (n * y.l.length ≤ 20000) := by
              have : n * y.l.length ≤ 1000 * 20 := Nat.mul_le_mul (by omega) hl
              show _ ≤ _; omega
            have row0 := HI3.out.row
            unfold WV.row at row0
            obtain ⟨x0, x1, xx2, xx3, x4, x5, x6, x7, x8, x9⟩ := rowc10 row0
            rw [hlen.out] at x6
            have HPI : Hid (PlayI R K w0 E B D y (most + n * y.l.length + 0) wn) := ⟨x3, y3, HI3, HF3, HR3⟩
            clear row0 x0 x1 xx2 xx3 x4 x5 x7 x8 x9 HI3 HF3 HR3
            go_wp2_with fail
            go_loopw [58] (fun u58 wq => ∃ i : Nat, u58 = .int .i64 i ∧ i ≤ y.l.length ∧ Hid (PlayI R K w0 E B D y (most + n * y.l.length + i) wq)) (fun u58 _ => 21 - (intOf u58).toNat)
            case atStart => exact ⟨0, rfl, by omega, HPI⟩
            case round =>
              clear HPI x6
              obtain ⟨i, rfl, hi1, x4, y4, HI4, HF4, HR4⟩ := hrel
              obtain ⟨wi, rfl⟩ : ∃ wo : World, wo = wr := ⟨_, rfl⟩
              by_cases hil : i < y.l.length
              · have hilI : (i : Int) < (y.l.length : Int) := by omega
                have HQ := Lib.hid (wstepL_any hs hd HI4.out HF4.out HR4.out.all i (by have := HR4.out.l; omega) (by have := HR4.out.l; omega) (by have := HR4.out.t; have := hmul.out; omega) (by have := HR4.out.p; have := hmul.out; omega))
                go_wp2_with fail
                refine HQ.out.mono ?_
                rintro e w5 ⟨x5, y5, rfl, HI5, HF5, HM5⟩
                have HR5 := Lib.hid (HR4.out.step hs hd HM5.out)
                clear HQ HI4 HF4 HR4 HM5
                go_wp2_with fail
                go_roundw
                case rel => exact ⟨i + 1, by go_num, by omega, x5, y5, HI5, HF5, HR5⟩
                case measure => simp [intOf]; omega
              · obtain rfl : i = y.l.length := by omega
                have HPN : Hid (PlayI R K w0 E B D y (most + (n + 1) * y.l.length) wi) := by rw [Nat.succ_mul, ← Nat.add_assoc]; exact ⟨x4, y4, HI4, HF4, HR4⟩
                clear HI4 HF4 HR4
                go_wp2_with fail
                go_roundw
                case rel => exact ⟨n + 1, by go_num, by omega, HPN⟩
                case measure => simp [intOf]; omega
          · obtain rfl : n = turns := by omega
            go_wp2_with fail
            go_ret
            exact ⟨x3, y3, rfl, HI3, HF3, HR3⟩
end Go.Proofs.Ytipjfcjdefdoeaa
