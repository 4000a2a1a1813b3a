import Derived.Scope
import Derived.WalkMore
import Derived.Lib.Hide
import Derived.Test.YtfegfefddfdkeaaB21
import Derived.Test.YtfegfefddfdkeaaB01
set_option linter.unusedVariables false
set_option linter.unusedSimpArgs false
/- Layer 10: Next of the program's machine that closes. -/
namespace Go.Proofs.Ytfegfefddfdkeaa
open Go.ChangeShapes Go.WideShapes Go.ChangeAt Go.RowKit
set_option maxRecDepth 100000

set_option maxRecDepth 100000 in
set_option maxHeartbeats 16000000 in
theorem pNext1 (c : ConfM) (k : Nat) (x : Int) (W L : Value) (w : World) (hv : PuV w c k x W L) : Calls Try.prog 26 #[.agg (puL 0 1 W L).toArray] w fun e w' => e = .returned (accV ⟨1, c.base k, 0, 0, 0⟩) ∧ Below w.heap.size w w' := by
  obtain ⟨wb, wo, wc, lb, lo, lc, rfl, rfl, hwb, hlb, hw0, hl0⟩ := hv.open
  have HK0 := Lib.hid (hl0)
  have hbk0 : lb < w.heap.size := hlb
  obtain ⟨W, hW, HB, R0, R1, hz⟩ := two_new w (.cells #[.int .i64 0, .int .i64 1, .slice (some ⟨wb, wo, none⟩) 1 wc, .slice (some ⟨lb, lo, none⟩) 1 lc, .slice none 0 0] 61) (.cells #[.int .i64 0, .int .i64 0, .int .u64 0, .int .u64 0, .int .i64 0] 76)
  have HW := Lib.hid hW
  clear hW
  have TCM := Lib.hid fun w' => complete_run 0 1 wb wo wc lb lo lc w'
  have TSQ := Lib.hid fun w' => seq_any x w'
  unfold puL accV
  try dsimp only
  obtain ⟨sq, hsq⟩ : ∃ sq, x / 2 = sq := ⟨_, rfl⟩
  rw [hsq] at TSQ
  try rw [hsq]
  obtain ⟨tl, htl⟩ : ∃ tl, c.base k = tl := ⟨_, rfl⟩
  rw [htl] at hl0 HK0
  rw [htl]
  clear hsq htl
  go_enter Try.func26, Try.ntmps26
  go_upto_region 1 with fail
  rw [HW.out]
  clear HW
  obtain ⟨x0_0, x0_1, x0_2, x0_3, x0_4⟩ := rowc5 R0.out
  have ck0 := (HB.out.cell (p := ⟨lb, lo, none⟩) hbk0).trans HK0.out
  go_wp2_with fail
  refine (TCM.out _).mono ?_; rintro e w1 ⟨rfl, hb1⟩
  have P1_0 := keepR hb1 R0
  have P1_1 := keepR hb1 R1
  have HB1 := Lib.hid (below_then HB.out hb1)
  clear x0_0 x0_1 x0_2 x0_3 x0_4 ck0
  clear hb1
  obtain ⟨x0_0, x0_1, x0_2, x0_3, x0_4⟩ := rowc5 P1_0.out
  have ck0 := (HB1.out.cell (p := ⟨lb, lo, none⟩) hbk0).trans HK0.out
  go_wp2_with (refine wpList_store_row rfl 76 _ _ rfl (w.heap.size + 1) _ rfl rfl 76 #[.int .i64 0, .int .i64 0, .int .u64 0, .int .u64 0, .int .i64 0] P1_1.out (by kernel_rfl) rfl (by simp [Value.oneCell']) ?_)
  refine bodyPost_ret (v := .agg #[.int .i64 1, .int .i64 tl, .int .u64 0, .int .u64 0, .int .i64 0]) (results_cell_row Try.results26 _ _ (w.heap.size + 1) 76 _ (0, 0) _ rfl (setRow_heap _ _ _ _ 76 (0, 0) P1_1.out) Try.underlying76 rfl (by kernel_rfl)) rfl ?_
  exact ⟨rfl, row_below HB1.out (by omega) _⟩
set_option maxRecDepth 100000 in
set_option maxHeartbeats 16000000 in
theorem pNext2 (c : ConfM) (k : Nat) (x : Int) (W L : Value) (w : World) (hv : PuV w c k x W L) : Calls Try.prog 26 #[.agg (puL 0 2 W L).toArray] w fun e w' => e = .returned (accV ⟨3, c.base k, x, packI (x / 2) true, 0⟩) ∧ Below w.heap.size w w' := by
  obtain ⟨wb, wo, wc, lb, lo, lc, rfl, rfl, hwb, hlb, hw0, hl0⟩ := hv.open
  have HK0 := Lib.hid (hl0)
  have hbk0 : lb < w.heap.size := hlb
  have HK1 := Lib.hid (hw0)
  have hbk1 : wb < w.heap.size := hwb
  obtain ⟨W, hW, HB, R0, R1, hz⟩ := two_new w (.cells #[.int .i64 0, .int .i64 2, .slice (some ⟨wb, wo, none⟩) 1 wc, .slice (some ⟨lb, lo, none⟩) 1 lc, .slice none 0 0] 61) (.cells #[.int .i64 0, .int .i64 0, .int .u64 0, .int .u64 0, .int .i64 0] 76)
  have HW := Lib.hid hW
  clear hW
  have TCM := Lib.hid fun w' => complete_run 0 2 wb wo wc lb lo lc w'
  have TSQ := Lib.hid fun w' => seq_any x w'
  unfold puL accV
  try dsimp only
  obtain ⟨sq, hsq⟩ : ∃ sq, x / 2 = sq := ⟨_, rfl⟩
  rw [hsq] at TSQ
  try rw [hsq]
  obtain ⟨tl, htl⟩ : ∃ tl, c.base k = tl := ⟨_, rfl⟩
  rw [htl] at hl0 HK0
  rw [htl]
  clear hsq htl
  go_enter Try.func26, Try.ntmps26
  go_upto_region 1 with fail
  rw [HW.out]
  clear HW
  obtain ⟨x0_0, x0_1, x0_2, x0_3, x0_4⟩ := rowc5 R0.out
  have ck0 := (HB.out.cell (p := ⟨lb, lo, none⟩) hbk0).trans HK0.out
  have ck1 := (HB.out.cell (p := ⟨wb, wo, none⟩) hbk1).trans HK1.out
  go_wp2_with fail
  refine (TCM.out _).mono ?_; rintro e w1 ⟨rfl, hb1⟩
  have P1_0 := keepR hb1 R0
  have P1_1 := keepR hb1 R1
  have HB1 := Lib.hid (below_then HB.out hb1)
  clear x0_0 x0_1 x0_2 x0_3 x0_4 ck0 ck1
  clear hb1
  obtain ⟨x0_0, x0_1, x0_2, x0_3, x0_4⟩ := rowc5 P1_0.out
  have ck0 := (HB1.out.cell (p := ⟨lb, lo, none⟩) hbk0).trans HK0.out
  have ck1 := (HB1.out.cell (p := ⟨wb, wo, none⟩) hbk1).trans HK1.out
  go_upto_region 8 with fail
  have KSd : Hid (∀ w', Below w1.heap.size w1 w' → (fun w' : World => (w'.cell? ⟨w.heap.size, 0, none⟩ = some (.int .i64 0) ∧ w'.cell? ⟨w.heap.size, 1, none⟩ = some (.int .i64 2) ∧ w'.cell? ⟨w.heap.size, 2, none⟩ = some (.slice (some ⟨wb, wo, none⟩) 1 wc) ∧ w'.cell? ⟨w.heap.size, 3, none⟩ = some (.slice (some ⟨lb, lo, none⟩) 1 lc) ∧ w'.cell? ⟨w.heap.size, 4, none⟩ = some (.slice none 0 0)) ∧ w'.cell? ⟨lb, lo, none⟩ = some (.int .i64 tl) ∧ w'.cell? ⟨wb, wo, none⟩ = some (.int .u64 x)) w') := fun w' hb => ⟨rowc5 ((hb.block _ (ltR P1_0)).trans P1_0.out), (hb.cell (p := ⟨lb, lo, none⟩) (Nat.lt_of_lt_of_le hbk0 HB1.out.size)).trans ((HB1.out.cell (p := ⟨lb, lo, none⟩) hbk0).trans HK0.out), (hb.cell (p := ⟨wb, wo, none⟩) (Nat.lt_of_lt_of_le hbk1 HB1.out.size)).trans ((HB1.out.cell (p := ⟨wb, wo, none⟩) hbk1).trans HK1.out)⟩
  clear x0_0 x0_1 x0_2 x0_3 x0_4 ck0 ck1
  refine untilK KSd 9 10 (by kernel_rfl) rfl ?_
  obtain ⟨u0, hu0, HU0⟩ := drew_pack w1
  rw [hu0]
  clear hu0
  have hSU0 := KSd.out _ HU0.out
  refine tkU (v := ?_) 0 la0 hSU0 (by kernel_rfl) (fun _ _ _ h => h) rfl ?_ ?_
  rotate_left
  · (intro w hSw; (try dsimp only at hSw); go_simp <;> with_reducible rfl)
  simp only [Act.put, List.setIfInBounds_toArray, List.set_cons_zero, List.set_cons_succ]
  refine tkU (v := ?_) 1 la1 hSU0 (by kernel_rfl) (fun _ _ _ h => h) rfl ?_ ?_
  rotate_left
  · (intro w hSw; (try dsimp only at hSw); go_simp <;> with_reducible rfl)
  simp only [Act.put, List.setIfInBounds_toArray, List.set_cons_zero, List.set_cons_succ]
  refine tkU (v := ?_) 2 la2 hSU0 (by kernel_rfl) (fun _ _ _ h => h) rfl ?_ ?_
  rotate_left
  · (intro w hSw; (try dsimp only at hSw); go_simp <;> with_reducible rfl)
  simp only [Act.put, List.setIfInBounds_toArray, List.set_cons_zero, List.set_cons_succ]
  refine tkU (v := ?_) 3 la3 hSU0 (by kernel_rfl) (fun _ _ _ h => h) rfl ?_ ?_
  rotate_left
  · (intro w hSw; (try dsimp only at hSw); go_simp <;> with_reducible rfl)
  simp only [Act.put, List.setIfInBounds_toArray, List.set_cons_zero, List.set_cons_succ]
  refine tkU (v := ?_) 4 la4 hSU0 (by kernel_rfl) (fun _ _ _ h => h) rfl ?_ ?_
  rotate_left
  · (intro w hSw; (try dsimp only at hSw); go_simp <;> with_reducible rfl)
  simp only [Act.put, List.setIfInBounds_toArray, List.set_cons_zero, List.set_cons_succ]
  refine tkU (v := ?_) 5 la5 hSU0 (by kernel_rfl) (fun _ _ _ h => h) rfl ?_ ?_
  rotate_left
  · (intro w hSw; (try dsimp only at hSw); go_simp <;> with_reducible rfl)
  simp only [Act.put, List.setIfInBounds_toArray, List.set_cons_zero, List.set_cons_succ]
  refine wpAnyU_ready (rs := [6]) (by kernel_rfl) rfl ?_
  refine AllReadyU.cons la6 rfl (fun K hK => ?_) ?_
  · go_simp
    go_at_call 48
    refine (TSQ.out _).mono ?_
    rintro e w9 ⟨rfl, rfl⟩
    refine hK.out _ _ ?_ (fun hSU1 => ?_)
    · exact KSd.out _ HU0.out
    clear hK K hSU0
    try simp only [Act.put, List.setIfInBounds_toArray, List.set_cons_zero, List.set_cons_succ]
    refine wpAnyU_ready (rs := [7]) (by kernel_rfl) rfl ?_
    refine AllReadyU.cons la7 rfl (fun K hK => ?_) ?_
    · go_simp
      go_at_call 47
      refine (pack_any _ _ _).mono ?_
      rintro e w9 ⟨rfl, rfl⟩
      refine hK.out _ _ ?_ (fun hSU2 => ?_)
      · exact KSd.out _ HU0.out
      clear hK K hSU1
      try simp only [Act.put, List.setIfInBounds_toArray, List.set_cons_zero, List.set_cons_succ]
      refine tkU (v := ?_) 8 la8 hSU2 (by kernel_rfl) (fun _ _ _ h => h) rfl ?_ ?_
      rotate_left
      · (intro w hSw; (try dsimp only at hSw); go_simp <;> with_reducible rfl)
      simp only [Act.put, List.setIfInBounds_toArray, List.set_cons_zero, List.set_cons_succ]
      refine wpAnyU_ready (rs := [9]) (by kernel_rfl) rfl ?_
      refine AllReadyU.free la9 rfl (by kernel_rfl) (fun K hK => ?_) ?_
      · have ZR := keepR HU0.out P1_1
        refine step_store_row rfl 76 _ _ rfl (w.heap.size + 1) _ rfl rfl 76 #[.int .i64 0, .int .i64 0, .int .u64 0, .int .u64 0, .int .i64 0] ZR.out (by kernel_rfl) rfl (by simp [Value.oneCell']) ?_
        refine hK.out _ _ ?_
        clear hK K hSU2
        try simp only [Act.put, List.setIfInBounds_toArray, List.set_cons_zero, List.set_cons_succ]
        refine wpAnyU_done (by kernel_rfl) ?_ _
        go_wp2_with fail
        refine bodyPost_ret (v := .agg #[.int .i64 3, .int .i64 tl, .int .u64 x, .int .u64 (packI (sq) true), .int .i64 0]) (results_cell_row Try.results26 _ _ (w.heap.size + 1) 76 _ (0, 0) _ rfl (setRow_heap _ _ _ _ 76 (0, 0) ZR.out) Try.underlying76 rfl (by kernel_rfl)) rfl ?_
        exact ⟨rfl, row_below (below_then HB1.out HU0.out) (by omega) _⟩
      exact AllReadyU.nil
    exact AllReadyU.nil
  exact AllReadyU.nil
set_option maxRecDepth 100000 in
set_option maxHeartbeats 16000000 in
theorem pNextE (code : Int) (w : World) : Calls Try.prog 26 #[.agg (puL code 3 nilS nilS).toArray] w fun e w' => e = .returned (accV ⟨0, 0, 0, 0, 0⟩) ∧ Below w.heap.size w w' := by
  obtain ⟨W, hW, HB, R0, R1, hz⟩ := two_new w (.cells #[.int .i64 code, .int .i64 3, .slice none 0 0, .slice none 0 0, .slice none 0 0] 61) (.cells #[.int .i64 0, .int .i64 0, .int .u64 0, .int .u64 0, .int .i64 0] 76)
  have HW := Lib.hid hW
  clear hW
  have TCM := Lib.hid fun w' => complete_not code 3 (.slice none 0 0) (.slice none 0 0) ⟨_, _, _, rfl⟩ ⟨_, _, _, rfl⟩ w'
  unfold puL nilS accV
  go_enter Try.func26, Try.ntmps26
  go_upto_region 1 with fail
  rw [HW.out]
  clear HW
  obtain ⟨x0_0, x0_1, x0_2, x0_3, x0_4⟩ := rowc5 R0.out
  go_wp2_with fail
  refine (TCM.out _).mono ?_; rintro e w1 ⟨rfl, hb1⟩
  have P1_0 := keepR hb1 R0
  have P1_1 := keepR hb1 R1
  have HB1 := Lib.hid (below_then HB.out hb1)
  clear x0_0 x0_1 x0_2 x0_3 x0_4
  clear hb1
  obtain ⟨x0_0, x0_1, x0_2, x0_3, x0_4⟩ := rowc5 P1_0.out
  clear x0_0 x0_1 x0_2 x0_3 x0_4
  go_wp2_with (refine wpList_store_row rfl 76 _ _ rfl (w.heap.size + 1) _ rfl rfl 76 #[.int .i64 0, .int .i64 0, .int .u64 0, .int .u64 0, .int .i64 0] P1_1.out (by kernel_rfl) rfl (by simp [Value.oneCell']) ?_)
  refine bodyPost_ret (v := .agg #[.int .i64 0, .int .i64 0, .int .u64 0, .int .u64 0, .int .i64 0]) (results_cell_row Try.results26 _ _ (w.heap.size + 1) 76 _ (0, 0) _ rfl (setRow_heap _ _ _ _ 76 (0, 0) P1_1.out) Try.underlying76 rfl (by kernel_rfl)) rfl ?_
  exact ⟨rfl, row_below HB1.out (by omega) _⟩
end Go.Proofs.Ytfegfefddfdkeaa
/- A scope through which the run jumps a bounded number of times, to whatever labels: each jump is walked as it comes. -/
namespace Go.Proofs.Ytfegfefddfdkeaa
open Go.ChangeShapes Go.WideShapes Go.ChangeAt Go.RowKit
set_option maxRecDepth 100000

/-- n jumps may still come: a jump goes on at its label -/
def scopes (P : Program) : Nat → (Nat → Option Code) → (Exit → Act → World → Prop) → Exit → Act → World → Prop
  | 0, _, _, .goto _, _, _ => False
  | n + 1, f, Q, .goto l, a, w => ∃ rest, f l = some rest ∧ rest.wp P (scopes P n f Q) a w
  | _, _, Q, .normal, a, w => Q .normal a w
  | _, _, Q, .exit id, a, w => Q (.exit id) a w
  | _, _, Q, .ret, a, w => Q .ret a w
  | _, _, Q, .panic c, a, w => Q (.panic c) a w
  | _, _, Q, .outgrown, a, w => Q .outgrown a w
section
variable {P : Program} {a : Act} {w : World} {Q : Exit → Act → World → Prop} {n : Nat} {f : Nat → Option Code}
theorem scopes_ret : scopes P n f Q .ret a w = Q .ret a w := by cases n <;> rfl
theorem scopes_normal : scopes P n f Q .normal a w = Q .normal a w := by cases n <;> rfl
theorem scopes_exit (i : Nat) : scopes P n f Q (.exit i) a w = Q (.exit i) a w := by cases n <;> rfl
theorem scopes_goto {l : Nat} {rest : Code} (hf : f l = some rest) (h : rest.wp P (scopes P n f Q) a w) : scopes P (n + 1) f Q (.goto l) a w := ⟨rest, hf, h⟩
theorem wp_scopes {c : Code} (n : Nat) (h : ∀ f : Nat → Option Code, Hid (∀ l, f l = findLabel c l) → c.wp P (scopes P n f Q) a w) : (Code.scope c).wp P Q a w := by
  obtain ⟨f, hf⟩ : ∃ f : Nat → Option Code, ∀ l, f l = findLabel c l := ⟨_, fun _ => rfl⟩
  intro b k cs
  have hg : ∀ l rest, f l = some rest → gotoIn l (.inScope c :: k) = some (.code rest :: .inScope c :: k) := fun l rest h => by
    rw [hf] at h; simp [gotoIn, h]
  have key : ∀ (n : Nat) (d : Code) (a : Act) (w : World), d.wp P (scopes P n f Q) a w → ∃ e a' w', Q e a' w' ∧ Arrives P (lone (b.at a (.code d :: .inScope c :: k)) cs w) b k cs e a' w' := by
    intro n
    induction n with
    | zero =>
      intro d a w hd
      obtain ⟨e, a₁, w₁, hq, harr⟩ := hd b (.inScope c :: k) cs
      cases e with
      | normal => exact ⟨.normal, a₁, w₁, hq, Steps.trans harr (.one step_inScope)⟩
      | exit id => exact ⟨.exit id, a₁, w₁, hq, fun k' hk => harr k' (by simp [exitTo, hk])⟩
      | goto l' => exact False.elim hq
      | ret => exact ⟨_, a₁, w₁, hq, harr⟩
      | panic ch => exact ⟨_, a₁, w₁, hq, harr⟩
      | outgrown => exact ⟨_, a₁, w₁, hq, harr⟩
    | succ n ih =>
      intro d a w hd
      obtain ⟨e, a₁, w₁, hq, harr⟩ := hd b (.inScope c :: k) cs
      cases e with
      | normal => exact ⟨.normal, a₁, w₁, hq, Steps.trans harr (.one step_inScope)⟩
      | exit id => exact ⟨.exit id, a₁, w₁, hq, fun k' hk => harr k' (by simp [exitTo, hk])⟩
      | goto l' =>
        obtain ⟨rest, hr, hw⟩ := hq
        obtain ⟨e₂, a₂, w₂, hq₂, harr₂⟩ := ih rest a₁ w₁ hw
        exact ⟨e₂, a₂, w₂, hq₂, .of_steps (harr _ (hg _ _ hr)) harr₂⟩
      | ret => exact ⟨_, a₁, w₁, hq, harr⟩
      | panic ch => exact ⟨_, a₁, w₁, hq, harr⟩
      | outgrown => exact ⟨_, a₁, w₁, hq, harr⟩
  obtain ⟨e, a₁, w₁, hq, harr⟩ := key n c a w (h f hf)
  exact ⟨e, a₁, w₁, hq, .of_steps (.one step_scope) harr⟩
end
end Go.Proofs.Ytfegfefddfdkeaa
/- Layer 10: Resume of the program's machine that closes. -/
namespace Go.Proofs.Ytfegfefddfdkeaa
open Go.ChangeShapes Go.WideShapes Go.ChangeAt Go.RowKit
set_option maxRecDepth 100000

set_option maxRecDepth 100000 in
set_option maxHeartbeats 16000000 in
theorem pRes1c (c : ConfM) (k : Nat) (x : Int) (W L : Value) (w : World) (hv : PuV w c k x W L) (b : Int) (p q : Bool) (aa : Option Addr) (n ac : Nat) (h0 : 0 ≤ b) (h1 : b < 18446744073709551616) (hcl : closedB b = true) : Calls Try.prog 17 #[.agg (puL 0 1 W L).toArray, .agg #[.int .u64 b, .bool p, .bool q, .slice aa n ac]] w fun e w' => e = .returned (.agg (puL 4 3 nilS nilS).toArray) ∧ Below w.heap.size w w' := by
  obtain ⟨wb, wo, wc, lb, lo, lc, rfl, rfl, hwb, hlb, hw0, hl0⟩ := hv.open
  obtain ⟨W, hW, HB, R0, R1, R2, hz⟩ := three_new w (.cells #[.int .i64 0, .int .i64 1, .slice (some ⟨wb, wo, none⟩) 1 wc, .slice (some ⟨lb, lo, none⟩) 1 lc, .slice none 0 0] 61) (.cells #[.int .u64 b, .bool p, .bool q, .slice aa n ac] 53) (.cells #[.int .i64 0, .int .i64 0, .slice none 0 0, .slice none 0 0, .slice none 0 0] 61)
  have HW := Lib.hid hW
  clear hW
  have TCM := Lib.hid fun w' => complete_run 0 1 wb wo wc lb lo lc w'
  have TEN := Lib.hid fun k w' => end_any k w'
  have TCL := Lib.hid fun w' => closed_any b w' h0 h1
  rw [hcl] at TCL
  clear hcl h0 h1
  clear hw0 hl0 hwb hlb
  unfold puL
  try unfold nilS
  try dsimp only
  go_enter Try.func17, Try.ntmps17
  go_wp2_with fail
  rw [HW.out]
  clear HW
  refine wp_scopes 4 fun f HF => ?_
  obtain ⟨x0_0, x0_1, x0_2, x0_3, x0_4⟩ := rowc5 R0.out
  obtain ⟨x1_0, x1_1, x1_2, x1_3⟩ := rowc4 R1.out
  go_wp2_with fail
  refine (TCM.out _).mono ?_; rintro e w1 ⟨rfl, hb1⟩
  have P1_0 := keepR hb1 R0
  have P1_1 := keepR hb1 R1
  have P1_2 := keepR hb1 R2
  have HB1 := Lib.hid (below_then HB.out hb1)
  clear x0_0 x0_1 x0_2 x0_3 x0_4 x1_0 x1_1 x1_2 x1_3
  clear hb1
  obtain ⟨x0_0, x0_1, x0_2, x0_3, x0_4⟩ := rowc5 P1_0.out
  obtain ⟨x1_0, x1_1, x1_2, x1_3⟩ := rowc4 P1_1.out
  go_wp2_with fail
  go_step3
  refine scopes_goto ((HF.out 0).trans rfl) ?_
  go_wp2_with fail
  refine (TCL.out _).mono ?_; rintro e w' ⟨rfl, rfl⟩
  go_wp2_with fail
  refine (TEN.out _ _).mono ?_; rintro e w2 ⟨rfl, hb2⟩
  have P2_0 := keepR hb2 P1_0
  have P2_1 := keepR hb2 P1_1
  have P2_2 := keepR hb2 P1_2
  have HB2 := Lib.hid (below_then HB1.out hb2)
  clear x0_0 x0_1 x0_2 x0_3 x0_4 x1_0 x1_1 x1_2 x1_3
  clear hb2
  obtain ⟨x0_0, x0_1, x0_2, x0_3, x0_4⟩ := rowc5 P2_0.out
  obtain ⟨x1_0, x1_1, x1_2, x1_3⟩ := rowc4 P2_1.out
  clear x0_0 x0_1 x0_2 x0_3 x0_4 x1_0 x1_1 x1_2 x1_3
  go_wp2_with (refine wpList_store_row rfl 61 _ _ rfl (w.heap.size + 2) _ rfl rfl 61 #[.int .i64 0, .int .i64 0, .slice none 0 0, .slice none 0 0, .slice none 0 0] P2_2.out (by kernel_rfl) rfl (by simp [Value.oneCell']) ?_)
  try rw [scopes_ret]
  refine bodyPost_ret (v := .agg #[.int .i64 4, .int .i64 3, .slice none 0 0, .slice none 0 0, .slice none 0 0]) (results_cell_row Try.results17 _ _ (w.heap.size + 2) 61 _ (0, 0) _ rfl (setRow_heap _ _ _ _ 61 (0, 0) P2_2.out) Try.underlying61 rfl (by kernel_rfl)) rfl ?_
  exact ⟨rfl, row_below HB2.out (by omega) _⟩
set_option maxRecDepth 100000 in
set_option maxHeartbeats 16000000 in
theorem pRes1o (c : ConfM) (k : Nat) (x : Int) (W L : Value) (w : World) (hv : PuV w c k x W L) (b : Int) (p q : Bool) (aa : Option Addr) (n ac : Nat) (h0 : 0 ≤ b) (h1 : b < 18446744073709551616) (hcl : closedB b = false) : Calls Try.prog 17 #[.agg (puL 0 1 W L).toArray, .agg #[.int .u64 b, .bool p, .bool q, .slice aa n ac]] w fun e w' => ∃ nb, e = .returned (.agg (puL 0 2 (.slice (some ⟨nb, 0, none⟩) 1 1) L).toArray) ∧ Hid (w'.heap[nb]? = some (.cells #[.int .u64 b] 27 (0, 0))) ∧ Hid (w.heap.size ≤ nb) ∧ Hid (Below w.heap.size w w') := by
  obtain ⟨wb, wo, wc, lb, lo, lc, rfl, rfl, hwb, hlb, hw0, hl0⟩ := hv.open
  obtain ⟨W, hW, HB, R0, R1, R2, hz⟩ := three_new w (.cells #[.int .i64 0, .int .i64 1, .slice (some ⟨wb, wo, none⟩) 1 wc, .slice (some ⟨lb, lo, none⟩) 1 lc, .slice none 0 0] 61) (.cells #[.int .u64 b, .bool p, .bool q, .slice aa n ac] 53) (.cells #[.int .i64 0, .int .i64 0, .slice none 0 0, .slice none 0 0, .slice none 0 0] 61)
  have HW := Lib.hid hW
  clear hW
  have TCM := Lib.hid fun w' => complete_run 0 1 wb wo wc lb lo lc w'
  have TEN := Lib.hid fun k w' => end_any k w'
  have TCL := Lib.hid fun w' => closed_any b w' h0 h1
  rw [hcl] at TCL
  clear hcl h0 h1
  clear hw0 hl0 hwb hlb
  unfold puL
  try unfold nilS
  try dsimp only
  go_enter Try.func17, Try.ntmps17
  go_wp2_with fail
  rw [HW.out]
  clear HW
  refine wp_scopes 4 fun f HF => ?_
  obtain ⟨x0_0, x0_1, x0_2, x0_3, x0_4⟩ := rowc5 R0.out
  obtain ⟨x1_0, x1_1, x1_2, x1_3⟩ := rowc4 R1.out
  go_wp2_with fail
  refine (TCM.out _).mono ?_; rintro e w1 ⟨rfl, hb1⟩
  have P1_0 := keepR hb1 R0
  have P1_1 := keepR hb1 R1
  have P1_2 := keepR hb1 R2
  have HB1 := Lib.hid (below_then HB.out hb1)
  clear x0_0 x0_1 x0_2 x0_3 x0_4 x1_0 x1_1 x1_2 x1_3
  clear hb1
  obtain ⟨x0_0, x0_1, x0_2, x0_3, x0_4⟩ := rowc5 P1_0.out
  obtain ⟨x1_0, x1_1, x1_2, x1_3⟩ := rowc4 P1_1.out
  go_wp2_with fail
  go_step3
  refine scopes_goto ((HF.out 0).trans rfl) ?_
  go_wp2_with fail
  refine (TCL.out _).mono ?_; rintro e w' ⟨rfl, rfl⟩
  go_upto_region 11 with fail
  obtain ⟨nb, hnb⟩ : ∃ nb, w1.heap.size = nb := ⟨_, rfl⟩
  have hgen : Hid (w.heap.size + 2 < nb) := by have h6 := (ltR P1_2); show _ < _; omega
  have BNW := Lib.hid (below_new (Below.refl w1.heap.size w1) (.cells #[.int .u64 b] 27))
  obtain ⟨Wx, hWx⟩ : ∃ Wx, w1.alloc (.cells #[.int .u64 b] 27) = Wx := ⟨_, rfl⟩
  rw [hWx] at BNW
  have RN : Hid (Wx.heap[nb]? = some (.cells #[.int .u64 b] 27 (0, 0))) := hnb ▸ hWx ▸ heap_alloc_new _ _
  have P2_0 := keepR BNW.out P1_0
  have P2_1 := keepR BNW.out P1_1
  have P2_2 := keepR BNW.out P1_2
  have HB2 := Lib.hid (below_then HB1.out BNW.out)
  have fz := frozen_of_row Wx w.heap.size 2 _ _ P2_0.out
  have r1 := heap_setCell_same Wx w.heap.size 2 _ _ (.slice (some ⟨nb, 0, none⟩) 1 1) P2_0.out
  simp at r1
  have S2_0 := Lib.hid r1
  clear r1
  have S2_1 := Lib.hid ((heap_setCell_other Wx ⟨w.heap.size, 2, none⟩ (w.heap.size + 1) (.slice (some ⟨nb, 0, none⟩) 1 1) (by show w.heap.size + 1 ≠ w.heap.size; omega)).trans P2_1.out)
  have S2_2 := Lib.hid ((heap_setCell_other Wx ⟨w.heap.size, 2, none⟩ (w.heap.size + 2) (.slice (some ⟨nb, 0, none⟩) 1 1) (by show w.heap.size + 2 ≠ w.heap.size; omega)).trans P2_2.out)
  have RN3 := Lib.hid ((heap_setCell_other Wx ⟨w.heap.size, 2, none⟩ nb (.slice (some ⟨nb, 0, none⟩) 1 1) (by have := hgen.out; show nb ≠ w.heap.size; omega)).trans RN.out)
  have HS2 := Lib.hid (HB2.out.setCell (p := ⟨w.heap.size, 2, none⟩) (Nat.le_refl _) (.slice (some ⟨nb, 0, none⟩) 1 1))
  obtain ⟨Wy, hWy⟩ : ∃ Wy, Wx.setCell ⟨w.heap.size, 2, none⟩ (.slice (some ⟨nb, 0, none⟩) 1 1) = Wy := ⟨_, rfl⟩
  rw [hWy] at S2_0 S2_1 S2_2 RN3 HS2
  have HWx := Lib.hid hWx
  have HWy := Lib.hid hWy
  have HNB := Lib.hid hnb
  clear hWy
  obtain ⟨-, -, cz, -, -⟩ := rowc5 P2_0.out
  subst hWx
  subst hnb
  go_upto_region 12 with fail
  rw [HWy.out]
  clear x0_0 x0_1 x0_2 x0_3 x0_4 x1_0 x1_1 x1_2 x1_3
  clear fz cz HWy HWx HNB BNW
  obtain ⟨nb, hnb⟩ : ∃ nb, w1.heap.size = nb := ⟨_, rfl⟩
  rw [hnb] at RN3 hgen S2_0
  have HNB := Lib.hid hnb
  clear hnb RN P2_0 P2_1 P2_2 HB2
  obtain ⟨x0_0, x0_1, x0_2, x0_3, x0_4⟩ := rowc5 S2_0.out
  obtain ⟨x1_0, x1_1, x1_2, x1_3⟩ := rowc4 S2_1.out
  have RN4 := Lib.hid ((heap_setCell_other Wy ⟨w.heap.size, 1, none⟩ nb (.int .i64 2) (by have := hgen.out; show nb ≠ w.heap.size; omega)).trans RN3.out)
  have fz := frozen_of_row Wy w.heap.size 1 _ _ S2_0.out
  have r1 := heap_setCell_same Wy w.heap.size 1 _ _ (.int .i64 2) S2_0.out
  simp at r1
  have P3_0 := Lib.hid r1
  clear r1
  have P3_1 := Lib.hid ((heap_setCell_other Wy ⟨w.heap.size, 1, none⟩ (w.heap.size + 1) (.int .i64 2) (by show w.heap.size + 1 ≠ w.heap.size; omega)).trans S2_1.out)
  have P3_2 := Lib.hid ((heap_setCell_other Wy ⟨w.heap.size, 1, none⟩ (w.heap.size + 2) (.int .i64 2) (by show w.heap.size + 2 ≠ w.heap.size; omega)).trans S2_2.out)
  have HB3 := Lib.hid (HS2.out.setCell (p := ⟨w.heap.size, 1, none⟩) (by show w.heap.size ≤ w.heap.size; omega) (.int .i64 2))
  obtain ⟨W3, hW3⟩ : ∃ W3, Wy.setCell ⟨w.heap.size, 1, none⟩ (.int .i64 2) = W3 := ⟨_, rfl⟩
  rw [hW3] at P3_0 P3_1 P3_2 RN4 HB3
  have HW3 := Lib.hid hW3
  clear hW3
  go_upto_region 13 with fail
  rw [HW3.out]
  clear x0_0 x0_1 x0_2 x0_3 x0_4 x1_0 x1_1 x1_2 x1_3
  clear fz HW3
  obtain ⟨x0_0, x0_1, x0_2, x0_3, x0_4⟩ := rowc5 P3_0.out
  obtain ⟨x1_0, x1_1, x1_2, x1_3⟩ := rowc4 P3_1.out
  go_wp2_with (refine wpList_store_row rfl 61 _ _ rfl (w.heap.size + 2) _ rfl rfl 61 #[.int .i64 0, .int .i64 0, .slice none 0 0, .slice none 0 0, .slice none 0 0] P3_2.out (by kernel_rfl) rfl (by simp [Value.oneCell']) ?_)
  try rw [scopes_ret]
  refine bodyPost_ret (v := .agg #[.int .i64 0, .int .i64 2, .slice (some ⟨nb, 0, none⟩) 1 1, .slice (some ⟨lb, lo, none⟩) 1 lc, .slice none 0 0]) (results_cell_row Try.results17 _ _ (w.heap.size + 2) 61 _ (0, 0) _ rfl (setRow_heap _ _ _ _ 61 (0, 0) P3_2.out) Try.underlying61 rfl (by kernel_rfl)) rfl ?_
  exact ⟨nb, rfl, Lib.hid ((setRow_other _ (w.heap.size + 2) nb _ (by have := hgen.out; omega)).trans RN4.out), Lib.hid (by have := hgen.out; show w.heap.size ≤ nb; omega), Lib.hid (row_below HB3.out (by omega) _)⟩
set_option maxRecDepth 100000 in
set_option maxHeartbeats 16000000 in
theorem pRes2k (c : ConfM) (k : Nat) (x : Int) (W L : Value) (w : World) (hv : PuV w c k x W L) (b : Int) (q : Bool) (aa : Option Addr) (n ac : Nat) : Calls Try.prog 17 #[.agg (puL 0 2 W L).toArray, .agg #[.int .u64 b, .bool true, .bool q, .slice aa n ac]] w fun e w' => e = .returned (.agg (puL 1 3 nilS nilS).toArray) ∧ Below w.heap.size w w' := by
  obtain ⟨wb, wo, wc, lb, lo, lc, rfl, rfl, hwb, hlb, hw0, hl0⟩ := hv.open
  obtain ⟨W, hW, HB, R0, R1, R2, hz⟩ := three_new w (.cells #[.int .i64 0, .int .i64 2, .slice (some ⟨wb, wo, none⟩) 1 wc, .slice (some ⟨lb, lo, none⟩) 1 lc, .slice none 0 0] 61) (.cells #[.int .u64 b, .bool true, .bool q, .slice aa n ac] 53) (.cells #[.int .i64 0, .int .i64 0, .slice none 0 0, .slice none 0 0, .slice none 0 0] 61)
  have HW := Lib.hid hW
  clear hW
  have TCM := Lib.hid fun w' => complete_run 0 2 wb wo wc lb lo lc w'
  have TEN := Lib.hid fun k w' => end_any k w'
  clear hw0 hl0 hwb hlb
  unfold puL
  try unfold nilS
  try dsimp only
  go_enter Try.func17, Try.ntmps17
  go_wp2_with fail
  rw [HW.out]
  clear HW
  refine wp_scopes 4 fun f HF => ?_
  obtain ⟨x0_0, x0_1, x0_2, x0_3, x0_4⟩ := rowc5 R0.out
  obtain ⟨x1_0, x1_1, x1_2, x1_3⟩ := rowc4 R1.out
  go_wp2_with fail
  refine (TCM.out _).mono ?_; rintro e w1 ⟨rfl, hb1⟩
  have P1_0 := keepR hb1 R0
  have P1_1 := keepR hb1 R1
  have P1_2 := keepR hb1 R2
  have HB1 := Lib.hid (below_then HB.out hb1)
  clear x0_0 x0_1 x0_2 x0_3 x0_4 x1_0 x1_1 x1_2 x1_3
  clear hb1
  obtain ⟨x0_0, x0_1, x0_2, x0_3, x0_4⟩ := rowc5 P1_0.out
  obtain ⟨x1_0, x1_1, x1_2, x1_3⟩ := rowc4 P1_1.out
  go_wp2_with fail
  go_step3
  refine scopes_goto ((HF.out 1).trans rfl) ?_
  go_wp2_with fail
  refine (TEN.out _ _).mono ?_; rintro e w2 ⟨rfl, hb2⟩
  have P2_0 := keepR hb2 P1_0
  have P2_1 := keepR hb2 P1_1
  have P2_2 := keepR hb2 P1_2
  have HB2 := Lib.hid (below_then HB1.out hb2)
  clear x0_0 x0_1 x0_2 x0_3 x0_4 x1_0 x1_1 x1_2 x1_3
  clear hb2
  obtain ⟨x0_0, x0_1, x0_2, x0_3, x0_4⟩ := rowc5 P2_0.out
  obtain ⟨x1_0, x1_1, x1_2, x1_3⟩ := rowc4 P2_1.out
  clear x0_0 x0_1 x0_2 x0_3 x0_4 x1_0 x1_1 x1_2 x1_3
  go_wp2_with (refine wpList_store_row rfl 61 _ _ rfl (w.heap.size + 2) _ rfl rfl 61 #[.int .i64 0, .int .i64 0, .slice none 0 0, .slice none 0 0, .slice none 0 0] P2_2.out (by kernel_rfl) rfl (by simp [Value.oneCell']) ?_)
  try rw [scopes_ret]
  refine bodyPost_ret (v := .agg #[.int .i64 1, .int .i64 3, .slice none 0 0, .slice none 0 0, .slice none 0 0]) (results_cell_row Try.results17 _ _ (w.heap.size + 2) 61 _ (0, 0) _ rfl (setRow_heap _ _ _ _ 61 (0, 0) P2_2.out) Try.underlying61 rfl (by kernel_rfl)) rfl ?_
  exact ⟨rfl, row_below HB2.out (by omega) _⟩
set_option maxRecDepth 100000 in
set_option maxHeartbeats 16000000 in
theorem pRes2n (c : ConfM) (k : Nat) (x : Int) (W L : Value) (w : World) (hv : PuV w c k x W L) (b : Int) (q : Bool) (aa : Option Addr) (n ac : Nat) : Calls Try.prog 17 #[.agg (puL 0 2 W L).toArray, .agg #[.int .u64 b, .bool false, .bool q, .slice aa n ac]] w fun e w' => e = .returned (.agg (puL 0 1 W L).toArray) ∧ Below w.heap.size w w' := by
  obtain ⟨wb, wo, wc, lb, lo, lc, rfl, rfl, hwb, hlb, hw0, hl0⟩ := hv.open
  obtain ⟨W, hW, HB, R0, R1, R2, hz⟩ := three_new w (.cells #[.int .i64 0, .int .i64 2, .slice (some ⟨wb, wo, none⟩) 1 wc, .slice (some ⟨lb, lo, none⟩) 1 lc, .slice none 0 0] 61) (.cells #[.int .u64 b, .bool false, .bool q, .slice aa n ac] 53) (.cells #[.int .i64 0, .int .i64 0, .slice none 0 0, .slice none 0 0, .slice none 0 0] 61)
  have HW := Lib.hid hW
  clear hW
  have TCM := Lib.hid fun w' => complete_run 0 2 wb wo wc lb lo lc w'
  have TEN := Lib.hid fun k w' => end_any k w'
  clear hw0 hl0 hwb hlb
  unfold puL
  try unfold nilS
  try dsimp only
  go_enter Try.func17, Try.ntmps17
  go_wp2_with fail
  rw [HW.out]
  clear HW
  refine wp_scopes 4 fun f HF => ?_
  obtain ⟨x0_0, x0_1, x0_2, x0_3, x0_4⟩ := rowc5 R0.out
  obtain ⟨x1_0, x1_1, x1_2, x1_3⟩ := rowc4 R1.out
  go_wp2_with fail
  refine (TCM.out _).mono ?_; rintro e w1 ⟨rfl, hb1⟩
  have P1_0 := keepR hb1 R0
  have P1_1 := keepR hb1 R1
  have P1_2 := keepR hb1 R2
  have HB1 := Lib.hid (below_then HB.out hb1)
  clear x0_0 x0_1 x0_2 x0_3 x0_4 x1_0 x1_1 x1_2 x1_3
  clear hb1
  obtain ⟨x0_0, x0_1, x0_2, x0_3, x0_4⟩ := rowc5 P1_0.out
  obtain ⟨x1_0, x1_1, x1_2, x1_3⟩ := rowc4 P1_1.out
  go_wp2_with fail
  go_step3
  refine scopes_goto ((HF.out 1).trans rfl) ?_
  go_wp2_with fail
  go_step3
  refine scopes_goto ((HF.out 2).trans rfl) ?_
  go_upto_region 7 with fail
  have fz := frozen_of_row w1 w.heap.size 1 _ _ P1_0.out
  have r1 := heap_setCell_same w1 w.heap.size 1 _ _ (.int .i64 1) P1_0.out
  simp at r1
  have P2_0 := Lib.hid r1
  clear r1
  have P2_1 := Lib.hid ((heap_setCell_other w1 ⟨w.heap.size, 1, none⟩ (w.heap.size + 1) (.int .i64 1) (by show w.heap.size + 1 ≠ w.heap.size; omega)).trans P1_1.out)
  have P2_2 := Lib.hid ((heap_setCell_other w1 ⟨w.heap.size, 1, none⟩ (w.heap.size + 2) (.int .i64 1) (by show w.heap.size + 2 ≠ w.heap.size; omega)).trans P1_2.out)
  have HB2 := Lib.hid (HB1.out.setCell (p := ⟨w.heap.size, 1, none⟩) (by show w.heap.size ≤ w.heap.size; omega) (.int .i64 1))
  obtain ⟨W2, hW2⟩ : ∃ W2, w1.setCell ⟨w.heap.size, 1, none⟩ (.int .i64 1) = W2 := ⟨_, rfl⟩
  rw [hW2] at P2_0 P2_1 P2_2 HB2
  have HW2 := Lib.hid hW2
  clear hW2
  go_upto_region 8 with fail
  rw [HW2.out]
  clear x0_0 x0_1 x0_2 x0_3 x0_4 x1_0 x1_1 x1_2 x1_3
  clear fz HW2
  obtain ⟨x0_0, x0_1, x0_2, x0_3, x0_4⟩ := rowc5 P2_0.out
  obtain ⟨x1_0, x1_1, x1_2, x1_3⟩ := rowc4 P2_1.out
  go_wp2_with (refine wpList_store_row rfl 61 _ _ rfl (w.heap.size + 2) _ rfl rfl 61 #[.int .i64 0, .int .i64 0, .slice none 0 0, .slice none 0 0, .slice none 0 0] P2_2.out (by kernel_rfl) rfl (by simp [Value.oneCell']) ?_)
  try rw [scopes_ret]
  refine bodyPost_ret (v := .agg #[.int .i64 0, .int .i64 1, .slice (some ⟨wb, wo, none⟩) 1 wc, .slice (some ⟨lb, lo, none⟩) 1 lc, .slice none 0 0]) (results_cell_row Try.results17 _ _ (w.heap.size + 2) 61 _ (0, 0) _ rfl (setRow_heap _ _ _ _ 61 (0, 0) P2_2.out) Try.underlying61 rfl (by kernel_rfl)) rfl ?_
  exact ⟨rfl, row_below HB2.out (by omega) _⟩
set_option maxRecDepth 100000 in
set_option maxHeartbeats 16000000 in
theorem pResE (code : Int) (w : World) (b : Int) (p q : Bool) (aa : Option Addr) (n ac : Nat) : Calls Try.prog 17 #[.agg (puL code 3 nilS nilS).toArray, .agg #[.int .u64 b, .bool p, .bool q, .slice aa n ac]] w fun e w' => e = .returned (.agg (puL code 3 nilS nilS).toArray) ∧ Below w.heap.size w w' := by
  obtain ⟨W, hW, HB, R0, R1, R2, hz⟩ := three_new w (.cells #[.int .i64 code, .int .i64 3, .slice none 0 0, .slice none 0 0, .slice none 0 0] 61) (.cells #[.int .u64 b, .bool p, .bool q, .slice aa n ac] 53) (.cells #[.int .i64 0, .int .i64 0, .slice none 0 0, .slice none 0 0, .slice none 0 0] 61)
  have HW := Lib.hid hW
  clear hW
  have TCM := Lib.hid fun w' => complete_not code 3 (.slice none 0 0) (.slice none 0 0) ⟨_, _, _, rfl⟩ ⟨_, _, _, rfl⟩ w'
  unfold puL nilS
  try dsimp only
  go_enter Try.func17, Try.ntmps17
  go_wp2_with fail
  rw [HW.out]
  clear HW
  refine wp_scopes 4 fun f HF => ?_
  obtain ⟨x0_0, x0_1, x0_2, x0_3, x0_4⟩ := rowc5 R0.out
  obtain ⟨x1_0, x1_1, x1_2, x1_3⟩ := rowc4 R1.out
  go_wp2_with fail
  refine (TCM.out _).mono ?_; rintro e w1 ⟨rfl, hb1⟩
  have P1_0 := keepR hb1 R0
  have P1_1 := keepR hb1 R1
  have P1_2 := keepR hb1 R2
  have HB1 := Lib.hid (below_then HB.out hb1)
  clear x0_0 x0_1 x0_2 x0_3 x0_4 x1_0 x1_1 x1_2 x1_3
  clear hb1
  obtain ⟨x0_0, x0_1, x0_2, x0_3, x0_4⟩ := rowc5 P1_0.out
  obtain ⟨x1_0, x1_1, x1_2, x1_3⟩ := rowc4 P1_1.out
  go_wp2_with (refine wpList_store_row rfl 61 _ _ rfl (w.heap.size + 2) _ rfl rfl 61 #[.int .i64 0, .int .i64 0, .slice none 0 0, .slice none 0 0, .slice none 0 0] P1_2.out (by kernel_rfl) rfl (by simp [Value.oneCell']) ?_)
  try rw [scopes_ret]
  refine bodyPost_ret (v := .agg #[.int .i64 code, .int .i64 3, .slice none 0 0, .slice none 0 0, .slice none 0 0]) (results_cell_row Try.results17 _ _ (w.heap.size + 2) 61 _ (0, 0) _ rfl (setRow_heap _ _ _ _ 61 (0, 0) P1_2.out) Try.underlying61 rfl (by kernel_rfl)) rfl ?_
  exact ⟨rfl, row_below HB1.out (by omega) _⟩
end Go.Proofs.Ytfegfefddfdkeaa
