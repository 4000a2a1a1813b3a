
import Derived.Test.YtckjdlphilpgfaaB17
set_option linter.unusedVariables false
set_option linter.unusedSimpArgs false
/- Layer 14, plainly: the program's Could is the document's. -/
namespace Go.Proofs.Ytckjdlphilpgfaa
open Go.ChangeShapes Go.WideShapes Go.ChangeAt Go.RowKit
set_option maxRecDepth 100000

theorem modE_case {l : List ChanM} {op : OpM} {k : Nat} (hk : k < (casesE op).length) (r : ResM) (hr : r.case = numE op k) (hd : r.kind = 1 ∨ r.kind = 2 ∨ r.kind = 5) : (modE l op r).isSome = true ↔ aloneE l ((casesE op).getD k noCase) = some ⟨r.kind, -1, r.val, r.ok, r.num⟩ := by
  have h3 : op.kind ≠ 3 := fun e => by rw [good_kind3 op e] at hk; simp at hk
  have hc : chosenE op r = some ((casesE op).getD k noCase) := (chosen_iff op r _).2 ⟨k, hk, rfl, hr⟩
  rw [← doE_iff l _ r hd]
  unfold modE
  by_cases h12 : r.kind = 1 ∨ r.kind = 2
  · rw [if_pos h12, hc]; rfl
  · rw [if_neg h12, if_pos (by omega), if_neg h3, hc]; rfl
theorem alone_shape (l : List ChanM) (x : CaseM) : aloneE l x = none ∨ (x.send = true ∧ (aloneE l x = some ⟨5, -1, 0, false, 0⟩ ∨ aloneE l x = some ⟨1, -1, 0, false, 0⟩)) ∨
    (x.send = false ∧ ((exB l x.chan = true ∧ 0 < (chE l x.chan).buf.length ∧ aloneE l x = some ⟨2, -1, (chE l x.chan).buf.getD 0 0, true, 0⟩) ∨ (¬ (exB l x.chan = true ∧ 0 < (chE l x.chan).buf.length) ∧ aloneE l x = some ⟨2, -1, 0, false, 0⟩))) := by
  unfold aloneE aloneC fndE
  cases hex : exB l x.chan with
  | false => simp
  | true =>
    cases hs : x.send with
    | true =>
      cases hcl : (chE l x.chan).closed with
      | true => simp [hcl]
      | false =>
        by_cases hlt : ((chE l x.chan).buf.length : Int) < (chE l x.chan).cap <;> simp [hcl, hlt]
    | false =>
      by_cases h0 : 0 < (chE l x.chan).buf.length
      · simp [h0]
      · cases hcl : (chE l x.chan).closed <;> simp [h0, hcl]
theorem try_filter {l : List ChanM} {op : OpM} {k : Nat} (hk : k < (casesE op).length) : (tryE l ((casesE op).getD k noCase) (numE op k)).filter (fun r => (modE l op r).isSome) = altR l op k := by
  have hm := fun r hr hd => modE_case (l := l) hk r hr hd
  have hf : ∀ r : ResM, r.case = numE op k → (r.kind = 1 ∨ r.kind = 2 ∨ r.kind = 5) → aloneE l ((casesE op).getD k noCase) ≠ some ⟨r.kind, -1, r.val, r.ok, r.num⟩ → (modE l op r).isSome = false := fun r hr hd hn => by
    cases h : (modE l op r).isSome with
    | false => rfl
    | true => exact absurd ((hm r hr hd).1 h) hn
  unfold altR tryE
  generalize (casesE op).getD k noCase = x at hm hf
  generalize numE op k = n at hm hf
  have hsh := alone_shape l x
  generalize (chE l x.chan).buf.getD 0 0 = b0 at hsh ⊢
  rcases hsh with h | ⟨hs, h | h⟩ | ⟨hs, ⟨h1, h2, h⟩ | ⟨h1, h⟩⟩
  · rw [h] at hf ⊢
    have a5 := hf ⟨5, n, 0, false, 0⟩ rfl (by simp) (by simp)
    have a1 := hf ⟨1, n, 0, false, 0⟩ rfl (by simp) (by simp)
    have a2 := hf ⟨2, n, 0, false, 0⟩ rfl (by simp) (by simp)
    have a3 := hf ⟨2, n, b0, true, 0⟩ rfl (by simp) (by simp)
    cases x.send
    · simp only [Bool.false_eq_true, if_false]
      split <;> simp [List.filter, a2, a3]
    · simp [List.filter, a5, a1]
  · have a5 := (hm ⟨5, n, 0, false, 0⟩ rfl (by simp)).2 h
    have a1 := hf ⟨1, n, 0, false, 0⟩ rfl (by simp) (by rw [h]; simp)
    rw [h, hs]
    simp [List.filter, a5, a1]
  · have a5 := hf ⟨5, n, 0, false, 0⟩ rfl (by simp) (by rw [h]; simp)
    have a1 := (hm ⟨1, n, 0, false, 0⟩ rfl (by simp)).2 h
    rw [h, hs]
    simp [List.filter, a5, a1]
  · have a3 := (hm ⟨2, n, b0, true, 0⟩ rfl (by simp)).2 h
    have a2 := hf ⟨2, n, 0, false, 0⟩ rfl (by simp) (by rw [h]; simp)
    rw [h, hs]
    rw [if_neg (by simp), if_pos ⟨h1, h2⟩]
    simp [List.filter, a2, a3]
  · have a2 := (hm ⟨2, n, 0, false, 0⟩ rfl (by simp)).2 h
    rw [h, hs]
    rw [if_neg (by simp), if_neg h1]
    simp [List.filter, a2]
theorem tries_filter (l : List ChanM) (op : OpM) : ∀ k, k ≤ (casesE op).length → (triesE l op k).filter (fun r => (modE l op r).isSome) = couldAt l op k
  | 0, _ => rfl
  | k + 1, h => by
    rw [triesE_succ, List.filter_append, tries_filter l op k (by omega), try_filter (by omega)]
    rfl
theorem couldP_eq (l : List ChanM) (op : OpM) : couldP l op = couldE l op := by
  unfold couldP couldE allE
  by_cases h3 : op.kind = 3
  · rw [if_pos h3, if_pos h3, good_kind3 op h3]
    have hm6 : (modE l op ⟨6, -1, 0, false, 0⟩).isSome = (exB l op.chan && !(chE l op.chan).closed) := by
      unfold modE onlyB
      rw [if_neg (by decide), if_neg (by decide), if_pos rfl]
      cases exB l op.chan <;> cases (chE l op.chan).closed <;> simp [h3]
    have hm5 : (modE l op ⟨5, -1, 0, false, 0⟩).isSome = !(exB l op.chan && !(chE l op.chan).closed) := by
      unfold modE onlyB
      rw [if_neg (by decide), if_pos rfl, if_pos h3]
      cases exB l op.chan <;> cases (chE l op.chan).closed <;> simp
    unfold closeR fndE triesE
    simp only [List.length_nil, List.range_zero, List.map_nil, List.flatten_nil, List.append_nil, List.filter_cons, hm6, hm5, List.filter_nil]
    cases hex : exB l op.chan <;> cases hcl : (chE l op.chan).closed <;> simp [hcl, noChan]
  · rw [if_neg h3, if_neg h3, List.nil_append]
    exact (tries_filter l op _ (Nat.le_refl _)).symm
end Go.Proofs.Ytckjdlphilpgfaa
