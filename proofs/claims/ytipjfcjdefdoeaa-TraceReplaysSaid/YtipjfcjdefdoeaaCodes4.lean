/- The reader of choices: a select. -/
import Derived.Test.YtipjfcjdefdoeaaCodes3
import Derived.Test.YtipjfcjdefdoeaaPerm2
import Derived.Deep.DeepCutAuto
namespace Go.Proofs.Ytipjfcjdefdoeaa
open Go.ChangeShapes Go.WideShapes Go.ChangeAt Go.RowKit
set_option maxRecDepth 100000

/-- the cases and the draws that were made -/
structure SelOk (cs : List CaseM) (ds : List Int) (k : Nat) : Prop where
  nc : cs.length = k
  nd : ds.length = k
  good : ∀ c ∈ cs, c.ok ∧ (-1 ≤ c.chan ∧ c.chan < 8) ∧ (c.send = true ∨ c.val = 0)
  dok : okD 0 ds = true
  dsm : ∀ x ∈ ds, 0 ≤ x ∧ x < 100
theorem SelOk.snoc {cs : List CaseM} {ds : List Int} {k : Nat} (h : SelOk cs ds k) (hk : k < 50) (c : CaseM) (d : Int) (h1 : c.ok) (h2 : -1 ≤ c.chan ∧ c.chan < 8) (h3 : c.send = true ∨ c.val = 0) (h4 : 0 ≤ d ∧ d ≤ k) : SelOk (cs ++ [c]) (ds ++ [d]) (k + 1) := by
  refine ⟨by simp [h.nc], by simp [h.nd], ?_, ?_, ?_⟩
  · intro x hx
    rw [List.mem_append, List.mem_singleton] at hx
    rcases hx with hx | rfl
    · exact h.good x hx
    · exact ⟨h1, h2, h3⟩
  · rw [okD_snoc, h.dok, h.nd]; simp; omega
  · intro x hx
    rw [List.mem_append, List.mem_singleton] at hx
    rcases hx with hx | rfl
    · exact h.dsm x hx
    · omega
theorem SelOk.goodOp {cs : List CaseM} {ds : List Int} {k : Nat} (h : SelOk cs ds k) (hk : k ≤ 6) (m d : Int) (hm : (m = 0 ∧ d = 0) ∨ (m = 1 ∧ d = 0) ∨ (m = 2 ∧ 0 ≤ d ∧ d < 5)) : OpM.good ⟨4, m, 0, 0, d, cs, ds⟩ := by
  have hm2 : 0 ≤ m ∧ m ≤ 2 := by omega
  have hd2 : 0 ≤ d ∧ d < 5 := by omega
  refine ⟨?_, ⟨i64_small _ (by simp only; omega) (by simp only; omega), i64_small _ (by simp only; omega) (by simp only; omega), i64_small _ (by simp only; omega) (by simp only; omega), u64_ok _ (by simp only; omega) (by simp only; omega), i64_small _ (by simp only; omega) (by simp only; omega)⟩, by simp only; rw [h.nc]; omega, by simp only; rw [h.nd]; omega, fun c hc => (h.good c hc).1⟩
  have k1 : kindB ⟨4, m, 0, 0, d, cs, ds⟩ = true := by simp [kindB]; omega
  have k2 : rangesB ⟨4, m, 0, 0, d, cs, ds⟩ = true := by
    simp only [rangesB, Bool.and_eq_true, decide_eq_true_eq, List.all_eq_true]
    refine ⟨⟨⟨by decide, by omega⟩, by omega⟩, fun c hc => ?_⟩
    have := (h.good c hc).2.1
    simp [namedB]; omega
  have k3 : shapeB ⟨4, m, 0, 0, d, cs, ds⟩ = true := by
    unfold shapeB
    have a3 : (((4 : Int) == 3 || (4 : Int) == 5 || (4 : Int) == 6) && m != 0 || (d != 0 && m != 2)) = false := by
      rcases hm with ⟨rfl, rfl⟩ | ⟨rfl, rfl⟩ | ⟨rfl, _⟩ <;> simp
    simp only [a3, Bool.false_eq_true, if_false]
    have a4 : ((4 : Int) != 4) = false := by decide
    have a5 : decide (ds.length ≠ cs.length) = false := by simp [h.nc, h.nd]
    simp only [a4, a5, Bool.false_eq_true, if_false]
    simp only [bne_self_eq_false, Bool.or_false, Bool.false_eq_true, if_false, List.all_eq_true, Bool.or_eq_true, beq_iff_eq]
    exact fun c hc => (h.good c hc).2.2
  have k4 : ¬ (6 < cs.length ∨ 6 < ds.length) := by rw [h.nc, h.nd]; omega
  show checkE ⟨4, m, 0, 0, d, cs, ds⟩ = 0
  unfold checkE
  rw [if_neg (by rw [k1]; simp), if_neg (by rw [k2]; simp), if_neg k4, if_neg (by rw [show okD 0 ds = true from h.dok]; simp), if_neg (by rw [k3]; simp)]
end Go.Proofs.Ytipjfcjdefdoeaa
