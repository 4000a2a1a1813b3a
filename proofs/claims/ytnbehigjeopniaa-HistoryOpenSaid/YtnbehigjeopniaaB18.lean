
import Derived.Test.YtnbehigjeopniaaB16
set_option linter.unusedVariables false
set_option linter.unusedSimpArgs false
/- Histories, plainly: the calls are in an interval order; which calls are open (P16.3). -/
namespace Go.Proofs.Ytnbehigjeopniaa
open Go.ChangeShapes Go.WideShapes Go.ChangeAt Go.RowKit
set_option maxRecDepth 100000

theorem cnt_at {L : List EvM} {t : Int} {c : Nat} : ∀ n, n ≤ L.length → c < cntT (L.take n) t → ∃ i, i < n ∧ (L.getD i evZ).thr = t ∧ cntT (L.take i) t = c := by
  intro n
  induction n with
  | zero => intro _ h; simp [cntT] at h
  | succ n ih =>
    intro hn h
    rw [cntT_take (by omega)] at h
    by_cases h1 : c < cntT (L.take n) t
    · obtain ⟨i, h2, h3⟩ := ih (by omega) h1
      exact ⟨i, by omega, h3⟩
    · by_cases h2 : (L.getD n evZ).thr = t
      · rw [if_pos h2] at h
        exact ⟨n, by omega, h2, by omega⟩
      · rw [if_neg h2] at h
        omega
theorem isE_iff {t o : Int} {b : Bool} {e : EvM} : isE t o b e = true ↔ e.thr = t ∧ e.op = o ∧ e.ret = b := by
  unfold isE
  simp only [Bool.and_eq_true, beq_iff_eq]
  exact ⟨fun h => ⟨h.1.1, h.1.2, h.2⟩, fun h => ⟨⟨h.1, h.2.1⟩, h.2.2⟩⟩
theorem findI_le {L : List EvM} {t o : Int} {b : Bool} {i : Nat} (hi : i < L.length) (h : isE t o b (L.getD i evZ) = true) : ∃ q : Nat, findI L t o b = q ∧ q ≤ i := by
  rcases findI_cases L t o b with h1 | ⟨q, h1, h2, h3, h4⟩
  · unfold findI at h1
    cases h2 : L.findIdx? (isE t o b) with
    | some q => rw [h2] at h1; simp at h1
    | none =>
      rw [List.findIdx?_eq_none_iff] at h2
      have h3 := h2 (L.getD i evZ) (by rw [List.getD_eq_getElem?_getD, List.getElem?_eq_getElem hi]; exact List.getElem_mem hi)
      rw [h] at h3
      cases h3
  · refine ⟨q, h1, ?_⟩
    rcases Nat.lt_or_ge i q with h5 | h5
    · rw [h4 i h5] at h; cases h
    · exact h5
/-- a return has its call before it -/
theorem callret {ns : List Nat} {L : List EvM} (h : histE ns L = true) {t o : Int} {r : Nat} (hr : findI L t o true = r) : ∃ q : Nat, findI L t o false = q ∧ q < r := by
  rcases findI_cases L t o true with h1 | ⟨r', h1, h2, h3, -⟩
  · omega
  · have hrr : r' = r := by omega
    subst hrr
    obtain ⟨e1, e2, e3⟩ := isE_iff.1 h3
    obtain ⟨t', f1, f2, f3, f4, -⟩ := hist_small h h2
    have ht : (t' : Int) = t := by rw [← f1, e1]
    rw [ht] at f3 f4
    rw [e3] at f4
    have hodd : cntT (L.take r') t % 2 = 1 := by simpa using f4.symm
    obtain ⟨i, g1, g2, g3⟩ := cnt_at (L := L) (t := t) (c := cntT (L.take r') t - 1) r' (by omega) (by omega)
    obtain ⟨t2, k1, k2, k3, k4, -⟩ := hist_small h (show i < L.length by omega)
    have ht2 : (t2 : Int) = t := by rw [← k1, g2]
    rw [ht2, g3] at k3 k4
    have hE : isE t o false (L.getD i evZ) = true := isE_iff.2 ⟨g2, by rw [k3, ← e2, f3]; omega, by rw [k4, show (cntT (L.take r') t - 1) % 2 = 0 by omega]; rfl⟩
    obtain ⟨q, m1, m2⟩ := findI_le (by omega) hE
    exact ⟨q, m1, by omega⟩
theorem prec_iff {L : List EvM} {a b : Int × Int} : precE L a b = true ↔ 0 ≤ findI L a.1 a.2 true ∧ 0 ≤ findI L b.1 b.2 false ∧ findI L a.1 a.2 true < findI L b.1 b.2 false := by
  unfold precE
  simp only [Bool.and_eq_true, decide_eq_true_eq]
  exact ⟨fun h => ⟨h.1.1, h.1.2, h.2⟩, fun h => ⟨⟨h.1, h.2.1⟩, h.2.2⟩⟩
theorem prec_irrefl {ns : List Nat} {L : List EvM} (h : histE ns L = true) (c : Int × Int) : precE L c c = false := by
  cases hp : precE L c c with
  | false => rfl
  | true =>
    obtain ⟨h1, h2, h3⟩ := prec_iff.1 hp
    obtain ⟨q, h4, h5⟩ := callret h (t := c.1) (o := c.2) (r := (findI L c.1 c.2 true).toNat) (by omega)
    omega
theorem prec_interval {L : List EvM} {i k m n : Int × Int} (h1 : precE L i k = true) (h2 : precE L m n = true) (h3 : precE L i n = false) : precE L m k = true := by
  obtain ⟨a1, a2, a3⟩ := prec_iff.1 h1
  obtain ⟨b1, b2, b3⟩ := prec_iff.1 h2
  refine prec_iff.2 ⟨b1, a2, ?_⟩
  have h4 : ¬ findI L i.1 i.2 true < findI L n.1 n.2 false := fun h => by
    rw [prec_iff.2 ⟨a1, b2, h⟩] at h3
    cases h3
  omega
theorem prec_trans {ns : List Nat} {L : List EvM} (h : histE ns L = true) {i k n : Int × Int} (h1 : precE L i k = true) (h2 : precE L k n = true) : precE L i n = true := by
  obtain ⟨a1, a2, a3⟩ := prec_iff.1 h1
  obtain ⟨b1, b2, b3⟩ := prec_iff.1 h2
  obtain ⟨q, h4, h5⟩ := callret h (t := k.1) (o := k.2) (r := (findI L k.1 k.2 true).toNat) (by omega)
  exact prec_iff.2 ⟨a1, b2, by omega⟩
end Go.Proofs.Ytnbehigjeopniaa
