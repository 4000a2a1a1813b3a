/- An access changes at most one word or one list: plainly. -/
import Derived.Test.YtipjfcjdefdoeaaMm
namespace Go.Proofs.Ytipjfcjdefdoeaa
open Go.ChangeShapes Go.WideShapes Go.ChangeAt Go.RowKit
set_option maxRecDepth 100000

def wrP (k : Int) : Prop := k = 2 ∨ k = 3 ∨ k = 6 ∨ k = 8 ∨ k = 9
/-- what an access makes of a memory: nothing, one word, or one list -/
inductive OneM (m : MemM) (a : AccM) : Prop
  | none (h : (applyE m a).1 = m)
  | word (x : Int) (hk : a.kind < 7) (hw : wrP a.kind) (hc : a.kind = 3 → (applyE m a).2.1.ok = true) (h0 : 0 ≤ a.addr) (h1 : a.addr < m.words.length) (h : (applyE m a).1 = ⟨m.words.set a.addr.toNat x, m.lists, m.tick⟩)
  | list (l : List Int) (hk : 7 ≤ a.kind) (hw : wrP a.kind) (h0 : 0 ≤ a.addr) (h1 : a.addr < m.lists.length) (h : (applyE m a).1 = ⟨m.words, m.lists.set a.addr.toNat l, m.tick⟩)
theorem hasB_in {n : Nat} {a : Int} (h : hasB n a ≠ false) : 0 ≤ a ∧ a < n := by
  unfold hasB at h
  simp at h
  exact h
theorem applyE_one (m : MemM) (a : AccM) : OneM m a := by
  by_cases hg : grantB m a = false
  · exact .none (by simp [applyE, hg])
  have hg2 : grantB m a = true := by simpa using hg
  by_cases h7 : 7 ≤ a.kind
  · have e1 : (applyE m a).1 = (listE m a).1 := by simp [applyE, hg2, h7]
    by_cases hh : hasB m.lists.length a.addr = false
    · exact .none (by rw [e1]; simp [listE, hh])
    have hh2 := hasB_in hh
    by_cases hk : a.kind = 7
    · exact .none (by rw [e1]; unfold listE; rw [if_neg hh, if_pos hk])
    have h9 : a.kind ≤ 9 := by
      unfold grantB at hg2
      rw [if_neg (by omega)] at hg2
      simp at hg2
      exact hg2.2
    refine .list (nextL a.kind (IntKind.i64.wrap a.new) (m.lists.getD a.addr.toNat [])) h7 ?_ hh2.1 hh2.2 (by rw [e1]; unfold listE; rw [if_neg hh, if_neg hk])
    have : a.kind = 8 ∨ a.kind = 9 := by omega
    rcases this with e | e <;> simp [wrP, e]
  · have e1 : (applyE m a).1 = (wordE m a).1 := by simp [applyE, hg2, h7]
    have e2 : (applyE m a).2.1 = (wordE m a).2 := by simp [applyE, hg2, h7]
    by_cases hh : hasB m.words.length a.addr = false
    · exact .none (by rw [e1]; simp [wordE, hh])
    have hh2 := hasB_in hh
    by_cases h26 : a.kind = 2 ∨ a.kind = 6
    · refine .word a.new (by omega) ?_ (by omega) hh2.1 hh2.2 (by rw [e1]; unfold wordE; rw [if_neg hh, if_pos h26])
      rcases h26 with e | e <;> simp [wrP, e]
    by_cases h3 : a.kind = 3
    · by_cases ho : m.words.getD a.addr.toNat 0 = a.old
      · refine .word a.new (by omega) (by simp [wrP, h3]) (fun _ => ?_) hh2.1 hh2.2 (by rw [e1]; unfold wordE; rw [if_neg hh, if_neg h26, if_pos h3, if_pos ho])
        rw [e2]; unfold wordE; rw [if_neg hh, if_neg h26, if_pos h3, if_pos ho]
      · exact .none (by rw [e1]; unfold wordE; rw [if_neg hh, if_neg h26, if_pos h3, if_neg ho])
    · by_cases h4 : a.kind = 4
      · exact .none (by rw [e1]; unfold wordE; rw [if_neg hh, if_neg h26, if_neg h3, if_pos h4])
      · exact .none (by rw [e1]; unfold wordE; rw [if_neg hh, if_neg h26, if_neg h3, if_neg h4])
/-- In the words of the law: the sizes and the time stay, and what changes stands at the address. -/
theorem OneM.sizes {m : MemM} {a : AccM} (h : OneM m a) : (applyE m a).1.words.length = m.words.length ∧ (applyE m a).1.lists.length = m.lists.length ∧ (applyE m a).1.tick = m.tick := by
  cases h with
  | none h => rw [h]; exact ⟨rfl, rfl, rfl⟩
  | word x hk hw hc h0 h1 h => rw [h]; exact ⟨List.length_set, rfl, rfl⟩
  | list l hk hw h0 h1 h => rw [h]; exact ⟨rfl, List.length_set, rfl⟩
theorem OneM.word_at {m : MemM} {a : AccM} (h : OneM m a) (i : Nat) (hi : (applyE m a).1.words.getD i 0 ≠ m.words.getD i 0) : (i : Int) = a.addr ∧ a.kind < 7 ∧ wrP a.kind ∧ (a.kind = 3 → (applyE m a).2.1.ok = true) := by
  cases h with
  | none h => rw [h] at hi; exact absurd rfl hi
  | word x hk hw hc h0 h1 h =>
    refine ⟨?_, hk, hw, hc⟩
    rw [h] at hi
    have hi : (m.words.set a.addr.toNat x).getD i 0 ≠ m.words.getD i 0 := hi
    rw [getD_setL] at hi
    split at hi
    · omega
    · exact absurd rfl hi
  | list l hk hw h0 h1 h => rw [h] at hi; exact absurd rfl hi
theorem OneM.list_at {m : MemM} {a : AccM} (h : OneM m a) (i : Nat) (hi : (applyE m a).1.lists.getD i [] ≠ m.lists.getD i []) : (i : Int) = a.addr ∧ 7 ≤ a.kind ∧ wrP a.kind := by
  cases h with
  | none h => rw [h] at hi; exact absurd rfl hi
  | word x hk hw hc h0 h1 h => rw [h] at hi; exact absurd rfl hi
  | list l hk hw h0 h1 h =>
    refine ⟨?_, hk, hw⟩
    rw [h] at hi
    have hi : (m.lists.set a.addr.toNat l).getD i [] ≠ m.lists.getD i [] := hi
    rw [getD_setL] at hi
    split at hi
    · omega
    · exact absurd rfl hi
end Go.Proofs.Ytipjfcjdefdoeaa
