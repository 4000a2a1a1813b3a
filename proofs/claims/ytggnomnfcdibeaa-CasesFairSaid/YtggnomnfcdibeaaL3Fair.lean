/- Layer 3: the selects whose choice is counted. -/
import Derived.Test.YtggnomnfcdibeaaL3Awake
import Derived.Test.YtggnomnfcdibeaaCodes4
import Derived.Test.YtggnomnfcdibeaaFair2
import Derived.Laws.BitsAllLaws
namespace Go.Proofs.Ytggnomnfcdibeaa
open Go.ChangeShapes Go.WideShapes Go.ChangeAt Go.RowKit
theorem ordL_nth (n k : Nat) (h1 : 1 ≤ n) (h2 : n ≤ 5) (hk : k < fact n) : nthB n k = true ∧ nthL n k = nthR n k ∧ ordL n (nthR n k) = perm n k := by
  obtain ⟨_, _, hb, hl⟩ := nth_yes (n : Int) (k : Int) (by rw [cntI_in n (by omega)]; omega)
  rw [Int.toNat_natCast, Int.toNat_natCast] at hl
  refine ⟨hb, hl, ?_⟩
  unfold ordL
  rw [if_pos (by omega), Int.toNat_natCast]
  rfl
theorem bit_test (s k : Nat) (hs : s < 256) : (bits BinOp.and IntKind.u8 ((s : Int) / 2 ^ k) 1 == 1) = inS s k := by
  have e : ((s : Int) / 2 ^ k) = ((s / 2 ^ k : Nat) : Int) := by push_cast; rfl
  have hlt : s / 2 ^ k < 256 := Nat.lt_of_le_of_lt (Nat.div_le_self _ _) hs
  rw [e]
  generalize hx : s / 2 ^ k = x at *
  unfold inS
  rw [hx]
  rw [u8_and (x : Int) 1 (by omega) (by omega) (by omega) (by omega)]
  have := Nat.and_two_pow_sub_one_eq_mod x 1
  rw [Int.toNat_natCast, show (1 : Int).toNat = 2 ^ 1 - 1 from rfl, this, Bool.eq_iff_iff]
  simp
  omega
/-- make([]Case, n), up to four -/
theorem wp_make_case (w : World) {ops : Array Oper} {rest : List Oper} {o : Oper} {a : Act} {Q : Exit → Act → World → Prop}
    (hg : o.guard = none) (l c : Operand) (hop : o.op = Op.makeSlice 23 l c) (n : Nat) (L C : Int) (hl : a.eval l = .int .i64 L) (hc : a.eval c = .int .i64 C) (hL : L = n) (hC : C = n) (hn1 : 1 ≤ n) (hn : n ≤ 4)
    (hK : ∀ w', OwnC w' w.heap.size (.slice (some ⟨w.heap.size, 0, none⟩) n n) (List.replicate n noCase) → Below w.heap.size w w' → wpList Try.prog ops Q rest (a.put o.dst (.slice (some ⟨w.heap.size, 0, none⟩) n n)) w') :
    wpList Try.prog ops Q (o :: rest) a w := by
  obtain ⟨i0, hi, hz0, hz1, hz2⟩ := info_parts Try.info_case
  refine wpList_make_full w hg l c _ hop w.heap.size 50 i0 _ 3 Try.underlying23 hi hz0 hz1 _ _ _ _ n hl hc hL hC (by rw [hz2]; omega) (by unfold maxLen; omega) (Nat.le_refl _) fun w' h1 h2 => ?_
  refine hK w' ?_ ((Below.refl _ _).grown h2 (Nat.le_refl _) (fun k hk => by cases hk))
  unfold OwnC
  rw [List.length_replicate]
  have e : (madeCells (Value.agg #[.bool false, .int .i64 0, .int .u64 0]).cells (n * 3)).toList = (List.replicate n noCase).flatMap caseCells := by
    obtain rfl | rfl | rfl | rfl : n = 1 ∨ n = 2 ∨ n = 3 ∨ n = 4 := by omega
    all_goals
      simp only [madeCells, Array.toList_map, Array.toList_range]
      rfl
  rw [e] at h1
  exact h1
theorem fairOp_good (n k : Nat) (h1 : 1 ≤ n) (h2 : n ≤ 4) (hk : k < fact n) : OpM.good ⟨4, 0, 0, 0, 0, List.replicate n noCase, nthR n k⟩ := by
  refine SelOk.goodOp (k := n) ⟨by simp, nthR_length n k, ?_, (idx_nth n k hk).1, fun x hx => ?_⟩ (by omega) 0 0 (.inl ⟨rfl, rfl⟩)
  · intro c hc
    rw [List.eq_of_mem_replicate hc]
    exact ⟨⟨by decide, by decide⟩, by decide, .inr rfl⟩
  · have := nthR_mem n k x hx; omega
end Go.Proofs.Ytggnomnfcdibeaa
