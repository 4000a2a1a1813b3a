/- What the functions that only read return (draws brought into range, searches, comparisons). -/
import Derived.Test.YtimgcehogalhcaaPlain2
import Derived.Test.YtimgcehogalhcaaLib
import Derived.Test.YtimgcehogalhcaaRows
import Derived.Deep.QuietTactic
import Derived.BigQuiet
namespace Go.Proofs.Ytimgcehogalhcaa
open Go.ChangeShapes Go.WideShapes Go.ChangeAt Go.RowKit
set_option maxRecDepth 100000

def fdN (x : Int) (l : List Int) : Nat := if fd x l < l.length then fd x l else 0
def fdB (x : Int) (l : List Int) : Bool := decide (fd x l < l.length)
def fdI (x : Int) (l : List Int) : Int := if fd x l < l.length then (fd x l : Int) else -1
theorem fdN_hit {x : Int} {l : List Int} {k : Nat} {A B : Prop} (h : A → B → fd x l = k) (a : A) (b : B) (hlt : k < l.length) : fdN x l = k ∧ fdB x l = true ∧ fdI x l = k := by
  have e := h a b
  unfold fdN fdB fdI; rw [e]; simp [hlt]
theorem fdN_miss {x : Int} {l : List Int} (h : fd x l = l.length) : fdN x l = 0 ∧ fdB x l = false ∧ fdI x l = -1 := by
  unfold fdN fdB fdI; rw [h]; simp
theorem same_any (u v : Value) (l m : List Int) (w : World) (hl : SlI w .i64 u l) (hm : SlI w .i64 v m) :
    Calls Try.prog 20 #[u, v] w fun e w' => ∃ n, e = .returned (.bool (decide (l = m))) ∧ w.drewN n = w' := by
  have hmx := hl.1
  have hmx2 := hm.1
  obtain ⟨_, _, a, cap, rfl, h4, h5⟩ := hl
  obtain ⟨_, _, a', cap', rfl, h4', h5'⟩ := hm
  clear h4 h4'
  by_cases hll : l.length = m.length
  · have hq : ((l.length : Int) != (m.length : Int)) = false := by simp [hll]
    have HL := Lib.hid hll
    have HS := Lib.hid (ext_same l m hll)
    clear hll
    go_enter Try.func20, Try.ntmps20
    go_wp2
    go_loopw [5] (fun c wr => ∃ k n : Nat, k ≤ l.length ∧ c = .int .i64 k ∧ wr = w.drewN n ∧ Hid (∀ j, j < k → l.getD j 0 = m.getD j 0)) (fun c _ => l.length - (intOf c).toNat)
    case atStart => exact ⟨0, 0, by omega, rfl, rfl, fun j hj => by omega⟩
    case round =>
      obtain ⟨k, n, hk, rfl, rfl, hno⟩ := hrel
      by_cases hlt : k < l.length
      · obtain ⟨b, off, rfl, _, hc⟩ := h5 k hlt
        obtain ⟨b', off', rfl, _, hc'⟩ := h5' k (by rw [← HL.out]; exact hlt)
        have hlt' : k < m.length := by rw [← HL.out]; exact hlt
        have H5 := Lib.hid h5
        have H5' := Lib.hid h5'
        clear h5 h5'
        generalize hy : l.getD k 0 = y at hc
        generalize hz : m.getD k 0 = z at hc'
        have Hy := Lib.hid hy
        have Hz := Lib.hid hz
        clear hy hz
        by_cases hyx : y = z
        · subst hyx
          go_wp2
          go_quiet (fail)
          go_wp2
          go_roundw
          case rel => exact ⟨k + 1, n + nq, by omega, by go_num, rfl, fun j hj => by
            by_cases e : j = k
            · rw [e, Hy.out, Hz.out]
            · exact hno.out j (by omega)⟩
          case measure => simp [intOf]; omega
        · have hq2 : (y == z) = false := by simpa using hyx
          go_wp2
          go_quiet (fail)
          go_wp2
          go_ret
          exact ⟨n + nq, ret_bool (by symm; apply decide_eq_false; intro e; apply hyx; rw [← Hy.out, ← Hz.out, e]), (World.drewN_drewN w n nq).symm⟩
      · have e : k = l.length := by omega
        have E := Lib.hid e
        clear e
        go_wp2
        go_ret
        exact ⟨n, ret_bool (by symm; exact decide_eq_true (HS.out fun j hj => hno.out j (by rw [E.out]; exact hj))), rfl⟩
  · have hq : ((l.length : Int) != (m.length : Int)) = true := by simpa using fun h => hll (by omega)
    have hr := Lib.hid (show decide (l = m) = false from decide_eq_false (by rintro rfl; exact hll rfl))
    clear hll
    go_enter Try.func20, Try.ntmps20
    go_wp2
    go_ret
    exact ⟨0, by rw [hr.out]; rfl, rfl⟩
theorem mod_any (x n : Int) (w : World) (h2 : 1 ≤ n) (h3 : n ≤ 1000000) :
    Calls Try.prog 13 #[.int .i64 x, .int .i64 n] w fun e w' => e = .returned (.int .i64 (x % n)) ∧ w = w' := by
  obtain ⟨m, hm⟩ : ∃ m : Nat, n = m + 1 := ⟨(n - 1).toNat, by omega⟩
  have b : -n < x.tmod n ∧ x.tmod n < n := by have := tmod_bd x m; rw [hm]; omega
  have M := Lib.hid (show x % n = if x.tmod n < 0 then x.tmod n + n else x.tmod n by have := tmod_mod x m; rw [hm]; exact this)
  clear hm
  go_enter Try.func13, Try.ntmps13
  go_wp2
  · have hh : x.tmod n < 0 := by assumption
    go_ret
    exact ⟨ret_i64 (by rw [M.out, if_pos hh]), rfl⟩
  · have hh : 0 ≤ x.tmod n := by assumption
    go_ret
    exact ⟨ret_i64 (by rw [M.out, if_neg (by omega)]), rfl⟩
end Go.Proofs.Ytimgcehogalhcaa
