/- What the functions that only read return (draws brought into range, searches, comparisons). -/
import Derived.Test.YtkciejealeinoaaPlain2
import Derived.Test.YtkciejealeinoaaLib
import Derived.Test.YtkciejealeinoaaRows
import Derived.Deep.QuietTactic
import Derived.BigQuiet
namespace Go.Proofs.Ytkciejealeinoaa
open Go.ChangeShapes Go.WideShapes Go.ChangeAt Go.RowKit
set_option maxRecDepth 100000

theorem valid_any (v : Value) (l : List Int) (i : Nat) (w : World) (hl : SlI w .i64 v l) (hi : i ≤ 20) :
    Calls Try.prog 79 #[v, .int .i64 (i : Int)] w fun e w' => e = .returned (.int .i64 (drawI l i)) ∧ w = w' := by
  by_cases h : l.length ≤ i
  · have HR := Lib.hid (drawI_out l i h)
    obtain ⟨a, cap, rfl, _⟩ := hl.len
    have := hl.1
    clear hl
    go_enter Try.func79, Try.ntmps79
    go_wp2
    go_ret
    exact ⟨by rw [HR.out]; rfl, rfl⟩
  · have hmx := hl.1
    obtain ⟨b, off, cap, rfl, h4, hlt, hc⟩ := hl.open (by rintro rfl; simp at h)
    have hcell := hc i (by omega)
    have b1 := tmod_bd (l.getD i 0) i
    have N1 := Lib.hid (drawI_neg l i)
    have N2 := Lib.hid (drawI_pos l i)
    clear hc hl
    have hlt : i < l.length := by omega
    generalize l.getD i 0 = x at *
    go_enter Try.func79, Try.ntmps79
    go_wp2
    · have hh : x.tmod (↑i + 1) < 0 := by assumption
      go_ret
      exact ⟨ret_i64 (N1.out hh), rfl⟩
    · have hh : 0 ≤ x.tmod (↑i + 1) := by assumption
      go_ret
      exact ⟨ret_i64 (N2.out hh), rfl⟩
def fdN (x : Int) (l : List Int) : Nat := if fd x l < l.length then fd x l else 0
def fdB (x : Int) (l : List Int) : Bool := decide (fd x l < l.length)
def fdI (x : Int) (l : List Int) : Int := if fd x l < l.length then (fd x l : Int) else -1
theorem fdN_hit {x : Int} {l : List Int} {k : Nat} {A B : Prop} (h : A → B → fd x l = k) (a : A) (b : B) (hlt : k < l.length) : fdN x l = k ∧ fdB x l = true ∧ fdI x l = k := by
  have e := h a b
  unfold fdN fdB fdI; rw [e]; simp [hlt]
theorem fdN_miss {x : Int} {l : List Int} (h : fd x l = l.length) : fdN x l = 0 ∧ fdB x l = false ∧ fdI x l = -1 := by
  unfold fdN fdB fdI; rw [h]; simp
theorem same_any (u v : Value) (l m : List Int) (w : World) (hl : SlI w .i64 u l) (hm : SlI w .i64 v m) :
    Calls Try.prog 18 #[u, v] w fun e w' => ∃ n, e = .returned (.bool (decide (l = m))) ∧ w.drewN n = w' := by
  have hmx := hl.1
  have hmx2 := hm.1
  obtain ⟨_, _, a, cap, rfl, h4, h5⟩ := hl
  obtain ⟨_, _, a', cap', rfl, h4', h5'⟩ := hm
  clear h4 h4'
  by_cases hll : l.length = m.length
  · have hq : ((l.length : Int) != (m.length : Int)) = false := by simp [hll]
    have HL := Lib.hid hll
    have HS := Lib.hid (ext_same l m hll)
    clear hll
    go_enter Try.func18, Try.ntmps18
    go_wp2
    go_loopw [5] (fun c wr => ∃ k n : Nat, k ≤ l.length ∧ c = .int .i64 k ∧ wr = w.drewN n ∧ Hid (∀ j, j < k → l.getD j 0 = m.getD j 0)) (fun c _ => l.length - (intOf c).toNat)
    case atStart => exact ⟨0, 0, by omega, rfl, rfl, fun j hj => by omega⟩
    case round =>
      obtain ⟨k, n, hk, rfl, rfl, hno⟩ := hrel
      by_cases hlt : k < l.length
      · obtain ⟨b, off, rfl, _, hc⟩ := h5 k hlt
        obtain ⟨b', off', rfl, _, hc'⟩ := h5' k (by rw [← HL.out]; exact hlt)
        have hlt' : k < m.length := by rw [← HL.out]; exact hlt
        have H5 := Lib.hid h5
        have H5' := Lib.hid h5'
        clear h5 h5'
        generalize hy : l.getD k 0 = y at hc
        generalize hz : m.getD k 0 = z at hc'
        have Hy := Lib.hid hy
        have Hz := Lib.hid hz
        clear hy hz
        by_cases hyx : y = z
        · subst hyx
          go_wp2
          go_quiet (fail)
          go_wp2
          go_roundw
          case rel => exact ⟨k + 1, n + nq, by omega, by go_num, rfl, fun j hj => by
            by_cases e : j = k
            · rw [e, Hy.out, Hz.out]
            · exact hno.out j (by omega)⟩
          case measure => simp [intOf]; omega
        · have hq2 : (y == z) = false := by simpa using hyx
          go_wp2
          go_quiet (fail)
          go_wp2
          go_ret
          exact ⟨n + nq, ret_bool (by symm; apply decide_eq_false; intro e; apply hyx; rw [← Hy.out, ← Hz.out, e]), (World.drewN_drewN w n nq).symm⟩
      · have e : k = l.length := by omega
        have E := Lib.hid e
        clear e
        go_wp2
        go_ret
        exact ⟨n, ret_bool (by symm; exact decide_eq_true (HS.out fun j hj => hno.out j (by rw [E.out]; exact hj))), rfl⟩
  · have hq : ((l.length : Int) != (m.length : Int)) = true := by simpa using fun h => hll (by omega)
    have hr := Lib.hid (show decide (l = m) = false from decide_eq_false (by rintro rfl; exact hll rfl))
    clear hll
    go_enter Try.func18, Try.ntmps18
    go_wp2
    go_ret
    exact ⟨0, by rw [hr.out]; rfl, rfl⟩
theorem mod_any (x n : Int) (w : World) (h2 : 1 ≤ n) (h3 : n ≤ 1000000) :
    Calls Try.prog 20 #[.int .i64 x, .int .i64 n] w fun e w' => e = .returned (.int .i64 (x % n)) ∧ w = w' := by
  obtain ⟨m, hm⟩ : ∃ m : Nat, n = m + 1 := ⟨(n - 1).toNat, by omega⟩
  have b : -n < x.tmod n ∧ x.tmod n < n := by have := tmod_bd x m; rw [hm]; omega
  have M := Lib.hid (show x % n = if x.tmod n < 0 then x.tmod n + n else x.tmod n by have := tmod_mod x m; rw [hm]; exact this)
  clear hm
  go_enter Try.func20, Try.ntmps20
  go_wp2
  · have hh : x.tmod n < 0 := by assumption
    go_ret
    exact ⟨ret_i64 (by rw [M.out, if_pos hh]), rfl⟩
  · have hh : 0 ≤ x.tmod n := by assumption
    go_ret
    exact ⟨ret_i64 (by rw [M.out, if_neg (by omega)]), rfl⟩
theorem index_any (v : Value) (l : List Int) (w : World) (hl : SlI w .i64 v l) :
    Calls Try.prog 76 #[v] w fun e w' => e = .returned (.tuple #[.int .i64 (idxI l), .bool (idxB l)]) ∧ w = w' := by
  have hmx := hl.1
  have hrg := hl.2.1
  obtain ⟨_, _, a, cap, rfl, h4, h5⟩ := hl
  clear h4
  by_cases h20 : 20 < l.length
  · have H := Lib.hid (idx_long l h20)
    clear h5
    go_enter Try.func76, Try.ntmps76
    go_wp2
    go_ret2
    exact ⟨by rw [H.out.1, H.out.2]; rfl, rfl⟩
  · have hl20 : l.length ≤ 20 := by omega
    clear h20
    go_enter Try.func76, Try.ntmps76
    go_wp2
    go_loop [4, 5, 6, 12] (fun s _ _ c => ∃ a k : Nat, k ≤ l.length ∧ s = .int .i64 a ∧ c = .int .i64 k ∧ Hid (a < fact k) ∧ Hid (okD k (l.drop k) = okD 0 l) ∧ Hid (idxR k a (l.drop k) = idxR 0 0 l)) (fun s _ _ c => l.length - (intOf c).toNat)
    case atStart => exact ⟨0, 0, by omega, rfl, rfl, Lib.hid (by decide), Lib.hid (by simp), Lib.hid (by simp)⟩
    case round =>
      obtain ⟨q, k, hk, rfl, rfl, hq, hok, hix⟩ := hrel
      by_cases hlt : k < l.length
      · obtain ⟨b, off, rfl, _, hc⟩ := h5 k hlt
        have H5 := Lib.hid h5
        have hm := hrg (l.getD k 0) (by simp [List.getD_eq_getElem?_getD, hlt])
        obtain ⟨x, hx⟩ : ∃ x, l.getD k 0 = x := ⟨_, rfl⟩
        rw [hx] at hc hm
        rw [IntKind.wrap_i64] at hm
        have hmb : -9223372036854775808 ≤ x ∧ x ≤ 9223372036854775807 := by omega
        have ST := Lib.hid fun h0 h1 => idx_step l k q hlt (by omega) hq.out x hx h0 h1
        have BD := Lib.hid fun h => idx_bad l k hlt x hx h hok.out
        have HX := Lib.hid hx
        have HR := Lib.hid hrg
        clear h5 hx hm hrg
        by_cases h0 : x < 0
        · clear hmb
          go_wp2
          go_ret2
          obtain ⟨r1, r2⟩ := BD.out (by omega)
          exact ⟨by rw [r1, r2]; rfl, rfl⟩
        · have h0' : 0 ≤ x := by omega
          by_cases h1 : (k : Int) < x
          · clear hmb h0
            go_wp2
            go_ret2
            obtain ⟨r1, r2⟩ := BD.out (by omega)
            exact ⟨by rw [r1, r2]; rfl, rfl⟩
          · have h1' : x ≤ k := by omega
            obtain ⟨s1, s2, s3, s4, s5⟩ := ST.out h0' h1'
            have SS := Lib.hid (And.intro s1 (And.intro s2 (And.intro s3 (And.intro s4 s5))))
            clear hmb h0 s1 s2 s3 s5
            go_wp2
            go_round
            case rel => exact ⟨q * (k + 1) + x.toNat, k + 1, by omega, by rw [show ((q : Int) * ((k : Int) + 1)) = ((q * (k + 1) : Nat) : Int) by push_cast; rfl, SS.out.2.2.2.2], by go_num, Lib.hid SS.out.2.2.1, Lib.hid (by rw [← SS.out.2.1]; exact hok.out), Lib.hid (by rw [← SS.out.1]; exact hix.out)⟩
            case measure => simp [intOf]; omega
      · obtain rfl : k = l.length := by omega
        have H := Lib.hid (idx_end l q hl20 hok.out hix.out)
        clear h5 hrg
        go_wp2
        go_ret2
        exact ⟨by rw [H.out.1, H.out.2]; rfl, rfl⟩

end Go.Proofs.Ytkciejealeinoaa
