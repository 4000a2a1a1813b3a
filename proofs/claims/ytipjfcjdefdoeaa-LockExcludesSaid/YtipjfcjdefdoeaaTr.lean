/- Records of accesses, plainly; the functions of one and of two records. -/
import Derived.Test.YtipjfcjdefdoeaaKinds
import Derived.Test.YtipjfcjdefdoeaaMm
import Derived.Test.YtipjfcjdefdoeaaStill
import Derived.Deep.DeepCutAuto
namespace Go.Proofs.Ytipjfcjdefdoeaa
open Go.ChangeShapes Go.WideShapes Go.ChangeAt Go.RowKit
set_option maxRecDepth 100000

structure ItemM where
  thr : Int
  acc : AccM
  val : Int
  ok : Bool
def noItem : ItemM := ⟨0, ⟨0, 0, 0, 0, 0⟩, 0, false⟩
structure ItemM.good (x : ItemM) : Prop where
  thr : x.thr = IntKind.i64.wrap x.thr
  acc : x.acc.ok
  val : x.val = IntKind.u64.wrap x.val
def itemCells (x : ItemM) : List Value := [.int .i64 x.thr, .int .i64 x.acc.kind, .int .i64 x.acc.addr, .int .u64 x.acc.old, .int .u64 x.acc.new, .int .i64 x.acc.til, .int .u64 x.val, .bool x.ok]
def itemV (x : ItemM) : Value := .agg #[.int .i64 x.thr, .int .i64 x.acc.kind, .int .i64 x.acc.addr, .int .u64 x.acc.old, .int .u64 x.acc.new, .int .i64 x.acc.til, .int .u64 x.val, .bool x.ok]
theorem rowc8 {w : World} {g : Nat} {T : TypeId} {v0 v1 v2 v3 v4 v5 v6 v7 : Value} (h : w.heap[g]? = some (.cells #[v0, v1, v2, v3, v4, v5, v6, v7] T (0, 0))) :
    w.cell? ⟨g, 0, none⟩ = some v0 ∧ w.cell? ⟨g, 1, none⟩ = some v1 ∧ w.cell? ⟨g, 2, none⟩ = some v2 ∧ w.cell? ⟨g, 3, none⟩ = some v3 ∧ w.cell? ⟨g, 4, none⟩ = some v4 ∧ w.cell? ⟨g, 5, none⟩ = some v5 ∧ w.cell? ⟨g, 6, none⟩ = some v6 ∧ w.cell? ⟨g, 7, none⟩ = some v7 :=
  ⟨cell_of_row _ _ 0 _ _ _ h, cell_of_row _ _ 1 _ _ _ h, cell_of_row _ _ 2 _ _ _ h, cell_of_row _ _ 3 _ _ _ h, cell_of_row _ _ 4 _ _ _ h, cell_of_row _ _ 5 _ _ _ h, cell_of_row _ _ 6 _ _ _ h, cell_of_row _ _ 7 _ _ _ h⟩
def zeroAccI : Array Value := #[.int .i64 0, .int .i64 0, .int .u64 0, .int .u64 0, .int .i64 0]
def placeE (x : ItemM) : Int :=
  if x.acc.addr < 0 then 1099511627776 else if 1 ≤ x.acc.kind ∧ x.acc.kind ≤ 6 then x.acc.addr else if 7 ≤ x.acc.kind ∧ x.acc.kind ≤ 9 then -1 - x.acc.addr else 1099511627776
def readsE (x : ItemM) : Bool := x.acc.kind == 1 || x.acc.kind == 3 || x.acc.kind == 4 || x.acc.kind == 5 || x.acc.kind == 7 || x.acc.kind == 8 || x.acc.kind == 9
def changesE (x : ItemM) : Bool := writesB x.acc.kind && (!(x.acc.kind == 3) || x.ok)
def plainB (k : Int) : Bool := decide (5 ≤ k) && decide (k ≤ 9)
def conflictE (x y : ItemM) : Bool := plainB x.acc.kind && plainB y.acc.kind && !(x.thr == y.thr) && (placeE x == placeE y) && (changesE x || changesE y)
theorem neg_wrap {x : Int} (h0 : ¬ x < 0) (h1 : x = IntKind.i64.wrap x) : IntKind.i64.wrap (-1 - x) = -1 - x := by rw [IntKind.wrap_i64] at *; omega
set_option maxHeartbeats 4000000 in
theorem place_any (x : ItemM) (w : World) (hx : x.good) : Calls Try.prog 32 #[itemV x] w fun e w' => e = .returned (.int .i64 (placeE x)) ∧ Below w.heap.size w w' := by
  have hw := hx.acc.addr
  obtain ⟨th, ⟨k, ad, o, nw, ti⟩, vl, ok⟩ := x
  unfold itemV
  dsimp only at hw ⊢
  by_cases hn : ad < 0
  · have hv : placeE ⟨th, ⟨k, ad, o, nw, ti⟩, vl, ok⟩ = 1099511627776 := by simp [placeE, hn]
    rw [hv]
    clear hv hw hx
    go_enter Try.func32, Try.ntmps32
    go_wp2
    go_ret
    exact ⟨rfl, below_new (Below.refl _ _) _⟩
  · have hnw := neg_wrap hn hw
    clear hw hx
    rcases (show k = 1 ∨ k = 2 ∨ k = 3 ∨ k = 4 ∨ k = 5 ∨ k = 6 ∨ k = 7 ∨ k = 8 ∨ k = 9 ∨ (k ≠ 1 ∧ k ≠ 2 ∧ k ≠ 3 ∧ k ≠ 4 ∧ k ≠ 5 ∧ k ≠ 6 ∧ k ≠ 7 ∧ k ≠ 8 ∧ k ≠ 9) by omega) with rfl | rfl | rfl | rfl | rfl | rfl | rfl | rfl | rfl | h
    · have hv : placeE ⟨th, ⟨1, ad, o, nw, ti⟩, vl, ok⟩ = ad := by simp [placeE, hn]
      rw [hv]
      clear hv
      go_enter Try.func32, Try.ntmps32
      go_wp2
      go_ret
      exact ⟨rfl, below_new (Below.refl _ _) _⟩
    · have hv : placeE ⟨th, ⟨2, ad, o, nw, ti⟩, vl, ok⟩ = ad := by simp [placeE, hn]
      rw [hv]
      clear hv
      go_enter Try.func32, Try.ntmps32
      go_wp2
      go_ret
      exact ⟨rfl, below_new (Below.refl _ _) _⟩
    · have hv : placeE ⟨th, ⟨3, ad, o, nw, ti⟩, vl, ok⟩ = ad := by simp [placeE, hn]
      rw [hv]
      clear hv
      go_enter Try.func32, Try.ntmps32
      go_wp2
      go_ret
      exact ⟨rfl, below_new (Below.refl _ _) _⟩
    · have hv : placeE ⟨th, ⟨4, ad, o, nw, ti⟩, vl, ok⟩ = ad := by simp [placeE, hn]
      rw [hv]
      clear hv
      go_enter Try.func32, Try.ntmps32
      go_wp2
      go_ret
      exact ⟨rfl, below_new (Below.refl _ _) _⟩
    · have hv : placeE ⟨th, ⟨5, ad, o, nw, ti⟩, vl, ok⟩ = ad := by simp [placeE, hn]
      rw [hv]
      clear hv
      go_enter Try.func32, Try.ntmps32
      go_wp2
      go_ret
      exact ⟨rfl, below_new (Below.refl _ _) _⟩
    · have hv : placeE ⟨th, ⟨6, ad, o, nw, ti⟩, vl, ok⟩ = ad := by simp [placeE, hn]
      rw [hv]
      clear hv
      go_enter Try.func32, Try.ntmps32
      go_wp2
      go_ret
      exact ⟨rfl, below_new (Below.refl _ _) _⟩
    · have hv : placeE ⟨th, ⟨7, ad, o, nw, ti⟩, vl, ok⟩ = -1 - ad := by simp [placeE, hn]
      rw [hv]
      clear hv
      go_enter Try.func32, Try.ntmps32
      go_wp2
      go_ret
      exact ⟨rfl, below_new (Below.refl _ _) _⟩
    · have hv : placeE ⟨th, ⟨8, ad, o, nw, ti⟩, vl, ok⟩ = -1 - ad := by simp [placeE, hn]
      rw [hv]
      clear hv
      go_enter Try.func32, Try.ntmps32
      go_wp2
      go_ret
      exact ⟨rfl, below_new (Below.refl _ _) _⟩
    · have hv : placeE ⟨th, ⟨9, ad, o, nw, ti⟩, vl, ok⟩ = -1 - ad := by simp [placeE, hn]
      rw [hv]
      clear hv
      go_enter Try.func32, Try.ntmps32
      go_wp2
      go_ret
      exact ⟨rfl, below_new (Below.refl _ _) _⟩
    · have hv : placeE ⟨th, ⟨k, ad, o, nw, ti⟩, vl, ok⟩ = 1099511627776 := by
        unfold placeE
        rw [if_neg hn, if_neg (by dsimp only; omega), if_neg (by dsimp only; omega)]
      rw [hv]
      clear hv hnw
      have k1 := ne_beq (show k ≠ 1 by omega)
      have k2 := ne_beq (show k ≠ 2 by omega)
      have k3 := ne_beq (show k ≠ 3 by omega)
      have k4 := ne_beq (show k ≠ 4 by omega)
      have k5 := ne_beq (show k ≠ 5 by omega)
      have k6 := ne_beq (show k ≠ 6 by omega)
      have k7 := ne_beq (show k ≠ 7 by omega)
      have k8 := ne_beq (show k ≠ 8 by omega)
      have k9 := ne_beq (show k ≠ 9 by omega)
      go_enter Try.func32, Try.ntmps32
      go_wp2
      go_ret
      exact ⟨rfl, below_new (Below.refl _ _) _⟩
set_option maxHeartbeats 4000000 in
theorem plain_any (x : ItemM) (w : World) : Calls Try.prog 49 #[itemV x] w fun e w' => e = .returned (.bool (plainB x.acc.kind)) ∧ Below w.heap.size w w' := by
  obtain ⟨th, ⟨k, ad, o, nw, ti⟩, vl, ok⟩ := x
  unfold itemV
  dsimp only
  rcases (show k = 1 ∨ k = 2 ∨ k = 3 ∨ k = 4 ∨ k = 5 ∨ k = 6 ∨ k = 7 ∨ k = 8 ∨ k = 9 ∨ (k ≠ 1 ∧ k ≠ 2 ∧ k ≠ 3 ∧ k ≠ 4 ∧ k ≠ 5 ∧ k ≠ 6 ∧ k ≠ 7 ∧ k ≠ 8 ∧ k ≠ 9) by omega) with rfl | rfl | rfl | rfl | rfl | rfl | rfl | rfl | rfl | h
  · go_enter Try.func49, Try.ntmps49
    go_wp2
    go_ret
    exact ⟨rfl, below_new (Below.refl _ _) _⟩
  · go_enter Try.func49, Try.ntmps49
    go_wp2
    go_ret
    exact ⟨rfl, below_new (Below.refl _ _) _⟩
  · go_enter Try.func49, Try.ntmps49
    go_wp2
    go_ret
    exact ⟨rfl, below_new (Below.refl _ _) _⟩
  · go_enter Try.func49, Try.ntmps49
    go_wp2
    go_ret
    exact ⟨rfl, below_new (Below.refl _ _) _⟩
  · go_enter Try.func49, Try.ntmps49
    go_wp2
    go_ret
    exact ⟨rfl, below_new (Below.refl _ _) _⟩
  · go_enter Try.func49, Try.ntmps49
    go_wp2
    go_ret
    exact ⟨rfl, below_new (Below.refl _ _) _⟩
  · go_enter Try.func49, Try.ntmps49
    go_wp2
    go_ret
    exact ⟨rfl, below_new (Below.refl _ _) _⟩
  · go_enter Try.func49, Try.ntmps49
    go_wp2
    go_ret
    exact ⟨rfl, below_new (Below.refl _ _) _⟩
  · go_enter Try.func49, Try.ntmps49
    go_wp2
    go_ret
    exact ⟨rfl, below_new (Below.refl _ _) _⟩
  · have k1 := ne_beq (show k ≠ 1 by omega)
    have k2 := ne_beq (show k ≠ 2 by omega)
    have k3 := ne_beq (show k ≠ 3 by omega)
    have k4 := ne_beq (show k ≠ 4 by omega)
    have k5 := ne_beq (show k ≠ 5 by omega)
    have k6 := ne_beq (show k ≠ 6 by omega)
    have k7 := ne_beq (show k ≠ 7 by omega)
    have k8 := ne_beq (show k ≠ 8 by omega)
    have k9 := ne_beq (show k ≠ 9 by omega)
    have hv : (plainB k) = false := by simp [plainB, plainB]; try omega
    go_enter Try.func49, Try.ntmps49
    go_wp2
    go_ret
    exact ⟨ret_bool hv.symm, below_new (Below.refl _ _) _⟩
set_option maxHeartbeats 4000000 in
theorem changes_any (x : ItemM) (w : World) : Calls Try.prog 50 #[itemV x] w fun e w' => e = .returned (.bool (changesE x)) ∧ Below w.heap.size w w' := by
  obtain ⟨th, ⟨k, ad, o, nw, ti⟩, vl, ok⟩ := x
  unfold itemV
  dsimp only
  have TW := Lib.hid fun w' => writes_any k w'
  have HV : Hid (changesE ⟨th, ⟨k, ad, o, nw, ti⟩, vl, ok⟩ = (writesB k && (!(k == 3) || ok))) := rfl
  generalize writesB k = wb at *
  obtain ⟨W, hW⟩ : ∃ W, w.alloc (.cells #[.int .i64 th, .int .i64 k, .int .i64 ad, .int .u64 o, .int .u64 nw, .int .i64 ti, .int .u64 vl, .bool ok] 42) = W := ⟨_, rfl⟩
  have HB : Hid (Below w.heap.size w W) := hW ▸ below_new (Below.refl w.heap.size w) _
  have R1 : Hid (W.heap[w.heap.size]? = some (.cells #[.int .i64 th, .int .i64 k, .int .i64 ad, .int .u64 o, .int .u64 nw, .int .i64 ti, .int .u64 vl, .bool ok] 42 (0, 0))) := hW ▸ heap_alloc_new _ _
  have HW := Lib.hid hW
  clear hW
  go_enter Try.func50, Try.ntmps50
  go_upto_region 1 with fail
  rw [HW.out]
  clear HW
  obtain ⟨y0, y1, y2, y3, y4, y5, y6, y7⟩ := rowc8 R1.out
  by_cases hk : k = 3
  · subst hk
    cases ok <;> cases wb
    all_goals
      go_wp2_with (go_at_call 65; refine (TW.out _).mono ?_; rintro e w2 ⟨rfl, rfl⟩)
      go_ret
      exact ⟨ret_bool (by rw [HV.out]; rfl), HB.out⟩
  · have k3 := ne_beq hk
    have k3n : (k != 3) = true := by simpa using hk
    have HK := Lib.hid k3
    cases ok <;> cases wb
    all_goals
      go_wp2_with (go_at_call 65; refine (TW.out _).mono ?_; rintro e w2 ⟨rfl, rfl⟩)
      go_ret
      exact ⟨ret_bool (by rw [HV.out, HK.out]; rfl), HB.out⟩
end Go.Proofs.Ytipjfcjdefdoeaa
