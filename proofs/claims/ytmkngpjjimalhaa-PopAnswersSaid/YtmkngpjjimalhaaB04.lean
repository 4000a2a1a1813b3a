import Derived.Test.YtmkngpjjimalhaaRows
import Derived.Deep.QuietTactic
import Derived.BigQuiet
import Derived.Laws.AppendOwnNone
import Derived.Test.YtmkngpjjimalhaaB01
import Derived.Test.YtmkngpjjimalhaaB03
import Derived.Test.YtmkngpjjimalhaaB02
set_option linter.unusedVariables false
set_option linter.unusedSimpArgs false
/- The reader of choices (package chanfabricdraw): its state in memory, and what its small methods do to it. -/
namespace Go.Proofs.Ytmkngpjjimalhaa
open Go.ChangeShapes Go.WideShapes Go.ChangeAt Go.RowKit
set_option maxRecDepth 100000

/-- the reader in block g has the choices r left, and its counter of values stands at val -/
def CodesAt (w : World) (g : Nat) (r : List Int) (val : Int) : Prop :=
  ∃ v l, ∃ k : Nat, w.heap[g]? = some (.cells #[v, .int .i64 k, .int .u64 val] 70 (0, 0)) ∧ SlI w .u8 v l ∧ k ≤ l.length ∧ r = l.drop k ∧ (l ≠ [] → ∀ a n c, v = .slice a n c → ∀ b, a = some b → b.block < g)
theorem CodesAt.drew {w : World} {g : Nat} {r : List Int} {val : Int} (h : CodesAt w g r val) (n : Nat) : CodesAt (w.drewN n) g r val := h
theorem CodesAt.lt {w : World} {g : Nat} {r : List Int} {val : Int} (h : CodesAt w g r val) : g < w.heap.size := by
  obtain ⟨v, l, k, hg, _⟩ := h
  exact (Array.getElem?_eq_some_iff.1 hg).1
theorem CodesAt.kept {w w' : World} {g B : Nat} {r : List Int} {val : Int} (h : CodesAt w g r val) (hB : g < B) (hb : Below B w w') : CodesAt w' g r val := by
  obtain ⟨v, l, k, hg, ⟨m1, m2, a, cap, rfl, hcap, h5⟩, hk, hr, h4⟩ := h
  refine ⟨_, l, k, (hb.block g hB).trans hg, ⟨m1, m2, a, cap, rfl, hcap, fun t ht => ?_⟩, hk, hr, h4⟩
  obtain ⟨b, off, e, hlt, hc⟩ := h5 t ht
  have hbg := h4 (by rintro rfl; simp at ht) _ _ _ rfl _ e
  exact ⟨b, off, e, Nat.lt_of_lt_of_le hlt hb.size, (hb.cell (p := ⟨b, off + t, none⟩) (by simp at hbg ⊢; omega)).trans hc⟩
/-- one choice -/
def nxt (r : List Int) (n : Int) : Int := match r with | [] => 0 | c :: _ => c % n

theorem nxt_bd (r : List Int) (n : Int) (h : 1 ≤ n) : 0 ≤ nxt r n ∧ nxt r n < n := by
  unfold nxt
  split
  · omega
  · exact ⟨Int.emod_nonneg _ (by omega), Int.emod_lt_of_pos _ (by omega)⟩
theorem left_any (g : Nat) (r : List Int) (val : Int) (w : World) (h : CodesAt w g r val) :
    Calls Try.prog 20 #[.pointer (some ⟨g, 0, none⟩)] w fun e w' => ∃ n, e = .returned (.bool (!r.isEmpty)) ∧ w.drewN n = w' := by
  obtain ⟨v, l, k, hg, hl, hk, rfl, _⟩ := h
  have hmx := hl.1
  obtain ⟨a, cap, rfl, _⟩ := hl.len
  have c0 := cell_of_row w g 0 _ _ _ hg
  have c1 := cell_of_row w g 1 _ _ _ hg
  simp at c0 c1
  clear hg hl
  have hr : ((l.drop k).isEmpty) = decide (l.length ≤ k) := by
    rw [Bool.eq_iff_iff]; simp
  have HR := Lib.hid hr
  clear hr
  go_enter Try.func20, Try.ntmps20
  go_wp2
  go_quiet (fail)
  go_wp2
  go_ret
  exact ⟨nq, ret_bool (by rw [HR.out]; by_cases e : k < l.length <;> simp [e] <;> omega), rfl⟩
theorem codes_step {w : World} {g : Nat} {val : Int} {b off n cap k : Nat} {l : List Int}
    (hg : w.heap[g]? = some (.cells #[.slice (some ⟨b, off, none⟩) n cap, .int .i64 k, .int .u64 val] 70 (0, 0)))
    (hl : SlI w .u8 (.slice (some ⟨b, off, none⟩) n cap) l) (hlt : k < l.length) (hbg0 : b < g) (m : Nat) :
    (CodesAt (w.setCell ⟨g, 1, none⟩ (.int .i64 ((k : Int) + 1))) g (l.drop k).tail val) ∧
    w.grownBy ((w.setCell ⟨g, 1, none⟩ (.int .i64 ((k : Int) + 1))).drewN m) (some g) ∧
    (w.setCell ⟨g, 1, none⟩ (.int .i64 ((k : Int) + 1))).cell? ⟨g, 0, none⟩ = some (.slice (some ⟨b, off, none⟩) n cap) ∧
    (w.setCell ⟨g, 1, none⟩ (.int .i64 ((k : Int) + 1))).cell? ⟨g, 1, none⟩ = some (.int .i64 ((k : Int) + 1)) ∧
    (w.setCell ⟨g, 1, none⟩ (.int .i64 ((k : Int) + 1))).cell? ⟨b, off + k, none⟩ = some (.int .u8 (l.getD k 0)) := by
  have hbg : b ≠ g := by omega
  have hs := heap_setCell_same w g 1 _ _ (.int .i64 ((k : Int) + 1)) hg
  have ho : ∀ j, j ≠ g → (w.setCell ⟨g, 1, none⟩ (.int .i64 ((k : Int) + 1))).heap[j]? = w.heap[j]? := fun j hj => heap_setCell_other w ⟨g, 1, none⟩ j _ hj
  have e0 := cell_of_row _ g 0 _ _ _ hs
  have e1 := cell_of_row _ g 1 _ _ _ hs
  have hcell : ∀ j, (w.setCell ⟨g, 1, none⟩ (.int .i64 ((k : Int) + 1))).cell? ⟨b, j, none⟩ = w.cell? ⟨b, j, none⟩ := fun j => World.cell?_of_block (ho b hbg)
  obtain ⟨m1, m2, a', cap', e, hle, h5⟩ := hl
  simp only [Value.slice.injEq] at e
  obtain ⟨rfl, rfl, rfl⟩ := e
  have hsz : (w.setCell ⟨g, 1, none⟩ (.int .i64 ((k : Int) + 1))).heap.size = w.heap.size := by simp
  refine ⟨⟨_, l, k + 1, by simpa using hs, ⟨m1, m2, _, _, rfl, hle, fun t ht => ?_⟩, hlt, by rw [List.tail_drop], ?_⟩, ⟨rfl, rfl, rfl, by simp, fun j _ hj => ho j (fun e => hj (by rw [e]))⟩, by simpa using e0, by simpa using e1, ?_⟩
  · obtain ⟨b1, o1, e2, h6, h7⟩ := h5 t ht
    simp only [Option.some.injEq, Addr.mk.injEq, and_true] at e2
    obtain ⟨rfl, rfl⟩ := e2
    exact ⟨_, _, rfl, by rw [hsz]; exact h6, (hcell _).trans h7⟩
  · intro _ a n c e bb e2
    simp only [Value.slice.injEq] at e
    rw [← e.1] at e2
    cases e2
    exact hbg0
  · obtain ⟨b1, o1, e2, h6, h7⟩ := h5 k hlt
    simp only [Option.some.injEq, Addr.mk.injEq, and_true] at e2
    obtain ⟨rfl, rfl⟩ := e2
    exact (hcell _).trans h7
theorem next_any (g : Nat) (r : List Int) (val n : Int) (w : World) (h : CodesAt w g r val) (h1 : 1 ≤ n) (h2 : n ≤ 256) :
    Calls Try.prog 12 #[.pointer (some ⟨g, 0, none⟩), .int .i64 n] w fun e w' => e = .returned (.int .i64 (nxt r n)) ∧ CodesAt w' g r.tail val ∧ w.grownBy w' (some g) := by
  have h0 := h
  obtain ⟨v, l, k, hg, hl, hk, hr, hv⟩ := h
  have hmx := hl.1
  by_cases hlt : k < l.length
  · obtain ⟨b, off, cap, rfl, hcap, hb, hc⟩ := hl.open (by rintro rfl; simp at hlt)
    have c0 := cell_of_row w g 0 _ _ _ hg
    have c1 := cell_of_row w g 1 _ _ _ hg
    have f1 := frozen_of_row w g 1 _ _ hg
    simp at c0 c1
    have hu := hl.2.1 (l.getD k 0) (by simp [List.getD_eq_getElem?_getD, hlt])
    have ST := Lib.hid fun m q => codes_step (w := w.drewN m) hg (hl.drew m) hlt (hv (by rintro rfl; simp at hlt) _ _ _ rfl _ rfl) q
    have hre : r.isEmpty = false := by rw [hr]; simp; omega
    have hn := Lib.hid (show nxt r n = l.getD k 0 % n by rw [hr, List.drop_eq_getElem_cons hlt]; simp [nxt, List.getD_eq_getElem?_getD, hlt])
    have L := Lib.hid fun w' => left_any g r val w'
    have H0 := Lib.hid h0
    have HR := Lib.hid hr
    have hkx : k ≤ 140737488351232 := by omega
    generalize l.getD k 0 = x at *
    have hx : 0 ≤ x ∧ x < 256 := by rw [hu, IntKind.wrap_u8]; omega
    obtain ⟨hx0, hx1⟩ := hx
    have e1 := Int.tmod_eq_emod_of_nonneg (b := n) hx0
    have e2 := Int.emod_nonneg x (show n ≠ 0 by omega)
    have e3 := Int.emod_lt_of_pos x (show 0 < n by omega)
    have hltI : (k : Int) < l.length := by omega
    clear hg hl hc hv hr h0 hu
    have EX := Lib.hid e1
    clear e1
    go_enter Try.func12, Try.ntmps12
    go_wp2_with (go_at_call 20; refine (L.out _ H0.out).mono ?_; rintro e w' ⟨m, rfl, rfl⟩)
    obtain ⟨s1, s5, s2, s3, s4⟩ := ST.out m 0
    have SS := Lib.hid (And.intro s1 s5)
    clear s1 s5 c0 c1 f1
    generalize (w.drewN m).setCell _ _ = W1 at *
    go_quiet (fail)
    go_wp2
    go_ret
    exact ⟨ret_i64 (hn.out.symm), by rw [HR.out]; exact SS.out.1, ⟨SS.out.2.os, SS.out.2.tape, SS.out.2.output, SS.out.2.size, SS.out.2.block⟩⟩
  · have hr0 : r = [] := by rw [hr]; simp; omega
    subst hr0
    have L := Lib.hid fun w' => left_any g [] val w'
    have H0 := Lib.hid h0
    clear hg hl hv hr h0
    go_enter Try.func12, Try.ntmps12
    go_wp2_with (go_at_call 20; refine (L.out _ H0.out).mono ?_; rintro e w' ⟨m, rfl, rfl⟩)
    go_ret
    exact ⟨rfl, H0.out, ⟨rfl, rfl, rfl, Nat.le_refl _, fun _ _ _ => rfl⟩⟩
theorem new_any (v : Value) (l : List Int) (m : Nat) (w : World) (hl : SlI w .u8 v l) (hm : m ≤ 1000) :
    Calls Try.prog 10 #[v, .int .i64 m] w fun e w' => e = .returned (.pointer (some ⟨w.heap.size, 0, none⟩)) ∧ CodesAt w' w.heap.size (l.take m) 0 ∧ Below w.heap.size w w' := by
  have h0 := hl
  obtain ⟨m1, m2, a, cap, rfl, hcap, h5⟩ := hl
  by_cases hlt : m < l.length
  · obtain ⟨b, off, rfl, hb, -⟩ := h5 m hlt
    have hlen : (l.take m).length = m := by simp; omega
    have hfin : SlI (w.alloc (.cells #[.slice (some ⟨b, off, none⟩) m cap, .int .i64 0, .int .u64 0] 70)) .u8 (.slice (some ⟨b, off, none⟩) m cap) (l.take m) := by
      refine ⟨by omega, fun x hx => m2 x (List.mem_of_mem_take hx), _, cap, by rw [hlen], by omega, fun t ht => ?_⟩
      have ht' : t < m := by simp at ht; omega
      obtain ⟨b', off', e, hb', hc⟩ := h5 t (by omega)
      simp only [Option.some.injEq, Addr.mk.injEq, and_true] at e
      obtain ⟨rfl, rfl⟩ := e
      refine ⟨b, off, rfl, by simp; omega, ?_⟩
      rw [World.cell?_alloc_past _ _ _ hb', hc]
      simp [List.getD_eq_getElem?_getD, ht']
    have HF := Lib.hid hfin
    clear hfin h5
    have hmc : (m : Int) ≤ cap := by omega
    have hb' : b < w.heap.size := hb
    clear hlen h0 m2
    go_enter Try.func10, Try.ntmps10
    go_wp2
    go_ret
    exact ⟨rfl, ⟨_, l.take m, 0, heap_alloc_new w _, HF.out, Nat.zero_le _, rfl, fun _ a n c e b2 e2 => by
      simp only [Value.slice.injEq] at e
      rw [← e.1] at e2
      cases e2
      exact hb'⟩, (Below.refl _ _).alloc (Nat.le_refl _) _⟩
  · have e : l.take m = l := List.take_of_length_le (by omega)
    rw [e]
    have hfin : SlI (w.alloc (.cells #[.slice a l.length cap, .int .i64 0, .int .u64 0] 70)) .u8 (.slice a l.length cap) l := h0.below ((Below.refl _ _).alloc (Nat.le_refl _) _)
    have HF := Lib.hid hfin
    have H5 := Lib.hid h5
    clear hfin h5 e h0 m2
    go_enter Try.func10, Try.ntmps10
    go_wp2
    go_ret
    refine ⟨rfl, ⟨_, l, 0, heap_alloc_new w _, HF.out, Nat.zero_le _, rfl, fun hne a n c e b2 e2 => ?_⟩, (Below.refl _ _).alloc (Nat.le_refl _) _⟩
    simp only [Value.slice.injEq] at e
    obtain ⟨b, off, e3, hb, _⟩ := H5.out 0 (List.length_pos_iff.2 hne)
    rw [← e.1, e3] at e2
    cases e2
    exact hb
end Go.Proofs.Ytmkngpjjimalhaa
/- Lists of records (eight cells each): as they read, and as the call owns them; append. -/
namespace Go.Proofs.Ytmkngpjjimalhaa
open Go.ChangeShapes Go.WideShapes Go.ChangeAt Go.RowKit
set_option maxRecDepth 100000

/-- at offset off of block g lies the record x -/
def ItemAt (w : World) (g off : Nat) (x : ItemM) : Prop :=
  w.cell? ⟨g, off + 0, none⟩ = some (.int .i64 x.thr) ∧ w.cell? ⟨g, off + 1, none⟩ = some (.int .i64 x.acc.kind) ∧ w.cell? ⟨g, off + 2, none⟩ = some (.int .i64 x.acc.addr) ∧ w.cell? ⟨g, off + 3, none⟩ = some (.int .u64 x.acc.old) ∧ w.cell? ⟨g, off + 4, none⟩ = some (.int .u64 x.acc.new) ∧ w.cell? ⟨g, off + 5, none⟩ = some (.int .i64 x.acc.til) ∧ w.cell? ⟨g, off + 6, none⟩ = some (.int .u64 x.val) ∧ w.cell? ⟨g, off + 7, none⟩ = some (.bool x.ok)
/-- The slice value v reads in w as the list l of records. -/
def SlT (w : World) (v : Value) (l : List ItemM) : Prop :=
  l.length ≤ 140737488351232 ∧ (∀ x ∈ l, x.good) ∧ ∃ a cap, v = .slice a l.length cap ∧ l.length ≤ cap ∧ ∀ t, t < l.length → ∃ b off, a = some ⟨b, off, none⟩ ∧ b < w.heap.size ∧ ItemAt w b (off + t * 8) (l.getD t noItem)
theorem SlT.below {w w' : World} {v : Value} {l : List ItemM} (h : SlT w v l) (hb : Below w.heap.size w w') : SlT w' v l := by
  obtain ⟨h1, h2, a, cap, h3, h4, h5⟩ := h
  refine ⟨h1, h2, a, cap, h3, h4, fun t ht => ?_⟩
  obtain ⟨b, off, e, hlt, c0, c1, c2, c3, c4, c5, c6, c7⟩ := h5 t ht
  have hc : ∀ j, w'.cell? ⟨b, j, none⟩ = w.cell? ⟨b, j, none⟩ := fun j => hb.cell (p := ⟨b, j, none⟩) hlt
  exact ⟨b, off, e, Nat.lt_of_lt_of_le hlt hb.size, (hc _).trans c0, (hc _).trans c1, (hc _).trans c2, (hc _).trans c3, (hc _).trans c4, (hc _).trans c5, (hc _).trans c6, (hc _).trans c7⟩
theorem SlT.len {w : World} {v : Value} {l : List ItemM} (h : SlT w v l) : ∃ a cap, v = .slice a l.length cap ∧ l.length ≤ cap := by
  obtain ⟨_, _, a, cap, rfl, h4, _⟩ := h
  exact ⟨a, cap, rfl, h4⟩
theorem SlT.nil (w : World) : SlT w (.slice none 0 0) [] := ⟨by simp, by simp, none, 0, rfl, Nat.le_refl _, fun t ht => by simp at ht⟩
theorem SlT.open {w : World} {v : Value} {l : List ItemM} (h : SlT w v l) (hne : l ≠ []) :
    ∃ b off cap, v = .slice (some ⟨b, off, none⟩) l.length cap ∧ l.length ≤ cap ∧ b < w.heap.size ∧ ∀ t, t < l.length → ItemAt w b (off + t * 8) (l.getD t noItem) := by
  obtain ⟨_, _, a, cap, rfl, h4, h5⟩ := h
  obtain ⟨b, off, rfl, hlt, _⟩ := h5 0 (List.length_pos_iff.2 hne)
  refine ⟨b, off, cap, rfl, h4, hlt, fun t ht => ?_⟩
  obtain ⟨b', off', e, _, hc⟩ := h5 t ht
  simp only [Option.some.injEq, Addr.mk.injEq] at e
  obtain ⟨rfl, rfl, _⟩ := e
  exact hc
/-- The slice value v owns, among the blocks from base on, a row of cases that reads as l. -/
def OwnT (w : World) (base : Nat) (v : Value) (l : List ItemM) : Prop :=
  w.ownsRow base 106 8 v l.length (l.flatMap itemCells)
theorem flatT_length (l : List ItemM) : (l.flatMap itemCells).length = l.length * 8 := by
  induction l with
  | nil => rfl
  | cons x l ih => rw [List.flatMap_cons, List.length_append, ih, List.length_cons]; simp [itemCells]; omega
theorem flatT_get (l : List ItemM) (t j : Nat) (ht : t < l.length) (hj : j < 8) : (l.flatMap itemCells)[t * 8 + j]? = (itemCells (l.getD t noItem))[j]? := by
  induction l generalizing t with
  | nil => simp at ht
  | cons x l ih =>
    rw [List.flatMap_cons]
    have hx : (itemCells x).length = 8 := rfl
    cases t with
    | zero => rw [List.getElem?_append_left (by rw [hx]; omega)]; simp
    | succ t =>
      rw [List.getElem?_append_right (by rw [hx]; omega), hx, show (t + 1) * 8 + j - 8 = t * 8 + j by omega, ih t (by simpa using ht)]
      simp
theorem OwnT.nil (w : World) (base : Nat) : OwnT w base (.slice none 0 0) [] := World.ownsRow_nil w base _ 8
theorem OwnT.shape {w : World} {base : Nat} {v : Value} {l : List ItemM} (h : OwnT w base v l) :
    (v = .slice none 0 0 ∧ l = []) ∨ ∃ g cap, v = .slice (some ⟨g, 0, none⟩) l.length cap ∧ base ≤ g ∧ g < w.heap.size ∧ l.length ≤ cap := by
  rcases h.2 with ⟨rfl, h2⟩ | ⟨g, cap, cur, rfl, h3, h4, h5, h6, _, _⟩
  · exact .inl ⟨rfl, List.length_eq_zero_iff.1 h2⟩
  · exact .inr ⟨g, cap, rfl, h3, (Array.getElem?_eq_some_iff.1 h4).1, h5⟩
theorem OwnT.len {w : World} {base : Nat} {v : Value} {l : List ItemM} (h : OwnT w base v l) : ∃ a cap, v = .slice a l.length cap := by
  rcases h.shape with ⟨rfl, rfl⟩ | ⟨g, cap, rfl, _⟩
  · exact ⟨_, _, rfl⟩
  · exact ⟨_, _, rfl⟩
theorem OwnT.read {w : World} {base : Nat} {v : Value} {l : List ItemM} (h : OwnT w base v l) (hl : l.length ≤ 140737488351232) (hw : ∀ x ∈ l, x.good) : SlT w v l := by
  have h0 := h
  rcases h.shape with ⟨rfl, rfl⟩ | ⟨g, cap, rfl, h1, h2, h3⟩
  · exact SlT.nil w
  · refine ⟨hl, hw, some ⟨g, 0, none⟩, cap, rfl, h3, fun t ht => ⟨g, 0, rfl, h2, ?_⟩⟩
    have hc : ∀ j, j < 8 → w.cell? ⟨g, t * 8 + j, none⟩ = (itemCells (l.getD t noItem))[j]? := fun j hj => by
      rw [World.ownsRow.cellAt h0 (t * 8 + j) (by omega), flatT_get l t j ht hj]
    have c0 := hc 0 (by omega)
    have c1 := hc 1 (by omega)
    have c2 := hc 2 (by omega)
    have c3 := hc 3 (by omega)
    have c4 := hc 4 (by omega)
    have c5 := hc 5 (by omega)
    have c6 := hc 6 (by omega)
    have c7 := hc 7 (by omega)
    rw [Nat.zero_add]
    exact ⟨by simpa [itemCells] using c0, by simpa [itemCells] using c1, by simpa [itemCells] using c2, by simpa [itemCells] using c3, by simpa [itemCells] using c4, by simpa [itemCells] using c5, by simpa [itemCells] using c6, by simpa [itemCells] using c7⟩
theorem OwnT.kept {w w' : World} {base : Nat} {v : Value} {l : List ItemM} {row : Option Nat} (h : OwnT w base v l) (hg : w.grownBy w' row) (hne : v.ownBlock = none ∨ v.ownBlock ≠ row) : OwnT w' base v l := World.ownsRow.kept h hg hne
theorem OwnT.alloc {w : World} {base : Nat} {v : Value} {l : List ItemM} (h : OwnT w base v l) (o : Obj) : OwnT (w.alloc o) base v l := World.ownsRow.alloc h o
theorem OwnT.own_ge {w : World} {base : Nat} {v : Value} {l : List ItemM} (h : OwnT w base v l) : ∀ j, v.ownBlock = some j → base ≤ j := fun j hj => (World.ownsRow.lt h j hj).1
theorem OwnT.ne {w : World} {base : Nat} {v : Value} {l : List ItemM} (h : OwnT w base v l) {g : Nat} (hg : g < base) : v.ownBlock = none ∨ v.ownBlock ≠ some g := by
  cases hv : v.ownBlock with
  | none => exact .inl rfl
  | some b => exact .inr fun e => by have := h.own_ge b hv; cases e; omega
theorem OwnT.below {w w' : World} {base : Nat} {v : Value} {l : List ItemM} (h : OwnT w base v l) (hb : Below w.heap.size w w') : OwnT w' base v l := by
  refine h.kept (row := none) ⟨hb.os, hb.tape, hb.output, hb.size, fun j hj _ => hb.block j hj⟩ ?_
  cases hv : v.ownBlock with
  | none => exact .inl rfl
  | some x => exact .inr (by simp)
theorem OwnT.mono_base {w : World} {base b' : Nat} {v : Value} {l : List ItemM} (h : OwnT w base v l) (hb : b' ≤ base) : OwnT w b' v l := by
  refine ⟨h.1, ?_⟩
  rcases h.2 with h1 | ⟨g, cap, cur, h1, h2, h3⟩
  · exact .inl h1
  · exact .inr ⟨g, cap, cur, h1, Nat.le_trans hb h2, h3⟩
theorem Try.info_item : (Try.prog.info? 106).map (fun i => (i.zero, i.size, i.bytes)) = some (some (.agg #[.int .i64 0, .int .i64 0, .int .i64 0, .int .u64 0, .int .u64 0, .int .i64 0, .int .u64 0, .bool false]), 8, 64) := by kernel_rfl
section
variable (w : World) {ops : Array Oper} {rest : List Oper} {o : Oper} {a : Act} {Q : Exit → Act → World → Prop}
theorem wp_append_item (hg : o.guard = none) (s x : Operand) (hop : o.op = Op.call { callee := Callee.builtin Builtin.append, args := #[s, x], argTypes := #[43, 43] })
    (base : Nat) (v : Value) (l : List ItemM) (hs : a.eval s = v) (hown : OwnT w base v l) (y : ItemM) (g : Nat)
    (hx : a.eval x = .slice (some ⟨g, 0, none⟩) 1 1) (hcell : ItemAt w g 0 y) (hl : l.length ≤ 1000000) (hb : base ≤ w.heap.size)
    (hK : ∀ v' w', OwnT w' base v' (l ++ [y]) → w.grownBy w' v.ownBlock → wpList Try.prog ops Q rest (a.put o.dst v') w') :
    wpList Try.prog ops Q (o :: rest) a w := by
  obtain ⟨i0, hi, hz0, hz1, hz2⟩ := info_parts Try.info_item
  refine wpList_append_own w hg s x _ hop base _ i0 _ 8 _ (by kernel_rfl) hi hz0 hz1 rfl rfl (by decide) v l.length _ hs hown ⟨g, 0, none⟩ 1 1 (itemCells y) hx rfl ?_ ?_ (by unfold maxLen; omega) (by rw [hz2]; omega) hb fun v' w' h1 h2 h3 => hK v' w' ?_ h2
  · obtain ⟨c0, c1, c2, c3, c4, c5, c6, c7⟩ := hcell
    intro j u hj
    match j, hj with
    | 0, hj => simp [itemCells] at hj; subst hj; simpa [Addr.add] using c0
    | 1, hj => simp [itemCells] at hj; subst hj; simpa [Addr.add] using c1
    | 2, hj => simp [itemCells] at hj; subst hj; simpa [Addr.add] using c2
    | 3, hj => simp [itemCells] at hj; subst hj; simpa [Addr.add] using c3
    | 4, hj => simp [itemCells] at hj; subst hj; simpa [Addr.add] using c4
    | 5, hj => simp [itemCells] at hj; subst hj; simpa [Addr.add] using c5
    | 6, hj => simp [itemCells] at hj; subst hj; simpa [Addr.add] using c6
    | 7, hj => simp [itemCells] at hj; subst hj; simpa [Addr.add] using c7
  · intro u hu
    simp only [itemCells, List.mem_cons, List.not_mem_nil, or_false] at hu
    rcases hu with rfl | rfl | rfl | rfl | rfl | rfl | rfl | rfl <;> rfl
  · unfold OwnT
    rw [List.length_append, List.flatMap_append, List.flatMap_cons, List.flatMap_nil, List.append_nil]
    exact h1
end
theorem step_append_item {w : World} {ops : Array Oper} {o : Oper} {a : Act} {K : Act → World → Prop} {Q : Exit → Act → World → Prop} {E : Prop}
    (hgd : o.guard = none) (s x : Operand) (hop : o.op = Op.call { callee := Callee.builtin Builtin.append, args := #[s, x], argTypes := #[43, 43] })
    (base : Nat) (v : Value) (l : List ItemM) (hs : a.eval s = v) (hown : OwnT w base v l) (y : ItemM) (g : Nat)
    (hx : a.eval x = .slice (some ⟨g, 0, none⟩) 1 1) (hcell : ItemAt w g 0 y) (hl : l.length ≤ 1000000) (hb : base ≤ w.heap.size)
    (hK : ∀ v' w', OwnT w' base v' (l ++ [y]) → w.grownBy w' v.ownBlock → K (a.put o.dst v') w') :
    if Region.wanted o (yielded ops a.tmps) = true then Oper.wp Try.prog o a w K Q else E := by
  have hw : Region.wanted o (yielded ops a.tmps) = true := by simp [Region.wanted, hgd]
  rw [if_pos hw]
  obtain ⟨i0, hi, hz0, hz1, hz2⟩ := info_parts Try.info_item
  refine wp_append_own w s x _ hop base _ i0 _ 8 _ (by kernel_rfl) hi hz0 hz1 rfl rfl (by decide) v l.length _ hs hown ⟨g, 0, none⟩ 1 1 (itemCells y) hx rfl ?_ ?_ (by unfold maxLen; omega) (by rw [hz2]; omega) hb fun v' w' h1 h2 _ => hK v' w' ?_ h2
  · obtain ⟨c0, c1, c2, c3, c4, c5, c6, c7⟩ := hcell
    intro j u hj
    match j, hj with
    | 0, hj => simp [itemCells] at hj; subst hj; simpa [Addr.add] using c0
    | 1, hj => simp [itemCells] at hj; subst hj; simpa [Addr.add] using c1
    | 2, hj => simp [itemCells] at hj; subst hj; simpa [Addr.add] using c2
    | 3, hj => simp [itemCells] at hj; subst hj; simpa [Addr.add] using c3
    | 4, hj => simp [itemCells] at hj; subst hj; simpa [Addr.add] using c4
    | 5, hj => simp [itemCells] at hj; subst hj; simpa [Addr.add] using c5
    | 6, hj => simp [itemCells] at hj; subst hj; simpa [Addr.add] using c6
    | 7, hj => simp [itemCells] at hj; subst hj; simpa [Addr.add] using c7
  · intro u hu
    simp only [itemCells, List.mem_cons, List.not_mem_nil, or_false] at hu
    rcases hu with rfl | rfl | rfl | rfl | rfl | rfl | rfl | rfl <;> rfl
  · unfold OwnT
    rw [List.length_append, List.flatMap_append, List.flatMap_cons, List.flatMap_nil, List.append_nil]
    exact h1
def zeroItem : Array Value := #[.int .i64 0, .int .i64 0, .int .i64 0, .int .u64 0, .int .u64 0, .int .i64 0, .int .u64 0, .bool false]
end Go.Proofs.Ytmkngpjjimalhaa
/- From the reading of arguments that are accesses, answers, records, memories to the words of the walks. -/
namespace Go.Proofs.Ytmkngpjjimalhaa
open Go.ChangeShapes Go.WideShapes Go.ChangeAt Go.RowKit Go.Deep
set_option maxRecDepth 100000

section
variable {H : Type} {enc : TypeId × Value → H} {W : World}
theorem open4 {t : TypeId} {f0 f1 f2 f3 : Field} {q0 q1 q2 q3 : Value} {fuel : Nat} {x : DataW H × List MemPlace} (hs : Try.prog.underlying t = some (.struct #[f0, f1, f2, f3])) (hone : oneCellFields Try.prog #[f0, f1, f2, f3] = true)
    (h : DataW.trod enc Try.prog W 0 (fun _ => true) true fuel t [q0, q1, q2, q3] = some x) :
    ∃ (y0 y1 y2 y3 : DataW H × List MemPlace) (n : Nat), x.1 = .agg [y0.1, y1.1, y2.1, y3.1] ∧ DataW.trod enc Try.prog W 0 (fun _ => true) true n f0.type [q0] = some y0 ∧ DataW.trod enc Try.prog W 0 (fun _ => true) true n f1.type [q1] = some y1 ∧ DataW.trod enc Try.prog W 0 (fun _ => true) true n f2.type [q2] = some y2 ∧ DataW.trod enc Try.prog W 0 (fun _ => true) true n f3.type [q3] = some y3 := by
  obtain ⟨xs, n, _, hx, _, hlen, hg⟩ := DataW.trod_struct hs h
  obtain ⟨o0, k0⟩ := hone_of hone 0 f0 rfl
  obtain ⟨o1, k1⟩ := hone_of hone 1 f1 rfl
  obtain ⟨o2, k2⟩ := hone_of hone 2 f2 rfl
  obtain ⟨o3, k3⟩ := hone_of hone 3 f3 rfl
  match xs, hlen with
  | [y0, y1, y2, y3], _ =>
    subst hx
    exact ⟨y0, y1, y2, y3, n, rfl, by simpa [o0, k0] using hg 0 f0 rfl, by simpa [o1, k1] using hg 1 f1 rfl, by simpa [o2, k2] using hg 2 f2 rfl, by simpa [o3, k3] using hg 3 f3 rfl⟩
theorem open5 {t : TypeId} {f0 f1 f2 f3 f4 : Field} {q0 q1 q2 q3 q4 : Value} {fuel : Nat} {x : DataW H × List MemPlace} (hs : Try.prog.underlying t = some (.struct #[f0, f1, f2, f3, f4])) (hone : oneCellFields Try.prog #[f0, f1, f2, f3, f4] = true)
    (h : DataW.trod enc Try.prog W 0 (fun _ => true) true fuel t [q0, q1, q2, q3, q4] = some x) :
    ∃ (y0 y1 y2 y3 y4 : DataW H × List MemPlace) (n : Nat), x.1 = .agg [y0.1, y1.1, y2.1, y3.1, y4.1] ∧ DataW.trod enc Try.prog W 0 (fun _ => true) true n f0.type [q0] = some y0 ∧ DataW.trod enc Try.prog W 0 (fun _ => true) true n f1.type [q1] = some y1 ∧ DataW.trod enc Try.prog W 0 (fun _ => true) true n f2.type [q2] = some y2 ∧ DataW.trod enc Try.prog W 0 (fun _ => true) true n f3.type [q3] = some y3 ∧ DataW.trod enc Try.prog W 0 (fun _ => true) true n f4.type [q4] = some y4 := by
  obtain ⟨xs, n, _, hx, _, hlen, hg⟩ := DataW.trod_struct hs h
  obtain ⟨o0, k0⟩ := hone_of hone 0 f0 rfl
  obtain ⟨o1, k1⟩ := hone_of hone 1 f1 rfl
  obtain ⟨o2, k2⟩ := hone_of hone 2 f2 rfl
  obtain ⟨o3, k3⟩ := hone_of hone 3 f3 rfl
  obtain ⟨o4, k4⟩ := hone_of hone 4 f4 rfl
  match xs, hlen with
  | [y0, y1, y2, y3, y4], _ =>
    subst hx
    exact ⟨y0, y1, y2, y3, y4, n, rfl, by simpa [o0, k0] using hg 0 f0 rfl, by simpa [o1, k1] using hg 1 f1 rfl, by simpa [o2, k2] using hg 2 f2 rfl, by simpa [o3, k3] using hg 3 f3 rfl, by simpa [o4, k4] using hg 4 f4 rfl⟩

/-- an access, from its cells -/
theorem cells_acc {n : Nat} {q0 q1 q2 q3 q4 : Value} {x : DataW H × List MemPlace} (hf : DataW.trod enc Try.prog W 0 (fun _ => true) true n 75 [q0, q1, q2, q3, q4] = some x) :
    ∃ a : AccM, a.ok ∧ q0 = .int .i64 a.kind ∧ q1 = .int .i64 a.addr ∧ q2 = .int .u64 a.old ∧ q3 = .int .u64 a.new ∧ q4 = .int .i64 a.til := by
  obtain ⟨y0, y1, y2, y3, y4, n, -, g0, g1, g2, g3, g4⟩ := open5 Try.underlying75 (by kernel_rfl) hf
  obtain ⟨z0, e0, -, w0⟩ := DataW.trod_int Try.underlying3 g0
  obtain ⟨z1, e1, -, w1⟩ := DataW.trod_int Try.underlying3 g1
  obtain ⟨z2, e2, -, w2⟩ := DataW.trod_int Try.underlying27 g2
  obtain ⟨z3, e3, -, w3⟩ := DataW.trod_int Try.underlying27 g3
  obtain ⟨z4, e4, -, w4⟩ := DataW.trod_int Try.underlying3 g4
  simp at e0 e1 e2 e3 e4
  exact ⟨⟨z0, z1, z2, z3, z4⟩, ⟨wrap_of_wf w0, wrap_of_wf w1, wrap_of_wf w2, wrap_of_wf w3, wrap_of_wf w4⟩, e0, e1, e2, e3, e4⟩
/-- AN ARGUMENT THAT IS AN ACCESS. -/
theorem view_acc {v : Value} {d : DataW H} {p : List MemPlace}
    (hval : Value.okWide Try.prog W .any 0 75 v) (hd : DataW.Trod enc Try.prog W 0 (fun _ => true) true 75 v d p) : ∃ a, v = accV a ∧ a.ok := by
  obtain ⟨cs, rfl, hcz⟩ := okWide_struct Try.underlying75 hval
  rw [show Try.prog.cellsOf 75 = 5 by kernel_rfl] at hcz
  obtain ⟨l⟩ := cs
  match l, hcz with
  | [q0, q1, q2, q3, q4], _ =>
    obtain ⟨fuel, hf⟩ := hd
    obtain ⟨a, ha, e0, e1, e2, e3, e4⟩ := cells_acc hf
    subst e0 e1 e2 e3 e4
    exact ⟨a, rfl, ha⟩
/-- AN ARGUMENT THAT IS AN ANSWER. -/
theorem view_ans {v : Value} {d : DataW H} {p : List MemPlace}
    (hsz : ∀ parts, d = .agg parts → (DataW.weightsEach Try.prog [27, 4, 4, 33] parts).all (· ≤ reachBytes) = true)
    (hval : Value.okWide Try.prog W .any 0 52 v) (hd : DataW.Trod enc Try.prog W 0 (fun _ => true) true 52 v d p) :
    ∃ (b : AnsM) (vl : Value), v = .agg #[.int .u64 b.val, .bool b.ok, .bool b.late, vl] ∧ SlI W .i64 vl b.list ∧ b.val = IntKind.u64.wrap b.val := by
  obtain ⟨cs, rfl, hcz⟩ := okWide_struct Try.underlying52 hval
  rw [show Try.prog.cellsOf 52 = 4 by kernel_rfl] at hcz
  obtain ⟨l⟩ := cs
  match l, hcz with
  | [q0, q1, q2, q3], _ =>
    obtain ⟨fuel, hf⟩ := hd
    obtain ⟨y0, y1, y2, y3, n, hx, g0, g1, g2, g3⟩ := open4 Try.underlying52 (by kernel_rfl) hf
    have hsz' := hsz _ hx
    obtain ⟨z0, e0, -, w0⟩ := DataW.trod_int Try.underlying27 g0
    obtain ⟨b1, e1, -⟩ := DataW.trod_bool Try.underlying4 g1
    obtain ⟨b2, e2, -⟩ := DataW.trod_bool Try.underlying4 g2
    obtain ⟨lc, hlc⟩ := view_cell (v := q3) (k := .i64) Try.underlying33 Try.underlying3 (by kernel_rfl) (fun elems sp hd => sized_slice hsz' (j := 3) (t := 33) (e := 3) rfl (by simp; exact hd) Try.underlying33) (of_decide_eq_true (by kernel_rfl)) g3
    simp at e0 e1 e2
    subst e0 e1 e2
    exact ⟨⟨z0, b1, b2, lc⟩, q3, rfl, hlc, wrap_of_wf w0⟩
/-- AN ARGUMENT THAT IS A RECORD. -/
theorem view_item {v : Value} {d : DataW H} {p : List MemPlace}
    (hval : Value.okWide Try.prog W .any 0 106 v) (hd : DataW.Trod enc Try.prog W 0 (fun _ => true) true 106 v d p) : ∃ x, v = itemV x ∧ x.good := by
  obtain ⟨cs, rfl, hcz⟩ := okWide_struct Try.underlying106 hval
  rw [show Try.prog.cellsOf 106 = 8 by kernel_rfl] at hcz
  obtain ⟨l⟩ := cs
  match l, hcz with
  | [q0, q1, q2, q3, q4, q5, q6, q7], _ =>
    obtain ⟨fuel, hf⟩ := hd
    obtain ⟨xs, n, _, hx, _, hlen, hg⟩ := DataW.trod_struct Try.underlying106 hf
    have c3 : Try.prog.cellsOf 3 = 1 := by kernel_rfl
    have c28 : Try.prog.cellsOf 75 = 5 := by kernel_rfl
    have c26 : Try.prog.cellsOf 27 = 1 := by kernel_rfl
    have c4 : Try.prog.cellsOf 4 = 1 := by kernel_rfl
    match xs, hlen with
    | [y0, y1, y2, y3], _ =>
      have g0 : DataW.trod enc Try.prog W 0 (fun _ => true) true n 3 [q0] = some y0 := by simpa [c3, Value.cells] using hg 0 _ rfl
      have g1 : DataW.trod enc Try.prog W 0 (fun _ => true) true n 75 [q1, q2, q3, q4, q5] = some y1 := by simpa [c28, Value.cells] using hg 1 _ rfl
      have g2 : DataW.trod enc Try.prog W 0 (fun _ => true) true n 27 [q6] = some y2 := by simpa [c26, Value.cells] using hg 2 _ rfl
      have g3 : DataW.trod enc Try.prog W 0 (fun _ => true) true n 4 [q7] = some y3 := by simpa [c4, Value.cells] using hg 3 _ rfl
      obtain ⟨z0, e0, -, w0⟩ := DataW.trod_int Try.underlying3 g0
      obtain ⟨a, ha, a0, a1, a2, a3, a4⟩ := cells_acc g1
      obtain ⟨z2, e2, -, w2⟩ := DataW.trod_int Try.underlying27 g2
      obtain ⟨b3, e3, -⟩ := DataW.trod_bool Try.underlying4 g3
      simp at e0 e2 e3
      subst e0 e2 e3 a0 a1 a2 a3 a4
      exact ⟨⟨z0, a, z2, b3⟩, rfl, wrap_of_wf w0, ha, wrap_of_wf w2⟩
theorem weights_all {e : TypeId} : ∀ (l : List (DataW H)) (d : DataW H) (n : Nat), d ∈ l → n ∈ d.weights Try.prog e → n ∈ DataW.weightsAll Try.prog e l
  | x :: l, d, n, hd, hn => by
    simp only [DataW.weightsAll, List.mem_append]
    rcases List.mem_cons.1 hd with rfl | hd
    · exact .inl hn
    · exact .inr (weights_all l d n hd hn)
/-- a list of lists of numbers, from its cell -/
theorem view_lists {v : Value} {n : Nat} {x : DataW H × List MemPlace} (hsz : ∀ m ∈ x.1.weights Try.prog 39, m ≤ reachBytes)
    (hf : DataW.trod enc Try.prog W 0 (fun _ => true) true n 39 [v] = some x) : ∃ us ll, SlL W v us ll := by
  rcases open_slice1 Try.underlying39 (by kernel_rfl) hf with ⟨hcs, hx⟩ | ⟨a, len, cap, m, n', V, D, Pl, hcs, _, hl, hm, hmm, hx, hi⟩
  · simp at hcs
    subst hcs
    exact ⟨[], [], SlL.nil _⟩
  · simp at hcs
    subst hcs
    subst hx
    simp only [if_true] at hmm
    subst hmm
    have hw : ∀ k ∈ (DataW.slice ((List.range len).map D) ((List.range (m - len)).map fun j => D (len + j))).weights Try.prog 39, k ≤ reachBytes := hsz
    simp only [DataW.weights, Try.underlying39, List.mem_cons, List.mem_append] at hw
    have hle : len ≤ 140737488351232 := by
      have h1 := hw _ (.inl rfl)
      have hb : Try.prog.bytesOf 33 = 24 := by kernel_rfl
      rw [hb] at h1
      simp only [List.length_map, List.length_range, reachBytes] at h1
      omega
    have each : ∀ i, i < len → ∃ l, SlI W .i64 (V i) l := by
      intro i hil
      obtain ⟨-, ht'⟩ := hi i (by omega)
      refine view_cell (v := V i) (k := .i64) Try.underlying33 Try.underlying3 (by kernel_rfl) (fun elems sp hd => ?_) (of_decide_eq_true (by kernel_rfl)) ht'
      refine hw _ (.inr (.inl (weights_all _ (D i) _ (List.mem_map.2 ⟨i, List.mem_range.2 hil, rfl⟩) ?_)))
      have hd' : D i = .slice elems sp := hd
      rw [hd']
      simp [DataW.weights, Try.underlying33]
    have each' : ∀ i, ∃ l, i < len → SlI W .i64 (V i) l := fun i => by
      by_cases him : i < len
      · obtain ⟨c, hc⟩ := each i him; exact ⟨c, fun _ => hc⟩
      · exact ⟨[], fun h => absurd h him⟩
    refine ⟨(List.range len).map V, (List.range len).map fun i => (each' i).choose, by simpa using hle, by simp, some a, m, by simp, by simpa using hl, fun i hi' => ?_⟩
    simp at hi'
    have hg : ((List.range len).map fun i => (each' i).choose).getD i [] = (each' i).choose := by
      simp [List.getD_eq_getElem?_getD, hi']
    have hu : ((List.range len).map V).getD i (.slice none 0 0) = V i := by
      simp [List.getD_eq_getElem?_getD, hi']
    rw [hg, hu]
    have hsp := (each' i).choose_spec hi'
    have c0 := (hi i (by omega)).1
    have d0 := (hi 0 (by omega)).1
    obtain ⟨b, off, sp⟩ := a
    have hspn : sp = none := by simpa [Addr.add] using World.cell?_spot d0
    subst hspn
    rw [add_plain] at c0
    exact ⟨b, off, rfl, by simpa using World.block_lt_of_cell? W _ c0, c0, hsp⟩
/-- AN ARGUMENT THAT IS A MEMORY. -/
theorem view_mem {v : Value} {d : DataW H} {p : List MemPlace}
    (hsz : ∀ parts, d = .agg parts → (DataW.weightsEach Try.prog [34, 39, 3] parts).all (· ≤ reachBytes) = true)
    (hval : Value.okWide Try.prog W .any 0 41 v) (hd : DataW.Trod enc Try.prog W 0 (fun _ => true) true 41 v d p) : ∃ m, MemV W v m ∧ m.tick = IntKind.i64.wrap m.tick := by
  obtain ⟨cs, rfl, hcz⟩ := okWide_struct Try.underlying41 hval
  rw [show Try.prog.cellsOf 41 = 3 by kernel_rfl] at hcz
  obtain ⟨l⟩ := cs
  match l, hcz with
  | [q0, q1, q2], _ =>
    obtain ⟨fuel, hf⟩ := hd
    obtain ⟨y0, y1, y2, n, hx, g0, g1, g2⟩ := open3 Try.underlying41 (by kernel_rfl) hf
    have hsz' := hsz _ hx
    obtain ⟨lc, hlc⟩ := view_cell (v := q0) (k := .u64) Try.underlying34 Try.underlying27 (by kernel_rfl) (fun elems sp hd => sized_slice hsz' (j := 0) (t := 34) (e := 27) rfl (by simp; exact hd) Try.underlying34) (of_decide_eq_true (by kernel_rfl)) g0
    obtain ⟨us, ll, hll⟩ := view_lists (v := q1) (fun m hm => by
      have := DataW.weights_mem_each (P := Try.prog) (ts := [34, 39, 3]) (ds := [y0.1, y1.1, y2.1]) (j := 1) rfl rfl m hm
      simpa using List.all_eq_true.1 hsz' m this) g1
    obtain ⟨z2, e2, -, w2⟩ := DataW.trod_int Try.underlying3 g2
    simp at e2
    subst e2
    exact ⟨⟨lc, ll, z2⟩, ⟨q0, q1, us, rfl, hlc, hll⟩, wrap_of_wf w2⟩
end
end Go.Proofs.Ytmkngpjjimalhaa
