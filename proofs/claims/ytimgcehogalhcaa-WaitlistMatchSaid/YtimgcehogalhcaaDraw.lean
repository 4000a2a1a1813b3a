/- The reader of choices (package chanfabricdraw): its state in memory, and what its small methods do to it. -/
import Derived.Test.YtimgcehogalhcaaLib
import Derived.Test.YtimgcehogalhcaaRows
import Derived.Deep.QuietTactic
import Derived.BigQuiet
namespace Go.Proofs.Ytimgcehogalhcaa
open Go.ChangeShapes Go.WideShapes Go.ChangeAt Go.RowKit
set_option maxRecDepth 100000

/-- the reader in block g has the choices r left, and its counter of values stands at val -/
def CodesAt (w : World) (g : Nat) (r : List Int) (val : Int) : Prop :=
  ∃ v l, ∃ k : Nat, w.heap[g]? = some (.cells #[v, .int .i64 k, .int .u64 val] 48 (0, 0)) ∧ SlI w .u8 v l ∧ k ≤ l.length ∧ r = l.drop k ∧ (l ≠ [] → ∀ a n c, v = .slice a n c → ∀ b, a = some b → b.block < g)
theorem CodesAt.drew {w : World} {g : Nat} {r : List Int} {val : Int} (h : CodesAt w g r val) (n : Nat) : CodesAt (w.drewN n) g r val := h
theorem CodesAt.lt {w : World} {g : Nat} {r : List Int} {val : Int} (h : CodesAt w g r val) : g < w.heap.size := by
  obtain ⟨v, l, k, hg, _⟩ := h
  exact (Array.getElem?_eq_some_iff.1 hg).1
theorem CodesAt.kept {w w' : World} {g B : Nat} {r : List Int} {val : Int} (h : CodesAt w g r val) (hB : g < B) (hb : Below B w w') : CodesAt w' g r val := by
  obtain ⟨v, l, k, hg, ⟨m1, m2, a, cap, rfl, hcap, h5⟩, hk, hr, h4⟩ := h
  refine ⟨_, l, k, (hb.block g hB).trans hg, ⟨m1, m2, a, cap, rfl, hcap, fun t ht => ?_⟩, hk, hr, h4⟩
  obtain ⟨b, off, e, hlt, hc⟩ := h5 t ht
  have hbg := h4 (by rintro rfl; simp at ht) _ _ _ rfl _ e
  exact ⟨b, off, e, Nat.lt_of_lt_of_le hlt hb.size, (hb.cell (p := ⟨b, off + t, none⟩) (by simp at hbg ⊢; omega)).trans hc⟩
/-- one choice -/
def nxt (r : List Int) (n : Int) : Int := match r with | [] => 0 | c :: _ => c % n

theorem nxt_bd (r : List Int) (n : Int) (h : 1 ≤ n) : 0 ≤ nxt r n ∧ nxt r n < n := by
  unfold nxt
  split
  · omega
  · exact ⟨Int.emod_nonneg _ (by omega), Int.emod_lt_of_pos _ (by omega)⟩
theorem left_any (g : Nat) (r : List Int) (val : Int) (w : World) (h : CodesAt w g r val) :
    Calls Try.prog 27 #[.pointer (some ⟨g, 0, none⟩)] w fun e w' => ∃ n, e = .returned (.bool (!r.isEmpty)) ∧ w.drewN n = w' := by
  obtain ⟨v, l, k, hg, hl, hk, rfl, _⟩ := h
  have hmx := hl.1
  obtain ⟨a, cap, rfl, _⟩ := hl.len
  have c0 := cell_of_row w g 0 _ _ _ hg
  have c1 := cell_of_row w g 1 _ _ _ hg
  simp at c0 c1
  clear hg hl
  have hr : ((l.drop k).isEmpty) = decide (l.length ≤ k) := by
    rw [Bool.eq_iff_iff]; simp
  have HR := Lib.hid hr
  clear hr
  go_enter Try.func27, Try.ntmps27
  go_wp2
  go_quiet (fail)
  go_wp2
  go_ret
  exact ⟨nq, ret_bool (by rw [HR.out]; by_cases e : k < l.length <;> simp [e] <;> omega), rfl⟩
theorem codes_step {w : World} {g : Nat} {val : Int} {b off n cap k : Nat} {l : List Int}
    (hg : w.heap[g]? = some (.cells #[.slice (some ⟨b, off, none⟩) n cap, .int .i64 k, .int .u64 val] 48 (0, 0)))
    (hl : SlI w .u8 (.slice (some ⟨b, off, none⟩) n cap) l) (hlt : k < l.length) (hbg0 : b < g) (m : Nat) :
    (CodesAt (w.setCell ⟨g, 1, none⟩ (.int .i64 ((k : Int) + 1))) g (l.drop k).tail val) ∧
    w.grownBy ((w.setCell ⟨g, 1, none⟩ (.int .i64 ((k : Int) + 1))).drewN m) (some g) ∧
    (w.setCell ⟨g, 1, none⟩ (.int .i64 ((k : Int) + 1))).cell? ⟨g, 0, none⟩ = some (.slice (some ⟨b, off, none⟩) n cap) ∧
    (w.setCell ⟨g, 1, none⟩ (.int .i64 ((k : Int) + 1))).cell? ⟨g, 1, none⟩ = some (.int .i64 ((k : Int) + 1)) ∧
    (w.setCell ⟨g, 1, none⟩ (.int .i64 ((k : Int) + 1))).cell? ⟨b, off + k, none⟩ = some (.int .u8 (l.getD k 0)) := by
  have hbg : b ≠ g := by omega
  have hs := heap_setCell_same w g 1 _ _ (.int .i64 ((k : Int) + 1)) hg
  have ho : ∀ j, j ≠ g → (w.setCell ⟨g, 1, none⟩ (.int .i64 ((k : Int) + 1))).heap[j]? = w.heap[j]? := fun j hj => heap_setCell_other w ⟨g, 1, none⟩ j _ hj
  have e0 := cell_of_row _ g 0 _ _ _ hs
  have e1 := cell_of_row _ g 1 _ _ _ hs
  have hcell : ∀ j, (w.setCell ⟨g, 1, none⟩ (.int .i64 ((k : Int) + 1))).cell? ⟨b, j, none⟩ = w.cell? ⟨b, j, none⟩ := fun j => World.cell?_of_block (ho b hbg)
  obtain ⟨m1, m2, a', cap', e, hle, h5⟩ := hl
  simp only [Value.slice.injEq] at e
  obtain ⟨rfl, rfl, rfl⟩ := e
  have hsz : (w.setCell ⟨g, 1, none⟩ (.int .i64 ((k : Int) + 1))).heap.size = w.heap.size := by simp
  refine ⟨⟨_, l, k + 1, by simpa using hs, ⟨m1, m2, _, _, rfl, hle, fun t ht => ?_⟩, hlt, by rw [List.tail_drop], ?_⟩, ⟨rfl, rfl, rfl, by simp, fun j _ hj => ho j (fun e => hj (by rw [e]))⟩, by simpa using e0, by simpa using e1, ?_⟩
  · obtain ⟨b1, o1, e2, h6, h7⟩ := h5 t ht
    simp only [Option.some.injEq, Addr.mk.injEq, and_true] at e2
    obtain ⟨rfl, rfl⟩ := e2
    exact ⟨_, _, rfl, by rw [hsz]; exact h6, (hcell _).trans h7⟩
  · intro _ a n c e bb e2
    simp only [Value.slice.injEq] at e
    rw [← e.1] at e2
    cases e2
    exact hbg0
  · obtain ⟨b1, o1, e2, h6, h7⟩ := h5 k hlt
    simp only [Option.some.injEq, Addr.mk.injEq, and_true] at e2
    obtain ⟨rfl, rfl⟩ := e2
    exact (hcell _).trans h7
theorem next_any (g : Nat) (r : List Int) (val n : Int) (w : World) (h : CodesAt w g r val) (h1 : 1 ≤ n) (h2 : n ≤ 256) :
    Calls Try.prog 28 #[.pointer (some ⟨g, 0, none⟩), .int .i64 n] w fun e w' => e = .returned (.int .i64 (nxt r n)) ∧ CodesAt w' g r.tail val ∧ w.grownBy w' (some g) := by
  have h0 := h
  obtain ⟨v, l, k, hg, hl, hk, hr, hv⟩ := h
  have hmx := hl.1
  by_cases hlt : k < l.length
  · obtain ⟨b, off, cap, rfl, hcap, hb, hc⟩ := hl.open (by rintro rfl; simp at hlt)
    have c0 := cell_of_row w g 0 _ _ _ hg
    have c1 := cell_of_row w g 1 _ _ _ hg
    have f1 := frozen_of_row w g 1 _ _ hg
    simp at c0 c1
    have hu := hl.2.1 (l.getD k 0) (by simp [List.getD_eq_getElem?_getD, hlt])
    have ST := Lib.hid fun m q => codes_step (w := w.drewN m) hg (hl.drew m) hlt (hv (by rintro rfl; simp at hlt) _ _ _ rfl _ rfl) q
    have hre : r.isEmpty = false := by rw [hr]; simp; omega
    have hn := Lib.hid (show nxt r n = l.getD k 0 % n by rw [hr, List.drop_eq_getElem_cons hlt]; simp [nxt, List.getD_eq_getElem?_getD, hlt])
    have L := Lib.hid fun w' => left_any g r val w'
    have H0 := Lib.hid h0
    have HR := Lib.hid hr
    have hkx : k ≤ 140737488351232 := by omega
    generalize l.getD k 0 = x at *
    have hx : 0 ≤ x ∧ x < 256 := by rw [hu, IntKind.wrap_u8]; omega
    obtain ⟨hx0, hx1⟩ := hx
    have e1 := Int.tmod_eq_emod_of_nonneg (b := n) hx0
    have e2 := Int.emod_nonneg x (show n ≠ 0 by omega)
    have e3 := Int.emod_lt_of_pos x (show 0 < n by omega)
    have hltI : (k : Int) < l.length := by omega
    clear hg hl hc hv hr h0 hu
    have EX := Lib.hid e1
    clear e1
    go_enter Try.func28, Try.ntmps28
    go_wp2_with (go_at_call 27; refine (L.out _ H0.out).mono ?_; rintro e w' ⟨m, rfl, rfl⟩)
    obtain ⟨s1, s5, s2, s3, s4⟩ := ST.out m 0
    have SS := Lib.hid (And.intro s1 s5)
    clear s1 s5 c0 c1 f1
    generalize (w.drewN m).setCell _ _ = W1 at *
    go_quiet (fail)
    go_wp2
    go_ret
    exact ⟨ret_i64 (hn.out.symm), by rw [HR.out]; exact SS.out.1, ⟨SS.out.2.os, SS.out.2.tape, SS.out.2.output, SS.out.2.size, SS.out.2.block⟩⟩
  · have hr0 : r = [] := by rw [hr]; simp; omega
    subst hr0
    have L := Lib.hid fun w' => left_any g [] val w'
    have H0 := Lib.hid h0
    clear hg hl hv hr h0
    go_enter Try.func28, Try.ntmps28
    go_wp2_with (go_at_call 27; refine (L.out _ H0.out).mono ?_; rintro e w' ⟨m, rfl, rfl⟩)
    go_ret
    exact ⟨rfl, H0.out, ⟨rfl, rfl, rfl, Nat.le_refl _, fun _ _ _ => rfl⟩⟩
theorem new_any (v : Value) (l : List Int) (m : Nat) (w : World) (hl : SlI w .u8 v l) (hm : m ≤ 1000) :
    Calls Try.prog 26 #[v, .int .i64 m] w fun e w' => e = .returned (.pointer (some ⟨w.heap.size, 0, none⟩)) ∧ CodesAt w' w.heap.size (l.take m) 0 ∧ Below w.heap.size w w' := by
  have h0 := hl
  obtain ⟨m1, m2, a, cap, rfl, hcap, h5⟩ := hl
  by_cases hlt : m < l.length
  · obtain ⟨b, off, rfl, hb, -⟩ := h5 m hlt
    have hlen : (l.take m).length = m := by simp; omega
    have hfin : SlI (w.alloc (.cells #[.slice (some ⟨b, off, none⟩) m cap, .int .i64 0, .int .u64 0] 48)) .u8 (.slice (some ⟨b, off, none⟩) m cap) (l.take m) := by
      refine ⟨by omega, fun x hx => m2 x (List.mem_of_mem_take hx), _, cap, by rw [hlen], by omega, fun t ht => ?_⟩
      have ht' : t < m := by simp at ht; omega
      obtain ⟨b', off', e, hb', hc⟩ := h5 t (by omega)
      simp only [Option.some.injEq, Addr.mk.injEq, and_true] at e
      obtain ⟨rfl, rfl⟩ := e
      refine ⟨b, off, rfl, by simp; omega, ?_⟩
      rw [World.cell?_alloc_past _ _ _ hb', hc]
      simp [List.getD_eq_getElem?_getD, ht']
    have HF := Lib.hid hfin
    clear hfin h5
    have hmc : (m : Int) ≤ cap := by omega
    have hb' : b < w.heap.size := hb
    clear hlen h0 m2
    go_enter Try.func26, Try.ntmps26
    go_wp2
    go_ret
    exact ⟨rfl, ⟨_, l.take m, 0, heap_alloc_new w _, HF.out, Nat.zero_le _, rfl, fun _ a n c e b2 e2 => by
      simp only [Value.slice.injEq] at e
      rw [← e.1] at e2
      cases e2
      exact hb'⟩, (Below.refl _ _).alloc (Nat.le_refl _) _⟩
  · have e : l.take m = l := List.take_of_length_le (by omega)
    rw [e]
    have hfin : SlI (w.alloc (.cells #[.slice a l.length cap, .int .i64 0, .int .u64 0] 48)) .u8 (.slice a l.length cap) l := h0.below ((Below.refl _ _).alloc (Nat.le_refl _) _)
    have HF := Lib.hid hfin
    have H5 := Lib.hid h5
    clear hfin h5 e h0 m2
    go_enter Try.func26, Try.ntmps26
    go_wp2
    go_ret
    refine ⟨rfl, ⟨_, l, 0, heap_alloc_new w _, HF.out, Nat.zero_le _, rfl, fun hne a n c e b2 e2 => ?_⟩, (Below.refl _ _).alloc (Nat.le_refl _) _⟩
    simp only [Value.slice.injEq] at e
    obtain ⟨b, off, e3, hb, _⟩ := H5.out 0 (List.length_pos_iff.2 hne)
    rw [← e.1, e3] at e2
    cases e2
    exact hb
end Go.Proofs.Ytimgcehogalhcaa
