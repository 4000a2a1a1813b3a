/- Proved: MemoryLists returns true, and its arguments read afterwards as before, for every list of codes and every many; no condition. -/
import Derived.Test.YtgdgneciagbikaaLaw
import Derived.Test.YtgdgneciagbikaaL4Awake
import Derived.Test.YtgdgneciagbikaaMmS
import Derived.Test.YtgdgneciagbikaaMmD
import Derived.Test.YtgdgneciagbikaaOff
import Derived.Deep.DeepCutAuto
import Derived.LoopTactic
import Derived.WalkKit
import Derived.ProofKit
import Derived.OpenShut
import Derived.SizedLaws
namespace Go.Proofs.Ytgdgneciagbikaa.memoryLists
open Go.ChangeShapes Go.WideShapes Go.ChangeAt Go.RowKit
set_option linter.unusedVariables false
theorem cell_at {w : World} {k : IntKind} {a : Option Addr} {n cap : Nat} {l : List Int} (h : SlI w k (.slice a n cap) l) (t : Nat) (ht : t < l.length) :
    ∃ b off, a = some ⟨b, off, none⟩ ∧ b < w.heap.size ∧ w.cell? ⟨b, off + t, none⟩ = some (.int k (l.getD t 0)) := by
  obtain ⟨_, _, a', cap', e, _, h5⟩ := h
  simp only [Value.slice.injEq] at e
  obtain ⟨rfl, _, _⟩ := e
  exact h5 t ht
theorem agg_tick {A A2 : Option Addr} {n1 c n2 c2 : Nat} {t : Int} {G : World → Prop} {m : MemM} (h : StM G (.agg #[.slice A n1 c, .slice A2 n2 c2, .int .i64 t]) m) : t = m.tick := by
  obtain ⟨vw, vl, us, e, -⟩ := h
  simp only [Value.agg.injEq, Array.mk.injEq, List.cons.injEq, Value.int.injEq, and_true, true_and] at e
  exact e.2.2
/-- a memory with the list l beside the list 7; the reader's block g, the memory's variable in block M -/
structure LstS (w0 wr : World) (g M : Nat) (l : List Int) : Prop where
  g0 : w0.heap.size ≤ g
  gm : g < M
  codes : CodesE wr g
  mem : ∃ A n c A2 n2 c2, wr.heap[M]? = some (.cells #[.slice A n c, .slice A2 n2 c2, .int .i64 0] 25 (0, 0)) ∧ StM (Off g M wr) (.agg #[.slice A n c, .slice A2 n2 c2, .int .i64 0]) ⟨[], [l, [7]], 0⟩
  len : l.length ≤ 1000
  below : Below w0.heap.size w0 wr
theorem LstS.lt {w0 wr : World} {g M : Nat} {l : List Int} (h : LstS w0 wr g M l) : M < wr.heap.size := by
  obtain ⟨A, n, c, A2, n2, c2, h1, -⟩ := h.mem
  exact (Array.getElem?_eq_some_iff.1 h1).1
/-- another world with the same memory beside the reader's block -/
theorem LstS.move {w0 wr w2 : World} {g M : Nat} {l : List Int} (h : LstS w0 wr g M l) (ho : Off g M wr w2) (hm : w2.heap[M]? = wr.heap[M]?) (hc : CodesE w2 g) (hb : Below w0.heap.size w0 w2) : LstS w0 w2 g M l := by
  obtain ⟨A, n, c, A2, n2, c2, h1, h2⟩ := h.mem
  exact ⟨h.g0, h.gm, hc, ⟨A, n, c, A2, n2, c2, hm.trans h1, h2.sub fun w3 h3 => ho.trans h3⟩, h.len, hb⟩
theorem LstS.next {w0 wr w2 : World} {g M : Nat} {l : List Int} (h : LstS w0 wr g M l) (hb : Below wr.heap.size wr w2) : LstS w0 w2 g M l :=
  h.move (Off.below hb) (hb.block M h.lt) (h.codes.kept h.codes.lt hb) (below_then h.below hb)
theorem LstS.drawn {w0 wr w2 : World} {g M : Nat} {l : List Int} (h : LstS w0 wr g M l) (hc : CodesE w2 g) (hg : wr.grownBy w2 (some g)) : LstS w0 w2 g M l := by
  have hgm := h.gm
  exact h.move (Off.grown hg) (hg.block M h.lt (by simp; omega)) hc (h.below.grown hg h.below.size (fun k hk => by cases hk; exact h.g0))
/-- the lists of the memory are laid anew -/
theorem LstS.remake {w0 wr w1 : World} {g M : Nat} {l0 l : List Int} {lv : Value} (h : LstS w0 wr g M l0) (hb : Below wr.heap.size wr w1) (hl : StI (Off g M w1) .i64 lv l) (hlen : l.length ≤ 1000) :
    (∃ u, ((w1.alloc (.cells #[.int .i64 7] 3)).alloc (.cells #[lv, .slice (some ⟨w1.heap.size, 0, none⟩) 1 1] 36)).cell? ⟨M, 1, none⟩ = some u) ∧
    ((w1.alloc (.cells #[.int .i64 7] 3)).alloc (.cells #[lv, .slice (some ⟨w1.heap.size, 0, none⟩) 1 1] 36)).frozen? ⟨M, 1, none⟩ = false ∧
    LstS w0 (((w1.alloc (.cells #[.int .i64 7] 3)).alloc (.cells #[lv, .slice (some ⟨w1.heap.size, 0, none⟩) 1 1] 36)).setCell ⟨M, 1, none⟩ (.slice (some ⟨w1.heap.size + 1, 0, none⟩) 2 2)) g M l := by
  have hlt := h.lt
  have hgm := h.gm
  have hs1 := hb.size
  have hn := below_new (below_new (Below.refl w1.heap.size w1) (.cells #[.int .i64 7] 3)) (.cells #[lv, .slice (some ⟨w1.heap.size, 0, none⟩) 1 1] 36)
  have hn1 := below_new (Below.refl (w1.alloc (.cells #[.int .i64 7] 3)).heap.size (w1.alloc (.cells #[.int .i64 7] 3))) (.cells #[lv, .slice (some ⟨w1.heap.size, 0, none⟩) 1 1] 36)
  have r0 := (hn1.block w1.heap.size (by simp)).trans (heap_alloc_new w1 (.cells #[.int .i64 7] 3))
  have r1 : ((w1.alloc (.cells #[.int .i64 7] 3)).alloc (.cells #[lv, .slice (some ⟨w1.heap.size, 0, none⟩) 1 1] 36)).heap[w1.heap.size + 1]? = some (.cells #[lv, .slice (some ⟨w1.heap.size, 0, none⟩) 1 1] 36 (0, 0)) := box_new (by simp)
  obtain ⟨W, hW⟩ : ∃ W, (w1.alloc (.cells #[.int .i64 7] 3)).alloc (.cells #[lv, .slice (some ⟨w1.heap.size, 0, none⟩) 1 1] 36) = W := ⟨_, rfl⟩
  have hz : W.heap.size = w1.heap.size + 2 := by rw [← hW]; simp
  rw [hW] at hn r0 r1 ⊢
  obtain ⟨A, n, c, A2, n2, c2, h1, h2⟩ := h.mem
  have hr := (hn.block M (by omega)).trans ((hb.block M hlt).trans h1)
  have hs := heap_setCell_same W M 1 _ _ (.slice (some ⟨w1.heap.size + 1, 0, none⟩) 2 2) hr
  simp at hs
  have ob : ∀ j, j ≠ M → (W.setCell ⟨M, 1, none⟩ (.slice (some ⟨w1.heap.size + 1, 0, none⟩) 2 2)).heap[j]? = W.heap[j]? := fun j hj => heap_setCell_other W ⟨M, 1, none⟩ j _ hj
  have o1 : Off g M w1 (W.setCell ⟨M, 1, none⟩ (.slice (some ⟨w1.heap.size + 1, 0, none⟩) 2 2)) := (Off.below hn).trans (Off.setCell W 1 _)
  refine ⟨⟨_, cell_of_row _ _ 1 _ _ _ hr⟩, frozen_of_row _ _ 1 _ _ hr, ⟨h.g0, h.gm, ?_, ⟨A, n, c, _, 2, 2, hs, ?_⟩, hlen, ?_⟩⟩
  · have hb2 : Below M W (W.setCell ⟨M, 1, none⟩ (.slice (some ⟨w1.heap.size + 1, 0, none⟩) 2 2)) := (Below.refl M W).setCell (p := ⟨M, 1, none⟩) (Nat.le_refl _) _
    exact (h.codes.kept h.codes.lt (below_then hb hn)).kept hgm hb2
  · refine ⟨_, _, [lv, .slice (some ⟨w1.heap.size, 0, none⟩) 1 1], rfl, fun w2 ho => ⟨(h2.words w2 ((Off.below hb).trans (o1.trans ho))), sll2_at (T := 36) ?_ (hl w2 (o1.trans ho)) (sl1_at (T := 3) ?_ (by decide))⟩⟩
    · exact (ho.2 _ (by simp; omega) (by omega) (by omega)).trans ((ob _ (by omega)).trans r1)
    · exact (ho.2 _ (by simp; omega) (by omega) (by omega)).trans ((ob _ (by omega)).trans r0)
  · have hg0 := h.g0
    exact (below_then (below_then h.below hb) hn).setCell (p := ⟨M, 1, none⟩) (by show w0.heap.size ≤ M; omega) _
theorem rep_wf : ∀ x ∈ List.replicate 999 (0 : Int), x = IntKind.i64.wrap x := by
  intro x hx
  rw [(List.mem_replicate.1 hx).2]
  decide
theorem nextL_le {k x : Int} {l : List Int} (h : l.length ≤ 1000) : (nextL k x l).length ≤ 1000 := by
  unfold nextL
  split
  · split
    · simp; omega
    · exact h
  · exact Nat.le_trans (List.length_erase_le ..) h
theorem nextL_wf {k x : Int} {l : List Int} (h : ∀ y ∈ l, y = IntKind.i64.wrap y) (hx : x = IntKind.i64.wrap x) : ∀ y ∈ nextL k x l, y = IntKind.i64.wrap y := by
  unfold nextL
  split
  · split
    · intro y hy
      rw [List.mem_append, List.mem_singleton] at hy
      rcases hy with hy | rfl
      · exact h y hy
      · exact hx
    · exact h
  · exact fun y hy => h y (List.mem_of_mem_erase hy)
theorem apply_lists {l : List Int} {k x : Int} (hk : k = 8 ∨ k = 9) (hx : IntKind.i64.wrap x = x) : applyE ⟨[], [l, [7]], 0⟩ ⟨k, 0, 0, x, 0⟩ = (⟨[], [nextL k x l, [7]], 0⟩, ⟨(nextL k x l).length, false, false, []⟩, true) := by
  have hg : grantB ⟨[], [l, [7]], 0⟩ ⟨k, 0, 0, x, 0⟩ = true := by rcases hk with rfl | rfl <;> simp [grantB]
  have hh : hasB 2 0 = true := by decide
  rw [apply_list hg (by rcases hk with rfl | rfl <;> simp)]
  unfold listE
  rcases hk with rfl | rfl <;> simp [hh, hx]
theorem apply_seven {l : List Int} : applyE ⟨[], [l, [7]], 0⟩ ⟨7, 0, 0, 0, 0⟩ = (⟨[], [l, [7]], 0⟩, ⟨0, false, false, l⟩, true) := by
  have hg : grantB ⟨[], [l, [7]], 0⟩ ⟨7, 0, 0, 0, 0⟩ = true := by simp [grantB]
  have hh : hasB 2 0 = true := by decide
  rw [apply_list hg (by simp)]
  unfold listE
  simp [hh]
theorem two_fits {l : List Int} (h : l.length ≤ 1000) : MemM.fits ⟨[], [l, [7]], 0⟩ := by
  refine ⟨by simp, by simp, fun t => ?_, by simp, (by decide : (0 : Int) = IntKind.i64.wrap 0)⟩
  show (([l, [7]] : List (List Int)).getD t []).length ≤ _
  match t with
  | 0 => simp; omega
  | 1 => simp
  | t + 2 => simp
theorem acc_ok {k x : Int} (hk : 0 ≤ k ∧ k ≤ 9) (hx : 0 ≤ x ∧ x < 4) : AccM.ok ⟨k, 0, 0, x, 0⟩ := by
  refine ⟨?_, (by decide : (0 : Int) = IntKind.i64.wrap 0), (by decide : (0 : Int) = IntKind.u64.wrap 0), ?_, (by decide : (0 : Int) = IntKind.i64.wrap 0)⟩
  · show k = IntKind.i64.wrap k; rw [IntKind.wrap_i64]; omega
  · show x = IntKind.u64.wrap x; rw [IntKind.wrap_u64]; omega
theorem sl_none (w : World) {k : IntKind} {A : Option Addr} {n c : Nat} {l : List Int} (hn : n = l.length) (hl : l = []) : SlI w k (.slice A n c) l := by
  subst hl
  subst hn
  exact SlI.empty _ _ _ _
theorem own_shape {w : World} {base : Nat} {e : TypeId} {k : IntKind} {v : Value} {l : List Int} (h : OwnI w base e k v l) : ∃ p n q, v = .slice p n q := by
  rcases h.shape with ⟨rfl, rfl⟩ | ⟨g, cap, rfl, -⟩
  · exact ⟨_, _, _, rfl⟩
  · exact ⟨_, _, _, rfl⟩
/-- the memory that an access left is stored in the variable -/
theorem LstS.taken {w0 wr w1 w2 : World} {g M : Nat} {l l' : List Int} {A A2 : Option Addr} {n c n2 c2 : Nat} (h : LstS w0 wr g M l) (hb : Below wr.heap.size wr w1) (hb2 : Below w1.heap.size w1 w2)
    (hs : StM (Nx (Off g M wr) wr w1) (.agg #[.slice A n c, .slice A2 n2 c2, .int .i64 0]) ⟨[], [l', [7]], 0⟩) (hlen : l'.length ≤ 1000) : LstS w0 (w2.setRow M #[.slice A n c, .slice A2 n2 c2, .int .i64 0]) g M l' := by
  have hlt := h.lt
  have hgm := h.gm
  have hg0 := h.g0
  have hs1 := hb.size
  have hs2 := hb2.size
  obtain ⟨B, m, d, B2, m2, d2, h1, h2⟩ := h.mem
  have hr := (hb2.block M (by omega)).trans ((hb.block M hlt).trans h1)
  refine ⟨h.g0, h.gm, ?_, ⟨A, n, c, A2, n2, c2, setRow_heap _ _ _ _ _ (0, 0) hr, hs.sub fun w3 h3 => ?_⟩, hlen, row_below (below_then (below_then h.below hb) hb2) (by omega) _⟩
  · exact (h.codes.kept h.codes.lt (below_then hb hb2)).kept hgm (row_below (Below.refl M w2) (Nat.le_refl _) _)
  · exact Off.nx (Off.self _ _ _) hb h.codes.lt hlt w3 ((Off.below hb2).trans ((Off.setRow w2 _).trans h3))
set_option maxRecDepth 100000 in
set_option maxHeartbeats 8000000 in
theorem walk (w : World) (v0 : Value) (l0 : List Int) (s0 : SlI w .u8 v0 l0) (a1 : Int) (w1 : (Lit.int .i64 a1).wf = true) :
    Calls Try.prog 4 #[v0, .int .i64 a1] w fun e w' => e = .returned (.bool true) ∧ Below w.heap.size w w' := by
  have AW := Lib.hid fun w' => awake4_any w'
  have HS0 := Lib.hid s0
  clear s0 w1
  go_enter Try.func4, Try.ntmps4
  go_wp2_with fail
  refine (AW.out _).mono ?_; rintro e wa ⟨rfl, hba⟩
  have HBA := Lib.hid hba
  clear hba AW
  go_wp2_with fail
  refine (new_any _ l0 60 _ (HS0.out.below HBA.out) (by omega)).mono ?_; rintro e wb ⟨rfl, hcb, hbb⟩
  have HBB := Lib.hid (below_then HBA.out hbb)
  have hgz := HBA.out.size
  have hgb := hcb.lt
  have HCB : Hid (CodesE wb wa.heap.size) := ⟨_, _, hcb⟩
  clear hcb hbb HS0 HBA
  generalize wa.heap.size = g at *
  obtain ⟨W1, hW1⟩ : ∃ W1, (((wb.alloc (.cells #[.int .i64 7] 3)).alloc (.cells #[.slice none 0 0, .slice (some ⟨wb.heap.size, 0, none⟩) 1 1] 36)).alloc (.cells zeroMem 25)).setRow (wb.heap.size + 2) #[.slice none 0 0, .slice (some ⟨wb.heap.size + 1, 0, none⟩) 2 2, .int .i64 0] = W1 := ⟨_, rfl⟩
  have N1 : Hid ((((wb.alloc (.cells #[.int .i64 7] 3)).alloc (.cells #[.slice none 0 0, .slice (some ⟨wb.heap.size, 0, none⟩) 1 1] 36)).alloc (.cells zeroMem 25)).heap[wb.heap.size + 2]? = some (.cells zeroMem 25 (0, 0))) := box_new (by simp)
  have HI1 : Hid (LstS w W1 g (wb.heap.size + 2) []) := by
    have b1 := below_new (below_new (below_new (Below.refl _ wb) (.cells #[.int .i64 7] 3)) (.cells #[.slice none 0 0, .slice (some ⟨wb.heap.size, 0, none⟩) 1 1] 36)) (.cells zeroMem 25)
    have b2 : Below wb.heap.size wb W1 := hW1 ▸ row_below b1 (by omega) _
    have b3 := below_new (below_new (Below.refl (wb.alloc (.cells #[.int .i64 7] 3)).heap.size (wb.alloc (.cells #[.int .i64 7] 3))) (.cells #[.slice none 0 0, .slice (some ⟨wb.heap.size, 0, none⟩) 1 1] 36)) (.cells zeroMem 25)
    have b4 := below_new (Below.refl ((wb.alloc (.cells #[.int .i64 7] 3)).alloc (.cells #[.slice none 0 0, .slice (some ⟨wb.heap.size, 0, none⟩) 1 1] 36)).heap.size ((wb.alloc (.cells #[.int .i64 7] 3)).alloc (.cells #[.slice none 0 0, .slice (some ⟨wb.heap.size, 0, none⟩) 1 1] 36))) (.cells zeroMem 25)
    have r0 : W1.heap[wb.heap.size]? = some (.cells #[.int .i64 7] 3 (0, 0)) := hW1 ▸ (setRow_other _ _ _ _ (by omega)).trans ((b3.block _ (by simp)).trans (heap_alloc_new _ _))
    have r1 : W1.heap[wb.heap.size + 1]? = some (.cells #[.slice none 0 0, .slice (some ⟨wb.heap.size, 0, none⟩) 1 1] 36 (0, 0)) := hW1 ▸ (setRow_other _ _ _ _ (by omega)).trans ((b4.block _ (by simp)).trans (box_new (by simp)))
    have r2 : W1.heap[wb.heap.size + 2]? = some (.cells #[.slice none 0 0, .slice (some ⟨wb.heap.size + 1, 0, none⟩) 2 2, .int .i64 0] 25 (0, 0)) := hW1 ▸ setRow_heap _ _ _ _ _ (0, 0) N1.out
    have z1 : W1.heap.size = wb.heap.size + 3 := by rw [← hW1]; simp
    refine ⟨hgz, by omega, HCB.out.kept hgb b2, ⟨none, 0, 0, _, 2, 2, r2, ⟨_, _, [.slice none 0 0, .slice (some ⟨wb.heap.size, 0, none⟩) 1 1], rfl, fun w2 ho => ⟨SlI.nil _ _, sll2_at ((ho.2 _ (by omega) (by omega) (by omega)).trans r1) (SlI.nil _ _) (sl1_at ((ho.2 _ (by omega) (by omega) (by omega)).trans r0) (by decide))⟩⟩⟩, by simp, below_then HBB.out b2⟩
  have HW1 := Lib.hid hW1
  have hM : g < wb.heap.size + 2 := by omega
  clear hW1 HCB HBB hgb
  go_upto_region 5 with (refine wpList_store_row rfl 25 _ _ rfl (wb.heap.size + 2) _ rfl rfl 25 zeroMem N1.out (by kernel_rfl) rfl (by simp [Value.oneCell']) ?_)
  rw [show (#[.slice none 0 0, .slice none 0 0, .int .i64 0] : Array Value) = zeroMem from rfl, HW1.out]
  clear HW1 N1
  generalize wb.heap.size + 2 = M at *
  go_upto_if 27 with (fail)
  go_cut [7] (fun lv wx => ∃ l, Hid (LstS w wx g M l) ∧ Hid (StI (Off g M wx) .i64 lv l))
  case first =>
    by_cases hq : (a1.tmod 4 == 3) = true
    · go_upto_region 8 with (at_make; refine wp_make_i64 W1 rfl _ _ rfl 999 _ _ rfl rfl rfl rfl ?_ ?_; omega; intro w1 hown hgrow)
      have hltM := HI1.out.lt
      have hltg := HI1.out.codes.lt
      have hstay : StI (Off g M w1) .i64 (.slice (some ⟨W1.heap.size, 0, none⟩) 999 999) (List.replicate 999 0) := OwnI.stays hown hltg hltM (by simp) rep_wf
      obtain ⟨⟨u, hcell⟩, hfro, hS⟩ := HI1.out.remake hgrow hstay (by simp)
      have HS := Lib.hid hS
      have HST : Hid (StI (Off g M (((w1.alloc (.cells #[.int .i64 7] 3)).alloc (.cells #[.slice (some ⟨W1.heap.size, 0, none⟩) 999 999, .slice (some ⟨w1.heap.size, 0, none⟩) 1 1] 36)).setCell ⟨M, 1, none⟩ (.slice (some ⟨w1.heap.size + 1, 0, none⟩) 2 2))) .i64 (.slice (some ⟨W1.heap.size, 0, none⟩) 999 999) (List.replicate 999 0)) :=
        hstay.sub fun w3 h3 => (Off.below (below_new (below_new (Below.refl _ _) _) _)).trans ((Off.setCell _ 1 _).trans h3)
      clear hS hstay hown hgrow
      go_wp2_with fail
      go_meet
      exact ⟨_, HS, HST⟩
    · have hq2 : (a1.tmod 4 == 3) = false := by simpa using hq
      clear hq
      go_wp2_with fail
      go_meet
      exact ⟨_, HI1, fun w2 _ => SlI.nil _ _⟩
  case rest =>
    obtain ⟨l, HL, HLV⟩ := hcut
    obtain ⟨wd, rfl⟩ : ∃ wd : World, wd = wc := ⟨_, rfl⟩
    clear HI1
    go_wp2_with fail
    go_loopw [7, 8] (fun lv i wr => ∃ k : Nat, ∃ l, k ≤ 20 ∧ i = .int .i64 k ∧ Hid (LstS w wr g M l) ∧ Hid (StI (Off g M wr) .i64 lv l)) (fun _ i _ => 21 - (intOf i).toNat)
    case atStart => exact ⟨0, _, by omega, rfl, HL, HLV⟩
    case round =>
      clear HL HLV
      obtain ⟨k, l, hk, rfl, HL, HLV⟩ := hrel
      obtain ⟨wo, rfl⟩ : ∃ wo : World, wo = wr := ⟨_, rfl⟩
      have hll := HL.out.len
      obtain ⟨a, cap, rfl, hcap⟩ := (HLV.out wo (Off.self _ _ _)).len
      by_cases hlt : k < 20
      · go_wp2_with fail
        refine (nextE g 4 _ HL.out.codes (by omega) (by omega)).mono ?_; rintro e w1 ⟨x, rfl, hx0, hx1, hc1, hg1⟩
        have HL1 := Lib.hid (HL.out.drawn hc1 hg1)
        have HLV1 : Hid (StI (Off g M w1) .i64 (.slice a l.length cap) l) := HLV.out.sub fun w3 h3 => (Off.grown hg1).trans h3
        clear HL HLV hc1 hg1
        obtain ⟨W2, hW2⟩ : ∃ W2, (w1.alloc (.cells zeroAcc 28)).setRow w1.heap.size #[.int .i64 8, .int .i64 0, .int .u64 0, .int .u64 x, .int .i64 0] = W2 := ⟨_, rfl⟩
        have N2 : Hid ((w1.alloc (.cells zeroAcc 28)).heap[w1.heap.size]? = some (.cells zeroAcc 28 (0, 0))) := heap_alloc_new _ _
        have HB2 : Hid (Below w1.heap.size w1 W2) := hW2 ▸ row_below (below_new (Below.refl _ _) _) (Nat.le_refl _) _
        have RY : Hid (W2.heap[w1.heap.size]? = some (.cells #[.int .i64 8, .int .i64 0, .int .u64 0, .int .u64 x, .int .i64 0] 28 (0, 0))) := hW2 ▸ setRow_heap _ _ _ _ _ (0, 0) N2.out
        have hz2 : w1.heap.size < W2.heap.size := by rw [← hW2]; simp
        have HW2 := Lib.hid hW2
        have hgY := HL1.out.codes.lt
        have hMY := HL1.out.lt
        have hgM := HL1.out.gm
        have hwx : IntKind.u64.wrap x = x := by rw [IntKind.wrap_u64]; omega
        clear hW2
        go_upto_region 14 with (refine wpList_store_row rfl 28 _ _ rfl (w1.heap.size) _ rfl rfl 28 zeroAcc N2.out (by kernel_rfl) rfl (by simp [Value.oneCell']) ?_)
        rw [show (#[.int .i64 0, .int .i64 0, .int .u64 0, .int .u64 0, .int .i64 0] : Array Value) = zeroAcc from rfl]
        first | rw [HW2.out] | (rw [hwx, HW2.out])
        clear HW2 N2 hwx
        have HL2 := Lib.hid (HL1.out.next HB2.out)
        go_wp2_with fail
        refine (nextE g 3 _ HL2.out.codes (by omega) (by omega)).mono ?_; rintro e w3 ⟨y, rfl, hy0, hy1, hc3, hg3⟩
        have HL3 := Lib.hid (HL2.out.drawn hc3 hg3)
        have HO3 : Hid (Off g M w1 w3) := (Off.below HB2.out).trans (Off.grown hg3)
        have hz3 := hg3.size
        have RY3 := Lib.hid ((hg3.block w1.heap.size hz2 (by simp; omega)).trans RY.out)
        have hMM : w3.heap[M]? = w1.heap[M]? := (hg3.block M (by omega) (by simp; omega)).trans (HB2.out.block M hMY)
        have HMM := Lib.hid hMM
        clear hMM HL2 RY hc3 hg3 HB2
        generalize hYe : w1.heap.size = Y at *
        have HYE := Lib.hid hYe
        clear hYe
        go_upto_if 44 with (fail)
        go_cut [7] (fun lv wx => ∃ kd : Int, ∃ l', Hid (kd = 8 ∨ kd = 9) ∧ Hid (l' = nextL kd x l) ∧ Hid (StI (Off g M wx) .i64 lv l') ∧ Hid (LstS w wx g M l) ∧ Hid (wx.heap[Y]? = some (.cells #[.int .i64 kd, .int .i64 0, .int .u64 0, .int .u64 x, .int .i64 0] 28 (0, 0))))
        case first =>
          by_cases hy : y = 1
          · subst hy
            have y0 := cell_of_row _ _ 0 _ _ _ RY3.out
            have y1 := frozen_of_row _ _ 0 _ _ RY3.out
            have hr4 := heap_setCell_same w3 Y 0 _ _ (.int .i64 9) RY3.out
            simp at hr4
            have RY4 := Lib.hid hr4
            have HO4 : Hid (Off g M w1 (w3.setCell ⟨Y, 0, none⟩ (.int .i64 9))) := ⟨by simpa using HO3.out.1, fun j hj h1 h2 => (heap_setCell_other w3 ⟨Y, 0, none⟩ j _ (by show j ≠ Y; have := HYE.out; omega)).trans (HO3.out.2 j hj h1 h2)⟩
            have HL4 : Hid (LstS w (w3.setCell ⟨Y, 0, none⟩ (.int .i64 9)) g M l) := HL1.out.move HO4.out ((heap_setCell_other w3 ⟨Y, 0, none⟩ M _ (by show M ≠ Y; omega)).trans HMM.out) (HL3.out.codes.kept hgY ((Below.refl Y w3).setCell (p := ⟨Y, 0, none⟩) (Nat.le_refl _) _)) (HL3.out.below.setCell (p := ⟨Y, 0, none⟩) (by show w.heap.size ≤ Y; have := HL1.out.g0; omega) _)
            have HLV4 : Hid (StI (Off g M (w3.setCell ⟨Y, 0, none⟩ (.int .i64 9))) .i64 (.slice a l.length cap) l) := HLV1.out.sub fun w4 h4 => HO4.out.trans h4
            clear hr4
            go_wp2_with fail
            generalize w3.setCell ⟨Y, 0, none⟩ (.int .i64 9) = W4 at *
            clear y0 y1
            go_loop [7, 48] (fun s i => s = .slice a l.length cap ∧ ∃ j : Nat, j ≤ l.length ∧ i = .int .i64 j ∧ Hid (∀ t, t < j → l.getD t 0 ≠ x)) (fun _ i => 1001 - (intOf i).toNat)
            case atStart => exact ⟨rfl, 0, by omega, rfl, (fun t ht => absurd ht (by omega) : ∀ t, t < 0 → l.getD t 0 ≠ x)⟩
            case round =>
              obtain ⟨rfl, j, hj, rfl, hmiss⟩ := hrel
              by_cases hjl : j < l.length
              · have hS4 := HLV4.out W4 (Off.self _ _ _)
                obtain ⟨b, off, rfl, hbb, hcj⟩ := cell_at hS4 j hjl
                obtain ⟨z, hz⟩ : ∃ z, l.getD j 0 = z := ⟨_, rfl⟩
                rw [hz] at hcj
                have HS4 := Lib.hid hS4
                have HZ := Lib.hid hz
                clear hz hS4
                by_cases hzx : z = x
                · subst hzx
                  have HE : Hid (l.erase z = l.take j ++ l.drop (j + 1)) := FstL.erase ⟨hjl, HZ.out, hmiss.out⟩
                  have HT := Lib.hid (HS4.out.take j (by omega))
                  have htl : (l.take j).length = j := by simp; omega
                  have hdl : (l.drop (j + 1)).length = l.length - (j + 1) := by simp
                  have HLN := Lib.hid (And.intro htl hdl)
                  clear htl hdl
                  have f2 : j + 1 ≤ l.length := hjl
                  have f4 : (j : Int) + 1 ≤ (l.length : Int) := by omega
                  have f8 : IntKind.i64.wrap ((j : Int) + 1) = (j : Int) + 1 := by rw [IntKind.wrap_i64]; omega
                  have f9 : (0 : Int) ≤ (j : Int) + 1 := by omega
                  have f10 : ((j : Int) + 1).toNat = j + 1 := by omega
                  by_cases hce : cap = j + 1
                  · subst hce
                    have f5 : (j : Int) ≤ (j : Int) + 1 := by omega
                    have f6 : (l.length : Int) ≤ (j : Int) + 1 := by omega
                    have f7 : j ≤ j + 1 := by omega
                    have HD : Hid (SlI W4 .i64 (.slice (some ⟨b, off, none⟩) (l.length - (j + 1)) 0) (l.drop (j + 1))) := by
                      show SlI _ _ _ _
                      rw [List.drop_eq_nil_of_le (by omega), show l.length - (j + 1) = 0 by omega]
                      exact SlI.empty _ _ _ _
                    go_upto_region 20 with fail
                    go_region_law (first
                      | (refine step_app_i64 (by rfl) _ _ (by rfl) W4.heap.size v5 (l.take j) (by rfl) ho5 _ (l.drop (j + 1)) (by rfl) (by first | exact HD5.out | exact sl_none _ (by simp <;> omega) (List.drop_eq_nil_of_le (by omega))) (by rw [HLN.out.1]; omega) (by rw [HLN.out.2]; omega) HB5.out.size ?_; intro v6 w6 ho6 hg6; have HB6 := Lib.hid (HB5.out.grown hg6 HB5.out.size ho5.own_ge); obtain ⟨p6, n6, q6, e6⟩ := own_shape ho6; subst e6)
                      | (refine step_app_i64 (by rfl) _ _ (by rfl) W4.heap.size (.slice none 0 0) [] (by rfl) (OwnI.nil _ _ _ _) _ (l.take j) (by rfl) HT.out (by simp) (by rw [HLN.out.1]; omega) (Nat.le_refl _) ?_; intro v5 w5 ho5 hg5; have HB5 : Hid (Below W4.heap.size W4 w5) := (Below.refl W4.heap.size W4).grown (undrewG hg5) (Nat.le_refl _) (fun k hk => by cases hk); have HD5 := Lib.hid (HD.out.below HB5.out); simp only [List.nil_append] at ho5))
                    all_goals
                      have HF : Hid (StI (Off g M w6) .i64 (.slice p6 n6 q6) (l.take j ++ l.drop (j + 1))) := OwnI.stays ho6 HL4.out.codes.lt HL4.out.lt (by simp; omega) (fun y hy => HS4.out.2.1 y (by
                        rw [← HE.out] at hy; exact List.mem_of_mem_erase hy))
                      have HE2 : Hid (l.take j ++ l.drop (j + 1) = nextL 9 z l) := by
                        show _ = nextL 9 z l
                        unfold nextL
                        rw [if_neg (by decide), HE.out]
                      have RY6 := Lib.hid ((HB6.out.block Y (Array.getElem?_eq_some_iff.1 RY4.out).1).trans RY4.out)
                      have HL6 := Lib.hid (HL4.out.next HB6.out)
                      clear ho6 hg6 ho5 hg5
                      go_wp2_with fail
                      go_meet
                      exact ⟨9, _, .inr rfl, HE2, HF, HL6, RY6⟩
                  · have HD := Lib.hid (HS4.out.drop (j + 1) (by omega))
                    have f5 : j ≤ cap := by omega
                    have f6 : (j : Int) ≤ (cap : Int) := by omega
                    have f7 : (l.length : Int) ≤ (cap : Int) := by omega
                    go_upto_region 20 with fail
                    go_region_law (first
                      | (refine step_app_i64 (by rfl) _ _ (by rfl) W4.heap.size v5 (l.take j) (by rfl) ho5 _ (l.drop (j + 1)) (by rfl) (by first | exact HD5.out | exact sl_none _ (by simp <;> omega) (List.drop_eq_nil_of_le (by omega))) (by rw [HLN.out.1]; omega) (by rw [HLN.out.2]; omega) HB5.out.size ?_; intro v6 w6 ho6 hg6; have HB6 := Lib.hid (HB5.out.grown hg6 HB5.out.size ho5.own_ge); obtain ⟨p6, n6, q6, e6⟩ := own_shape ho6; subst e6)
                      | (refine step_app_i64 (by rfl) _ _ (by rfl) W4.heap.size (.slice none 0 0) [] (by rfl) (OwnI.nil _ _ _ _) _ (l.take j) (by rfl) HT.out (by simp) (by rw [HLN.out.1]; omega) (Nat.le_refl _) ?_; intro v5 w5 ho5 hg5; have HB5 : Hid (Below W4.heap.size W4 w5) := (Below.refl W4.heap.size W4).grown (undrewG hg5) (Nat.le_refl _) (fun k hk => by cases hk); have HD5 := Lib.hid (HD.out.below HB5.out); simp only [List.nil_append] at ho5))
                    all_goals
                      have HF : Hid (StI (Off g M w6) .i64 (.slice p6 n6 q6) (l.take j ++ l.drop (j + 1))) := OwnI.stays ho6 HL4.out.codes.lt HL4.out.lt (by simp; omega) (fun y hy => HS4.out.2.1 y (by
                        rw [← HE.out] at hy; exact List.mem_of_mem_erase hy))
                      have HE2 : Hid (l.take j ++ l.drop (j + 1) = nextL 9 z l) := by
                        show _ = nextL 9 z l
                        unfold nextL
                        rw [if_neg (by decide), HE.out]
                      have RY6 := Lib.hid ((HB6.out.block Y (Array.getElem?_eq_some_iff.1 RY4.out).1).trans RY4.out)
                      have HL6 := Lib.hid (HL4.out.next HB6.out)
                      clear ho6 hg6 ho5 hg5
                      go_wp2_with fail
                      go_meet
                      exact ⟨9, _, .inr rfl, HE2, HF, HL6, RY6⟩
                · have hzb : (z == x) = false := by simpa using hzx
                  have HNX : Hid (∀ t, t < j + 1 → l.getD t 0 ≠ x) := fun t ht => by
                    rcases Nat.lt_or_ge t j with h | h
                    · exact hmiss.out t h
                    · obtain rfl : t = j := by omega
                      rw [HZ.out]; exact hzx
                  clear hzx
                  go_wp2
                  go_round
                  case rel => exact ⟨rfl, j + 1, by omega, by go_num, HNX⟩
                  case measure => simp [intOf]; omega
              · obtain rfl : j = l.length := by omega
                have HE : Hid (l = nextL 9 x l) := by
                  show l = nextL 9 x l
                  unfold nextL
                  rw [if_neg (by decide), erase_none l x hmiss.out]
                go_wp2_with fail
                go_meet
                exact ⟨9, l, .inr rfl, HE, HLV4, HL4, RY4⟩
          · have hyb : (y == 1) = false := by simpa using hy
            clear hy
            by_cases hl1 : l.length < 1000
            · have HE : Hid (l ++ [x] = nextL 8 x l) := by
                show _ = nextL 8 x l
                unfold nextL
                rw [if_pos rfl, if_pos hl1]
              have hS3 := Lib.hid ((HLV1.out.sub fun w4 h4 => HO3.out.trans h4 : StI (Off g M w3) .i64 (.slice a l.length cap) l) w3 (Off.self _ _ _))
              go_wp2_with (first
                | (refine wp_append_i64 (w5.alloc (.cells #[.int .i64 x] 3)) rfl _ _ rfl w3.heap.size v5 l rfl (ho5.alloc _) x w5.heap.size rfl (World.cell?_alloc_at _ _ _ _ rfl) (by omega) (by have := HB5.out.size; simp; omega) ?_; intro v6 w6 ho6 hg6; have HB6 := Lib.hid ((below_new HB5.out (.cells #[.int .i64 x] 3)).grown hg6 (by have := HB5.out.size; simp; omega) ho5.own_ge); obtain ⟨p6, n6, q6, e6⟩ := own_shape ho6; subst e6)
                | (refine wp_app_i64 w3 rfl _ _ rfl w3.heap.size _ [] rfl (OwnI.nil _ _ _ _) _ l rfl hS3.out (by simp) (by omega) (Nat.le_refl _) ?_; intro v5 w5 ho5 hg5; have HB5 : Hid (Below w3.heap.size w3 w5) := (Below.refl w3.heap.size w3).grown hg5 (Nat.le_refl _) (fun k hk => by cases hk); simp only [List.nil_append] at ho5))
              have HF : Hid (StI (Off g M w6) .i64 (.slice p6 n6 q6) (l ++ [x])) := OwnI.stays ho6 HL3.out.codes.lt HL3.out.lt (by simp; omega) (fun y hy => by
                rw [List.mem_append, List.mem_singleton] at hy
                rcases hy with hy | rfl
                · exact hS3.out.2.1 y hy
                · rw [IntKind.wrap_i64]; omega)
              have RY6 := Lib.hid ((HB6.out.block Y (Array.getElem?_eq_some_iff.1 RY3.out).1).trans RY3.out)
              have HL6 := Lib.hid (HL3.out.next HB6.out)
              clear ho6 hg6 ho5 hg5
              go_meet
              exact ⟨8, _, .inl rfl, HE, HF, HL6, RY6⟩
            · have HE : Hid (l = nextL 8 x l) := by
                show _ = nextL 8 x l
                unfold nextL
                rw [if_pos rfl, if_neg hl1]
              go_wp2_with fail
              go_meet
              exact ⟨8, l, .inl rfl, HE, HLV1.out.sub fun w4 h4 => HO3.out.trans h4, HL3, RY3⟩
        case rest =>
          obtain ⟨kd, l', hkd, hl', HLV', HL', RY'⟩ := hcut
          obtain ⟨wd2, rfl⟩ : ∃ wd2 : World, wd2 = wc := ⟨_, rfl⟩
          obtain ⟨a', cap', rfl, -⟩ := (HLV'.out wd2 (Off.self _ _ _)).len
          have hlen' : l'.length ≤ 1000 := by rw [hl'.out]; exact nextL_le hll
          obtain ⟨A, n, c, A2, n2, c2, hrow, hst⟩ := HL'.out.mem
          have AP := Lib.hid (apply_any (Off g M wd2) _ ⟨[], [l, [7]], 0⟩ ⟨kd, 0, 0, x, 0⟩ wd2 (Off.self _ _ _) (Off.wide _ _ _) hst (two_fits hll) (acc_ok (by rcases hkd.out with h | h <;> omega) ⟨hx0, hx1⟩))
          rw [apply_lists hkd.out (by rw [IntKind.wrap_i64]; omega), ← hl'.out] at AP
          have HMR := Lib.hid hrow
          obtain ⟨x0, x1, x2⟩ := rowc3 hrow
          obtain ⟨y0, y1, y2, y3, y4⟩ := rowc5 RY'.out
          clear hst hrow HL3 HLV1 HL1 RY3 HMM HYE HO3
          go_wp2_with fail
          refine AP.out.mono ?_; rintro e w5 ⟨v5, b5, rfl, hs5, ha5, hb5⟩
          obtain ⟨A5, n5, c5, A6, n6, c6, t5, rfl⟩ := hs5.shape w5 (Nx.at (Off.self _ _ _) (Off.wide _ _ _) hb5)
          obtain rfl : t5 = 0 := agg_tick hs5
          obtain ⟨A7, rfl, hA7⟩ := ha5
          obtain ⟨a7, c7, rfl, -⟩ := (hA7 w5 (Nx.at (Off.self _ _ _) (Off.wide _ _ _) hb5)).len
          obtain ⟨us, hus⟩ := hs5.listsOf
          obtain ⟨b6, o6, cc, e6, -, hb6, hc6, hi6⟩ := (hus w5 (Nx.at (Off.self _ _ _) (Off.wide _ _ _) hb5)).open (by simp)
          simp only [Value.slice.injEq] at e6
          obtain ⟨rfl, rfl, rfl⟩ := e6
          have hc60 := hc6 0 (by simp)
          have hc61 := hc6 1 (by simp)
          have hi60 := hi6 0 (by simp)
          have hi61 := hi6 1 (by simp)
          generalize us.getD 0 (.slice none 0 0) = u0 at *
          generalize us.getD 1 (.slice none 0 0) = u1 at *
          have HI60 : Hid (SlI w5 .i64 u0 l') := hi60
          have HI61 : Hid (SlI w5 .i64 u1 [7]) := hi61
          have HC60 : Hid (w5.cell? ⟨b6, o6, none⟩ = some u0) := hc60
          have HC61 : Hid (w5.cell? ⟨b6, o6 + 1, none⟩ = some u1) := hc61
          have HS5 := Lib.hid hs5
          have HB5 := Lib.hid hb5
          have hz5 := hb5.size
          have hMlt := HL'.out.lt
          have hw5 := below_new (below_new (Below.refl w5.heap.size w5) (.cells zeroMem 25)) (.cells zeroAns 38)
          have V0 : Hid (((w5.alloc (.cells zeroMem 25)).alloc (.cells zeroAns 38)).heap[w5.heap.size]? = some (.cells zeroMem 25 (0, 0))) := heap_alloc2_old _ _ _
          have V1 : Hid (∀ cs, (((w5.alloc (.cells zeroMem 25)).alloc (.cells zeroAns 38)).setRow w5.heap.size cs).heap[w5.heap.size + 1]? = some (.cells zeroAns 38 (0, 0))) := fun cs => (setRow_other _ _ _ _ (by omega)).trans (heap_alloc2_new _ _ _)
          obtain ⟨W6, hW6⟩ : ∃ W6, (((w5.alloc (.cells zeroMem 25)).alloc (.cells zeroAns 38)).setRow w5.heap.size #[.slice A5 n5 c5, .slice (some ⟨b6, o6, none⟩) 2 c6, .int .i64 0]).setRow (w5.heap.size + 1) #[.int .u64 l'.length, .bool false, .bool false, .slice a7 0 c7] = W6 := ⟨_, rfl⟩
          have HB6 : Hid (Below w5.heap.size w5 W6) := hW6 ▸ row_below (row_below hw5 (Nat.le_refl _) _) (Nat.le_succ _) _
          have XM : Hid (W6.heap[w5.heap.size]? = some (.cells #[.slice A5 n5 c5, .slice (some ⟨b6, o6, none⟩) 2 c6, .int .i64 0] 25 (0, 0))) := hW6 ▸ (setRow_other _ _ _ _ (by omega)).trans (setRow_heap _ _ _ _ _ (0, 0) V0.out)
          have XA : Hid (W6.heap[w5.heap.size + 1]? = some (.cells #[.int .u64 l'.length, .bool false, .bool false, .slice a7 0 c7] 38 (0, 0))) := hW6 ▸ setRow_heap _ _ _ _ _ (0, 0) (V1.out _)
          have hz6 : w5.heap.size + 2 = W6.heap.size := by rw [← hW6]; simp
          have HW6 := Lib.hid hW6
          clear hs5 hb5 hA7 hw5 hW6 hus hc6 hi6 hc60 hc61 hi60 hi61 x0 x1 x2 y0 y1 y2 y3 y4 AP
          go_upto_region 25 with (first
            | (refine wpList_store_row rfl 25 _ _ rfl (w5.heap.size) _ rfl rfl 25 zeroMem V0.out (by kernel_rfl) rfl (by simp [Value.oneCell']) ?_)
            | (refine wpList_store_row rfl 38 _ _ rfl (w5.heap.size + 1) _ rfl rfl 38 zeroAns (V1.out _) (by kernel_rfl) rfl (by simp [Value.oneCell']) ?_))
          rw [show (#[.slice none 0 0, .slice none 0 0, .int .i64 0] : Array Value) = zeroMem from rfl, show (#[.int .u64 0, .bool false, .bool false, .slice none 0 0] : Array Value) = zeroAns from rfl, HW6.out]
          clear HW6 V0 V1
          have HC0 := HB6.out.cell (p := ⟨b6, o6, none⟩) hb6
          have HC1 := HB6.out.cell (p := ⟨b6, o6 + 1, none⟩) hb6
          rw [HC60.out] at HC0
          rw [HC61.out] at HC1
          obtain ⟨x0, x1, x2⟩ := rowc3 XM.out
          obtain ⟨y0, y1, y2, y3⟩ := rowc4 XA.out
          have T0 := Lib.hid (same_any u0 _ l' l' W6 (HI60.out.below HB6.out) (HLV'.out W6 (Off.below (below_then HB5.out HB6.out))))
          have hwl : IntKind.u64.wrap (l'.length : Int) = (l'.length : Int) := by rw [IntKind.wrap_u64]; omega
          go_wp2_with fail
          refine T0.out.mono ?_; rintro e w7 ⟨n7, rfl, rfl⟩
          obtain ⟨W7, hW7⟩ : ∃ W7, W6.drewN n7 = W7 := ⟨_, rfl⟩
          have HB7 : Hid (Below W6.heap.size W6 W7) := hW7 ▸ below_drewN (Below.refl _ _) n7
          rw [hW7]
          clear hW7 x0 x1 x2 y0 y1 y2 y3 HC0
          have hz7 := HB7.out.size
          obtain ⟨x0, x1, x2⟩ := rowc3 ((HB7.out.block w5.heap.size (by omega)).trans XM.out)
          have HC1' := (HB7.out.cell (p := ⟨b6, o6 + 1, none⟩) (by show b6 < _; omega)).trans HC1
          have q0 : ((W7.alloc (.cells #[.int .i64 7] 3)).heap[W7.heap.size]? = some (.cells #[.int .i64 7] 3 (0, 0))) := heap_alloc_new _ _
          have HB8 := Lib.hid (below_new HB7.out (.cells #[.int .i64 7] 3))
          have T1 := Lib.hid (same_any u1 (.slice (some ⟨W7.heap.size, 0, none⟩) 1 1) [7] [7] (W7.alloc (.cells #[.int .i64 7] 3)) ((HI61.out.below HB6.out).below HB8.out) (sl1_at q0 (by decide)))
          clear HC1 T0 q0
          go_wp2_with fail
          refine T1.out.mono ?_; rintro e w8 ⟨n8, rfl, rfl⟩
          obtain ⟨W8, hW8⟩ : ∃ W8, (W7.alloc (.cells #[.int .i64 7] 3)).drewN n8 = W8 := ⟨_, rfl⟩
          have HB9 : Hid (Below W6.heap.size W6 W8) := hW8 ▸ below_drewN HB8.out n8
          rw [hW8]
          clear hW8 x0 x1 x2 HC1' HB8 HB7
          have hz8 := HB9.out.size
          obtain ⟨x0, x1, x2⟩ := rowc3 ((HB9.out.block w5.heap.size (by omega)).trans XM.out)
          have HBT := Lib.hid (below_then HB6.out HB9.out)
          have HFI := Lib.hid (HL'.out.taken HB5.out HBT.out HS5.out hlen')
          have HMW : Hid (W8.heap[M]? = some (.cells #[.slice A n c, .slice A2 n2 c2, .int .i64 0] 25 (0, 0))) := (HBT.out.block M (by omega)).trans ((HB5.out.block M hMlt).trans HMR.out)
          have HLF : Hid (StI (Off g M (W8.setRow M #[.slice A5 n5 c5, .slice (some ⟨b6, o6, none⟩) 2 c6, .int .i64 0])) .i64 (.slice a' l'.length cap') l') := HLV'.out.sub fun w9 h9 => (Off.below (below_then HB5.out HBT.out)).trans ((Off.setRow W8 _).trans h9)
          clear HC60 HC61 HI60 HI61 XA XM HB9 HL'
          go_wp2_with (refine wpList_store_row rfl 25 _ _ rfl M _ rfl rfl 25 _ HMW.out (by kernel_rfl) rfl (by simp [Value.oneCell']) ?_)
          go_roundw
          case rel => exact ⟨k + 1, _, by omega, by go_num, HFI, HLF⟩
          case measure => simp [intOf]; omega
      · skip
        obtain ⟨A, n, c, A2, n2, c2, hrow, hst⟩ := HL.out.mem
        have AP := Lib.hid (apply_any (Off g M wo) _ ⟨[], [l, [7]], 0⟩ ⟨7, 0, 0, 0, 0⟩ wo (Off.self _ _ _) (Off.wide _ _ _) hst (two_fits hll) (acc_ok (by omega) (by omega)))
        rw [apply_seven] at AP
        obtain ⟨x0, x1, x2⟩ := rowc3 hrow
        clear hst hrow
        go_wp2_with fail
        refine AP.out.mono ?_; rintro e w5 ⟨v5, b5, rfl, hs5, ha5, hb5⟩
        obtain ⟨A5, n5, c5, A6, n6, c6, t5, rfl⟩ := hs5.shape w5 (Nx.at (Off.self _ _ _) (Off.wide _ _ _) hb5)
        obtain rfl : t5 = 0 := agg_tick hs5
        obtain ⟨A7, rfl, hA7⟩ := ha5
        have HI7 := Lib.hid (hA7 w5 (Nx.at (Off.self _ _ _) (Off.wide _ _ _) hb5))
        obtain ⟨a7, c7, rfl, -⟩ := HI7.out.len
        have HB5 := Lib.hid hb5
        have hz5 := hb5.size
        have hw5 := below_new (below_new (Below.refl w5.heap.size w5) (.cells zeroMem 25)) (.cells zeroAns 38)
        have V0 : Hid (((w5.alloc (.cells zeroMem 25)).alloc (.cells zeroAns 38)).heap[w5.heap.size]? = some (.cells zeroMem 25 (0, 0))) := heap_alloc2_old _ _ _
        have V1 : Hid (∀ cs, (((w5.alloc (.cells zeroMem 25)).alloc (.cells zeroAns 38)).setRow w5.heap.size cs).heap[w5.heap.size + 1]? = some (.cells zeroAns 38 (0, 0))) := fun cs => (setRow_other _ _ _ _ (by omega)).trans (heap_alloc2_new _ _ _)
        obtain ⟨W6, hW6⟩ : ∃ W6, (((w5.alloc (.cells zeroMem 25)).alloc (.cells zeroAns 38)).setRow w5.heap.size #[.slice A5 n5 c5, .slice A6 n6 c6, .int .i64 0]).setRow (w5.heap.size + 1) #[.int .u64 0, .bool false, .bool false, .slice a7 l.length c7] = W6 := ⟨_, rfl⟩
        have HB6 : Hid (Below w5.heap.size w5 W6) := hW6 ▸ row_below (row_below hw5 (Nat.le_refl _) _) (Nat.le_succ _) _
        have XA : Hid (W6.heap[w5.heap.size + 1]? = some (.cells #[.int .u64 0, .bool false, .bool false, .slice a7 l.length c7] 38 (0, 0))) := hW6 ▸ setRow_heap _ _ _ _ _ (0, 0) (V1.out _)
        have HW6 := Lib.hid hW6
        clear hs5 hb5 hA7 hw5 hW6 x0 x1 x2 AP
        go_upto_region 29 with (first
          | (refine wpList_store_row rfl 25 _ _ rfl (w5.heap.size) _ rfl rfl 25 zeroMem V0.out (by kernel_rfl) rfl (by simp [Value.oneCell']) ?_)
          | (refine wpList_store_row rfl 38 _ _ rfl (w5.heap.size + 1) _ rfl rfl 38 zeroAns (V1.out _) (by kernel_rfl) rfl (by simp [Value.oneCell']) ?_))
        rw [show (#[.slice none 0 0, .slice none 0 0, .int .i64 0] : Array Value) = zeroMem from rfl, show (#[.int .u64 0, .bool false, .bool false, .slice none 0 0] : Array Value) = zeroAns from rfl, HW6.out]
        clear HW6 V0 V1
        obtain ⟨y0, y1, y2, y3⟩ := rowc4 XA.out
        have T0 := Lib.hid (same_any _ _ l l W6 (HI7.out.below HB6.out) (HLV.out W6 (Off.below (below_then HB5.out HB6.out))))
        have HFI := Lib.hid (below_then HL.out.below (below_then HB5.out HB6.out))
        go_wp2_with fail
        refine T0.out.mono ?_; rintro e w7 ⟨n7, rfl, rfl⟩
        have HFN := Lib.hid (below_drewN HFI.out n7)
        go_wp2
        go_ret
        exact ⟨rfl, HFN.out⟩
set_option maxRecDepth 100000 in
theorem lifted (os : Os) (started : os.Started) (H : Type) (enc : TypeId × Value → H) :
    ReturnsInHanded {} Try.checked os 4 .any (Rows.memoryListsSpec.pre6 enc Try.prog Try.f4 Rows.memoryListsRow.domain false) (Rows.memoryListsSpec.post enc Try.prog Try.f4 false true false false) := by
  refine returnsInHanded_of_change_sized (C := Try.checked) own started (by kernel_rfl) Try.func4
    (ChangeSpec.witness6 (enc := enc) (C := Try.checked) false ⟨#[], #[.slice none 0 0, .int .i64 0], []⟩ 8 (by kernel_rfl) (by kernel_rfl) (by kernel_rfl) (by kernel_rfl)) ?_
  intro W base args ds gs before hval0 hW _ hsz0 _
  have hsz : (DataW.weightsEach Try.prog (Try.f4.params.toList ++ Rows.memoryListsSpec.plain.varTypes Try.prog) (ds ++ gs)).all (· ≤ reachBytes) = true := hsz0
  clear hsz0
  have hval : ∀ (j : Nat) t v, Try.f4.params[j]? = some t → args[j]? = some v → Value.okWide Try.prog W .any base t v := hval0
  have hW' := hW
  obtain ⟨p, q, hA0, hV, rfl, _, _⟩ := hW
  have hA : DataW.TrodAll enc Try.prog W 0 (fun _ => true) true Try.f4.params.toList args.toList ds p := hA0
  rw [Try.params4] at hA hval hsz
  obtain ⟨v0, vs0, d0, ds0, p0, q0, hargs, rfl, rfl, h0, r0⟩ := trodAll_cons hA
  obtain ⟨v1, vs1, d1, ds1, p1, q1, rfl, rfl, rfl, h1, r1⟩ := trodAll_cons r0
  obtain ⟨rfl, rfl, rfl⟩ := trodAll_nil r1
  obtain rfl : args = #[v0, v1] := by cases args; simp_all
  obtain ⟨rfl, rfl⟩ := trodVars_none hV
  have k0 := h0
  have k1 := h1
  obtain ⟨l0, s0⟩ := view_sl (k := .u8) Try.underlying29 Try.underlying5 (by kernel_rfl) (fun elems sp hd => sized_slice hsz (j := 0) (t := 29) (e := 5) rfl (by rw [hd]; rfl) Try.underlying29) (of_decide_eq_true (by kernel_rfl)) (hval 0 29 v0 rfl rfl) h0
  obtain ⟨a1, rfl, -, -, w1⟩ := open_int Try.underlying3 (hval 1 3 v1 rfl rfl) h1
  clear hA0 hval0
  simp only [List.append_nil] at hW'
  have hlt := hW'.lt
  refine (walk W v0 l0 s0 a1 w1).mono fun e W' ⟨he, hb⟩ => ?_
  subst he
  exact ⟨_, rfl, _, _, _, [], _, [], hW', trodAll_cons_mk (shut_bool Try.underlying4 _) trodAll_mk0, (trodAll_cons_mk (Below.trod Try.laidOut (by kernel_rfl) (of_decide_eq_true (by kernel_rfl)) k0 hb (fun x hx => by simpa using hlt x (by simp [hx]))) (trodAll_cons_mk (Below.trod Try.laidOut (by kernel_rfl) (of_decide_eq_true (by kernel_rfl)) k1 hb (fun x hx => by simpa using hlt x (by simp [hx]))) trodAll_mk0)), rfl, hb.frame _, fun h => by cases h⟩
theorem over : Rows.memoryListsRow.holds Try.pinned (OpenSpec.ofChange Rows.memoryListsSpec) :=
  OpenClaim.holds_of_wide 4 Try.f4 rfl rfl rfl rfl rfl rfl rfl ⟨rfl, rfl, rfl, rfl, rfl⟩ rfl rfl rfl rfl rfl (by kernel_rfl) Try.func4 (by kernel_rfl)
    (of_decide_eq_true (by kernel_rfl)) (by unfold Func.isWrapper; first | (rw [if_pos (by decide +kernel)]; kernel_rfl) | (rw [if_neg (by decide +kernel)]; exact ⟨rfl, rfl⟩))
    (fun os started H enc _ => lifted os started H enc)
/-- THE STATEMENT -/
theorem proved : Rows.MemoryListsSaid :=
  over
end Go.Proofs.Ytgdgneciagbikaa.memoryLists
