/- Proved: TraceConflicts returns true, and its arguments read afterwards as before, for all records x and y, every list of codes and either truth value; no condition. -/
import Derived.Test.YtkpnakomlfjndaaLaw
import Derived.Test.YtkpnakomlfjndaaLawMm
import Derived.Test.YtkpnakomlfjndaaL6Awake
import Derived.Test.YtkpnakomlfjndaaRu
import Derived.Test.YtkpnakomlfjndaaStill
import Derived.Deep.DeepCutAuto
import Derived.LoopTactic
import Derived.WalkKit
import Derived.ProofKit
import Derived.OpenShut
import Derived.SizedLaws
namespace Go.Proofs.Ytkpnakomlfjndaa.traceConflicts
open Go.ChangeShapes Go.WideShapes Go.ChangeAt Go.RowKit
set_option linter.unusedVariables false
theorem conflict_symm (x y : ItemM) : conflictE x y = conflictE y x := by
  unfold conflictE
  rw [show (x.thr == y.thr) = (y.thr == x.thr) from Bool.beq_comm, show (placeE x == placeE y) = (placeE y == placeE x) from Bool.beq_comm, Bool.and_comm (plainB x.acc.kind), Bool.or_comm (changesE x)]
theorem good_two {l : List ItemM} {x y : ItemM} (h : ∀ z ∈ l, z.good) (hx : x.good) (hy : y.good) : ∀ z ∈ l ++ [x, y], z.good := by
  intro z hz
  rw [List.mem_append, List.mem_cons, List.mem_singleton] at hz
  rcases hz with hz | rfl | rfl
  · exact h z hz
  · exact hx
  · exact hy
def TwoAt (w : World) (g : Nat) (x y : ItemM) : Prop := ItemAt w g 0 x ∧ ItemAt w g 8 y
theorem two_at {w : World} {g : Nat} {x y : ItemM} (h : w.heap[g]? = some (.cells #[.int .i64 x.thr, .int .i64 x.acc.kind, .int .i64 x.acc.addr, .int .u64 x.acc.old, .int .u64 x.acc.new, .int .i64 x.acc.til, .int .u64 x.val, .bool x.ok, .int .i64 y.thr, .int .i64 y.acc.kind, .int .i64 y.acc.addr, .int .u64 y.acc.old, .int .u64 y.acc.new, .int .i64 y.acc.til, .int .u64 y.val, .bool y.ok] 57 (0, 0))) : TwoAt w g x y :=
  ⟨⟨cell_of_row _ _ 0 _ _ _ h, cell_of_row _ _ 1 _ _ _ h, cell_of_row _ _ 2 _ _ _ h, cell_of_row _ _ 3 _ _ _ h, cell_of_row _ _ 4 _ _ _ h, cell_of_row _ _ 5 _ _ _ h, cell_of_row _ _ 6 _ _ _ h, cell_of_row _ _ 7 _ _ _ h⟩, ⟨cell_of_row _ _ 8 _ _ _ h, cell_of_row _ _ 9 _ _ _ h, cell_of_row _ _ 10 _ _ _ h, cell_of_row _ _ 11 _ _ _ h, cell_of_row _ _ 12 _ _ _ h, cell_of_row _ _ 13 _ _ _ h, cell_of_row _ _ 14 _ _ _ h, cell_of_row _ _ 15 _ _ _ h⟩⟩
theorem step_append_two {w : World} {ops : Array Oper} {o : Oper} {a : Act} {K : Act → World → Prop} {Q : Exit → Act → World → Prop} {E : Prop}
    (hgd : o.guard = none) (s x : Operand) (hop : o.op = Op.call { callee := Callee.builtin Builtin.append, args := #[s, x], argTypes := #[59, 59] })
    (base : Nat) (v : Value) (l : List ItemM) (hs : a.eval s = v) (hown : OwnT w base v l) (y z : ItemM) (g : Nat)
    (hx : a.eval x = .slice (some ⟨g, 0, none⟩) 2 2) (hcell : TwoAt w g y z) (hl : l.length ≤ 1000000) (hb : base ≤ w.heap.size)
    (hK : ∀ v' w', OwnT w' base v' (l ++ [y, z]) → w.grownBy w' v.ownBlock → K (a.put o.dst v') w') :
    if Region.wanted o (yielded ops a.tmps) = true then Oper.wp Try.prog o a w K Q else E := by
  have hw : Region.wanted o (yielded ops a.tmps) = true := by simp [Region.wanted, hgd]
  rw [if_pos hw]
  obtain ⟨i0, hi, hz0, hz1, hz2⟩ := info_parts Try.info_item
  refine wp_append_own w s x _ hop base _ i0 _ 8 _ (by kernel_rfl) hi hz0 hz1 rfl rfl (by decide) v l.length _ hs hown ⟨g, 0, none⟩ 2 2 (itemCells y ++ itemCells z) hx rfl ?_ ?_ (by unfold maxLen; omega) (by rw [hz2]; omega) hb fun v' w' h1 h2 _ => hK v' w' ?_ h2
  · obtain ⟨⟨c0, c1, c2, c3, c4, c5, c6, c7⟩, ⟨d0, d1, d2, d3, d4, d5, d6, d7⟩⟩ := hcell
    intro j u hj
    match j, hj with
    | 0, hj => simp [itemCells] at hj; subst hj; simpa [Addr.add] using c0
    | 1, hj => simp [itemCells] at hj; subst hj; simpa [Addr.add] using c1
    | 2, hj => simp [itemCells] at hj; subst hj; simpa [Addr.add] using c2
    | 3, hj => simp [itemCells] at hj; subst hj; simpa [Addr.add] using c3
    | 4, hj => simp [itemCells] at hj; subst hj; simpa [Addr.add] using c4
    | 5, hj => simp [itemCells] at hj; subst hj; simpa [Addr.add] using c5
    | 6, hj => simp [itemCells] at hj; subst hj; simpa [Addr.add] using c6
    | 7, hj => simp [itemCells] at hj; subst hj; simpa [Addr.add] using c7
    | 8, hj => simp [itemCells] at hj; subst hj; simpa [Addr.add] using d0
    | 9, hj => simp [itemCells] at hj; subst hj; simpa [Addr.add] using d1
    | 10, hj => simp [itemCells] at hj; subst hj; simpa [Addr.add] using d2
    | 11, hj => simp [itemCells] at hj; subst hj; simpa [Addr.add] using d3
    | 12, hj => simp [itemCells] at hj; subst hj; simpa [Addr.add] using d4
    | 13, hj => simp [itemCells] at hj; subst hj; simpa [Addr.add] using d5
    | 14, hj => simp [itemCells] at hj; subst hj; simpa [Addr.add] using d6
    | 15, hj => simp [itemCells] at hj; subst hj; simpa [Addr.add] using d7
  · intro u hu
    simp only [itemCells, List.mem_append, List.mem_cons, List.not_mem_nil, or_false] at hu
    rcases hu with (rfl | rfl | rfl | rfl | rfl | rfl | rfl | rfl) | (rfl | rfl | rfl | rfl | rfl | rfl | rfl | rfl) <;> rfl
  · unfold OwnT
    rw [List.length_append, List.flatMap_append, List.flatMap_cons, List.flatMap_cons, List.flatMap_nil, List.append_nil]
    exact h1
set_option maxRecDepth 100000 in
set_option maxHeartbeats 8000000 in
theorem walk (w : World) (x0 : ItemM) (g0 : x0.good) (x1 : ItemM) (g1 : x1.good) (v2 : Value) (l2 : List Int) (s2 : SlI w .u8 v2 l2) (a3 : Bool) :
    Calls Try.prog 7 #[itemV x0, itemV x1, v2, .bool a3] w fun e w' => e = .returned (.bool true) ∧ Below w.heap.size w w' := by
  have AW := Lib.hid fun w' => awake6_any w'
  have HX0 := Lib.hid g0
  have HS2 := Lib.hid s2
  clear s2
  obtain ⟨W, hW⟩ : ∃ W, (w.alloc (.cells #[.int .i64 x0.thr, .int .i64 x0.acc.kind, .int .i64 x0.acc.addr, .int .u64 x0.acc.old, .int .u64 x0.acc.new, .int .i64 x0.acc.til, .int .u64 x0.val, .bool x0.ok] 57)).alloc (.cells #[.int .i64 x1.thr, .int .i64 x1.acc.kind, .int .i64 x1.acc.addr, .int .u64 x1.acc.old, .int .u64 x1.acc.new, .int .i64 x1.acc.til, .int .u64 x1.val, .bool x1.ok] 57) = W := ⟨_, rfl⟩
  have HB : Hid (Below w.heap.size w W) := hW ▸ below_new (below_new (Below.refl w.heap.size w) _) _
  have R0 : Hid (W.heap[w.heap.size]? = some (.cells #[.int .i64 x0.thr, .int .i64 x0.acc.kind, .int .i64 x0.acc.addr, .int .u64 x0.acc.old, .int .u64 x0.acc.new, .int .i64 x0.acc.til, .int .u64 x0.val, .bool x0.ok] 57 (0, 0))) := hW ▸ heap_alloc2_old _ _ _
  have R1 : Hid (W.heap[w.heap.size + 1]? = some (.cells #[.int .i64 x1.thr, .int .i64 x1.acc.kind, .int .i64 x1.acc.addr, .int .u64 x1.acc.old, .int .u64 x1.acc.new, .int .i64 x1.acc.til, .int .u64 x1.val, .bool x1.ok] 57 (0, 0))) := hW ▸ heap_alloc2_new _ _ _
  have hz : w.heap.size + 2 = W.heap.size := by rw [← hW]; simp
  have HW := Lib.hid hW
  have hG1 := g1
  have hG0 := g0
  clear hW g0 g1
  unfold itemV
  go_enter Try.func7, Try.ntmps7
  go_upto_region 1 with fail
  rw [HW.out]
  clear HW
  go_wp2_with fail
  refine (AW.out _).mono ?_; rintro e wa ⟨rfl, hba⟩
  have HBA := Lib.hid (below_then HB.out hba)
  have Q0 := Lib.hid ((hba.block w.heap.size (by omega)).trans R0.out)
  have Q1 := Lib.hid ((hba.block (w.heap.size + 1) (by omega)).trans R1.out)
  have hza := hba.size
  clear hba HB R0 R1 AW
  go_upto_if 14 with (fail)
  go_cut [] (fun wx => ∃ y : ItemM, Hid y.good ∧ Hid (wx.heap[w.heap.size]? = some (.cells #[.int .i64 x0.thr, .int .i64 x0.acc.kind, .int .i64 x0.acc.addr, .int .u64 x0.acc.old, .int .u64 x0.acc.new, .int .i64 x0.acc.til, .int .u64 x0.val, .bool x0.ok] 57 (0, 0))) ∧ Hid (wx.heap[w.heap.size + 1]? = some (.cells #[.int .i64 y.thr, .int .i64 y.acc.kind, .int .i64 y.acc.addr, .int .u64 y.acc.old, .int .u64 y.acc.new, .int .i64 y.acc.til, .int .u64 y.val, .bool y.ok] 57 (0, 0))) ∧ Hid (Below w.heap.size w wx))
  case first =>
    cases a3 with
    | false =>
      go_wp2_with fail
      go_meet
      exact ⟨x1, hG1, Q0, Q1, HBA⟩
    | true =>
      obtain ⟨p0, p1, p2, p3, p4, p5, p6, p7⟩ := rowc8 Q0.out
      obtain ⟨q0, q1, q2, q3, q4, q5, q6, q7⟩ := rowc8 Q1.out
      have f2 := frozen_of_row _ _ 2 _ _ Q1.out
      have r1 := heap_setCell_same wa (w.heap.size + 1) 2 _ _ (.int .i64 x0.acc.addr) Q1.out
      simp at r1
      have r0 := (heap_setCell_other wa ⟨w.heap.size + 1, 2, none⟩ w.heap.size (.int .i64 x0.acc.addr) (by show w.heap.size ≠ w.heap.size + 1; omega)).trans Q0.out
      have R0 := Lib.hid r0
      have R1 := Lib.hid r1
      have HB2 : Hid (Below w.heap.size w (wa.setCell ⟨w.heap.size + 1, 2, none⟩ (.int .i64 x0.acc.addr))) := HBA.out.setCell (p := ⟨w.heap.size + 1, 2, none⟩) (Nat.le_succ _) _
      have HG : Hid (ItemM.good ⟨x1.thr, ⟨x1.acc.kind, x0.acc.addr, x1.acc.old, x1.acc.new, x1.acc.til⟩, x1.val, x1.ok⟩) := ⟨hG1.thr, ⟨hG1.acc.kind, hG0.acc.addr, hG1.acc.old, hG1.acc.new, hG1.acc.til⟩, hG1.val⟩
      clear r0 r1 hG1 hG0
      go_wp2_with fail
      go_meet
      exact ⟨_, HG, R0, R1, HB2⟩
  case rest =>
    obtain ⟨y, HY, R0, R1, HB3⟩ := hcut
    obtain ⟨w3, rfl⟩ : ∃ w3 : World, w3 = wc := ⟨_, rfl⟩
    have h03 : w.heap.size < w3.heap.size := (Array.getElem?_eq_some_iff.1 R0.out).1
    have h13 : w.heap.size + 1 < w3.heap.size := (Array.getElem?_eq_some_iff.1 R1.out).1
    clear hG0 hG1 Q0 Q1 HBA hza hz
    have HS2 := Lib.hid (HS2.out.below HB3.out)
    obtain ⟨xx0, xx1, xx2, xx3, xx4, xx5, xx6, xx7⟩ := rowc8 R0.out
    obtain ⟨yy0, yy1, yy2, yy3, yy4, yy5, yy6, yy7⟩ := rowc8 R1.out
    have KS : Hid (∀ w', Below w3.heap.size w3 w' → (fun w' : World => (w'.cell? ⟨w.heap.size, 0, none⟩ = some (.int .i64 x0.thr) ∧ w'.cell? ⟨w.heap.size, 1, none⟩ = some (.int .i64 x0.acc.kind) ∧ w'.cell? ⟨w.heap.size, 2, none⟩ = some (.int .i64 x0.acc.addr) ∧ w'.cell? ⟨w.heap.size, 3, none⟩ = some (.int .u64 x0.acc.old) ∧ w'.cell? ⟨w.heap.size, 4, none⟩ = some (.int .u64 x0.acc.new) ∧ w'.cell? ⟨w.heap.size, 5, none⟩ = some (.int .i64 x0.acc.til) ∧ w'.cell? ⟨w.heap.size, 6, none⟩ = some (.int .u64 x0.val) ∧ w'.cell? ⟨w.heap.size, 7, none⟩ = some (.bool x0.ok)) ∧ (w'.cell? ⟨w.heap.size + 1, 0, none⟩ = some (.int .i64 y.thr) ∧ w'.cell? ⟨w.heap.size + 1, 1, none⟩ = some (.int .i64 y.acc.kind) ∧ w'.cell? ⟨w.heap.size + 1, 2, none⟩ = some (.int .i64 y.acc.addr) ∧ w'.cell? ⟨w.heap.size + 1, 3, none⟩ = some (.int .u64 y.acc.old) ∧ w'.cell? ⟨w.heap.size + 1, 4, none⟩ = some (.int .u64 y.acc.new) ∧ w'.cell? ⟨w.heap.size + 1, 5, none⟩ = some (.int .i64 y.acc.til) ∧ w'.cell? ⟨w.heap.size + 1, 6, none⟩ = some (.int .u64 y.val) ∧ w'.cell? ⟨w.heap.size + 1, 7, none⟩ = some (.bool y.ok))) w') := fun w' hb => ⟨⟨(hb.cell (p := ⟨w.heap.size, 0, none⟩) h03).trans xx0, (hb.cell (p := ⟨w.heap.size, 1, none⟩) h03).trans xx1, (hb.cell (p := ⟨w.heap.size, 2, none⟩) h03).trans xx2, (hb.cell (p := ⟨w.heap.size, 3, none⟩) h03).trans xx3, (hb.cell (p := ⟨w.heap.size, 4, none⟩) h03).trans xx4, (hb.cell (p := ⟨w.heap.size, 5, none⟩) h03).trans xx5, (hb.cell (p := ⟨w.heap.size, 6, none⟩) h03).trans xx6, (hb.cell (p := ⟨w.heap.size, 7, none⟩) h03).trans xx7⟩, (hb.cell (p := ⟨w.heap.size + 1, 0, none⟩) h13).trans yy0, (hb.cell (p := ⟨w.heap.size + 1, 1, none⟩) h13).trans yy1, (hb.cell (p := ⟨w.heap.size + 1, 2, none⟩) h13).trans yy2, (hb.cell (p := ⟨w.heap.size + 1, 3, none⟩) h13).trans yy3, (hb.cell (p := ⟨w.heap.size + 1, 4, none⟩) h13).trans yy4, (hb.cell (p := ⟨w.heap.size + 1, 5, none⟩) h13).trans yy5, (hb.cell (p := ⟨w.heap.size + 1, 6, none⟩) h13).trans yy6, (hb.cell (p := ⟨w.heap.size + 1, 7, none⟩) h13).trans yy7⟩
    clear xx0 yy0 xx1 yy1 xx2 yy2 xx3 yy3 xx4 yy4 xx5 yy5 xx6 yy6 xx7 yy7
    go_upto_region 5 with fail
    go_cut [9] (fun s9 wx => ∃ (A : Option Addr) (c : Nat) (L : List ItemM), s9 = .slice A L.length c ∧ L.length ≤ 12 ∧ Hid (SlT wx (.slice A L.length c) L) ∧ Hid (∀ z ∈ L, z.good) ∧ Hid (Below w3.heap.size w3 wx))
    case first =>
      refine wp_region_until (fun w' : World => (w'.cell? ⟨w.heap.size, 0, none⟩ = some (.int .i64 x0.thr) ∧ w'.cell? ⟨w.heap.size, 1, none⟩ = some (.int .i64 x0.acc.kind) ∧ w'.cell? ⟨w.heap.size, 2, none⟩ = some (.int .i64 x0.acc.addr) ∧ w'.cell? ⟨w.heap.size, 3, none⟩ = some (.int .u64 x0.acc.old) ∧ w'.cell? ⟨w.heap.size, 4, none⟩ = some (.int .u64 x0.acc.new) ∧ w'.cell? ⟨w.heap.size, 5, none⟩ = some (.int .i64 x0.acc.til) ∧ w'.cell? ⟨w.heap.size, 6, none⟩ = some (.int .u64 x0.val) ∧ w'.cell? ⟨w.heap.size, 7, none⟩ = some (.bool x0.ok)) ∧ (w'.cell? ⟨w.heap.size + 1, 0, none⟩ = some (.int .i64 y.thr) ∧ w'.cell? ⟨w.heap.size + 1, 1, none⟩ = some (.int .i64 y.acc.kind) ∧ w'.cell? ⟨w.heap.size + 1, 2, none⟩ = some (.int .i64 y.acc.addr) ∧ w'.cell? ⟨w.heap.size + 1, 3, none⟩ = some (.int .u64 y.acc.old) ∧ w'.cell? ⟨w.heap.size + 1, 4, none⟩ = some (.int .u64 y.acc.new) ∧ w'.cell? ⟨w.heap.size + 1, 5, none⟩ = some (.int .i64 y.acc.til) ∧ w'.cell? ⟨w.heap.size + 1, 6, none⟩ = some (.int .u64 y.val) ∧ w'.cell? ⟨w.heap.size + 1, 7, none⟩ = some (.bool y.ok))) 7 8 (by kernel_rfl) rfl ?_
      obtain ⟨u0, hu0, HUu0⟩ := drew_pack w3
      rw [hu0]
      clear hu0
      have hSU0 : (fun w' : World => (w'.cell? ⟨w.heap.size, 0, none⟩ = some (.int .i64 x0.thr) ∧ w'.cell? ⟨w.heap.size, 1, none⟩ = some (.int .i64 x0.acc.kind) ∧ w'.cell? ⟨w.heap.size, 2, none⟩ = some (.int .i64 x0.acc.addr) ∧ w'.cell? ⟨w.heap.size, 3, none⟩ = some (.int .u64 x0.acc.old) ∧ w'.cell? ⟨w.heap.size, 4, none⟩ = some (.int .u64 x0.acc.new) ∧ w'.cell? ⟨w.heap.size, 5, none⟩ = some (.int .i64 x0.acc.til) ∧ w'.cell? ⟨w.heap.size, 6, none⟩ = some (.int .u64 x0.val) ∧ w'.cell? ⟨w.heap.size, 7, none⟩ = some (.bool x0.ok)) ∧ (w'.cell? ⟨w.heap.size + 1, 0, none⟩ = some (.int .i64 y.thr) ∧ w'.cell? ⟨w.heap.size + 1, 1, none⟩ = some (.int .i64 y.acc.kind) ∧ w'.cell? ⟨w.heap.size + 1, 2, none⟩ = some (.int .i64 y.acc.addr) ∧ w'.cell? ⟨w.heap.size + 1, 3, none⟩ = some (.int .u64 y.acc.old) ∧ w'.cell? ⟨w.heap.size + 1, 4, none⟩ = some (.int .u64 y.acc.new) ∧ w'.cell? ⟨w.heap.size + 1, 5, none⟩ = some (.int .i64 y.acc.til) ∧ w'.cell? ⟨w.heap.size + 1, 6, none⟩ = some (.int .u64 y.val) ∧ w'.cell? ⟨w.heap.size + 1, 7, none⟩ = some (.bool y.ok))) (u0) := KS.out _ HUu0.out
      refine wpAnyU_take (v := ?_) 0 ListAt.zero (by kernel_rfl) (by kernel_rfl) (by kernel_rfl) (by kernel_rfl) (by kernel_rfl) (fun _ _ _ h => h) hSU0 rfl ?_ ?_
      rotate_left
      · (intro w hSw; (try dsimp only at hSw); go_simp <;> with_reducible rfl)
      simp only [Act.put, List.setIfInBounds_toArray, List.set_cons_zero, List.set_cons_succ]
      refine wpAnyU_take (v := ?_) 3 (ListAt.succ (ListAt.succ (ListAt.succ ListAt.zero))) (by kernel_rfl) (by kernel_rfl) (by kernel_rfl) (by kernel_rfl) (by kernel_rfl) (fun _ _ _ h => h) hSU0 rfl ?_ ?_
      rotate_left
      · (intro w hSw; (try dsimp only at hSw); go_simp <;> with_reducible rfl)
      simp only [Act.put, List.setIfInBounds_toArray, List.set_cons_zero, List.set_cons_succ]
      refine wpAnyU_take (v := ?_) 4 (ListAt.succ (ListAt.succ (ListAt.succ (ListAt.succ ListAt.zero)))) (by kernel_rfl) (by kernel_rfl) (by kernel_rfl) (by kernel_rfl) (by kernel_rfl) (fun _ _ _ h => h) hSU0 rfl ?_ ?_
      rotate_left
      · (intro w hSw; (try dsimp only at hSw); go_simp <;> with_reducible rfl)
      simp only [Act.put, List.setIfInBounds_toArray, List.set_cons_zero, List.set_cons_succ]
      refine wpAnyU_ready (rs := [1, 5]) (by kernel_rfl) rfl ?_
      refine AllReadyU.cons (ListAt.succ ListAt.zero) rfl (fun K hK => ?_) ?_
      · go_simp
        go_at_call 12
        refine (new_any _ l2 80 _ (HS2.out.below HUu0.out) (by omega)).mono ?_
        rintro e v1 ⟨rfl, hc1, hb1⟩
        have HC1 : Hid (CodesE v1 u0.heap.size) := ⟨_, _, hc1⟩
        have HV1 := Lib.hid (below_then HUu0.out hb1)
        have hgw : Hid (w3.heap.size ≤ u0.heap.size) := HUu0.out.size
        clear hc1 hb1
        refine hK.out _ _ ?_ (fun hSU1 => ?_)
        · exact KS.out _ HV1.out
        clear hK K hSU0
        try simp only [Act.put, List.setIfInBounds_toArray, List.set_cons_zero, List.set_cons_succ]
        refine wpAnyU_ready (rs := [2, 5]) (by kernel_rfl) rfl ?_
        refine AllReadyU.cons (ListAt.succ (ListAt.succ ListAt.zero)) rfl (fun K hK => ?_) ?_
        · go_simp
          go_at_call 33
          refine (itemsE _ 3 10 _ HC1.out (by omega) (by omega)).mono ?_
          rintro e v2 ⟨v3, l, rfl, ho2, hl2, hgood, -, hg2⟩
          have HV2 : Hid (Below w3.heap.size w3 v2) := HV1.out.grown hg2 HV1.out.size (fun k hk => by cases hk; exact hgw.out)
          have HO2 : Hid (OwnT v2 w3.heap.size v3 l) := ho2.mono_base HV1.out.size
          have HGA : Hid (∀ x ∈ l, x.good) := fun x hx => (hgood x hx).1
          have hl10 : l.length ≤ 10 := by omega
          clear ho2 hl2 hgood hg2
          refine hK.out _ _ ?_ (fun hSU2 => ?_)
          · exact KS.out _ HV2.out
          clear hK K hSU1
          try simp only [Act.put, List.setIfInBounds_toArray, List.set_cons_zero, List.set_cons_succ]
          refine wpAnyU_ready (rs := [5]) (by kernel_rfl) rfl ?_
          refine AllReadyU.cons (ListAt.succ (ListAt.succ (ListAt.succ (ListAt.succ (ListAt.succ ListAt.zero))))) rfl (fun K hK => ?_) ?_
          · go_simp
            obtain ⟨u2, bX, hv, hXe, RL, hbX, ltX⟩ := alloc_pack v2 (.cells #[.int .i64 x0.thr, .int .i64 x0.acc.kind, .int .i64 x0.acc.addr, .int .u64 x0.acc.old, .int .u64 x0.acc.new, .int .i64 x0.acc.til, .int .u64 x0.val, .bool x0.ok, .int .i64 y.thr, .int .i64 y.acc.kind, .int .i64 y.acc.addr, .int .u64 y.acc.old, .int .u64 y.acc.new, .int .i64 y.acc.til, .int .u64 y.val, .bool y.ok] 57)
            rw [hv, hXe]
            have HV3 := Lib.hid (below_then HV2.out hbX.out)
            have HO3 := Lib.hid (HO2.out.below hbX.out)
            clear hv
            refine hK.out _ _ ?_ (fun hSU3 => ?_)
            · exact KS.out _ HV3.out
            clear hK K hSU2
            try simp only [Act.put, List.setIfInBounds_toArray, List.set_cons_zero, List.set_cons_succ]
            refine wpAnyU_ready (rs := [6]) (by kernel_rfl) rfl ?_
            refine AllReadyU.cons (ListAt.succ (ListAt.succ (ListAt.succ (ListAt.succ (ListAt.succ (ListAt.succ ListAt.zero)))))) rfl (fun K hK => ?_) ?_
            · refine step_append_two (w := u2) (by rfl) _ _ (by rfl) w3.heap.size v3 l (by rfl) HO3.out x0 y bX (by rfl) (two_at RL.out) (by omega) HV3.out.size ?_
              intro v9 w9 ho9 hg9
              have HV9 : Hid (Below w3.heap.size w3 w9) := HV3.out.grown hg9 HV3.out.size (fun k hk => HO3.out.own_ge k hk)
              have HO9 : Hid (SlT w9 v9 (l ++ [x0, y])) := ho9.read (by rw [List.length_append]; simp; omega) (good_two HGA.out HX0.out HY.out)
              clear ho9 hg9
              refine hK.out _ _ ?_ (fun hSU4 => ?_)
              · exact KS.out _ HV9.out
              clear hK K hSU3
              try simp only [Act.put, List.setIfInBounds_toArray, List.set_cons_zero, List.set_cons_succ]
              refine wpAnyU_ready (rs := [7]) (by kernel_rfl) rfl ?_
              refine AllReadyU.free (ListAt.succ (ListAt.succ (ListAt.succ (ListAt.succ (ListAt.succ (ListAt.succ (ListAt.succ ListAt.zero))))))) rfl (by kernel_rfl) (fun K hK => ?_) ?_
              · go_simp
                refine hK.out _ _ ?_
                clear hK K hSU4
                try simp only [Act.put, List.setIfInBounds_toArray, List.set_cons_zero, List.set_cons_succ]
                refine wpAnyU_done (by kernel_rfl) ?_ _
                have hll : (l ++ [x0, y]).length ≤ 12 := by simp; omega
                have hlg : ∀ z ∈ l ++ [x0, y], z.good := HO9.out.2.1
                have HLG := Lib.hid hlg
                clear hlg
                obtain ⟨A9, c9, e9, -⟩ := HO9.out.len
                generalize l ++ [x0, y] = L at *
                subst e9
                go_wp2_with fail
                go_meet
                exact ⟨A9, c9, L, rfl, hll, HO9, HLG, HV9⟩
              exact AllReadyU.nil
            exact AllReadyU.nil
          exact AllReadyU.nil
        refine AllReadyU.cons (ListAt.succ (ListAt.succ (ListAt.succ (ListAt.succ (ListAt.succ ListAt.zero))))) rfl (fun K hK => ?_) ?_
        · go_simp
          obtain ⟨u1, bX, hv, hXe, RL, hbX, ltX⟩ := alloc_pack v1 (.cells #[.int .i64 x0.thr, .int .i64 x0.acc.kind, .int .i64 x0.acc.addr, .int .u64 x0.acc.old, .int .u64 x0.acc.new, .int .i64 x0.acc.til, .int .u64 x0.val, .bool x0.ok, .int .i64 y.thr, .int .i64 y.acc.kind, .int .i64 y.acc.addr, .int .u64 y.acc.old, .int .u64 y.acc.new, .int .i64 y.acc.til, .int .u64 y.val, .bool y.ok] 57)
          rw [hv, hXe]
          have HVu1 := Lib.hid (below_then HV1.out hbX.out)
          have HCu1 := Lib.hid (HC1.out.kept HC1.out.lt hbX.out)
          have hgX : Hid (u0.heap.size < bX) := by have h1 := HC1.out.lt; exact hXe ▸ h1
          clear hv
          refine hK.out _ _ ?_ (fun hSU5 => ?_)
          · exact KS.out _ HVu1.out
          clear hK K hSU1
          try simp only [Act.put, List.setIfInBounds_toArray, List.set_cons_zero, List.set_cons_succ]
          refine wpAnyU_ready (rs := [2]) (by kernel_rfl) rfl ?_
          refine AllReadyU.cons (ListAt.succ (ListAt.succ ListAt.zero)) rfl (fun K hK => ?_) ?_
          · go_simp
            go_at_call 33
            refine (itemsE _ 3 10 _ HCu1.out (by omega) (by omega)).mono ?_
            rintro e v2 ⟨v3, l, rfl, ho2, hl2, hgood, -, hg2⟩
            have HV2 : Hid (Below w3.heap.size w3 v2) := HVu1.out.grown hg2 HVu1.out.size (fun k hk => by cases hk; exact hgw.out)
            have HO2 : Hid (OwnT v2 w3.heap.size v3 l) := ho2.mono_base HVu1.out.size
            have HGA : Hid (∀ x ∈ l, x.good) := fun x hx => (hgood x hx).1
            have hl10 : l.length ≤ 10 := by omega
            have RLb := Lib.hid ((hg2.block bX ltX.out (by simp; intro e; have := hgX.out; omega)).trans RL.out)
            clear ho2 hl2 hgood hg2
            refine hK.out _ _ ?_ (fun hSU6 => ?_)
            · exact KS.out _ HV2.out
            clear hK K hSU5
            try simp only [Act.put, List.setIfInBounds_toArray, List.set_cons_zero, List.set_cons_succ]
            refine wpAnyU_ready (rs := [6]) (by kernel_rfl) rfl ?_
            refine AllReadyU.cons (ListAt.succ (ListAt.succ (ListAt.succ (ListAt.succ (ListAt.succ (ListAt.succ ListAt.zero)))))) rfl (fun K hK => ?_) ?_
            · refine step_append_two (w := v2) (by rfl) _ _ (by rfl) w3.heap.size v3 l (by rfl) HO2.out x0 y bX (by rfl) (two_at RLb.out) (by omega) HV2.out.size ?_
              intro v9 w9 ho9 hg9
              have HV9 : Hid (Below w3.heap.size w3 w9) := HV2.out.grown hg9 HV2.out.size (fun k hk => HO2.out.own_ge k hk)
              have HO9 : Hid (SlT w9 v9 (l ++ [x0, y])) := ho9.read (by rw [List.length_append]; simp; omega) (good_two HGA.out HX0.out HY.out)
              clear ho9 hg9
              refine hK.out _ _ ?_ (fun hSU7 => ?_)
              · exact KS.out _ HV9.out
              clear hK K hSU6
              try simp only [Act.put, List.setIfInBounds_toArray, List.set_cons_zero, List.set_cons_succ]
              refine wpAnyU_ready (rs := [7]) (by kernel_rfl) rfl ?_
              refine AllReadyU.free (ListAt.succ (ListAt.succ (ListAt.succ (ListAt.succ (ListAt.succ (ListAt.succ (ListAt.succ ListAt.zero))))))) rfl (by kernel_rfl) (fun K hK => ?_) ?_
              · go_simp
                refine hK.out _ _ ?_
                clear hK K hSU7
                try simp only [Act.put, List.setIfInBounds_toArray, List.set_cons_zero, List.set_cons_succ]
                refine wpAnyU_done (by kernel_rfl) ?_ _
                have hll : (l ++ [x0, y]).length ≤ 12 := by simp; omega
                have hlg : ∀ z ∈ l ++ [x0, y], z.good := HO9.out.2.1
                have HLG := Lib.hid hlg
                clear hlg
                obtain ⟨A9, c9, e9, -⟩ := HO9.out.len
                generalize l ++ [x0, y] = L at *
                subst e9
                go_wp2_with fail
                go_meet
                exact ⟨A9, c9, L, rfl, hll, HO9, HLG, HV9⟩
              exact AllReadyU.nil
            exact AllReadyU.nil
          exact AllReadyU.nil
        exact AllReadyU.nil
      refine AllReadyU.cons (ListAt.succ (ListAt.succ (ListAt.succ (ListAt.succ (ListAt.succ ListAt.zero))))) rfl (fun K hK => ?_) ?_
      · go_simp
        obtain ⟨u1, bX, hv, hXe, RL, hbX, ltX⟩ := alloc_pack u0 (.cells #[.int .i64 x0.thr, .int .i64 x0.acc.kind, .int .i64 x0.acc.addr, .int .u64 x0.acc.old, .int .u64 x0.acc.new, .int .i64 x0.acc.til, .int .u64 x0.val, .bool x0.ok, .int .i64 y.thr, .int .i64 y.acc.kind, .int .i64 y.acc.addr, .int .u64 y.acc.old, .int .u64 y.acc.new, .int .i64 y.acc.til, .int .u64 y.val, .bool y.ok] 57)
        rw [hv, hXe]
        have HUu1 := Lib.hid (below_then HUu0.out hbX.out)
        clear hv
        refine hK.out _ _ ?_ (fun hSU8 => ?_)
        · exact KS.out _ HUu1.out
        clear hK K hSU0
        try simp only [Act.put, List.setIfInBounds_toArray, List.set_cons_zero, List.set_cons_succ]
        refine wpAnyU_ready (rs := [1]) (by kernel_rfl) rfl ?_
        refine AllReadyU.cons (ListAt.succ ListAt.zero) rfl (fun K hK => ?_) ?_
        · go_simp
          go_at_call 12
          refine (new_any _ l2 80 _ (HS2.out.below HUu1.out) (by omega)).mono ?_
          rintro e v1 ⟨rfl, hc1, hb1⟩
          have HC1 : Hid (CodesE v1 u1.heap.size) := ⟨_, _, hc1⟩
          have HV1 := Lib.hid (below_then HUu1.out hb1)
          have hgw : Hid (w3.heap.size ≤ u1.heap.size) := HUu1.out.size
          have RLa := Lib.hid ((hb1.block bX ltX.out).trans RL.out)
          have ltXa : Hid (bX < v1.heap.size) := Nat.lt_of_lt_of_le ltX.out hb1.size
          have hgX : Hid (bX < u1.heap.size) := ltX.out
          clear hc1 hb1
          refine hK.out _ _ ?_ (fun hSU9 => ?_)
          · exact KS.out _ HV1.out
          clear hK K hSU8
          try simp only [Act.put, List.setIfInBounds_toArray, List.set_cons_zero, List.set_cons_succ]
          refine wpAnyU_ready (rs := [2]) (by kernel_rfl) rfl ?_
          refine AllReadyU.cons (ListAt.succ (ListAt.succ ListAt.zero)) rfl (fun K hK => ?_) ?_
          · go_simp
            go_at_call 33
            refine (itemsE _ 3 10 _ HC1.out (by omega) (by omega)).mono ?_
            rintro e v2 ⟨v3, l, rfl, ho2, hl2, hgood, -, hg2⟩
            have HV2 : Hid (Below w3.heap.size w3 v2) := HV1.out.grown hg2 HV1.out.size (fun k hk => by cases hk; exact hgw.out)
            have HO2 : Hid (OwnT v2 w3.heap.size v3 l) := ho2.mono_base HV1.out.size
            have HGA : Hid (∀ x ∈ l, x.good) := fun x hx => (hgood x hx).1
            have hl10 : l.length ≤ 10 := by omega
            have RLb := Lib.hid ((hg2.block bX ltXa.out (by simp; intro e; have := hgX.out; omega)).trans RLa.out)
            clear ho2 hl2 hgood hg2
            refine hK.out _ _ ?_ (fun hSU10 => ?_)
            · exact KS.out _ HV2.out
            clear hK K hSU9
            try simp only [Act.put, List.setIfInBounds_toArray, List.set_cons_zero, List.set_cons_succ]
            refine wpAnyU_ready (rs := [6]) (by kernel_rfl) rfl ?_
            refine AllReadyU.cons (ListAt.succ (ListAt.succ (ListAt.succ (ListAt.succ (ListAt.succ (ListAt.succ ListAt.zero)))))) rfl (fun K hK => ?_) ?_
            · refine step_append_two (w := v2) (by rfl) _ _ (by rfl) w3.heap.size v3 l (by rfl) HO2.out x0 y bX (by rfl) (two_at RLb.out) (by omega) HV2.out.size ?_
              intro v9 w9 ho9 hg9
              have HV9 : Hid (Below w3.heap.size w3 w9) := HV2.out.grown hg9 HV2.out.size (fun k hk => HO2.out.own_ge k hk)
              have HO9 : Hid (SlT w9 v9 (l ++ [x0, y])) := ho9.read (by rw [List.length_append]; simp; omega) (good_two HGA.out HX0.out HY.out)
              clear ho9 hg9
              refine hK.out _ _ ?_ (fun hSU11 => ?_)
              · exact KS.out _ HV9.out
              clear hK K hSU10
              try simp only [Act.put, List.setIfInBounds_toArray, List.set_cons_zero, List.set_cons_succ]
              refine wpAnyU_ready (rs := [7]) (by kernel_rfl) rfl ?_
              refine AllReadyU.free (ListAt.succ (ListAt.succ (ListAt.succ (ListAt.succ (ListAt.succ (ListAt.succ (ListAt.succ ListAt.zero))))))) rfl (by kernel_rfl) (fun K hK => ?_) ?_
              · go_simp
                refine hK.out _ _ ?_
                clear hK K hSU11
                try simp only [Act.put, List.setIfInBounds_toArray, List.set_cons_zero, List.set_cons_succ]
                refine wpAnyU_done (by kernel_rfl) ?_ _
                have hll : (l ++ [x0, y]).length ≤ 12 := by simp; omega
                have hlg : ∀ z ∈ l ++ [x0, y], z.good := HO9.out.2.1
                have HLG := Lib.hid hlg
                clear hlg
                obtain ⟨A9, c9, e9, -⟩ := HO9.out.len
                generalize l ++ [x0, y] = L at *
                subst e9
                go_wp2_with fail
                go_meet
                exact ⟨A9, c9, L, rfl, hll, HO9, HLG, HV9⟩
              exact AllReadyU.nil
            exact AllReadyU.nil
          exact AllReadyU.nil
        exact AllReadyU.nil
      exact AllReadyU.nil
    case rest =>
      obtain ⟨A, c, L, rfl, hL, HSL, HLG, HB4⟩ := hcut
      obtain ⟨w4, rfl⟩ : ∃ w4 : World, w4 = wc := ⟨_, rfl⟩
      have HB5 := Lib.hid (below_then HB3.out HB4.out)
      clear HB3 HB4 KS R0 R1 h03 h13 HS2 HY HX0
      go_wp2_with fail
      go_loopw [29] (fun u wr => ∃ i : Nat, i ≤ L.length ∧ u = .int .i64 i ∧ Hid (Below w4.heap.size w4 wr)) (fun u _ => 13 - (intOf u).toNat)
      case atStart => exact ⟨0, by omega, rfl, Below.refl _ _⟩
      case round =>
        obtain ⟨i, hi, rfl, HBo⟩ := hrel
        obtain ⟨wo, rfl⟩ : ∃ wo : World, wo = wr := ⟨_, rfl⟩
        by_cases hli : i < L.length
        · have hliI : (i : Int) < (L.length : Int) := by omega
          go_wp2_with fail
          go_loopw [34] (fun u wr => ∃ k : Nat, k ≤ L.length ∧ u = .int .i64 k ∧ Hid (Below w4.heap.size w4 wr)) (fun u _ => 13 - (intOf u).toNat)
          case atStart => exact ⟨0, by omega, rfl, HBo⟩
          case round =>
            clear HBo
            obtain ⟨k, hk, rfl, HBo⟩ := hrel
            obtain ⟨wo, rfl⟩ : ∃ wo : World, wo = wr := ⟨_, rfl⟩
            by_cases hlk : k < L.length
            · obtain ⟨b, off, cap1, e, hcap2, hb, hcell⟩ := HSL.out.open (by rintro rfl; simp at hlk)
              simp only [Value.slice.injEq] at e
              obtain ⟨rfl, -, rfl⟩ := e
              obtain ⟨p, hp⟩ : ∃ p, L.getD i noItem = p := ⟨_, rfl⟩
              obtain ⟨q, hq⟩ : ∃ q, L.getD k noItem = q := ⟨_, rfl⟩
              have hgp : p.good := by
                rw [← hp, List.getD_eq_getElem?_getD, List.getElem?_eq_getElem hli]
                exact HLG.out _ (List.getElem_mem hli)
              have hgq : q.good := by
                rw [← hq, List.getD_eq_getElem?_getD, List.getElem?_eq_getElem hlk]
                exact HLG.out _ (List.getElem_mem hlk)
              have hcp := hcell i hli
              have hcq := hcell k hlk
              rw [hp] at hcp
              rw [hq] at hcq
              obtain ⟨c0, c1, c2, c3, c4, c5, c6, c7⟩ := hcp
              obtain ⟨d0, d1, d2, d3, d4, d5, d6, d7⟩ := hcq
              have hcc : ∀ j, wo.cell? ⟨b, j, none⟩ = w4.cell? ⟨b, j, none⟩ := fun j => HBo.out.cell (p := ⟨b, j, none⟩) hb
              rw [← hcc] at c0 c1 c2 c3 c4 c5 c6 c7 d0 d1 d2 d3 d4 d5 d6 d7
              rw [Nat.add_zero] at c0 d0
              have hbo : b < wo.heap.size := Nat.lt_of_lt_of_le hb HBo.out.size
              have hkI : (k : Int) < (L.length : Int) := by omega
              have T0 := Lib.hid fun w' => conflict_any p q w' hgp hgq
              have T1 := Lib.hid fun w' => rconflict_any p q w' hgp hgq
              have T2 := Lib.hid fun w' => conflict_any q p w' hgq hgp
              rw [conflict_symm q p] at T2
              unfold itemV at T0 T1 T2
              generalize conflictE p q = cf at *
              clear hcell hp hq hcc hgp hgq hk
              go_upto_region 12 with fail
              have X0 := ext_cell _ (off + i * 8) hbo _ c0
              have X1 := ext_cell _ (off + i * 8 + 1) hbo _ c1
              have X2 := ext_cell _ (off + i * 8 + 2) hbo _ c2
              have X3 := ext_cell _ (off + i * 8 + 3) hbo _ c3
              have X4 := ext_cell _ (off + i * 8 + 4) hbo _ c4
              have X5 := ext_cell _ (off + i * 8 + 5) hbo _ c5
              have X6 := ext_cell _ (off + i * 8 + 6) hbo _ c6
              have X7 := ext_cell _ (off + i * 8 + 7) hbo _ c7
              have Y0 := ext_cell _ (off + k * 8) hbo _ d0
              have Y1 := ext_cell _ (off + k * 8 + 1) hbo _ d1
              have Y2 := ext_cell _ (off + k * 8 + 2) hbo _ d2
              have Y3 := ext_cell _ (off + k * 8 + 3) hbo _ d3
              have Y4 := ext_cell _ (off + k * 8 + 4) hbo _ d4
              have Y5 := ext_cell _ (off + k * 8 + 5) hbo _ d5
              have Y6 := ext_cell _ (off + k * 8 + 6) hbo _ d6
              have Y7 := ext_cell _ (off + k * 8 + 7) hbo _ d7
              clear c0 c1 c2 c3 c4 c5 c6 c7 d0 d1 d2 d3 d4 d5 d6 d7
              refine wp_region_ext wo (by kernel_rfl) (by kernel_rfl) (Below.refl _ _) ?_
              repeat (go_big_quiet_step (first
                | (go_at_call 41; with_reducible exact calls_ext (T0.out _))
                | (go_at_call 41; with_reducible exact calls_ext (T2.out _))
                | (go_at_call 42; with_reducible exact calls_ext (T1.out _))))
              refine wpQuiet_nil ?_
              intro _ hw'
              obtain ⟨w2, rfl⟩ := hw'
              have HB9 := Lib.hid (below_then HBo.out w2.below)
              generalize w2.wd = w9 at *
              clear X0 X1 X2 X3 X4 X5 X6 X7 Y0 Y1 Y2 Y3 Y4 Y5 Y6 Y7
              go_wp2
              go_roundw
              case rel => exact ⟨k + 1, by omega, by go_num, HB9⟩
              case measure => simp [intOf]; omega
            · obtain rfl : k = L.length := by omega
              go_wp2
              go_roundw
              case rel => exact ⟨i + 1, by omega, by go_num, HBo⟩
              case measure => simp [intOf]; omega
        · obtain rfl : i = L.length := by omega
          have HFN := Lib.hid (below_then HB5.out HBo.out)
          go_wp2
          go_ret
          exact ⟨rfl, HFN.out⟩
set_option maxRecDepth 100000 in
theorem lifted (os : Os) (started : os.Started) (H : Type) (enc : TypeId × Value → H) :
    ReturnsInHanded {} Try.checked os 7 .any (Rows.traceConflictsSpec.pre6 enc Try.prog Try.f7 Rows.traceConflictsRow.domain false) (Rows.traceConflictsSpec.post enc Try.prog Try.f7 false true false false) := by
  refine returnsInHanded_of_change_sized (C := Try.checked) own started (by kernel_rfl) Try.func7
    (ChangeSpec.witness6 (enc := enc) (C := Try.checked) false ⟨#[], #[.agg #[.int .i64 0, .int .i64 0, .int .i64 0, .int .u64 0, .int .u64 0, .int .i64 0, .int .u64 0, .bool false], .agg #[.int .i64 0, .int .i64 0, .int .i64 0, .int .u64 0, .int .u64 0, .int .i64 0, .int .u64 0, .bool false], .slice none 0 0, .bool false], []⟩ 8 (by kernel_rfl) (by kernel_rfl) (by kernel_rfl) (by kernel_rfl)) ?_
  intro W base args ds gs before hval0 hW _ hsz0 _
  have hsz : (DataW.weightsEach Try.prog (Try.f7.params.toList ++ Rows.traceConflictsSpec.plain.varTypes Try.prog) (ds ++ gs)).all (· ≤ reachBytes) = true := hsz0
  clear hsz0
  have hval : ∀ (j : Nat) t v, Try.f7.params[j]? = some t → args[j]? = some v → Value.okWide Try.prog W .any base t v := hval0
  have hW' := hW
  obtain ⟨p, q, hA0, hV, rfl, _, _⟩ := hW
  have hA : DataW.TrodAll enc Try.prog W 0 (fun _ => true) true Try.f7.params.toList args.toList ds p := hA0
  rw [Try.params7] at hA hval hsz
  obtain ⟨v0, vs0, d0, ds0, p0, q0, hargs, rfl, rfl, h0, r0⟩ := trodAll_cons hA
  obtain ⟨v1, vs1, d1, ds1, p1, q1, rfl, rfl, rfl, h1, r1⟩ := trodAll_cons r0
  obtain ⟨v2, vs2, d2, ds2, p2, q2, rfl, rfl, rfl, h2, r2⟩ := trodAll_cons r1
  obtain ⟨v3, vs3, d3, ds3, p3, q3, rfl, rfl, rfl, h3, r3⟩ := trodAll_cons r2
  obtain ⟨rfl, rfl, rfl⟩ := trodAll_nil r3
  obtain rfl : args = #[v0, v1, v2, v3] := by cases args; simp_all
  obtain ⟨rfl, rfl⟩ := trodVars_none hV
  have k0 := h0
  have k1 := h1
  have k2 := h2
  have k3 := h3
  obtain ⟨x0, rfl, g0⟩ := view_item (hval 0 57 v0 rfl rfl) h0
  obtain ⟨x1, rfl, g1⟩ := view_item (hval 1 57 v1 rfl rfl) h1
  obtain ⟨l2, s2⟩ := view_sl (k := .u8) Try.underlying29 Try.underlying5 (by kernel_rfl) (fun elems sp hd => sized_slice hsz (j := 2) (t := 29) (e := 5) rfl (by rw [hd]; rfl) Try.underlying29) (of_decide_eq_true (by kernel_rfl)) (hval 2 29 v2 rfl rfl) h2
  obtain ⟨a3, rfl, -, -⟩ := open_bool Try.underlying4 (hval 3 4 v3 rfl rfl) h3
  clear hA0 hval0
  simp only [List.append_nil] at hW'
  have hlt := hW'.lt
  refine (walk W x0 g0 x1 g1 v2 l2 s2 a3).mono fun e W' ⟨he, hb⟩ => ?_
  subst he
  exact ⟨_, rfl, _, _, _, [], _, [], hW', trodAll_cons_mk (shut_bool Try.underlying4 _) trodAll_mk0, (trodAll_cons_mk (Below.trod Try.laidOut (by kernel_rfl) (of_decide_eq_true (by kernel_rfl)) k0 hb (fun x hx => by simpa using hlt x (by simp [hx]))) (trodAll_cons_mk (Below.trod Try.laidOut (by kernel_rfl) (of_decide_eq_true (by kernel_rfl)) k1 hb (fun x hx => by simpa using hlt x (by simp [hx]))) (trodAll_cons_mk (Below.trod Try.laidOut (by kernel_rfl) (of_decide_eq_true (by kernel_rfl)) k2 hb (fun x hx => by simpa using hlt x (by simp [hx]))) (trodAll_cons_mk (Below.trod Try.laidOut (by kernel_rfl) (of_decide_eq_true (by kernel_rfl)) k3 hb (fun x hx => by simpa using hlt x (by simp [hx]))) trodAll_mk0)))), rfl, hb.frame _, fun h => by cases h⟩
theorem over : Rows.traceConflictsRow.holds Try.pinned (OpenSpec.ofChange Rows.traceConflictsSpec) :=
  OpenClaim.holds_of_wide 7 Try.f7 rfl rfl rfl rfl rfl rfl rfl ⟨rfl, rfl, rfl, rfl, rfl⟩ rfl rfl rfl rfl rfl (by kernel_rfl) Try.func7 (by kernel_rfl)
    (of_decide_eq_true (by kernel_rfl)) (by unfold Func.isWrapper; first | (rw [if_pos (by decide +kernel)]; kernel_rfl) | (rw [if_neg (by decide +kernel)]; exact ⟨rfl, rfl⟩))
    (fun os started H enc _ => lifted os started H enc)
/-- THE STATEMENT -/
theorem proved : Rows.TraceConflictsSaid :=
  over
end Go.Proofs.Ytkpnakomlfjndaa.traceConflicts
