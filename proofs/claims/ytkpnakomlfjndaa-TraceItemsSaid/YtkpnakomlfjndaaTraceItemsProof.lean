/- Proved: TraceItems returns true, and its arguments read afterwards as before, for every record raw, every access a, every answer b, every thread and every list of codes; no condition. -/
import Derived.Test.YtkpnakomlfjndaaLaw
import Derived.Test.YtkpnakomlfjndaaLawMm
import Derived.Test.YtkpnakomlfjndaaL6Awake
import Derived.Test.YtkpnakomlfjndaaRu
import Derived.Test.YtkpnakomlfjndaaReads
import Derived.Test.YtkpnakomlfjndaaStill
import Derived.Deep.DeepCutAuto
import Derived.Deep.CutBlock
import Derived.LoopTactic
import Derived.WalkKit
import Derived.ProofKit
import Derived.OpenShut
import Derived.SizedLaws
namespace Go.Proofs.Ytkpnakomlfjndaa.traceItems
open Go.ChangeShapes Go.WideShapes Go.ChangeAt Go.RowKit
set_option linter.unusedVariables false
theorem good_one {l : List ItemM} {x : ItemM} (h : ∀ z ∈ l, z.good) (hx : x.good) : ∀ z ∈ l ++ [x], z.good := by
  intro z hz
  rw [List.mem_append, List.mem_singleton] at hz
  rcases hz with hz | rfl
  · exact h z hz
  · exact hx
theorem one_at {w : World} {g : Nat} {x : ItemM} (h : w.heap[g]? = some (.cells #[.int .i64 x.thr, .int .i64 x.acc.kind, .int .i64 x.acc.addr, .int .u64 x.acc.old, .int .u64 x.acc.new, .int .i64 x.acc.til, .int .u64 x.val, .bool x.ok] 57 (0, 0))) : ItemAt w g 0 x := ⟨cell_of_row _ _ 0 _ _ _ h, cell_of_row _ _ 1 _ _ _ h, cell_of_row _ _ 2 _ _ _ h, cell_of_row _ _ 3 _ _ _ h, cell_of_row _ _ 4 _ _ _ h, cell_of_row _ _ 5 _ _ _ h, cell_of_row _ _ 6 _ _ _ h, cell_of_row _ _ 7 _ _ _ h⟩
theorem alloc3_rows (w : World) (o0 o1 o2 : Obj) : (((w.alloc o0).alloc o1).alloc o2).heap[w.heap.size]? = some o0 ∧ (((w.alloc o0).alloc o1).alloc o2).heap[w.heap.size + 1]? = some o1 ∧ (((w.alloc o0).alloc o1).alloc o2).heap[w.heap.size + 2]? = some o2 ∧ Below w.heap.size w (((w.alloc o0).alloc o1).alloc o2) := by
  have h1 := below_new (Below.refl _ ((w.alloc o0).alloc o1)) o2
  refine ⟨(h1.block _ (by simp; omega)).trans (heap_alloc2_old _ _ _), (h1.block _ (by simp)).trans (heap_alloc2_new _ _ _), ?_, below_new (below_new (below_new (Below.refl _ _) _) _) _⟩
  have := heap_alloc_new ((w.alloc o0).alloc o1) o2
  simpa using this
set_option maxHeartbeats 4000000 in
theorem item_any (th : Int) (b1 : AccM) (b2 : AnsM) (aa : Option Addr) (n ac : Nat) (w : World) : Calls Try.prog 31 #[.int .i64 th, accV b1, .agg #[.int .u64 b2.val, .bool b2.ok, .bool b2.late, .slice aa n ac]] w fun e w' => e = .returned (itemV ⟨th, b1, b2.val, b2.ok⟩) ∧ Below w.heap.size w w' := by
  obtain ⟨hr0, hr1, hr2, hrb⟩ := alloc3_rows w (.cells #[.int .i64 b1.kind, .int .i64 b1.addr, .int .u64 b1.old, .int .u64 b1.new, .int .i64 b1.til] 28) (.cells #[.int .u64 b2.val, .bool b2.ok, .bool b2.late, .slice aa n ac] 38) (.cells zeroItem 57)
  obtain ⟨W, hW⟩ : ∃ W, ((w.alloc (.cells #[.int .i64 b1.kind, .int .i64 b1.addr, .int .u64 b1.old, .int .u64 b1.new, .int .i64 b1.til] 28)).alloc (.cells #[.int .u64 b2.val, .bool b2.ok, .bool b2.late, .slice aa n ac] 38)).alloc (.cells zeroItem 57) = W := ⟨_, rfl⟩
  rw [hW] at hr0 hr1 hr2 hrb
  have R0 := Lib.hid hr0
  have R1 := Lib.hid hr1
  have R2 := Lib.hid hr2
  have HB := Lib.hid hrb
  have HW := Lib.hid hW
  clear hr0 hr1 hr2 hrb hW
  unfold accV
  go_enter Try.func31, Try.ntmps31
  go_upto_region 1 with fail
  rw [show (#[.int .i64 0, .int .i64 0, .int .i64 0, .int .u64 0, .int .u64 0, .int .i64 0, .int .u64 0, .bool false] : Array Value) = zeroItem from rfl, HW.out]
  clear HW
  obtain ⟨y0, y1, y2, y3, y4⟩ := rowc5 R0.out
  obtain ⟨z0, z1, z2, z3⟩ := rowc4 R1.out
  go_wp2_with (refine wpList_store_row rfl 57 _ _ rfl (w.heap.size + 2) _ rfl rfl 57 zeroItem R2.out (by kernel_rfl) rfl (by simp [Value.oneCell']) ?_)
  refine bodyPost_ret (v := itemV ⟨th, b1, b2.val, b2.ok⟩) (results_cell_row Try.results31 _ _ (w.heap.size + 2) 57 _ (0, 0) _ rfl (setRow_heap _ _ _ _ 57 (0, 0) R2.out) Try.underlying57 rfl (by kernel_rfl)) rfl ?_
  exact ⟨rfl, row_below HB.out (by omega) _⟩
set_option maxHeartbeats 4000000 in
theorem ritem_any (th : Int) (b1 : AccM) (b2 : AnsM) (aa : Option Addr) (n ac : Nat) (w : World) : Calls Try.prog 32 #[.int .i64 th, accV b1, .agg #[.int .u64 b2.val, .bool b2.ok, .bool b2.late, .slice aa n ac]] w fun e w' => e = .returned (itemV ⟨th, b1, b2.val, b2.ok⟩) ∧ Below w.heap.size w w' := by
  obtain ⟨hr0, hr1, hr2, hrb⟩ := alloc3_rows w (.cells #[.int .i64 b1.kind, .int .i64 b1.addr, .int .u64 b1.old, .int .u64 b1.new, .int .i64 b1.til] 28) (.cells #[.int .u64 b2.val, .bool b2.ok, .bool b2.late, .slice aa n ac] 38) (.cells zeroItem 57)
  obtain ⟨W, hW⟩ : ∃ W, ((w.alloc (.cells #[.int .i64 b1.kind, .int .i64 b1.addr, .int .u64 b1.old, .int .u64 b1.new, .int .i64 b1.til] 28)).alloc (.cells #[.int .u64 b2.val, .bool b2.ok, .bool b2.late, .slice aa n ac] 38)).alloc (.cells zeroItem 57) = W := ⟨_, rfl⟩
  rw [hW] at hr0 hr1 hr2 hrb
  have R0 := Lib.hid hr0
  have R1 := Lib.hid hr1
  have R2 := Lib.hid hr2
  have HB := Lib.hid hrb
  have HW := Lib.hid hW
  clear hr0 hr1 hr2 hrb hW
  unfold accV
  go_enter Try.func32, Try.ntmps32
  go_upto_region 1 with fail
  rw [show (#[.int .i64 0, .int .i64 0, .int .i64 0, .int .u64 0, .int .u64 0, .int .i64 0, .int .u64 0, .bool false] : Array Value) = zeroItem from rfl, HW.out]
  clear HW
  obtain ⟨y0, y1, y2, y3, y4⟩ := rowc5 R0.out
  obtain ⟨z0, z1, z2, z3⟩ := rowc4 R1.out
  go_wp2_with (refine wpList_store_row rfl 57 _ _ rfl (w.heap.size + 2) _ rfl rfl 57 zeroItem R2.out (by kernel_rfl) rfl (by simp [Value.oneCell']) ?_)
  refine bodyPost_ret (v := itemV ⟨th, b1, b2.val, b2.ok⟩) (results_cell_row Try.results32 _ _ (w.heap.size + 2) 57 _ (0, 0) _ rfl (setRow_heap _ _ _ _ 57 (0, 0) R2.out) Try.underlying57 rfl (by kernel_rfl)) rfl ?_
  exact ⟨rfl, row_below HB.out (by omega) _⟩
set_option maxRecDepth 100000 in
set_option maxHeartbeats 8000000 in
theorem walk (w : World) (x0 : ItemM) (g0 : x0.good) (b1 : AccM) (o1 : b1.ok) (b2 : AnsM) (z2 : Value) (s2 : SlI w .i64 z2 b2.list) (o2 : b2.val = IntKind.u64.wrap b2.val) (a3 : Int) (w3 : (Lit.int .i64 a3).wf = true) (v4 : Value) (l4 : List Int) (s4 : SlI w .u8 v4 l4) :
    Calls Try.prog 6 #[itemV x0, accV b1, .agg #[.int .u64 b2.val, .bool b2.ok, .bool b2.late, z2], .int .i64 a3, v4] w fun e w' => e = .returned (.bool true) ∧ Below w.heap.size w w' := by
  have AW := Lib.hid fun w' => awake6_any w'
  have HX0 := Lib.hid g0
  have HS4 := Lib.hid s4
  obtain ⟨aa, ac, rfl, -⟩ := s2.len
  have hl2 := s2.1
  have TI := Lib.hid fun w' => item_any a3 b1 b2 aa b2.list.length ac w'
  have TR := Lib.hid fun w' => ritem_any a3 b1 b2 aa b2.list.length ac w'
  clear s4 s2 o1 o2 w3
  obtain ⟨hr0, hr1, hr2, hrb⟩ := alloc3_rows w (.cells #[.int .i64 x0.thr, .int .i64 x0.acc.kind, .int .i64 x0.acc.addr, .int .u64 x0.acc.old, .int .u64 x0.acc.new, .int .i64 x0.acc.til, .int .u64 x0.val, .bool x0.ok] 57) (.cells #[.int .i64 b1.kind, .int .i64 b1.addr, .int .u64 b1.old, .int .u64 b1.new, .int .i64 b1.til] 28) (.cells #[.int .u64 b2.val, .bool b2.ok, .bool b2.late, .slice aa b2.list.length ac] 38)
  obtain ⟨W, hW⟩ : ∃ W, ((w.alloc (.cells #[.int .i64 x0.thr, .int .i64 x0.acc.kind, .int .i64 x0.acc.addr, .int .u64 x0.acc.old, .int .u64 x0.acc.new, .int .i64 x0.acc.til, .int .u64 x0.val, .bool x0.ok] 57)).alloc (.cells #[.int .i64 b1.kind, .int .i64 b1.addr, .int .u64 b1.old, .int .u64 b1.new, .int .i64 b1.til] 28)).alloc (.cells #[.int .u64 b2.val, .bool b2.ok, .bool b2.late, .slice aa b2.list.length ac] 38) = W := ⟨_, rfl⟩
  rw [hW] at hr0 hr1 hr2 hrb
  have R0 := Lib.hid hr0
  have R1 := Lib.hid hr1
  have R2 := Lib.hid hr2
  have HB := Lib.hid hrb
  have HW := Lib.hid hW
  have hz : w.heap.size + 3 = W.heap.size := by rw [← hW]; simp
  have hG0 := g0
  clear hr0 hr1 hr2 hrb hW g0
  unfold itemV accV at *
  go_enter Try.func6, Try.ntmps6
  go_upto_region 1 with fail
  rw [HW.out]
  clear HW
  go_wp2_with fail
  refine (AW.out _).mono ?_; rintro e wa ⟨rfl, hba⟩
  have HBA := Lib.hid (below_then HB.out hba)
  have Q0 := Lib.hid ((hba.block w.heap.size (by omega)).trans R0.out)
  have Q1 := Lib.hid ((hba.block (w.heap.size + 1) (by omega)).trans R1.out)
  have Q2 := Lib.hid ((hba.block (w.heap.size + 2) (by omega)).trans R2.out)
  have hza := hba.size
  have hl0 : w.heap.size < wa.heap.size := by omega
  have hl1 : w.heap.size + 1 < wa.heap.size := by omega
  have hl3 : w.heap.size + 2 < wa.heap.size := by omega
  clear hba HB R0 R1 R2 AW
  obtain ⟨y0, y1, y2, y3, y4⟩ := rowc5 Q1.out
  obtain ⟨z0, z1, z2, z3⟩ := rowc4 Q2.out
  go_upto_region 3 with fail
  have Y0 := ext_cell _ 0 hl1 _ y0
  have Y1 := ext_cell _ 1 hl1 _ y1
  have Y2 := ext_cell _ 2 hl1 _ y2
  have Y3 := ext_cell _ 3 hl1 _ y3
  have Y4 := ext_cell _ 4 hl1 _ y4
  have Z0 := ext_cell _ 0 hl3 _ z0
  have Z1 := ext_cell _ 1 hl3 _ z1
  have Z2 := ext_cell _ 2 hl3 _ z2
  have Z3 := ext_cell _ 3 hl3 _ z3
  clear y0 y1 y2 y3 y4 z0 z1 z2 z3
  by_cases hbig : 40 < b2.list.length
  · have hbigI : (40 : Int) < (b2.list.length : Int) := by omega
    refine wp_region_ext wa (by kernel_rfl) (by kernel_rfl) (Below.refl _ _) ?_
    repeat (go_big_quiet_step (fail))
    refine wpQuiet_nil ?_
    intro _ hw'
    obtain ⟨w2, rfl⟩ := hw'
    have HB2 := Lib.hid (below_then HBA.out w2.below)
    have S2 := (w2.below.block (w.heap.size + 2) hl3).trans Q2.out
    generalize w2.wd = w9 at *
    clear Y0 Y1 Y2 Y3 Y4 Z0 Z1 Z2 Z3
    obtain ⟨z0, z1, z2, z3⟩ := rowc4 S2
    clear S2
    go_wp2
    go_ret
    exact ⟨rfl, HB2.out⟩
  · have hbigI : ¬ (40 : Int) < (b2.list.length : Int) := by omega
    refine wp_region_ext wa (by kernel_rfl) (by kernel_rfl) (Below.refl _ _) ?_
    repeat (go_big_quiet_step (first
      | (go_at_call 31; with_reducible exact calls_ext (TI.out _))
      | (go_at_call 32; with_reducible exact calls_ext (TR.out _))))
    refine wpQuiet_nil ?_
    intro _ hw'
    obtain ⟨w2, rfl⟩ := hw'
    have HB3 := Lib.hid (below_then HBA.out w2.below)
    have R0 := Lib.hid ((w2.below.block w.heap.size hl0).trans Q0.out)
    generalize w2.wd = w3 at *
    clear Y0 Y1 Y2 Y3 Y4 Z0 Z1 Z2 Z3 hl0 hl1 hl3 Q0 Q1 Q2 HBA hza hz TI TR
    have h03 : w.heap.size < w3.heap.size := (Array.getElem?_eq_some_iff.1 R0.out).1
    have HS4 := Lib.hid (HS4.out.below HB3.out)
    obtain ⟨xx0, xx1, xx2, xx3, xx4, xx5, xx6, xx7⟩ := rowc8 R0.out
    have KS : Hid (∀ w', Below w3.heap.size w3 w' → (fun w' : World => w'.cell? ⟨w.heap.size, 0, none⟩ = some (.int .i64 x0.thr) ∧ w'.cell? ⟨w.heap.size, 1, none⟩ = some (.int .i64 x0.acc.kind) ∧ w'.cell? ⟨w.heap.size, 2, none⟩ = some (.int .i64 x0.acc.addr) ∧ w'.cell? ⟨w.heap.size, 3, none⟩ = some (.int .u64 x0.acc.old) ∧ w'.cell? ⟨w.heap.size, 4, none⟩ = some (.int .u64 x0.acc.new) ∧ w'.cell? ⟨w.heap.size, 5, none⟩ = some (.int .i64 x0.acc.til) ∧ w'.cell? ⟨w.heap.size, 6, none⟩ = some (.int .u64 x0.val) ∧ w'.cell? ⟨w.heap.size, 7, none⟩ = some (.bool x0.ok)) w') := fun w' hb => ⟨(hb.cell (p := ⟨w.heap.size, 0, none⟩) h03).trans xx0, (hb.cell (p := ⟨w.heap.size, 1, none⟩) h03).trans xx1, (hb.cell (p := ⟨w.heap.size, 2, none⟩) h03).trans xx2, (hb.cell (p := ⟨w.heap.size, 3, none⟩) h03).trans xx3, (hb.cell (p := ⟨w.heap.size, 4, none⟩) h03).trans xx4, (hb.cell (p := ⟨w.heap.size, 5, none⟩) h03).trans xx5, (hb.cell (p := ⟨w.heap.size, 6, none⟩) h03).trans xx6, (hb.cell (p := ⟨w.heap.size, 7, none⟩) h03).trans xx7⟩
    clear xx0 xx1 xx2 xx3 xx4 xx5 xx6 xx7
    go_wp2_with fail
    go_cut [11] (fun s9 wx => ∃ (A : Option Addr) (c : Nat) (L : List ItemM), s9 = .slice A L.length c ∧ L.length ≤ 11 ∧ Hid (OwnT wx w3.heap.size (.slice A L.length c) L) ∧ Hid (∀ z ∈ L, z.good) ∧ Hid (Below w3.heap.size w3 wx))
    case first =>
      refine wp_region_until (fun w' : World => w'.cell? ⟨w.heap.size, 0, none⟩ = some (.int .i64 x0.thr) ∧ w'.cell? ⟨w.heap.size, 1, none⟩ = some (.int .i64 x0.acc.kind) ∧ w'.cell? ⟨w.heap.size, 2, none⟩ = some (.int .i64 x0.acc.addr) ∧ w'.cell? ⟨w.heap.size, 3, none⟩ = some (.int .u64 x0.acc.old) ∧ w'.cell? ⟨w.heap.size, 4, none⟩ = some (.int .u64 x0.acc.new) ∧ w'.cell? ⟨w.heap.size, 5, none⟩ = some (.int .i64 x0.acc.til) ∧ w'.cell? ⟨w.heap.size, 6, none⟩ = some (.int .u64 x0.val) ∧ w'.cell? ⟨w.heap.size, 7, none⟩ = some (.bool x0.ok)) 6 7 (by kernel_rfl) rfl ?_
      obtain ⟨u0, hu0, HUu0⟩ := drew_pack w3
      rw [hu0]
      clear hu0
      have hSU0 : (fun w' : World => w'.cell? ⟨w.heap.size, 0, none⟩ = some (.int .i64 x0.thr) ∧ w'.cell? ⟨w.heap.size, 1, none⟩ = some (.int .i64 x0.acc.kind) ∧ w'.cell? ⟨w.heap.size, 2, none⟩ = some (.int .i64 x0.acc.addr) ∧ w'.cell? ⟨w.heap.size, 3, none⟩ = some (.int .u64 x0.acc.old) ∧ w'.cell? ⟨w.heap.size, 4, none⟩ = some (.int .u64 x0.acc.new) ∧ w'.cell? ⟨w.heap.size, 5, none⟩ = some (.int .i64 x0.acc.til) ∧ w'.cell? ⟨w.heap.size, 6, none⟩ = some (.int .u64 x0.val) ∧ w'.cell? ⟨w.heap.size, 7, none⟩ = some (.bool x0.ok)) (u0) := KS.out _ HUu0.out
      refine wpAnyU_take (v := ?_) 0 ListAt.zero (by kernel_rfl) (by kernel_rfl) (by kernel_rfl) (by kernel_rfl) (by kernel_rfl) (fun _ _ _ h => h) hSU0 rfl ?_ ?_
      rotate_left
      · (intro w hSw; (try dsimp only at hSw); go_simp <;> with_reducible rfl)
      simp only [Act.put, List.setIfInBounds_toArray, List.set_cons_zero, List.set_cons_succ]
      refine wpAnyU_take (v := ?_) 3 (ListAt.succ (ListAt.succ (ListAt.succ ListAt.zero))) (by kernel_rfl) (by kernel_rfl) (by kernel_rfl) (by kernel_rfl) (by kernel_rfl) (fun _ _ _ h => h) hSU0 rfl ?_ ?_
      rotate_left
      · (intro w hSw; (try dsimp only at hSw); go_simp <;> with_reducible rfl)
      simp only [Act.put, List.setIfInBounds_toArray, List.set_cons_zero, List.set_cons_succ]
      refine wpAnyU_ready (rs := [1, 4]) (by kernel_rfl) rfl ?_
      refine AllReadyU.cons (ListAt.succ ListAt.zero) rfl (fun K hK => ?_) ?_
      · go_simp
        go_at_call 12
        refine (new_any _ l4 80 _ (HS4.out.below HUu0.out) (by omega)).mono ?_
        rintro e v1 ⟨rfl, hc1, hb1⟩
        have HC1 : Hid (CodesE v1 u0.heap.size) := ⟨_, _, hc1⟩
        have HV1 := Lib.hid (below_then HUu0.out hb1)
        have hgw : Hid (w3.heap.size ≤ u0.heap.size) := HUu0.out.size
        clear hc1 hb1
        refine hK.out _ _ ?_ (fun hSU1 => ?_)
        · exact KS.out _ HV1.out
        clear hK K hSU0
        try simp only [Act.put, List.setIfInBounds_toArray, List.set_cons_zero, List.set_cons_succ]
        refine wpAnyU_ready (rs := [2, 4]) (by kernel_rfl) rfl ?_
        refine AllReadyU.cons (ListAt.succ (ListAt.succ ListAt.zero)) rfl (fun K hK => ?_) ?_
        · go_simp
          go_at_call 33
          refine (itemsE _ 3 10 _ HC1.out (by omega) (by omega)).mono ?_
          rintro e v2 ⟨v3, l, rfl, ho2, hl2, hgood, -, hg2⟩
          have HV2 : Hid (Below w3.heap.size w3 v2) := HV1.out.grown hg2 HV1.out.size (fun k hk => by cases hk; exact hgw.out)
          have HO2 : Hid (OwnT v2 w3.heap.size v3 l) := ho2.mono_base HV1.out.size
          have HGA : Hid (∀ x ∈ l, x.good) := fun x hx => (hgood x hx).1
          have hl10 : l.length ≤ 10 := by omega
          clear ho2 hl2 hgood hg2
          refine hK.out _ _ ?_ (fun hSU2 => ?_)
          · exact KS.out _ HV2.out
          clear hK K hSU1
          try simp only [Act.put, List.setIfInBounds_toArray, List.set_cons_zero, List.set_cons_succ]
          refine wpAnyU_ready (rs := [4]) (by kernel_rfl) rfl ?_
          refine AllReadyU.cons (ListAt.succ (ListAt.succ (ListAt.succ (ListAt.succ ListAt.zero)))) rfl (fun K hK => ?_) ?_
          · go_simp
            obtain ⟨u2, bX, hv, hXe, RL, hbX, ltX⟩ := alloc_pack v2 (.cells #[.int .i64 x0.thr, .int .i64 x0.acc.kind, .int .i64 x0.acc.addr, .int .u64 x0.acc.old, .int .u64 x0.acc.new, .int .i64 x0.acc.til, .int .u64 x0.val, .bool x0.ok] 57)
            rw [hv, hXe]
            have HV3 := Lib.hid (below_then HV2.out hbX.out)
            have HO3 := Lib.hid (HO2.out.below hbX.out)
            clear hv
            refine hK.out _ _ ?_ (fun hSU3 => ?_)
            · exact KS.out _ HV3.out
            clear hK K hSU2
            try simp only [Act.put, List.setIfInBounds_toArray, List.set_cons_zero, List.set_cons_succ]
            refine wpAnyU_ready (rs := [5]) (by kernel_rfl) rfl ?_
            refine AllReadyU.cons (ListAt.succ (ListAt.succ (ListAt.succ (ListAt.succ (ListAt.succ ListAt.zero))))) rfl (fun K hK => ?_) ?_
            · refine step_append_item (w := u2) (by rfl) _ _ (by rfl) w3.heap.size v3 l (by rfl) HO3.out x0 bX (by rfl) (one_at RL.out) (by omega) HV3.out.size ?_
              intro v9 w9 ho9 hg9
              have HV9 : Hid (Below w3.heap.size w3 w9) := HV3.out.grown hg9 HV3.out.size (fun k hk => HO3.out.own_ge k hk)
              have HO9 := Lib.hid ho9
              clear ho9 hg9
              refine hK.out _ _ ?_ (fun hSU4 => ?_)
              · exact KS.out _ HV9.out
              clear hK K hSU3
              try simp only [Act.put, List.setIfInBounds_toArray, List.set_cons_zero, List.set_cons_succ]
              refine wpAnyU_ready (rs := [6]) (by kernel_rfl) rfl ?_
              refine AllReadyU.free (ListAt.succ (ListAt.succ (ListAt.succ (ListAt.succ (ListAt.succ (ListAt.succ ListAt.zero)))))) rfl (by kernel_rfl) (fun K hK => ?_) ?_
              · go_simp
                refine hK.out _ _ ?_
                clear hK K hSU4
                try simp only [Act.put, List.setIfInBounds_toArray, List.set_cons_zero, List.set_cons_succ]
                refine wpAnyU_done (by kernel_rfl) ?_ _
                have hll : (l ++ [x0]).length ≤ 11 := by simp; omega
                have HLG : Hid (∀ z ∈ l ++ [x0], z.good) := good_one HGA.out HX0.out
                obtain ⟨A9, c9, e9⟩ := HO9.out.len
                generalize l ++ [x0] = L at *
                subst e9
                go_wp2_with fail
                go_meet
                exact ⟨A9, c9, L, rfl, hll, HO9, HLG, HV9⟩
              exact AllReadyU.nil
            exact AllReadyU.nil
          exact AllReadyU.nil
        refine AllReadyU.cons (ListAt.succ (ListAt.succ (ListAt.succ (ListAt.succ ListAt.zero)))) rfl (fun K hK => ?_) ?_
        · go_simp
          obtain ⟨u1, bX, hv, hXe, RL, hbX, ltX⟩ := alloc_pack v1 (.cells #[.int .i64 x0.thr, .int .i64 x0.acc.kind, .int .i64 x0.acc.addr, .int .u64 x0.acc.old, .int .u64 x0.acc.new, .int .i64 x0.acc.til, .int .u64 x0.val, .bool x0.ok] 57)
          rw [hv, hXe]
          have HVu1 := Lib.hid (below_then HV1.out hbX.out)
          have HCu1 := Lib.hid (HC1.out.kept HC1.out.lt hbX.out)
          have hgX : Hid (u0.heap.size < bX) := by have h1 := HC1.out.lt; exact hXe ▸ h1
          clear hv
          refine hK.out _ _ ?_ (fun hSU5 => ?_)
          · exact KS.out _ HVu1.out
          clear hK K hSU1
          try simp only [Act.put, List.setIfInBounds_toArray, List.set_cons_zero, List.set_cons_succ]
          refine wpAnyU_ready (rs := [2]) (by kernel_rfl) rfl ?_
          refine AllReadyU.cons (ListAt.succ (ListAt.succ ListAt.zero)) rfl (fun K hK => ?_) ?_
          · go_simp
            go_at_call 33
            refine (itemsE _ 3 10 _ HCu1.out (by omega) (by omega)).mono ?_
            rintro e v2 ⟨v3, l, rfl, ho2, hl2, hgood, -, hg2⟩
            have HV2 : Hid (Below w3.heap.size w3 v2) := HVu1.out.grown hg2 HVu1.out.size (fun k hk => by cases hk; exact hgw.out)
            have HO2 : Hid (OwnT v2 w3.heap.size v3 l) := ho2.mono_base HVu1.out.size
            have HGA : Hid (∀ x ∈ l, x.good) := fun x hx => (hgood x hx).1
            have hl10 : l.length ≤ 10 := by omega
            have RLb := Lib.hid ((hg2.block bX ltX.out (by simp; intro e; have := hgX.out; omega)).trans RL.out)
            clear ho2 hl2 hgood hg2
            refine hK.out _ _ ?_ (fun hSU6 => ?_)
            · exact KS.out _ HV2.out
            clear hK K hSU5
            try simp only [Act.put, List.setIfInBounds_toArray, List.set_cons_zero, List.set_cons_succ]
            refine wpAnyU_ready (rs := [5]) (by kernel_rfl) rfl ?_
            refine AllReadyU.cons (ListAt.succ (ListAt.succ (ListAt.succ (ListAt.succ (ListAt.succ ListAt.zero))))) rfl (fun K hK => ?_) ?_
            · refine step_append_item (w := v2) (by rfl) _ _ (by rfl) w3.heap.size v3 l (by rfl) HO2.out x0 bX (by rfl) (one_at RLb.out) (by omega) HV2.out.size ?_
              intro v9 w9 ho9 hg9
              have HV9 : Hid (Below w3.heap.size w3 w9) := HV2.out.grown hg9 HV2.out.size (fun k hk => HO2.out.own_ge k hk)
              have HO9 := Lib.hid ho9
              clear ho9 hg9
              refine hK.out _ _ ?_ (fun hSU7 => ?_)
              · exact KS.out _ HV9.out
              clear hK K hSU6
              try simp only [Act.put, List.setIfInBounds_toArray, List.set_cons_zero, List.set_cons_succ]
              refine wpAnyU_ready (rs := [6]) (by kernel_rfl) rfl ?_
              refine AllReadyU.free (ListAt.succ (ListAt.succ (ListAt.succ (ListAt.succ (ListAt.succ (ListAt.succ ListAt.zero)))))) rfl (by kernel_rfl) (fun K hK => ?_) ?_
              · go_simp
                refine hK.out _ _ ?_
                clear hK K hSU7
                try simp only [Act.put, List.setIfInBounds_toArray, List.set_cons_zero, List.set_cons_succ]
                refine wpAnyU_done (by kernel_rfl) ?_ _
                have hll : (l ++ [x0]).length ≤ 11 := by simp; omega
                have HLG : Hid (∀ z ∈ l ++ [x0], z.good) := good_one HGA.out HX0.out
                obtain ⟨A9, c9, e9⟩ := HO9.out.len
                generalize l ++ [x0] = L at *
                subst e9
                go_wp2_with fail
                go_meet
                exact ⟨A9, c9, L, rfl, hll, HO9, HLG, HV9⟩
              exact AllReadyU.nil
            exact AllReadyU.nil
          exact AllReadyU.nil
        exact AllReadyU.nil
      refine AllReadyU.cons (ListAt.succ (ListAt.succ (ListAt.succ (ListAt.succ ListAt.zero)))) rfl (fun K hK => ?_) ?_
      · go_simp
        obtain ⟨u1, bX, hv, hXe, RL, hbX, ltX⟩ := alloc_pack u0 (.cells #[.int .i64 x0.thr, .int .i64 x0.acc.kind, .int .i64 x0.acc.addr, .int .u64 x0.acc.old, .int .u64 x0.acc.new, .int .i64 x0.acc.til, .int .u64 x0.val, .bool x0.ok] 57)
        rw [hv, hXe]
        have HUu1 := Lib.hid (below_then HUu0.out hbX.out)
        clear hv
        refine hK.out _ _ ?_ (fun hSU8 => ?_)
        · exact KS.out _ HUu1.out
        clear hK K hSU0
        try simp only [Act.put, List.setIfInBounds_toArray, List.set_cons_zero, List.set_cons_succ]
        refine wpAnyU_ready (rs := [1]) (by kernel_rfl) rfl ?_
        refine AllReadyU.cons (ListAt.succ ListAt.zero) rfl (fun K hK => ?_) ?_
        · go_simp
          go_at_call 12
          refine (new_any _ l4 80 _ (HS4.out.below HUu1.out) (by omega)).mono ?_
          rintro e v1 ⟨rfl, hc1, hb1⟩
          have HC1 : Hid (CodesE v1 u1.heap.size) := ⟨_, _, hc1⟩
          have HV1 := Lib.hid (below_then HUu1.out hb1)
          have hgw : Hid (w3.heap.size ≤ u1.heap.size) := HUu1.out.size
          have RLa := Lib.hid ((hb1.block bX ltX.out).trans RL.out)
          have ltXa : Hid (bX < v1.heap.size) := Nat.lt_of_lt_of_le ltX.out hb1.size
          have hgX : Hid (bX < u1.heap.size) := ltX.out
          clear hc1 hb1
          refine hK.out _ _ ?_ (fun hSU9 => ?_)
          · exact KS.out _ HV1.out
          clear hK K hSU8
          try simp only [Act.put, List.setIfInBounds_toArray, List.set_cons_zero, List.set_cons_succ]
          refine wpAnyU_ready (rs := [2]) (by kernel_rfl) rfl ?_
          refine AllReadyU.cons (ListAt.succ (ListAt.succ ListAt.zero)) rfl (fun K hK => ?_) ?_
          · go_simp
            go_at_call 33
            refine (itemsE _ 3 10 _ HC1.out (by omega) (by omega)).mono ?_
            rintro e v2 ⟨v3, l, rfl, ho2, hl2, hgood, -, hg2⟩
            have HV2 : Hid (Below w3.heap.size w3 v2) := HV1.out.grown hg2 HV1.out.size (fun k hk => by cases hk; exact hgw.out)
            have HO2 : Hid (OwnT v2 w3.heap.size v3 l) := ho2.mono_base HV1.out.size
            have HGA : Hid (∀ x ∈ l, x.good) := fun x hx => (hgood x hx).1
            have hl10 : l.length ≤ 10 := by omega
            have RLb := Lib.hid ((hg2.block bX ltXa.out (by simp; intro e; have := hgX.out; omega)).trans RLa.out)
            clear ho2 hl2 hgood hg2
            refine hK.out _ _ ?_ (fun hSU10 => ?_)
            · exact KS.out _ HV2.out
            clear hK K hSU9
            try simp only [Act.put, List.setIfInBounds_toArray, List.set_cons_zero, List.set_cons_succ]
            refine wpAnyU_ready (rs := [5]) (by kernel_rfl) rfl ?_
            refine AllReadyU.cons (ListAt.succ (ListAt.succ (ListAt.succ (ListAt.succ (ListAt.succ ListAt.zero))))) rfl (fun K hK => ?_) ?_
            · refine step_append_item (w := v2) (by rfl) _ _ (by rfl) w3.heap.size v3 l (by rfl) HO2.out x0 bX (by rfl) (one_at RLb.out) (by omega) HV2.out.size ?_
              intro v9 w9 ho9 hg9
              have HV9 : Hid (Below w3.heap.size w3 w9) := HV2.out.grown hg9 HV2.out.size (fun k hk => HO2.out.own_ge k hk)
              have HO9 := Lib.hid ho9
              clear ho9 hg9
              refine hK.out _ _ ?_ (fun hSU11 => ?_)
              · exact KS.out _ HV9.out
              clear hK K hSU10
              try simp only [Act.put, List.setIfInBounds_toArray, List.set_cons_zero, List.set_cons_succ]
              refine wpAnyU_ready (rs := [6]) (by kernel_rfl) rfl ?_
              refine AllReadyU.free (ListAt.succ (ListAt.succ (ListAt.succ (ListAt.succ (ListAt.succ (ListAt.succ ListAt.zero)))))) rfl (by kernel_rfl) (fun K hK => ?_) ?_
              · go_simp
                refine hK.out _ _ ?_
                clear hK K hSU11
                try simp only [Act.put, List.setIfInBounds_toArray, List.set_cons_zero, List.set_cons_succ]
                refine wpAnyU_done (by kernel_rfl) ?_ _
                have hll : (l ++ [x0]).length ≤ 11 := by simp; omega
                have HLG : Hid (∀ z ∈ l ++ [x0], z.good) := good_one HGA.out HX0.out
                obtain ⟨A9, c9, e9⟩ := HO9.out.len
                generalize l ++ [x0] = L at *
                subst e9
                go_wp2_with fail
                go_meet
                exact ⟨A9, c9, L, rfl, hll, HO9, HLG, HV9⟩
              exact AllReadyU.nil
            exact AllReadyU.nil
          exact AllReadyU.nil
        exact AllReadyU.nil
      exact AllReadyU.nil
    case rest =>
      obtain ⟨A, c, L, rfl, hL, HOL, HLG, HB4⟩ := hcut
      obtain ⟨w4, rfl⟩ : ∃ w4 : World, w4 = wc := ⟨_, rfl⟩
      have R4 := Lib.hid ((HB4.out.block w.heap.size h03).trans R0.out)
      have h04 : w.heap.size < w4.heap.size := (Array.getElem?_eq_some_iff.1 R4.out).1
      have hs4 := HB4.out.size
      clear KS R0 HS4
      -- the record m
      obtain ⟨W5, hW5⟩ : ∃ W5, (w4.alloc (.cells zeroItem 57)).setRow w4.heap.size #[.int .i64 x0.thr, .int .i64 x0.acc.kind, .int .i64 x0.acc.addr, .int .u64 x0.acc.old, .int .u64 x0.acc.new, .int .i64 x0.acc.til, .int .u64 x0.val, .bool x0.ok] = W5 := ⟨_, rfl⟩
      have N5 : Hid ((w4.alloc (.cells zeroItem 57)).heap[w4.heap.size]? = some (.cells zeroItem 57 (0, 0))) := heap_alloc_new _ _
      have hB5 : Hid (Below w4.heap.size w4 W5) := hW5 ▸ row_below (below_new (Below.refl _ _) _) (Nat.le_refl _) _
      have R5 : Hid (W5.heap[w4.heap.size]? = some (.cells #[.int .i64 x0.thr, .int .i64 x0.acc.kind, .int .i64 x0.acc.addr, .int .u64 x0.acc.old, .int .u64 x0.acc.new, .int .i64 x0.acc.til, .int .u64 x0.val, .bool x0.ok] 57 (0, 0))) := hW5 ▸ setRow_heap _ _ _ _ _ (0, 0) N5.out
      have HW5 := Lib.hid hW5
      clear hW5
      obtain ⟨xx0, xx1, xx2, xx3, xx4, xx5, xx6, xx7⟩ := rowc8 R4.out
      go_upto_region 7 with (refine wpList_store_row rfl 57 _ _ rfl (w4.heap.size) _ rfl rfl 57 zeroItem N5.out (by kernel_rfl) rfl (by simp [Value.oneCell']) ?_)
      rw [show (#[.int .i64 0, .int .i64 0, .int .i64 0, .int .u64 0, .int .u64 0, .int .i64 0, .int .u64 0, .bool false] : Array Value) = zeroItem from rfl, HW5.out]
      try simp only [Act.put]
      clear HW5 N5 xx0 xx1 xx2 xx3 xx4 xx5 xx6 xx7
      have R45 := Lib.hid ((hB5.out.block w.heap.size h04).trans R4.out)
      have HOL5 := Lib.hid (HOL.out.below hB5.out)
      have HB5 := Lib.hid (below_then HB4.out hB5.out)
      have hm5 : w4.heap.size < W5.heap.size := (Array.getElem?_eq_some_iff.1 R5.out).1
      have hne : HOL.out.len = HOL.out.len := rfl
      have hOB : Hid ((Value.slice A L.length c).ownBlock = none ∨ (Value.slice A L.length c).ownBlock ≠ some w4.heap.size) := by
        cases hv : (Value.slice A L.length c).ownBlock with
        | none => exact .inl rfl
        | some b => exact .inr fun e => by have := World.ownsRow.lt HOL.out b hv; cases e; omega
      generalize w4.heap.size = M at *
      clear hne R4 HOL hB5 HB4
      obtain ⟨xx0, xx1, xx2, xx3, xx4, xx5, xx6, xx7⟩ := rowc8 R45.out
      go_wp2_with fail
      refine (mod_any x0.acc.kind 12 _ (by omega) (by omega)).mono ?_; rintro e wm ⟨rfl, rfl⟩
      obtain ⟨km, hkm⟩ : ∃ km, x0.acc.kind % 12 = km := ⟨_, rfl⟩
      have hkm1 : 0 ≤ km ∧ km < 12 := by omega
      have hwk : IntKind.i64.wrap (km - 1) = km - 1 := by rw [IntKind.wrap_i64]; omega
      rw [hkm]
      clear hkm xx0 xx1 xx2 xx3 xx4 xx5 xx6 xx7
      obtain ⟨kk, hkk⟩ : ∃ kk, km - 1 = kk := ⟨_, rfl⟩
      have hkk1 : -1 ≤ kk ∧ kk ≤ 10 := by omega
      rw [hkk] at hwk
      have f1 := frozen_of_row _ _ 1 _ _ R5.out
      have q1 := cell_of_row _ _ 1 _ _ _ R5.out
      have r6 := heap_setCell_same W5 M 1 _ _ (.int .i64 kk) R5.out
      simp at r6
      have R6 := Lib.hid r6
      have HOL6 : Hid (OwnT (W5.setCell ⟨M, 1, none⟩ (.int .i64 kk)) w3.heap.size (.slice A L.length c) L) := HOL5.out.kept (grownBy_setCell W5 ⟨M, 1, none⟩ _) hOB.out
      have HB6 : Hid (Below w3.heap.size w3 (W5.setCell ⟨M, 1, none⟩ (.int .i64 kk))) := HB5.out.setCell (p := ⟨M, 1, none⟩) hs4 _
      have HMG : Hid (ItemM.good ⟨x0.thr, ⟨kk, x0.acc.addr, x0.acc.old, x0.acc.new, x0.acc.til⟩, x0.val, x0.ok⟩) := ⟨hG0.thr, ⟨by show kk = IntKind.i64.wrap kk; rw [IntKind.wrap_i64]; omega, hG0.acc.addr, hG0.acc.old, hG0.acc.new, hG0.acc.til⟩, hG0.val⟩
      clear r6 hG0 HOL5 HB5 R5
      go_upto_region 8 with fail
      try rw [hkk]
      clear hkk hkm1 hwk
      generalize W5.setCell ⟨M, 1, none⟩ (.int .i64 kk) = W6 at *
      try simp only [Act.put]
      clear f1 q1
      obtain ⟨mm, hmm⟩ : ∃ mm : ItemM, mm = ⟨x0.thr, ⟨kk, x0.acc.addr, x0.acc.old, x0.acc.new, x0.acc.til⟩, x0.val, x0.ok⟩ := ⟨_, rfl⟩
      obtain ⟨xx0, xx1, xx2, xx3, xx4, xx5, xx6, xx7⟩ := rowc8 R6.out
      have hsz6 := HB6.out.size
      go_upto_region 9 with (at_builtin; refine wp_append_item _ rfl _ _ rfl w3.heap.size (.slice A L.length c) L rfl (HOL6.out.alloc _) ⟨x0.thr, ⟨kk, x0.acc.addr, x0.acc.old, x0.acc.new, x0.acc.til⟩, x0.val, x0.ok⟩ _ rfl ?_ ?_ ?_ ?_; exact ⟨World.cell?_alloc_at _ _ _ _ (by simp), World.cell?_alloc_at _ _ _ _ (by simp), World.cell?_alloc_at _ _ _ _ (by simp), World.cell?_alloc_at _ _ _ _ (by simp), World.cell?_alloc_at _ _ _ _ (by simp), World.cell?_alloc_at _ _ _ _ (by simp), World.cell?_alloc_at _ _ _ _ (by simp), World.cell?_alloc_at _ _ _ _ (by simp)⟩; omega; simp; omega; intro v7 w7 ho7 hg7; obtain ⟨A7, c7, e7⟩ := ho7.len; subst e7)
      have HB7 : Hid (Below w3.heap.size w3 w7) := (HB6.out.alloc hsz6 _).grown hg7 (by simp; omega) (fun j hj => HOL6.out.own_ge j hj)
      have HSL : Hid (SlT w7 (.slice A7 (L ++ [(⟨x0.thr, ⟨kk, x0.acc.addr, x0.acc.old, x0.acc.new, x0.acc.til⟩, x0.val, x0.ok⟩ : ItemM)]).length c7) (L ++ [(⟨x0.thr, ⟨kk, x0.acc.addr, x0.acc.old, x0.acc.new, x0.acc.til⟩, x0.val, x0.ok⟩ : ItemM)])) := ho7.read (by simp; omega) (good_one HLG.out HMG.out)
      have HLG7 := Lib.hid (good_one HLG.out HMG.out)
      have hL7 : (L ++ [(⟨x0.thr, ⟨kk, x0.acc.addr, x0.acc.old, x0.acc.new, x0.acc.til⟩, x0.val, x0.ok⟩ : ItemM)]).length ≤ 12 := by simp; omega
      have hLL : (L ++ [(⟨x0.thr, ⟨kk, x0.acc.addr, x0.acc.old, x0.acc.new, x0.acc.til⟩, x0.val, x0.ok⟩ : ItemM)]).length = L.length + 1 := by simp
      clear ho7 hg7 HB6 HOL6 R6 xx0 xx1 xx2 xx3 xx4 xx5 xx6 xx7 HMG HLG hmm mm R45 hOB
      generalize L ++ [(⟨x0.thr, ⟨kk, x0.acc.addr, x0.acc.old, x0.acc.new, x0.acc.til⟩, x0.val, x0.ok⟩ : ItemM)] = LL at *
      try simp only [Act.put]
      try rw [← hLL]
      clear hLL
      have HB8 := Lib.hid (below_then HB3.out HB7.out)
      go_wp2_with fail
      go_loopw [56] (fun u wr => ∃ k : Nat, k ≤ LL.length ∧ u = .int .i64 k ∧ Hid (Below w7.heap.size w7 wr)) (fun u _ => 13 - (intOf u).toNat)
      case atStart => exact ⟨0, by omega, rfl, Below.refl _ _⟩
      case round =>
        obtain ⟨k, hk, rfl, HBo⟩ := hrel
        obtain ⟨wo, rfl⟩ : ∃ wo : World, wo = wr := ⟨_, rfl⟩
        by_cases hlk : k < LL.length
        · obtain ⟨b, off, cap1, e, hcap2, hb, hcell⟩ := HSL.out.open (by rintro rfl; simp at hlk)
          simp only [Value.slice.injEq] at e
          obtain ⟨rfl, -, rfl⟩ := e
          obtain ⟨p, hp⟩ : ∃ p, LL.getD k noItem = p := ⟨_, rfl⟩
          have hgp : p.good := by
            rw [← hp, List.getD_eq_getElem?_getD, List.getElem?_eq_getElem hlk]
            exact HLG7.out _ (List.getElem_mem hlk)
          have hcp := hcell k hlk
          rw [hp] at hcp
          obtain ⟨c0, c1, c2, c3, c4, c5, c6, c7⟩ := hcp
          have hcc : ∀ j, wo.cell? ⟨b, j, none⟩ = w7.cell? ⟨b, j, none⟩ := fun j => HBo.out.cell (p := ⟨b, j, none⟩) hb
          rw [← hcc] at c0 c1 c2 c3 c4 c5 c6 c7
          rw [Nat.add_zero] at c0
          have hbo : b < wo.heap.size := Nat.lt_of_lt_of_le hb HBo.out.size
          have hkI : (k : Int) < (LL.length : Int) := by omega
          have T0 := Lib.hid fun w' => place_any p w' hgp
          have T1 := Lib.hid fun w' => rplace_any p w' hgp
          have T2 := Lib.hid fun w' => reads_any p w'
          have T3 := Lib.hid fun w' => rreads_any p w'
          have T4 := Lib.hid fun w' => changes_any p w'
          have T5 := Lib.hid fun w' => rchanges_any p w'
          unfold itemV at T0 T1 T2 T3 T4 T5
          generalize placeE p = pp at *
          generalize readsE p = pr at *
          generalize changesE p = pc at *
          clear hcell hp hcc hgp hk
          obtain ⟨W8, hW8⟩ : ∃ W8, (wo.alloc (.cells zeroItem 57)).setRow wo.heap.size #[.int .i64 p.thr, .int .i64 p.acc.kind, .int .i64 p.acc.addr, .int .u64 p.acc.old, .int .u64 p.acc.new, .int .i64 p.acc.til, .int .u64 p.val, .bool p.ok] = W8 := ⟨_, rfl⟩
          have N8 : Hid ((wo.alloc (.cells zeroItem 57)).heap[wo.heap.size]? = some (.cells zeroItem 57 (0, 0))) := heap_alloc_new _ _
          have hB8 : Hid (Below wo.heap.size wo W8) := hW8 ▸ row_below (below_new (Below.refl _ _) _) (Nat.le_refl _) _
          have R8 : Hid (W8.heap[wo.heap.size]? = some (.cells #[.int .i64 p.thr, .int .i64 p.acc.kind, .int .i64 p.acc.addr, .int .u64 p.acc.old, .int .u64 p.acc.new, .int .i64 p.acc.til, .int .u64 p.val, .bool p.ok] 57 (0, 0))) := hW8 ▸ setRow_heap _ _ _ _ _ (0, 0) N8.out
          have HW8 := Lib.hid hW8
          clear hW8
          go_upto_region 12 with (refine wpList_store_row rfl 57 _ _ rfl (wo.heap.size) _ rfl rfl 57 zeroItem N8.out (by kernel_rfl) rfl (by simp [Value.oneCell']) ?_)
          rw [show (#[.int .i64 0, .int .i64 0, .int .i64 0, .int .u64 0, .int .u64 0, .int .i64 0, .int .u64 0, .bool false] : Array Value) = zeroItem from rfl, HW8.out]
          try simp only [Act.put]
          clear HW8 N8 c0 c1 c2 c3 c4 c5 c6 c7
          have HB9 := Lib.hid (below_then HBo.out hB8.out)
          have h8 : wo.heap.size < W8.heap.size := (Array.getElem?_eq_some_iff.1 R8.out).1
          obtain ⟨xx0, xx1, xx2, xx3, xx4, xx5, xx6, xx7⟩ := rowc8 R8.out
          have X0 := ext_cell _ 0 h8 _ xx0
          have X1 := ext_cell _ 1 h8 _ xx1
          have X2 := ext_cell _ 2 h8 _ xx2
          have X3 := ext_cell _ 3 h8 _ xx3
          have X4 := ext_cell _ 4 h8 _ xx4
          have X5 := ext_cell _ 5 h8 _ xx5
          have X6 := ext_cell _ 6 h8 _ xx6
          have X7 := ext_cell _ 7 h8 _ xx7
          clear xx0 xx1 xx2 xx3 xx4 xx5 xx6 xx7
          refine wp_region_ext W8 (by kernel_rfl) (by kernel_rfl) (Below.refl _ _) ?_
          repeat (go_big_quiet_step (first
            | (go_at_call 35; with_reducible exact calls_ext (T0.out _))
            | (go_at_call 36; with_reducible exact calls_ext (T1.out _))
            | (go_at_call 37; with_reducible exact calls_ext (T2.out _))
            | (go_at_call 38; with_reducible exact calls_ext (T3.out _))
            | (go_at_call 39; with_reducible exact calls_ext (T4.out _))
            | (go_at_call 40; with_reducible exact calls_ext (T5.out _))))
          refine wpQuiet_nil ?_
          intro _ hw'
          obtain ⟨w2, rfl⟩ := hw'
          have HB10 := Lib.hid (below_then HB9.out w2.below)
          generalize w2.wd = w11 at *
          clear X0 X1 X2 X3 X4 X5 X6 X7
          go_wp2
          go_roundw
          case rel => exact ⟨k + 1, by omega, by go_num, HB10⟩
          case measure => simp [intOf]; omega
        · obtain rfl : k = LL.length := by omega
          have HFN := Lib.hid (below_then HB8.out HBo.out)
          go_wp2
          go_ret
          exact ⟨rfl, HFN.out⟩
set_option maxRecDepth 100000 in
theorem lifted (os : Os) (started : os.Started) (H : Type) (enc : TypeId × Value → H) :
    ReturnsInHanded {} Try.checked os 6 .any (Rows.traceItemsSpec.pre6 enc Try.prog Try.f6 Rows.traceItemsRow.domain false) (Rows.traceItemsSpec.post enc Try.prog Try.f6 false true false false) := by
  refine returnsInHanded_of_change_sized (C := Try.checked) own started (by kernel_rfl) Try.func6
    (ChangeSpec.witness6 (enc := enc) (C := Try.checked) false ⟨#[], #[.agg #[.int .i64 0, .int .i64 0, .int .i64 0, .int .u64 0, .int .u64 0, .int .i64 0, .int .u64 0, .bool false], .agg #[.int .i64 0, .int .i64 0, .int .u64 0, .int .u64 0, .int .i64 0], .agg #[.int .u64 0, .bool false, .bool false, .slice none 0 0], .int .i64 0, .slice none 0 0], []⟩ 8 (by kernel_rfl) (by kernel_rfl) (by kernel_rfl) (by kernel_rfl)) ?_
  intro W base args ds gs before hval0 hW _ hsz0 _
  have hsz : (DataW.weightsEach Try.prog (Try.f6.params.toList ++ Rows.traceItemsSpec.plain.varTypes Try.prog) (ds ++ gs)).all (· ≤ reachBytes) = true := hsz0
  clear hsz0
  have hval : ∀ (j : Nat) t v, Try.f6.params[j]? = some t → args[j]? = some v → Value.okWide Try.prog W .any base t v := hval0
  have hW' := hW
  obtain ⟨p, q, hA0, hV, rfl, _, _⟩ := hW
  have hA : DataW.TrodAll enc Try.prog W 0 (fun _ => true) true Try.f6.params.toList args.toList ds p := hA0
  rw [Try.params6] at hA hval hsz
  obtain ⟨v0, vs0, d0, ds0, p0, q0, hargs, rfl, rfl, h0, r0⟩ := trodAll_cons hA
  obtain ⟨v1, vs1, d1, ds1, p1, q1, rfl, rfl, rfl, h1, r1⟩ := trodAll_cons r0
  obtain ⟨v2, vs2, d2, ds2, p2, q2, rfl, rfl, rfl, h2, r2⟩ := trodAll_cons r1
  obtain ⟨v3, vs3, d3, ds3, p3, q3, rfl, rfl, rfl, h3, r3⟩ := trodAll_cons r2
  obtain ⟨v4, vs4, d4, ds4, p4, q4, rfl, rfl, rfl, h4, r4⟩ := trodAll_cons r3
  obtain ⟨rfl, rfl, rfl⟩ := trodAll_nil r4
  obtain rfl : args = #[v0, v1, v2, v3, v4] := by cases args; simp_all
  obtain ⟨rfl, rfl⟩ := trodVars_none hV
  have k0 := h0
  have k1 := h1
  have k2 := h2
  have k3 := h3
  have k4 := h4
  obtain ⟨x0, rfl, g0⟩ := view_item (hval 0 57 v0 rfl rfl) h0
  obtain ⟨b1, rfl, o1⟩ := view_acc (hval 1 28 v1 rfl rfl) h1
  obtain ⟨b2, z2, rfl, s2, o2⟩ := view_ans (fun parts hd => sized_agg hsz (j := 2) (t := 38) rfl (by rw [hd]; rfl) Try.underlying38) (hval 2 38 v2 rfl rfl) h2
  obtain ⟨a3, rfl, -, -, w3⟩ := open_int Try.underlying3 (hval 3 3 v3 rfl rfl) h3
  obtain ⟨l4, s4⟩ := view_sl (k := .u8) Try.underlying29 Try.underlying5 (by kernel_rfl) (fun elems sp hd => sized_slice hsz (j := 4) (t := 29) (e := 5) rfl (by rw [hd]; rfl) Try.underlying29) (of_decide_eq_true (by kernel_rfl)) (hval 4 29 v4 rfl rfl) h4
  clear hA0 hval0
  simp only [List.append_nil] at hW'
  have hlt := hW'.lt
  refine (walk W x0 g0 b1 o1 b2 z2 s2 o2 a3 w3 v4 l4 s4).mono fun e W' ⟨he, hb⟩ => ?_
  subst he
  exact ⟨_, rfl, _, _, _, [], _, [], hW', trodAll_cons_mk (shut_bool Try.underlying4 _) trodAll_mk0, (trodAll_cons_mk (Below.trod Try.laidOut (by kernel_rfl) (of_decide_eq_true (by kernel_rfl)) k0 hb (fun x hx => by simpa using hlt x (by simp [hx]))) (trodAll_cons_mk (Below.trod Try.laidOut (by kernel_rfl) (of_decide_eq_true (by kernel_rfl)) k1 hb (fun x hx => by simpa using hlt x (by simp [hx]))) (trodAll_cons_mk (Below.trod Try.laidOut (by kernel_rfl) (of_decide_eq_true (by kernel_rfl)) k2 hb (fun x hx => by simpa using hlt x (by simp [hx]))) (trodAll_cons_mk (Below.trod Try.laidOut (by kernel_rfl) (of_decide_eq_true (by kernel_rfl)) k3 hb (fun x hx => by simpa using hlt x (by simp [hx]))) (trodAll_cons_mk (Below.trod Try.laidOut (by kernel_rfl) (of_decide_eq_true (by kernel_rfl)) k4 hb (fun x hx => by simpa using hlt x (by simp [hx]))) trodAll_mk0))))), rfl, hb.frame _, fun h => by cases h⟩
theorem over : Rows.traceItemsRow.holds Try.pinned (OpenSpec.ofChange Rows.traceItemsSpec) :=
  OpenClaim.holds_of_wide 6 Try.f6 rfl rfl rfl rfl rfl rfl rfl ⟨rfl, rfl, rfl, rfl, rfl⟩ rfl rfl rfl rfl rfl (by kernel_rfl) Try.func6 (by kernel_rfl)
    (of_decide_eq_true (by kernel_rfl)) (by unfold Func.isWrapper; first | (rw [if_pos (by decide +kernel)]; kernel_rfl) | (rw [if_neg (by decide +kernel)]; exact ⟨rfl, rfl⟩))
    (fun os started H enc _ => lifted os started H enc)
/-- THE STATEMENT -/
theorem proved : Rows.TraceItemsSaid :=
  over
end Go.Proofs.Ytkpnakomlfjndaa.traceItems
