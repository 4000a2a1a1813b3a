/- Layer 3: the channels that an operation locks, by the document. -/
import Derived.Test.YtkciejealeinoaaL3Locks
namespace Go.Proofs.Ytkciejealeinoaa
open Go.ChangeShapes Go.WideShapes Go.ChangeAt Go.RowKit
set_option maxRecDepth 100000

theorem rexists_any (v : Value) (c : ConfM) (x : Int) (w : World) (h : ConfV w v c) :
    Calls Try.prog 22 #[v, .int .i64 x] w fun e w' => e = .returned (.bool (exB c.caps.length x)) ∧ Below w.heap.size w w' := by
  obtain ⟨vc, vs, rfl, h1, h2⟩ := h
  have hl := h1.1
  obtain ⟨a, cap, rfl, -⟩ := h1.len
  obtain ⟨a2, cap2, rfl, -⟩ := h2.len
  clear h1 h2
  by_cases h : 0 ≤ x
  · go_enter Try.func22, Try.ntmps22
    go_wp2
    go_ret
    exact ⟨ret_bool (by simp [exB, h]), below_new (Below.refl _ _) _⟩
  · go_enter Try.func22, Try.ntmps22
    go_wp2
    go_ret
    exact ⟨ret_bool (by simp [exB]; omega), below_new (Below.refl _ _) _⟩
theorem lockL_zero (l : List Int) : lockL 0 l = [] := rfl
theorem lockL_in (k : Nat) (l : List Int) (h : decide ((k : Int) ∈ l) = true) : lockL (k + 1) l = lockL k l ++ [(k : Int)] := by
  simp only [decide_eq_true_eq] at h
  unfold lockL; rw [List.range_succ, List.filter_append, List.map_append]; simp [h]
theorem lockL_out (k : Nat) (l : List Int) (h : decide ((k : Int) ∈ l) = false) : lockL (k + 1) l = lockL k l := by
  simp only [decide_eq_false_iff_not] at h
  unfold lockL; rw [List.range_succ, List.filter_append, List.map_append]; simp [h]
theorem inCases_step (l : List CaseM) (k : Nat) (hk : k < l.length) (x : Int) (c : CaseM) (hc : l.getD k noCase = c) (q b : Bool) (h : q = (b || decide (x ∈ (l.drop k).map (·.chan)))) :
    q = ((b || (c.chan == x)) || decide (x ∈ (l.drop (k + 1)).map (·.chan))) := by
  have e : l.drop k = c :: l.drop (k + 1) := by
    rw [List.drop_eq_getElem_cons hk]; congr 1
    simpa [List.getD_eq_getElem?_getD, hk] using hc
  rw [h, e, List.map_cons]
  by_cases hx : c.chan = x
  · simp [hx]
  · have hx2 : ¬ x = c.chan := fun e => hx e.symm
    have hx3 : (c.chan == x) = false := by simpa using hx
    simp only [hx3, Bool.or_false, List.mem_cons, hx2, false_or]
theorem inCases_end (l : List CaseM) (x : Int) (q b : Bool) (h : q = (b || decide (x ∈ (l.drop l.length).map (·.chan)))) : q = b := by
  rw [h, List.drop_length]; simp
set_option maxRecDepth 100000 in
set_option maxHeartbeats 2000000 in
theorem rlocks_any (v u : Value) (c : ConfM) (op : OpM) (w : World) (hv : ConfV w v c) (h : OpV w u op) (hn : c.caps.length ≤ 1000000) :
    Calls Try.prog 19 #[v, u] w fun e w' => ∃ r, e = .returned r ∧ SlI w' .i64 r (lockL c.caps.length (concL op)) ∧ Below w.heap.size w w' := by
  have HLM : Hid (∀ k, k ≤ c.caps.length → (lockL k (concL op)).length ≤ k ∧ ∀ x ∈ lockL k (concL op), 0 ≤ x ∧ x < 1000000) := fun k hk => ⟨lockL_length _ _, fun x hx => by
    have := (lockL_mem _ _ x).1 hx; omega⟩
  have LI := Lib.hid fun k => lockL_in k (concL op)
  have LO := Lib.hid fun k => lockL_out k (concL op)
  have LZ := Lib.hid (lockL_zero (concL op))
  have HCL : Hid (concL op = if op.kind = 4 then op.cases.map (·.chan) else [op.chan]) := rfl
  obtain ⟨cp, st, th⟩ := c
  dsimp only at *
  generalize concL op = cl at *
  obtain ⟨kd, md, ch, vl, dl, cs, ds⟩ := op
  obtain ⟨vc, vd, rfl, hc, hd⟩ := h
  obtain ⟨vp, vs, rfl, hp, hst⟩ := hv
  dsimp only at *
  have hl := hc.1
  have hpl := hp.1
  obtain ⟨a, cap, rfl, -⟩ := hp.len
  obtain ⟨a2, cap2, rfl, -⟩ := hst.len
  have HC := Lib.hid hc
  obtain ⟨a3, cap3, rfl⟩ := hc.len
  obtain ⟨a4, cap4, rfl, -⟩ := hd.len
  clear hp hst hc hd
  obtain ⟨W, hW⟩ : ∃ W, (w.alloc (.cells #[.slice a cp.length cap, .slice a2 st.length cap2, .int .i64 th] 34)).alloc (.cells #[.int .i64 kd, .int .i64 md, .int .i64 ch, .int .u64 vl, .int .i64 dl, .slice a3 cs.length cap3, .slice a4 ds.length cap4] 26) = W := ⟨_, rfl⟩
  have HB : Hid (Below w.heap.size w W) := hW ▸ below_new (below_new (Below.refl w.heap.size w) _) _
  have hz : w.heap.size + 2 ≤ W.heap.size := by rw [← hW]; simp
  have R0 : Hid (W.heap[w.heap.size]? = some (.cells #[.slice a cp.length cap, .slice a2 st.length cap2, .int .i64 th] 34 (0, 0))) := by
    show _ = _
    rw [← hW, Below.heap_alloc _ _ _ (by simp)]
    exact heap_alloc_new _ _
  have R1 : Hid (W.heap[w.heap.size + 1]? = some (.cells #[.int .i64 kd, .int .i64 md, .int .i64 ch, .int .u64 vl, .int .i64 dl, .slice a3 cs.length cap3, .slice a4 ds.length cap4] 26 (0, 0))) := by
    show _ = _
    rw [← hW]
    exact alloc2_new _ _ _
  have HCW := Lib.hid (HC.out.below HB.out)
  have HW := Lib.hid hW
  clear hW
  go_enter Try.func19, Try.ntmps19
  go_wp2
  rw [HW.out]
  clear HW
  go_loopw [5, 6, 7, 8] (fun s5 s6 _ _ wr => ∃ k : Nat, ∃ r : Value, r = s5 ∧ k ≤ cp.length ∧ s6 = .int .i64 k ∧ Hid (OwnI wr (w.heap.size + 2) 3 .i64 r (lockL k cl)) ∧ Hid (Below (w.heap.size + 2) W wr) ∧ w.heap.size + 2 ≤ wr.heap.size) (fun _ s6 _ _ _ => cp.length - (intOf s6).toNat)
  case atStart => exact ⟨0, _, rfl, by omega, rfl, by rw [LZ.out]; exact OwnI.nil _ _ _ _, Below.refl _ _, hz⟩
  case round =>
    obtain ⟨k, r, rfl, hk, rfl, ho, hb, hzr⟩ := hrel
    obtain ⟨wo, rfl⟩ : ∃ wo : World, wo = wr := ⟨_, rfl⟩
    have bx := (hb.out.block w.heap.size (by omega)).trans R0.out
    have c0 := cell_of_row _ _ 0 _ _ _ bx
    have ox := (hb.out.block (w.heap.size + 1) (by omega)).trans R1.out
    have o0 := cell_of_row _ _ 0 _ _ _ ox
    have o2 := cell_of_row _ _ 2 _ _ _ ox
    have o5 := cell_of_row _ _ 5 _ _ _ ox
    simp at c0 o0 o2 o5
    clear bx ox
    by_cases hlt : k < cp.length
    · by_cases h4 : kd = 4
      · subst h4
        have HCL2 : Hid (cl = cs.map (·.chan)) := by have := HCL.out; rwa [if_pos rfl] at this
        obtain ⟨q, hq⟩ : ∃ q, decide ((k : Int) ∈ cl) = q := ⟨_, rfl⟩
        have HQ := Lib.hid hq
        have HQ0 : Hid (q = (false || decide ((k : Int) ∈ (cs.drop 0).map (·.chan)))) := by
          show _ = _
          rw [List.drop_zero, ← HCL2.out, hq]; rfl
        have HBo := Lib.hid (HB.out.trans (hb.out.mono (Nat.le_add_right w.heap.size 2)))
        have HCo := Lib.hid (HC.out.below HBo.out)
        clear hq
        obtain ⟨-, -, _, _, e, -, h5⟩ := HCo.out
        simp only [Value.slice.injEq, true_and] at e
        obtain ⟨rfl, rfl⟩ := e
        have H5 := Lib.hid h5
        clear h5
        go_wp2
        go_loopw [7, 8] (fun s7 s8 wx => ∃ b : Bool, ∃ i : Nat, i ≤ cs.length ∧ s7 = .bool b ∧ s8 = .int .i64 i ∧ Hid (q = (b || decide ((k : Int) ∈ (cs.drop i).map (·.chan)))) ∧ wo = wx) (fun _ s8 _ => cs.length - (intOf s8).toNat)
        case atStart => exact ⟨false, 0, by omega, rfl, rfl, HQ0, rfl⟩
        case round =>
          obtain ⟨b, i, hi, rfl, rfl, hqq, rfl⟩ := hrel
          by_cases hil : i < cs.length
          · obtain ⟨bb, off, rfl, -, hca⟩ := H5.out i hil
            obtain ⟨e0, e1, e2⟩ := hca
            obtain ⟨x, hx⟩ : ∃ x, cs.getD i noCase = x := ⟨_, rfl⟩
            rw [hx] at e1
            have ST := Lib.hid (inCases_step cs i hil k x hx q b hqq.out)
            clear e0 e2 hx
            obtain ⟨xc, hxc⟩ : ∃ xc, x.chan = xc := ⟨_, rfl⟩
            rw [hxc] at e1 ST
            clear hxc
            cases b
            all_goals
              go_wp2
              go_roundw
              case rel => exact ⟨_, i + 1, by omega, rfl, by go_num, by first | exact ST.out | (rw [ST.out]; rfl), trivial⟩
              case measure => simp [intOf]; omega
          · obtain rfl : i = cs.length := by omega
            have HE := Lib.hid (inCases_end cs k q b hqq.out)
            cases b with
            | true =>
              go_wp2_with (at_builtin; refine wp_append_i64 _ rfl _ _ rfl (w.heap.size + 2) r (lockL k cl) rfl (ho.out.alloc _) k _ rfl ?_ ?_ ?_ ?_; exact World.cell?_alloc_at _ _ _ _ rfl; exact Nat.le_trans (HLM.out k hk).1 (by omega); (simp; omega); intro r2 w4 ho4 hg4)
              have SS := Lib.hid (And.intro ho4 (And.intro ((hb.out.alloc hzr _).grown hg4 (by simp; omega) ho.out.own_ge) (show w.heap.size + 2 ≤ w4.heap.size from Nat.le_trans hzr (Nat.le_trans (by simp) hg4.size))))
              clear ho4 hg4
              go_wp2
              go_roundw
              case rel => exact ⟨k + 1, r2, rfl, by omega, by go_num, by rw [LI.out k (HQ.out.trans HE.out)]; exact SS.out.1, SS.out.2.1, SS.out.2.2⟩
              case measure => simp [intOf]; omega
            | false =>
              go_wp2
              go_roundw
              case rel => exact ⟨k + 1, r, rfl, by omega, by go_num, by rw [LO.out k (HQ.out.trans HE.out)]; exact ho.out, hb, hzr⟩
              case measure => simp [intOf]; omega
      · have HCL2 : Hid (cl = [ch]) := by have := HCL.out; rwa [if_neg h4] at this
        have h4a : (kd == 4) = false := by simpa using h4
        have h4b : (kd != 4) = true := by simpa using h4
        obtain ⟨b, hbq⟩ : ∃ b, (ch == (k : Int)) = b := ⟨_, rfl⟩
        have HQ : Hid (decide ((k : Int) ∈ cl) = b) := by
          show _ = _
          rw [HCL2.out, ← hbq]
          by_cases e : ch = k
          · simp [e]
          · have e2 : ¬ (k : Int) = ch := fun h => e h.symm
            simp [e, e2]
        clear h4
        go_wp2
        clear hbq
        go_loopw [7, 8] (fun s7 s8 wx => s7 = .bool b ∧ s8 = .int .i64 0 ∧ wo = wx) (fun _ _ _ => 0)
        case atStart => exact ⟨rfl, rfl, rfl⟩
        case round =>
          obtain ⟨rfl, rfl, rfl⟩ := hrel
          rcases (show ((0 : Int) < cs.length) ∨ ¬ ((0 : Int) < cs.length) by omega) with h0 | h0
          all_goals
            cases b with
            | true =>
              go_wp2_with (at_builtin; refine wp_append_i64 _ rfl _ _ rfl (w.heap.size + 2) r (lockL k cl) rfl (ho.out.alloc _) k _ rfl ?_ ?_ ?_ ?_; exact World.cell?_alloc_at _ _ _ _ rfl; exact Nat.le_trans (HLM.out k hk).1 (by omega); (simp; omega); intro r2 w4 ho4 hg4)
              have SS := Lib.hid (And.intro ho4 (And.intro ((hb.out.alloc hzr _).grown hg4 (by simp; omega) ho.out.own_ge) (show w.heap.size + 2 ≤ w4.heap.size from Nat.le_trans hzr (Nat.le_trans (by simp) hg4.size))))
              clear ho4 hg4
              go_wp2
              go_roundw
              case rel => exact ⟨k + 1, r2, rfl, by omega, by go_num, by rw [LI.out k HQ.out]; exact SS.out.1, SS.out.2.1, SS.out.2.2⟩
              case measure => simp [intOf]; omega
            | false =>
              go_wp2
              go_roundw
              case rel => exact ⟨k + 1, r, rfl, by omega, by go_num, by rw [LO.out k HQ.out]; exact ho.out, hb, hzr⟩
              case measure => simp [intOf]; omega
    · obtain rfl : k = cp.length := by omega
      go_wp2
      go_ret
      exact ⟨_, rfl, ho.out.read (Nat.le_trans (HLM.out _ hk).1 hpl) (fun y hy => i64_ok y (by have := (HLM.out _ hk).2 y hy; omega) (by have := (HLM.out _ hk).2 y hy; omega)), HB.out.trans (hb.out.mono (Nat.le_add_right _ 2))⟩
end Go.Proofs.Ytkciejealeinoaa
