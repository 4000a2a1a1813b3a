/- What the program makes of a memory by an access to a word or to a list. -/
import Derived.Test.YtipjfcjdefdoeaaMmW
import Derived.Test.YtipjfcjdefdoeaaStill
import Derived.RegionTactic
import Derived.BigRegion
namespace Go.Proofs.Ytipjfcjdefdoeaa
open Go.ChangeShapes Go.WideShapes Go.ChangeAt Go.RowKit
set_option maxRecDepth 100000

theorem ne_beq {x c : Int} (h : x ≠ c) : (x == c) = false := by simpa using h
theorem hasB_true {n : Nat} {x : Int} (h : hasB n x = true) : ∃ i : Nat, x = i ∧ i < n := by
  simp only [hasB, Bool.and_eq_true, decide_eq_true_eq] at h
  exact ⟨x.toNat, by omega, by omega⟩
theorem results_cells2 {fn : Func} {P : Program} {p q : Tmp} {t1 t2 : TypeId} (h : fn.results = #[.cell p t1, .cell q t2]) (tmps : Array Value) (w : World) (g1 g2 : Nat) (u1 u2 : TypeId) (c1 c2 : Array Value) (f1 f2 : Nat × Nat) (d1 d2 : TypeDesc)
    (hp : tmps.getD p undef = .pointer (some ⟨g1, 0, none⟩)) (hq : tmps.getD q undef = .pointer (some ⟨g2, 0, none⟩)) (hg1 : w.heap[g1]? = some (.cells c1 u1 f1)) (hg2 : w.heap[g2]? = some (.cells c2 u2 f2))
    (hu1 : P.underlying t1 = some d1) (hd1 : (match d1 with | .struct _ | .array _ _ => true | _ => false) = true) (hi1 : (P.info? t1).map (·.size) = some c1.size)
    (hu2 : P.underlying t2 = some d2) (hd2 : (match d2 with | .struct _ | .array _ _ => true | _ => false) = true) (hi2 : (P.info? t2).map (·.size) = some c2.size) :
    (results fn tmps).run P w = .ok (.tuple #[.agg c1, .agg c2]) w := by
  have hp' : tmps[p]?.getD undef = .pointer (some ⟨g1, 0, none⟩) := by simpa using hp
  have hq' : tmps[q]?.getD undef = .pointer (some ⟨g2, 0, none⟩) := by simpa using hq
  simp [results, h, hp', hq', asAddr, run_loadVar_row w g1 u1 t1 c1 f1 d1 hg1 hu1 hd1 hi1, run_loadVar_row w g2 u2 t2 c2 f2 d2 hg2 hu2 hd2 hi2]
theorem results_cells3 {fn : Func} {P : Program} {p q u : Tmp} {t1 t2 : TypeId} (h : fn.results = #[.cell p t1, .cell q t2, .tmp u]) (tmps : Array Value) (w : World) (g1 g2 : Nat) (u1 u2 : TypeId) (c1 c2 : Array Value) (f1 f2 : Nat × Nat) (d1 d2 : TypeDesc)
    (hp : tmps.getD p undef = .pointer (some ⟨g1, 0, none⟩)) (hq : tmps.getD q undef = .pointer (some ⟨g2, 0, none⟩)) (hg1 : w.heap[g1]? = some (.cells c1 u1 f1)) (hg2 : w.heap[g2]? = some (.cells c2 u2 f2))
    (hu1 : P.underlying t1 = some d1) (hd1 : (match d1 with | .struct _ | .array _ _ => true | _ => false) = true) (hi1 : (P.info? t1).map (·.size) = some c1.size)
    (hu2 : P.underlying t2 = some d2) (hd2 : (match d2 with | .struct _ | .array _ _ => true | _ => false) = true) (hi2 : (P.info? t2).map (·.size) = some c2.size) (x : Value) (hx : tmps.getD u undef = x) :
    (results fn tmps).run P w = .ok (.tuple #[.agg c1, .agg c2, x]) w := by
  have hp' : tmps[p]?.getD undef = .pointer (some ⟨g1, 0, none⟩) := by simpa using hp
  have hq' : tmps[q]?.getD undef = .pointer (some ⟨g2, 0, none⟩) := by simpa using hq
  have hx' : tmps[u]?.getD undef = x := by simpa using hx
  simp [results, h, hp', hq', hx', asAddr, run_loadVar_row w g1 u1 t1 c1 f1 d1 hg1 hu1 hd1 hi1, run_loadVar_row w g2 u2 t2 c2 f2 d2 hg2 hu2 hd2 hi2]
theorem heap_alloc4 (w : World) (A B C D : Obj) : let W := (((w.alloc A).alloc B).alloc C).alloc D
    W.heap[w.heap.size]? = some A ∧ W.heap[w.heap.size + 1]? = some B ∧ W.heap[w.heap.size + 2]? = some C ∧ W.heap[w.heap.size + 3]? = some D ∧ W.heap.size = w.heap.size + 4 ∧ Below w.heap.size w W := by
  intro W
  have hs : ((w.alloc A).alloc B).heap.size = w.heap.size + 2 := by simp
  have hb := below_new (below_new (Below.refl ((w.alloc A).alloc B).heap.size ((w.alloc A).alloc B)) C) D
  have e2 := heap_alloc2_old ((w.alloc A).alloc B) C D
  have e3 := heap_alloc2_new ((w.alloc A).alloc B) C D
  rw [hs] at e2 e3 hb
  exact ⟨(hb.block _ (by omega)).trans (heap_alloc2_old w A B), (hb.block _ (by omega)).trans (heap_alloc2_new w A B), e2, e3, by simp [W], below_new (below_new (below_new (below_new (Below.refl _ _) _) _) _) _⟩
theorem store3 {w : World} {g : Nat} {T : TypeId} {v0 v1 v2 : Value} (h : w.heap[g]? = some (.cells #[v0, v1, v2] T (0, 0))) (u0 u1 u2 : Value) :
    (((w.setCell ⟨g, 0, none⟩ u0).setCell ⟨g, 1, none⟩ u1).setCell ⟨g, 2, none⟩ u2).heap[g]? = some (.cells #[u0, u1, u2] T (0, 0)) := by
  have h1 := heap_setCell_same w g 0 _ _ u0 h
  have h2 := heap_setCell_same _ g 1 _ _ u1 h1
  have h3 := heap_setCell_same _ g 2 _ _ u2 h2
  simpa using h3
theorem store4 {w : World} {g : Nat} {T : TypeId} {v0 v1 v2 v3 : Value} (h : w.heap[g]? = some (.cells #[v0, v1, v2, v3] T (0, 0))) (u0 u1 u2 u3 : Value) :
    ((((w.setCell ⟨g, 0, none⟩ u0).setCell ⟨g, 1, none⟩ u1).setCell ⟨g, 2, none⟩ u2).setCell ⟨g, 3, none⟩ u3).heap[g]? = some (.cells #[u0, u1, u2, u3] T (0, 0)) := by
  have h1 := heap_setCell_same w g 0 _ _ u0 h
  have h2 := heap_setCell_same _ g 1 _ _ u1 h1
  have h3 := heap_setCell_same _ g 2 _ _ u2 h2
  have h4 := heap_setCell_same _ g 3 _ _ u3 h3
  simpa using h4
/-- seven stores into two rows -/
def put34 (w : World) (g : Nat) (u0 u1 u2 r0 r1 r2 r3 : Value) : World :=
  (((((((w.setCell ⟨g, 0, none⟩ u0).setCell ⟨g, 1, none⟩ u1).setCell ⟨g, 2, none⟩ u2).setCell ⟨g + 1, 0, none⟩ r0).setCell ⟨g + 1, 1, none⟩ r1).setCell ⟨g + 1, 2, none⟩ r2).setCell ⟨g + 1, 3, none⟩ r3).drew
theorem put34_rows {w : World} {g : Nat} {T T' : TypeId} {v0 v1 v2 q0 q1 q2 q3 : Value} (h : w.heap[g]? = some (.cells #[v0, v1, v2] T (0, 0))) (h' : w.heap[g + 1]? = some (.cells #[q0, q1, q2, q3] T' (0, 0))) (u0 u1 u2 r0 r1 r2 r3 : Value) :
    (put34 w g u0 u1 u2 r0 r1 r2 r3).heap[g]? = some (.cells #[u0, u1, u2] T (0, 0)) ∧ (put34 w g u0 u1 u2 r0 r1 r2 r3).heap[g + 1]? = some (.cells #[r0, r1, r2, r3] T' (0, 0)) := by
  have o : ∀ (x : World) (j : Nat) (u : Value), (x.setCell ⟨g, j, none⟩ u).heap[g + 1]? = x.heap[g + 1]? := fun x j u => heap_setCell_other x ⟨g, j, none⟩ (g + 1) u (by simp)
  have o' : ∀ (x : World) (j : Nat) (u : Value), (x.setCell ⟨g + 1, j, none⟩ u).heap[g]? = x.heap[g]? := fun x j u => heap_setCell_other x ⟨g + 1, j, none⟩ g u (by simp)
  unfold put34
  rw [heap_drew]
  refine ⟨?_, store4 (v0 := q0) (v1 := q1) (v2 := q2) (v3 := q3) ?_ r0 r1 r2 r3⟩
  · rw [o', o', o', o']; exact store3 h u0 u1 u2
  · rw [o, o, o]; exact h'
theorem put34_below {B : Nat} {a w : World} {g : Nat} (h : Below B a w) (hg : B ≤ g) (u0 u1 u2 r0 r1 r2 r3 : Value) : Below B a (put34 w g u0 u1 u2 r0 r1 r2 r3) := by
  unfold put34
  exact below_drewN ((((((((h.setCell (p := ⟨g, 0, none⟩) hg u0).setCell (p := ⟨g, 1, none⟩) hg u1).setCell (p := ⟨g, 2, none⟩) hg u2).setCell (p := ⟨g + 1, 0, none⟩) (Nat.le_succ_of_le hg) r0).setCell (p := ⟨g + 1, 1, none⟩) (Nat.le_succ_of_le hg) r1).setCell (p := ⟨g + 1, 2, none⟩) (Nat.le_succ_of_le hg) r2).setCell (p := ⟨g + 1, 3, none⟩) (Nat.le_succ_of_le hg) r3)) 1
def zeroAns : Array Value := #[.int .u64 0, .bool false, .bool false, .slice none 0 0]
/-- a memory and an answer are handed back -/
def PairR (G : World → Prop) (w : World) (r : MemM × AnsM) (e : Ending) (w' : World) : Prop :=
  ∃ v' b', e = .returned (.tuple #[v', b']) ∧ StM (Nx G w w') v' r.1 ∧ StA (Nx G w w') b' r.2 ∧ Below w.heap.size w w'
theorem word_none {m : MemM} {a : AccM} (h : hasB m.words.length a.addr = false) : wordE m a = (m, ansZ) := by simp [wordE, h]
theorem word_put {m : MemM} {k ad old nw til : Int} (h : hasB m.words.length ad = true) (hk : k = 2 ∨ k = 6) : wordE m ⟨k, ad, old, nw, til⟩ = (⟨m.words.set ad.toNat nw, m.lists, m.tick⟩, ansZ) := by simp [wordE, h, hk]
theorem word_cas {m : MemM} {ad old nw til : Int} (h : hasB m.words.length ad = true) (hk : m.words.getD ad.toNat 0 = old) : wordE m ⟨3, ad, old, nw, til⟩ = (⟨m.words.set ad.toNat nw, m.lists, m.tick⟩, ⟨m.words.getD ad.toNat 0, true, false, []⟩) := by unfold wordE; simp only [h]; simp only [List.getD_eq_getElem?_getD] at *; simp [hk]
theorem word_miss {m : MemM} {ad old nw til : Int} (h : hasB m.words.length ad = true) (hk : m.words.getD ad.toNat 0 ≠ old) : wordE m ⟨3, ad, old, nw, til⟩ = (m, ⟨m.words.getD ad.toNat 0, false, false, []⟩) := by unfold wordE; simp only [h]; simp only [List.getD_eq_getElem?_getD] at *; simp [hk]
theorem word_wait {m : MemM} {ad old nw til : Int} (h : hasB m.words.length ad = true) : wordE m ⟨4, ad, old, nw, til⟩ = (m, ⟨m.words.getD ad.toNat 0, false, m.words.getD ad.toNat 0 == old, []⟩) := by unfold wordE; simp [h]
theorem word_load {m : MemM} {k ad old nw til : Int} (h : hasB m.words.length ad = true) (h2 : k ≠ 2) (h3 : k ≠ 3) (h4 : k ≠ 4) (h6 : k ≠ 6) : wordE m ⟨k, ad, old, nw, til⟩ = (m, ⟨m.words.getD ad.toNat 0, false, false, []⟩) := by unfold wordE; simp [h, h2, h3, h4, h6]
/-- the memory's parts in a world -/
theorem StM.open {G : World → Prop} {v : Value} {m : MemM} (h : StM G v m) (w : World) (hG : G w) : ∃ a cap a2 cap2, v = .agg #[.slice a m.words.length cap, .slice a2 m.lists.length cap2, .int .i64 m.tick] := by
  obtain ⟨vw, vl, us, rfl, hall⟩ := h
  obtain ⟨h1, h2⟩ := hall w hG
  obtain ⟨a, cap, rfl, -⟩ := h1.len
  obtain ⟨a2, cap2, rfl, -⟩ := h2.len
  exact ⟨_, _, _, _, rfl⟩
theorem StM.words {G : World → Prop} {a a2 : Option Addr} {n cap n2 cap2 : Nat} {t : Int} {m : MemM} (h : StM G (.agg #[.slice a n cap, .slice a2 n2 cap2, .int .i64 t]) m) (w : World) (hG : G w) : SlI w .u64 (.slice a n cap) m.words := by
  obtain ⟨vw, vl, us, e, hall⟩ := h
  obtain ⟨h1, h2⟩ := hall w hG
  simp only [Value.agg.injEq, Array.mk.injEq, List.cons.injEq, and_true] at e
  rw [e.1]; exact h1
theorem StM.listsOf {G : World → Prop} {a a2 : Option Addr} {n cap n2 cap2 : Nat} {t : Int} {m : MemM} (h : StM G (.agg #[.slice a n cap, .slice a2 n2 cap2, .int .i64 t]) m) : ∃ us, ∀ w, G w → SlL w (.slice a2 n2 cap2) us m.lists := by
  obtain ⟨vw, vl, us, e, hall⟩ := h
  simp only [Value.agg.injEq, Array.mk.injEq, List.cons.injEq, and_true] at e
  exact ⟨us, fun w hG => by rw [e.2.1]; exact (hall w hG).2⟩
set_option maxHeartbeats 4000000 in
theorem applyWord_any (G : World → Prop) (v : Value) (m : MemM) (a : AccM) (w : World) (hG : G w) (hcl : Wide G) (h : StM G v m) (hm : m.fits) (ha : a.ok) :
    Calls Try.prog 53 #[v, accV a] w (PairR G w (wordE m a)) := by
  obtain ⟨a1, cap, a2, cap2, rfl⟩ := h.open w hG
  have HM := Lib.hid hm
  have HSM := Lib.hid h
  have HG := Lib.hid hG
  have HCL := Lib.hid hcl
  obtain ⟨k, ad, old, nw, til⟩ := a
  have HA := Lib.hid ha
  obtain ⟨hr0, hr1, hr2, hr3, hrs, hrb⟩ := heap_alloc4 w (.cells #[.slice a1 m.words.length cap, .slice a2 m.lists.length cap2, .int .i64 m.tick] 29) (.cells #[.int .i64 k, .int .i64 ad, .int .u64 old, .int .u64 nw, .int .i64 til] 34) (.cells zeroMem 29) (.cells zeroAns 38)
  obtain ⟨W, hW⟩ : ∃ W, (((w.alloc (.cells #[.slice a1 m.words.length cap, .slice a2 m.lists.length cap2, .int .i64 m.tick] 29)).alloc (.cells #[.int .i64 k, .int .i64 ad, .int .u64 old, .int .u64 nw, .int .i64 til] 34)).alloc (.cells zeroMem 29)).alloc (.cells zeroAns 38) = W := ⟨_, rfl⟩
  rw [hW] at hr0 hr1 hr2 hr3 hrs hrb
  have R0 := Lib.hid hr0
  have R1 := Lib.hid hr1
  have R2 := Lib.hid hr2
  have R3 := Lib.hid hr3
  have HB := Lib.hid hrb
  have HGW : Hid (G W) := hcl _ _ hG hrb
  have HW := Lib.hid hW
  have hsz : w.heap.size + 4 ≤ W.heap.size := by omega
  clear hr0 hr1 hr2 hr3 hrs hrb hW h hG hcl hm ha
  obtain ⟨x0, x1, x2⟩ := rowc3 R0.out
  obtain ⟨y0, y1, y2, y3, y4⟩ := rowc5 R1.out
  have HHW := Lib.hid fun v w' h => hasWord_any v m ad w' h
  unfold accV
  dsimp only
  go_enter Try.func53, Try.ntmps53
  go_upto_region 1 with fail
  rw [show (#[.slice none 0 0, .slice none 0 0, .int .i64 0] : Array Value) = zeroMem from rfl, show (#[.int .u64 0, .bool false, .bool false, .slice none 0 0] : Array Value) = zeroAns from rfl, HW.out]
  clear HW
  go_wp2_with fail
  refine (HHW.out _ _ (HSM.out.at HGW.out)).mono ?_; rintro e w1 ⟨rfl, hb1⟩
  have HB1 := Lib.hid (HB.out.trans (hb1.mono (by omega)))
  have Q0 := Lib.hid ((hb1.block w.heap.size (by omega)).trans R0.out)
  have Q1 := Lib.hid ((hb1.block (w.heap.size + 1) (by omega)).trans R1.out)
  have Q2 := Lib.hid ((hb1.block (w.heap.size + 2) (by omega)).trans R2.out)
  have Q3 := Lib.hid ((hb1.block (w.heap.size + 3) (by omega)).trans R3.out)
  have HG1 : Hid (G w1) := HCL.out _ _ HGW.out hb1
  have hs1 := hb1.size
  clear hb1 R0 R1 R2 R3 HB HGW x0 x1 x2 y0 y1 y2 y3 y4
  generalize hWW : W.heap.size = WS at *
  clear hWW HHW
  obtain ⟨W, rfl⟩ : ∃ W : World, W = w1 := ⟨_, rfl⟩
  have R2 := Q2
  have R3 := Q3
  obtain ⟨x0, x1, x2⟩ := rowc3 Q0.out
  obtain ⟨y0, y1, y2, y3, y4⟩ := rowc5 Q1.out
  cases hb : hasB m.words.length ad with
  | false =>
    have HE := Lib.hid (word_none (m := m) (a := ⟨k, ad, old, nw, til⟩) hb)
    clear hb
    have T2 := R2
    have T3 : Hid (∀ cs, ((W).setRow (w.heap.size + 2) cs).heap[w.heap.size + 3]? = some (.cells zeroAns 38 (0, 0))) := fun cs => (setRow_other _ _ _ _ (by omega)).trans R3.out
    go_wp2_with (first
            | (refine wpList_store_row rfl 29 _ _ rfl (w.heap.size + 2) _ rfl rfl 29 zeroMem T2.out (by kernel_rfl) rfl (by simp [Value.oneCell']) ?_)
            | (refine wpList_store_row rfl 38 _ _ rfl (w.heap.size + 3) _ rfl rfl 38 zeroAns (T3.out _) (by kernel_rfl) rfl (by simp [Value.oneCell']) ?_))
    refine bodyPost_ret (v := .tuple #[.agg #[.slice a1 m.words.length cap, .slice a2 m.lists.length cap2, .int .i64 m.tick], .agg zeroAns]) (results_cells2 Try.results53 _ _ (w.heap.size + 2) (w.heap.size + 3) 29 38 _ _ (0, 0) (0, 0) _ _ rfl rfl ((setRow_other _ _ _ _ (by omega)).trans (setRow_heap _ _ _ _ 29 (0, 0) T2.out)) (setRow_heap _ _ _ _ 38 (0, 0) (T3.out _)) Try.underlying29 rfl (by kernel_rfl) Try.underlying38 rfl (by kernel_rfl)) rfl ?_
    have hbe := row_below (row_below HB1.out (show w.heap.size ≤ w.heap.size + 2 by omega) #[.slice a1 m.words.length cap, .slice a2 m.lists.length cap2, .int .i64 m.tick]) (show w.heap.size ≤ w.heap.size + 3 by omega) zeroAns
    unfold PairR
    rw [HE.out]
    exact ⟨_, _, rfl, HSM.out.sub fun _ (h : Nx G w _ _) => h.1, StA.bare _ _ _ _, hbe⟩

  | true =>
    obtain ⟨i, rfl, hi⟩ := hasB_true hb
    obtain ⟨b, off, cap', e, hcap, hblt, hcells⟩ := (HSM.out.words W HG1.out).open (by rintro h0; rw [h0] at hi; simp at hi)
    have hck := hcells i hi
    simp only [Value.slice.injEq] at e
    obtain ⟨rfl, -, rfl⟩ := e
    have hiI : (i : Int) < m.words.length := by omega
    have hi0 : (0 : Int) ≤ i := by omega
    obtain ⟨y, hy⟩ : ∃ y, m.words.getD i 0 = y := ⟨_, rfl⟩
    rw [hy] at hck
    have HY := Lib.hid hy
    clear hcells hy
    by_cases hk : k = 2 ∨ k = 6 ∨ (k = 3 ∧ y = old)
    · have ANS : ∃ b' ok, Hid (wordE m ⟨k, i, old, nw, til⟩ = (⟨m.words.set i nw, m.lists, m.tick⟩, ⟨b', ok, false, []⟩)) ∧ ((k = 3 ∧ y = b' ∧ ok = true ∧ y = old) ∨ ((k = 2 ∨ k = 6) ∧ b' = 0 ∧ ok = false)) := by
        rcases hk with h | h | ⟨h, h2⟩
        · exact ⟨0, false, (word_put hb (.inl h)).trans (by simp [ansZ]), .inr ⟨.inl h, rfl, rfl⟩⟩
        · exact ⟨0, false, (word_put hb (.inr h)).trans (by simp [ansZ]), .inr ⟨.inr h, rfl, rfl⟩⟩
        · refine ⟨y, true, ?_, .inl ⟨h, rfl, rfl, h2⟩⟩
          subst h
          have := word_cas (m := m) (old := old) (nw := nw) (til := til) hb (by rw [Int.toNat_natCast, HY.out]; exact h2)
          rw [Int.toNat_natCast, HY.out] at this
          exact this
      obtain ⟨b', ok, HE, hcase⟩ := ANS
      have WW := Lib.hid (withWord_any G _ m i nw W HG1.out HCL.out HSM.out hi HM.out HA.out.new)
      rcases hcase with ⟨rfl, rfl, rfl, rfl⟩ | ⟨hk, rfl, rfl⟩
      · have hyy : (y != y) = false := by simp
        clear hb hk
        go_wp2_with fail
        refine WW.out.mono ?_; rintro e w2 ⟨v2, rfl, hs2, hb2⟩
        obtain ⟨a5, cap5, a6, cap6, rfl⟩ := hs2.open w2 (Nx.at HG1.out HCL.out hb2)
        rw [List.length_set] at hs2
        have HS2 := Lib.hid hs2
        have HB2 := Lib.hid (HB1.out.trans (hb2.mono (by omega)))
        have S0 := Lib.hid ((hb2.block w.heap.size (by omega)).trans Q0.out)
        have S1 := Lib.hid ((hb2.block (w.heap.size + 1) (by omega)).trans Q1.out)
        have S2 := Lib.hid ((hb2.block (w.heap.size + 2) (by omega)).trans R2.out)
        have S3 := Lib.hid ((hb2.block (w.heap.size + 3) (by omega)).trans R3.out)
        have hs2z := hb2.size
        clear hs2 hb2 x0 x1 x2 y0 y1 y2 y3 y4 WW R2 R3
        have R2 := S2
        have R3 := S3
        obtain ⟨x0, x1, x2⟩ := rowc3 S0.out
        obtain ⟨y0, y1, y2, y3, y4⟩ := rowc5 S1.out
        have T2 := R2
        have T3 : Hid (∀ cs, ((w2).setRow (w.heap.size + 2) cs).heap[w.heap.size + 3]? = some (.cells zeroAns 38 (0, 0))) := fun cs => (setRow_other _ _ _ _ (by omega)).trans R3.out
        go_wp2_with (first
                | (refine wpList_store_row rfl 29 _ _ rfl (w.heap.size + 2) _ rfl rfl 29 zeroMem T2.out (by kernel_rfl) rfl (by simp [Value.oneCell']) ?_)
                | (refine wpList_store_row rfl 38 _ _ rfl (w.heap.size + 3) _ rfl rfl 38 zeroAns (T3.out _) (by kernel_rfl) rfl (by simp [Value.oneCell']) ?_))
        refine bodyPost_ret (v := .tuple #[.agg #[.slice a5 m.words.length cap5, .slice a6 m.lists.length cap6, .int .i64 m.tick], .agg #[.int .u64 y, .bool true, .bool false, .slice none 0 0]]) (results_cells2 Try.results53 _ _ (w.heap.size + 2) (w.heap.size + 3) 29 38 _ _ (0, 0) (0, 0) _ _ rfl rfl ((setRow_other _ _ _ _ (by omega)).trans (setRow_heap _ _ _ _ 29 (0, 0) T2.out)) (setRow_heap _ _ _ _ 38 (0, 0) (T3.out _)) Try.underlying29 rfl (by kernel_rfl) Try.underlying38 rfl (by kernel_rfl)) rfl ?_
        have hbe := row_below (row_below HB2.out (show w.heap.size ≤ w.heap.size + 2 by omega) #[.slice a5 m.words.length cap5, .slice a6 m.lists.length cap6, .int .i64 m.tick]) (show w.heap.size ≤ w.heap.size + 3 by omega) #[.int .u64 y, .bool true, .bool false, .slice none 0 0]
        unfold PairR
        rw [HE.out]
        refine ⟨_, _, rfl, HS2.out.sub fun w3 (h : Nx G w _ _) => ⟨h.1, h.2.sub (by omega) (by simp) fun j hj hj2 => ?_⟩, StA.bare _ _ _ _, hbe⟩
        rw [setRow_other _ _ _ _ (by omega), setRow_other _ _ _ _ (by omega)]
      · have hk3 : (k == 3) = false := ne_beq (by omega)
        clear hb
        rcases hk with rfl | rfl
        all_goals
          go_wp2_with fail
          refine WW.out.mono ?_; rintro e w2 ⟨v2, rfl, hs2, hb2⟩
          obtain ⟨a5, cap5, a6, cap6, rfl⟩ := hs2.open w2 (Nx.at HG1.out HCL.out hb2)
          rw [List.length_set] at hs2
          have HS2 := Lib.hid hs2
          have HB2 := Lib.hid (HB1.out.trans (hb2.mono (by omega)))
          have S0 := Lib.hid ((hb2.block w.heap.size (by omega)).trans Q0.out)
          have S1 := Lib.hid ((hb2.block (w.heap.size + 1) (by omega)).trans Q1.out)
          have S2 := Lib.hid ((hb2.block (w.heap.size + 2) (by omega)).trans R2.out)
          have S3 := Lib.hid ((hb2.block (w.heap.size + 3) (by omega)).trans R3.out)
          have hs2z := hb2.size
          clear hs2 hb2 x0 x1 x2 y0 y1 y2 y3 y4 WW R2 R3
          have R2 := S2
          have R3 := S3
          obtain ⟨x0, x1, x2⟩ := rowc3 S0.out
          obtain ⟨y0, y1, y2, y3, y4⟩ := rowc5 S1.out
          have T2 := R2
          have T3 : Hid (∀ cs, ((w2).setRow (w.heap.size + 2) cs).heap[w.heap.size + 3]? = some (.cells zeroAns 38 (0, 0))) := fun cs => (setRow_other _ _ _ _ (by omega)).trans R3.out
          go_wp2_with (first
                  | (refine wpList_store_row rfl 29 _ _ rfl (w.heap.size + 2) _ rfl rfl 29 zeroMem T2.out (by kernel_rfl) rfl (by simp [Value.oneCell']) ?_)
                  | (refine wpList_store_row rfl 38 _ _ rfl (w.heap.size + 3) _ rfl rfl 38 zeroAns (T3.out _) (by kernel_rfl) rfl (by simp [Value.oneCell']) ?_))
          refine bodyPost_ret (v := .tuple #[.agg #[.slice a5 m.words.length cap5, .slice a6 m.lists.length cap6, .int .i64 m.tick], .agg zeroAns]) (results_cells2 Try.results53 _ _ (w.heap.size + 2) (w.heap.size + 3) 29 38 _ _ (0, 0) (0, 0) _ _ rfl rfl ((setRow_other _ _ _ _ (by omega)).trans (setRow_heap _ _ _ _ 29 (0, 0) T2.out)) (setRow_heap _ _ _ _ 38 (0, 0) (T3.out _)) Try.underlying29 rfl (by kernel_rfl) Try.underlying38 rfl (by kernel_rfl)) rfl ?_
          have hbe := row_below (row_below HB2.out (show w.heap.size ≤ w.heap.size + 2 by omega) #[.slice a5 m.words.length cap5, .slice a6 m.lists.length cap6, .int .i64 m.tick]) (show w.heap.size ≤ w.heap.size + 3 by omega) zeroAns
          unfold PairR
          rw [HE.out]
          refine ⟨_, _, rfl, HS2.out.sub fun w3 (h : Nx G w _ _) => ⟨h.1, h.2.sub (by omega) (by simp) fun j hj hj2 => ?_⟩, StA.bare _ _ _ _, hbe⟩
          rw [setRow_other _ _ _ _ (by omega), setRow_other _ _ _ _ (by omega)]
    · by_cases h3 : k = 3
      · subst h3
        have hne : (y != old) = true := by simp only [not_or, not_and] at hk; simpa using hk.2.2
        have HE := Lib.hid (word_miss (m := m) (nw := nw) (til := til) hb (by rw [Int.toNat_natCast, HY.out]; simpa using hne))
        rw [Int.toNat_natCast, HY.out] at HE
        clear hb hk
        have T2 := R2
        have T3 : Hid (∀ cs, ((W).setRow (w.heap.size + 2) cs).heap[w.heap.size + 3]? = some (.cells zeroAns 38 (0, 0))) := fun cs => (setRow_other _ _ _ _ (by omega)).trans R3.out
        go_wp2_with (first
                | (refine wpList_store_row rfl 29 _ _ rfl (w.heap.size + 2) _ rfl rfl 29 zeroMem T2.out (by kernel_rfl) rfl (by simp [Value.oneCell']) ?_)
                | (refine wpList_store_row rfl 38 _ _ rfl (w.heap.size + 3) _ rfl rfl 38 zeroAns (T3.out _) (by kernel_rfl) rfl (by simp [Value.oneCell']) ?_))
        refine bodyPost_ret (v := .tuple #[.agg #[.slice (some ⟨b, off, none⟩) m.words.length cap, .slice a2 m.lists.length cap2, .int .i64 m.tick], .agg #[.int .u64 y, .bool false, .bool false, .slice none 0 0]]) (results_cells2 Try.results53 _ _ (w.heap.size + 2) (w.heap.size + 3) 29 38 _ _ (0, 0) (0, 0) _ _ rfl rfl ((setRow_other _ _ _ _ (by omega)).trans (setRow_heap _ _ _ _ 29 (0, 0) T2.out)) (setRow_heap _ _ _ _ 38 (0, 0) (T3.out _)) Try.underlying29 rfl (by kernel_rfl) Try.underlying38 rfl (by kernel_rfl)) rfl ?_
        have hbe := row_below (row_below HB1.out (show w.heap.size ≤ w.heap.size + 2 by omega) #[.slice (some ⟨b, off, none⟩) m.words.length cap, .slice a2 m.lists.length cap2, .int .i64 m.tick]) (show w.heap.size ≤ w.heap.size + 3 by omega) #[.int .u64 y, .bool false, .bool false, .slice none 0 0]
        unfold PairR
        rw [HE.out]
        exact ⟨_, _, rfl, HSM.out.sub fun _ (h : Nx G w _ _) => h.1, StA.bare _ _ _ _, hbe⟩
      · by_cases h4 : k = 4
        · subst h4
          have HE := Lib.hid (word_wait (m := m) (old := old) (nw := nw) (til := til) hb)
          rw [Int.toNat_natCast, HY.out] at HE
          clear hb hk h3
          go_upto_region 13 with fail
          obtain ⟨z0, z1, z2⟩ := rowc3 R2.out
          obtain ⟨q0, q1, q2, q3⟩ := rowc4 R3.out
          have fz0 := frozen_of_row _ _ 0 _ _ R2.out
          have fz1 := frozen_of_row _ _ 1 _ _ R2.out
          have fz2 := frozen_of_row _ _ 2 _ _ R2.out
          have fq0 := frozen_of_row _ _ 0 _ _ R3.out
          have fq1 := frozen_of_row _ _ 1 _ _ R3.out
          have fq2 := frozen_of_row _ _ 2 _ _ R3.out
          have fq3 := frozen_of_row _ _ 3 _ _ R3.out
          go_region
          go_wp2_with fail
          obtain ⟨t2, t3⟩ := put34_rows R2.out R3.out (.slice (some ⟨b, off, none⟩) m.words.length cap) (.slice a2 m.lists.length cap2) (.int .i64 m.tick) (.int .u64 y) (.bool false) (.bool (y == old)) (.slice none 0 0)
          have hbe := put34_below HB1.out (show w.heap.size ≤ w.heap.size + 2 by omega) (.slice (some ⟨b, off, none⟩) m.words.length cap) (.slice a2 m.lists.length cap2) (.int .i64 m.tick) (.int .u64 y) (.bool false) (.bool (y == old)) (.slice none 0 0)
          refine bodyPost_ret (v := .tuple #[.agg #[.slice (some ⟨b, off, none⟩) m.words.length cap, .slice a2 m.lists.length cap2, .int .i64 m.tick], .agg #[.int .u64 y, .bool false, .bool (y == old), .slice none 0 0]]) (results_cells2 Try.results53 _ _ (w.heap.size + 2) (w.heap.size + 2 + 1) 29 38 _ _ (0, 0) (0, 0) _ _ rfl rfl t2 t3 Try.underlying29 rfl (by kernel_rfl) Try.underlying38 rfl (by kernel_rfl)) rfl ?_
          unfold PairR
          rw [HE.out]
          exact ⟨_, _, rfl, HSM.out.sub fun _ (h : Nx G w _ _) => h.1, StA.bare _ _ _ _, hbe⟩
        · have k2 := ne_beq (show k ≠ 2 by omega)
          have k3 := ne_beq h3
          have k4 := ne_beq h4
          have k6 := ne_beq (show k ≠ 6 by omega)
          have HE := Lib.hid (word_load (m := m) (old := old) (nw := nw) (til := til) hb (show k ≠ 2 by omega) h3 h4 (show k ≠ 6 by omega))
          rw [Int.toNat_natCast, HY.out] at HE
          clear hb hk h3 h4
          have T2 := R2
          have T3 : Hid (∀ cs, ((W).setRow (w.heap.size + 2) cs).heap[w.heap.size + 3]? = some (.cells zeroAns 38 (0, 0))) := fun cs => (setRow_other _ _ _ _ (by omega)).trans R3.out
          go_wp2_with (first
                  | (refine wpList_store_row rfl 29 _ _ rfl (w.heap.size + 2) _ rfl rfl 29 zeroMem T2.out (by kernel_rfl) rfl (by simp [Value.oneCell']) ?_)
                  | (refine wpList_store_row rfl 38 _ _ rfl (w.heap.size + 3) _ rfl rfl 38 zeroAns (T3.out _) (by kernel_rfl) rfl (by simp [Value.oneCell']) ?_))
          refine bodyPost_ret (v := .tuple #[.agg #[.slice (some ⟨b, off, none⟩) m.words.length cap, .slice a2 m.lists.length cap2, .int .i64 m.tick], .agg #[.int .u64 y, .bool false, .bool false, .slice none 0 0]]) (results_cells2 Try.results53 _ _ (w.heap.size + 2) (w.heap.size + 3) 29 38 _ _ (0, 0) (0, 0) _ _ rfl rfl ((setRow_other _ _ _ _ (by omega)).trans (setRow_heap _ _ _ _ 29 (0, 0) T2.out)) (setRow_heap _ _ _ _ 38 (0, 0) (T3.out _)) Try.underlying29 rfl (by kernel_rfl) Try.underlying38 rfl (by kernel_rfl)) rfl ?_
          have hbe := row_below (row_below HB1.out (show w.heap.size ≤ w.heap.size + 2 by omega) #[.slice (some ⟨b, off, none⟩) m.words.length cap, .slice a2 m.lists.length cap2, .int .i64 m.tick]) (show w.heap.size ≤ w.heap.size + 3 by omega) #[.int .u64 y, .bool false, .bool false, .slice none 0 0]
          unfold PairR
          rw [HE.out]
          exact ⟨_, _, rfl, HSM.out.sub fun _ (h : Nx G w _ _) => h.1, StA.bare _ _ _ _, hbe⟩
end Go.Proofs.Ytipjfcjdefdoeaa
