
import Derived.Test.YtialclohhemkiaaB25
import Derived.Test.YtialclohhemkiaaB16
import Derived.Test.YtialclohhemkiaaB20
import Derived.Test.YtialclohhemkiaaB21
import Derived.Test.YtialclohhemkiaaB23
import Derived.Test.YtialclohhemkiaaB24
set_option linter.unusedVariables false
set_option linter.unusedSimpArgs false
/- The reader of choices: numbers at limits, operations. -/
namespace Go.Proofs.Ytialclohhemkiaa
open Go.ChangeShapes Go.WideShapes Go.ChangeAt Go.RowKit
set_option maxRecDepth 100000

/-- while an operation is made: the reader, the configuration's box, the result's block -/
structure OpInv (w0 w : World) (g : Nat) (cc : Array Value) : Prop where
  lt : g < w0.heap.size
  size : w0.heap.size + 2 ≤ w.heap.size
  codes : CodesE w g
  grown : w0.grownBy w (some g)
  box : w.heap[w0.heap.size]? = some (.cells cc 34 (0, 0))
  res : w.heap[w0.heap.size + 1]? = some (.cells zeroOp 38 (0, 0))
theorem OpInv.next {w0 w w' : World} {g : Nat} {cc : Array Value} (h : OpInv w0 w g cc) (hc : CodesE w' g) (hg : w.grownBy w' (some g)) : OpInv w0 w' g cc := by
  have hs := h.size
  have hl := h.lt
  exact ⟨hl, Nat.le_trans hs hg.size, hc, grownBy_trans h.grown hg, (hg.block _ (by omega) (by simp; omega)).trans h.box, (hg.block _ (by omega) (by simp; omega)).trans h.res⟩
theorem OpInv.start {w : World} {g : Nat} (cc : Array Value) (h : CodesE w g) : OpInv w ((w.alloc (.cells cc 34)).alloc (.cells zeroOp 38)) g cc := by
  have hb := below_new (below_new (Below.refl w.heap.size w) (.cells cc 34)) (.cells zeroOp 38)
  exact ⟨h.lt, by simp, h.kept h.lt hb, grown_of_below hb, heap_alloc2_old _ _ _, heap_alloc2_new _ _ _⟩
theorem OpInv.fin {w0 w : World} {g : Nat} {cc : Array Value} (h : OpInv w0 w g cc) (cells : Array Value) : CodesE (w.setRow (w0.heap.size + 1) cells) g ∧ w0.grownBy (w.setRow (w0.heap.size + 1) cells) (some g) :=
  ⟨h.codes.kept (B := w0.heap.size) h.lt (below_setRow (Below.refl _ w) (by omega) cells), grownBy_of_new h.grown (grownBy_setRow w _ cells) (fun k hk => by cases hk; omega)⟩
theorem OpN.bare (w : World) (B : Nat) (kd m ch vl d : Int) : OpN w B (.agg #[.int .i64 kd, .int .i64 m, .int .i64 ch, .int .u64 vl, .int .i64 d, .slice none 0 0, .slice none 0 0]) ⟨kd, m, ch, vl, d, [], []⟩ :=
  ⟨_, _, rfl, SlC.nil _, SlI.nil _ _, newB.nil _, newB.nil _⟩
set_option maxRecDepth 100000 in
set_option maxHeartbeats 4000000 in
theorem opE (g : Nat) (v : Value) (c : ConfM) (w : World) (h : CodesE w g) (hv : ConfX w g v c) (hc : c.caps.length ≤ 8) :
    Calls Try.prog 15 #[.pointer (some ⟨g, 0, none⟩), v] w fun e w' => ∃ u op, e = .returned u ∧ OpN w' w.heap.size u op ∧ op.good ∧ CodesE w' g ∧ w.grownBy w' (some g) := by
  have HX := Lib.hid hv
  obtain ⟨vc, vs, rfl, h1, h2, -⟩ := hv
  have ST := Lib.hid (OpInv.start #[vc, vs, .int .i64 c.threads] h)
  obtain ⟨a, cap, rfl, -⟩ := h1.len
  obtain ⟨a2, cap2, rfl, -⟩ := h2.len
  have hlt := h.lt
  clear h1 h2 h
  obtain ⟨W, hW⟩ : ∃ W, ((w.alloc (.cells #[.slice a c.caps.length cap, .slice a2 c.starts.length cap2, .int .i64 c.threads] 34)).alloc (.cells zeroOp 38)) = W := ⟨_, rfl⟩
  rw [hW] at ST
  have HW := Lib.hid hW
  clear hW
  go_enter Try.func15, Try.ntmps15
  go_wp2_with fail
  rw [show (#[.int .i64 0, .int .i64 0, .int .i64 0, .int .u64 0, .int .i64 0, .slice none 0 0, .slice none 0 0] : Array Value) = zeroOp from rfl, HW.out]
  clear HW
  refine (nextE g 20 _ ST.out.codes (by omega) (by omega)).mono ?_; rintro e w1 ⟨k, rfl, hk0, hk1, hc1, hg1⟩
  have hI1 := Lib.hid (ST.out.next hc1 hg1)
  clear hc1 hg1 ST
  obtain ⟨b0, b1, b2⟩ := row3 hI1.out.box
  have CHA := Lib.hid fun w' h h2 => channelE g (.agg #[.slice a c.caps.length cap, .slice a2 c.starts.length cap2, .int .i64 c.threads]) c w' h h2 hc
  rcases (show k < 7 ∨ (¬ k < 7 ∧ k < 14) ∨ (¬ k < 7 ∧ ¬ k < 14 ∧ k < 17) ∨ k = 17 ∨ k = 18 ∨ k = 19 by omega) with h | ⟨h, h'⟩ | ⟨h, h', h''⟩ | rfl | rfl | rfl
  · skip
    go_wp2_with fail
    refine (CHA.out _ hI1.out.codes (HX.out.grown hI1.out.grown)).mono ?_; rintro e w2 ⟨z, rfl, hz0, hz1, hc2, hg2⟩
    have hI2 := Lib.hid (hI1.out.next hc2 hg2)
    clear hc2 hg2
    obtain ⟨b0, b1, b2⟩ := row3 hI2.out.box
    go_wp2_with fail
    refine (valueE g _ hI2.out.codes).mono ?_; rintro e w3 ⟨val, rfl, hval, hc3, hg3⟩
    have hI3 := Lib.hid (hI2.out.next hc3 hg3)
    have HVL := Lib.hid hval
    clear hval hc3 hg3
    go_wp2_with fail
    refine (modeE g 1 0 z val 0 (.slice none 0 0) (.slice none 0 0) [] [] _ hI3.out.codes (SlC.nil _) (SlI.nil _ _)).mono ?_; rintro e w4 ⟨m, d, rfl, hmd, hc4, hg4⟩
    have hI4 := Lib.hid (hI3.out.next hc4 hg4)
    have HMD := Lib.hid hmd
    clear hmd hc4 hg4
    go_wp2_with (refine wpList_store_row rfl 38 _ _ rfl (w.heap.size + 1) _ rfl rfl 38 zeroOp hI4.out.res (by kernel_rfl) rfl (all7 rfl rfl) ?_)
    refine bodyPost_ret (v := .agg #[.int .i64 1, .int .i64 m, .int .i64 z, .int .u64 val, .int .i64 d, .slice none 0 0, .slice none 0 0]) (results_cell_row Try.results15 _ _ (w.heap.size + 1) 38 _ (0, 0) _ rfl (setRow_heap _ _ _ _ 38 (0, 0) hI4.out.res) Try.underlying38 rfl (by kernel_rfl)) rfl ?_
    obtain ⟨f2, f3⟩ := hI4.out.fin #[.int .i64 1, .int .i64 m, .int .i64 z, .int .u64 val, .int .i64 d, .slice none 0 0, .slice none 0 0]
    exact ⟨_, _, rfl, OpN.bare _ _ 1 m z val d, good_one 1 m z val d (by omega) (by omega) (HMD.out.imp id fun h => ⟨by omega, h⟩) ⟨hz0, hz1⟩ (HVL.out) (.inl rfl), f2, f3⟩
  · skip
    go_wp2_with fail
    refine (CHA.out _ hI1.out.codes (HX.out.grown hI1.out.grown)).mono ?_; rintro e w2 ⟨z, rfl, hz0, hz1, hc2, hg2⟩
    have hI2 := Lib.hid (hI1.out.next hc2 hg2)
    clear hc2 hg2
    obtain ⟨b0, b1, b2⟩ := row3 hI2.out.box
    go_wp2_with fail
    refine (modeE g 2 0 z 0 0 (.slice none 0 0) (.slice none 0 0) [] [] _ hI2.out.codes (SlC.nil _) (SlI.nil _ _)).mono ?_; rintro e w4 ⟨m, d, rfl, hmd, hc4, hg4⟩
    have hI4 := Lib.hid (hI2.out.next hc4 hg4)
    have HMD := Lib.hid hmd
    clear hmd hc4 hg4
    go_wp2_with (refine wpList_store_row rfl 38 _ _ rfl (w.heap.size + 1) _ rfl rfl 38 zeroOp hI4.out.res (by kernel_rfl) rfl (all7 rfl rfl) ?_)
    refine bodyPost_ret (v := .agg #[.int .i64 2, .int .i64 m, .int .i64 z, .int .u64 0, .int .i64 d, .slice none 0 0, .slice none 0 0]) (results_cell_row Try.results15 _ _ (w.heap.size + 1) 38 _ (0, 0) _ rfl (setRow_heap _ _ _ _ 38 (0, 0) hI4.out.res) Try.underlying38 rfl (by kernel_rfl)) rfl ?_
    obtain ⟨f2, f3⟩ := hI4.out.fin #[.int .i64 2, .int .i64 m, .int .i64 z, .int .u64 0, .int .i64 d, .slice none 0 0, .slice none 0 0]
    exact ⟨_, _, rfl, OpN.bare _ _ 2 m z 0 d, good_one 2 m z 0 d (by omega) (by omega) (HMD.out.imp id fun h => ⟨by omega, h⟩) ⟨hz0, hz1⟩ (u64_ok 0 (by omega) (by omega)) (.inr rfl), f2, f3⟩
  · go_wp2_with fail
    refine (selectE g 4 _ c _ hI1.out.codes (HX.out.grown hI1.out.grown) hc (by omega)).mono ?_; rintro e w2 ⟨u, op, rfl, ho, hgood, hc2, hg2⟩
    have hI2 := Lib.hid (hI1.out.next hc2 hg2)
    have HO := Lib.hid ho
    have HGD := Lib.hid hgood
    obtain ⟨vc2, vd2, rfl, hsc, hsd, -⟩ := ho
    obtain ⟨a7, c7, rfl⟩ := hsc.len
    obtain ⟨a8, c8, rfl, -⟩ := hsd.len
    have hz1 := hI1.out.size
    clear hsc hsd hgood hc2 hg2
    go_wp2_with (refine wpList_store_row rfl 38 _ _ rfl (w.heap.size + 1) _ rfl rfl 38 zeroOp hI2.out.res (by kernel_rfl) rfl (all7 rfl rfl) ?_)
    refine bodyPost_ret (v := .agg #[.int .i64 op.kind, .int .i64 op.mode, .int .i64 op.chan, .int .u64 op.val, .int .i64 op.dl, .slice a7 op.cases.length c7, .slice a8 op.draws.length c8]) (results_cell_row Try.results15 _ _ (w.heap.size + 1) 38 _ (0, 0) _ rfl (setRow_heap _ _ _ _ 38 (0, 0) hI2.out.res) Try.underlying38 rfl (by kernel_rfl)) rfl ?_
    obtain ⟨f2, f3⟩ := hI2.out.fin #[.int .i64 op.kind, .int .i64 op.mode, .int .i64 op.chan, .int .u64 op.val, .int .i64 op.dl, .slice a7 op.cases.length c7, .slice a8 op.draws.length c8]
    exact ⟨_, op, rfl, (HO.out.grown (grownBy_setRow w2 (w.heap.size + 1) _) (by omega)).mono (by omega), HGD.out, f2, f3⟩
  · skip
    go_wp2_with fail
    refine (CHA.out _ hI1.out.codes (HX.out.grown hI1.out.grown)).mono ?_; rintro e w2 ⟨z, rfl, hz0, hz1, hc2, hg2⟩
    have hI2 := Lib.hid (hI1.out.next hc2 hg2)
    clear hc2 hg2
    obtain ⟨b0, b1, b2⟩ := row3 hI2.out.box
    go_wp2_with (refine wpList_store_row rfl 38 _ _ rfl (w.heap.size + 1) _ rfl rfl 38 zeroOp hI2.out.res (by kernel_rfl) rfl (all7 rfl rfl) ?_)
    refine bodyPost_ret (v := .agg #[.int .i64 3, .int .i64 0, .int .i64 z, .int .u64 0, .int .i64 0, .slice none 0 0, .slice none 0 0]) (results_cell_row Try.results15 _ _ (w.heap.size + 1) 38 _ (0, 0) _ rfl (setRow_heap _ _ _ _ 38 (0, 0) hI2.out.res) Try.underlying38 rfl (by kernel_rfl)) rfl ?_
    obtain ⟨f2, f3⟩ := hI2.out.fin #[.int .i64 3, .int .i64 0, .int .i64 z, .int .u64 0, .int .i64 0, .slice none 0 0, .slice none 0 0]
    exact ⟨_, _, rfl, OpN.bare _ _ 3 0 z 0 0, good_one 3 0 z 0 0 (by omega) (by omega) (.inl ⟨rfl, rfl⟩) ⟨hz0, hz1⟩ (u64_ok 0 (by omega) (by omega)) (.inr rfl), f2, f3⟩
  · skip
    go_wp2_with fail
    refine (CHA.out _ hI1.out.codes (HX.out.grown hI1.out.grown)).mono ?_; rintro e w2 ⟨z, rfl, hz0, hz1, hc2, hg2⟩
    have hI2 := Lib.hid (hI1.out.next hc2 hg2)
    clear hc2 hg2
    obtain ⟨b0, b1, b2⟩ := row3 hI2.out.box
    go_wp2_with (refine wpList_store_row rfl 38 _ _ rfl (w.heap.size + 1) _ rfl rfl 38 zeroOp hI2.out.res (by kernel_rfl) rfl (all7 rfl rfl) ?_)
    refine bodyPost_ret (v := .agg #[.int .i64 5, .int .i64 0, .int .i64 z, .int .u64 0, .int .i64 0, .slice none 0 0, .slice none 0 0]) (results_cell_row Try.results15 _ _ (w.heap.size + 1) 38 _ (0, 0) _ rfl (setRow_heap _ _ _ _ 38 (0, 0) hI2.out.res) Try.underlying38 rfl (by kernel_rfl)) rfl ?_
    obtain ⟨f2, f3⟩ := hI2.out.fin #[.int .i64 5, .int .i64 0, .int .i64 z, .int .u64 0, .int .i64 0, .slice none 0 0, .slice none 0 0]
    exact ⟨_, _, rfl, OpN.bare _ _ 5 0 z 0 0, good_one 5 0 z 0 0 (by omega) (by omega) (.inl ⟨rfl, rfl⟩) ⟨hz0, hz1⟩ (u64_ok 0 (by omega) (by omega)) (.inr rfl), f2, f3⟩
  · skip
    go_wp2_with fail
    refine (CHA.out _ hI1.out.codes (HX.out.grown hI1.out.grown)).mono ?_; rintro e w2 ⟨z, rfl, hz0, hz1, hc2, hg2⟩
    have hI2 := Lib.hid (hI1.out.next hc2 hg2)
    clear hc2 hg2
    obtain ⟨b0, b1, b2⟩ := row3 hI2.out.box
    go_wp2_with (refine wpList_store_row rfl 38 _ _ rfl (w.heap.size + 1) _ rfl rfl 38 zeroOp hI2.out.res (by kernel_rfl) rfl (all7 rfl rfl) ?_)
    refine bodyPost_ret (v := .agg #[.int .i64 6, .int .i64 0, .int .i64 z, .int .u64 0, .int .i64 0, .slice none 0 0, .slice none 0 0]) (results_cell_row Try.results15 _ _ (w.heap.size + 1) 38 _ (0, 0) _ rfl (setRow_heap _ _ _ _ 38 (0, 0) hI2.out.res) Try.underlying38 rfl (by kernel_rfl)) rfl ?_
    obtain ⟨f2, f3⟩ := hI2.out.fin #[.int .i64 6, .int .i64 0, .int .i64 z, .int .u64 0, .int .i64 0, .slice none 0 0, .slice none 0 0]
    exact ⟨_, _, rfl, OpN.bare _ _ 6 0 z 0 0, good_one 6 0 z 0 0 (by omega) (by omega) (.inl ⟨rfl, rfl⟩) ⟨hz0, hz1⟩ (u64_ok 0 (by omega) (by omega)) (.inr rfl), f2, f3⟩
end Go.Proofs.Ytialclohhemkiaa
/- Layer 14: the words of ModelPairs. -/
namespace Go.Proofs.Ytialclohhemkiaa
open Go.ChangeShapes Go.WideShapes Go.ChangeAt Go.RowKit
set_option maxRecDepth 100000

theorem below_poke {w a b : World} {g : Nat} (h : Below w.heap.size w a) (hg : a.grownBy b (some g)) (hw : w.heap.size ≤ g) : Below w.heap.size w b := below_grown h hg hw
theorem row_keep {a b : World} {g j : Nat} {ob : Obj} (hg : a.grownBy b (some g)) (h : a.heap[j]? = some ob) (hj : j ≠ g) : b.heap[j]? = some ob :=
  (hg.block j (Array.getElem?_eq_some_iff.1 h).1 (fun e => hj (by simpa using e))).trans h
theorem row_below2 {a b : World} {j : Nat} {ob : Obj} (hb : Below a.heap.size a b) (h : a.heap[j]? = some ob) : b.heap[j]? = some ob := (hb.block j (Array.getElem?_eq_some_iff.1 h).1).trans h
theorem SlH.nil (w : World) : SlH w (.slice none 0 0) [] := ⟨[], rfl, SlS.nil w 3, fun i hi => by simp at hi, fun c hc => by simp at hc, fineB.nil w⟩
/-- the law's world between two operations -/
structure ApJ (w wr : World) (g X : Nat) (cv : Value) (crow : Array Value) (c : ConfM) (v : Value) (l : List ChanM) (m : Nat) : Prop where
  sl : SlH wr v l
  len : l.length ≤ 3
  buf : ∀ x ∈ l, x.buf.length ≤ m
  code : CodesE wr g
  conf : ConfX wr g cv c
  cr : wr.heap[X]? = some (.cells crow 34 (0, 0))
  below : Below w.heap.size w wr
  gX : g < X
  gw : w.heap.size ≤ g
theorem ApJ.draw {w wr w2 : World} {g X : Nat} {cv : Value} {crow : Array Value} {c : ConfM} {v : Value} {l : List ChanM} {m : Nat} (h : ApJ w wr g X cv crow c v l m) (hg : wr.grownBy w2 (some g)) (hc : CodesE w2 g) : ApJ w w2 g X cv crow c v l m :=
  ⟨h.sl.grown hg (codes_is h.code), h.len, h.buf, hc, h.conf.grown hg, row_keep hg h.cr (by have := h.gX; omega), below_grown h.below hg h.gw, h.gX, h.gw⟩
theorem ApJ.over {w wr w2 : World} {g X : Nat} {cv : Value} {crow : Array Value} {c : ConfM} {v : Value} {l : List ChanM} {m : Nat} (h : ApJ w wr g X cv crow c v l m) (hb : Below wr.heap.size wr w2) : ApJ w w2 g X cv crow c v l m :=
  ⟨h.sl.below hb, h.len, h.buf, h.code.kept h.code.lt hb, h.conf.below hb, row_below2 hb h.cr, below_then h.below hb, h.gX, h.gw⟩
theorem modR_keeps {l l' : List ChanM} {op : OpM} {r : ResM} {m : Nat} (h : ModR l op r l') (hb : ∀ x ∈ l, x.buf.length ≤ m) : l'.length = l.length ∧ ∀ x ∈ l', x.buf.length ≤ m + 1 := by
  have hg : ∀ i, i < l.length → (l.getD i noChan).buf.length ≤ m := fun i hi => by
    rw [List.getD_eq_getElem?_getD, List.getElem?_eq_getElem hi]
    exact hb _ (List.getElem_mem hi)
  cases h with
  | sent x i hk hc hx hi e =>
    subst e
    refine ⟨List.length_set, fun y hy => ?_⟩
    rcases List.mem_or_eq_of_mem_set hy with hy | rfl
    · have := hb y hy; omega
    · have := hg i hi
      show ((l.getD i noChan).buf ++ [x.val]).length ≤ _
      rw [List.length_append]
      show _ + 1 ≤ _
      omega
  | got x i y t hk ho hc hx hi hbb e =>
    subst e
    refine ⟨List.length_set, fun y hy => ?_⟩
    rcases List.mem_or_eq_of_mem_set hy with hy | rfl
    · have := hb y hy; omega
    · have := hg i hi
      rw [hbb] at this
      simp at this
      show t.length ≤ _
      omega
  | shut i hk hx hi e =>
    subst e
    refine ⟨List.length_set, fun y hy => ?_⟩
    rcases List.mem_or_eq_of_mem_set hy with hy | rfl
    · have := hb y hy; omega
    · have := hg i hi
      show (l.getD i noChan).buf.length ≤ _
      omega
  | same h1 h2 h6 e =>
    subst e
    exact ⟨rfl, fun y hy => by have := hb y hy; omega⟩
theorem ApJ.mod {w wr : World} {g X : Nat} {cv : Value} {crow : Array Value} {c : ConfM} {v v2 : Value} {l l2 : List ChanM} {op : OpM} {r : ResM} {m : Nat} (h : ApJ w wr g X cv crow c v l m) (hs : SlH wr v2 l2) (hm : ModR l op r l2) : ApJ w wr g X cv crow c v2 l2 (m + 1) :=
  ⟨hs, by rw [(modR_keeps hm h.buf).1]; exact h.len, (modR_keeps hm h.buf).2, h.code, h.conf, h.cr, h.below, h.gX, h.gw⟩
theorem ApJ.wide {w wr : World} {g X : Nat} {cv : Value} {crow : Array Value} {c : ConfM} {v : Value} {l : List ChanM} {m m2 : Nat} (h : ApJ w wr g X cv crow c v l m) (hm : m ≤ m2) : ApJ w wr g X cv crow c v l m2 :=
  ⟨h.sl, h.len, fun x hx => Nat.le_trans (h.buf x hx) hm, h.code, h.conf, h.cr, h.below, h.gX, h.gw⟩
theorem run_neq_res (a b : ResM) (w : World) : (binOp .neq 25 (resW a) (resW b)).run Try.prog w = .ok (.bool (!resEqB a b)) w := by
  obtain ⟨a1, a2, a3, a4, a5⟩ := a
  obtain ⟨b1, b2, b3, b4, b5⟩ := b
  unfold resW resEqB
  dsimp only
  have hu := Try.underlying25
  simp [go_sem]
  repeat' split
  all_goals simp_all
theorem opx_offOf {w : World} {g P : Nat} {op : OpM} {p1 q1 : Option Addr} {c1 d1 : Nat} (h : OpX w g (.agg #[.int .i64 op.kind, .int .i64 op.mode, .int .i64 op.chan, .int .u64 op.val, .int .i64 op.dl, .slice p1 op.cases.length c1, .slice q1 op.draws.length d1]) op) (hP : w.heap.size ≤ P) : offB P (.slice p1 op.cases.length c1) ∧ offB P (.slice q1 op.draws.length d1) := by
  obtain ⟨vc, vd, e, h1, h2, -⟩ := h
  simp only [Value.agg.injEq, Array.mk.injEq, List.cons.injEq, and_true, true_and] at e
  obtain ⟨rfl, rfl⟩ := e
  exact ⟨h1.offOf hP, h2.offOf hP⟩
theorem opx_put {w : World} {g P : Nat} {op : OpM} {p1 q1 : Option Addr} {c1 d1 : Nat} {cs : Array Value} (h : OpX w g (.agg #[.int .i64 op.kind, .int .i64 op.mode, .int .i64 op.chan, .int .u64 op.val, .int .i64 op.dl, .slice p1 op.cases.length c1, .slice q1 op.draws.length d1]) op) (ho : offB P (.slice p1 op.cases.length c1) ∧ offB P (.slice q1 op.draws.length d1)) : OpX (w.setRow P cs) g (.agg #[.int .i64 op.kind, .int .i64 op.mode, .int .i64 op.chan, .int .u64 op.val, .int .i64 op.dl, .slice p1 op.cases.length c1, .slice q1 op.draws.length d1]) op := by
  obtain ⟨vc, vd, e, h1, h2, h3, h4⟩ := h
  simp only [Value.agg.injEq, Array.mk.injEq, List.cons.injEq, and_true, true_and] at e
  obtain ⟨rfl, rfl⟩ := e
  exact ⟨_, _, rfl, h1.grown (row_grown w P cs) ho.1, h2.grown (row_grown w P cs) ho.2, h3, h4⟩
theorem rowc10 {w : World} {g : Nat} {T : TypeId} {v0 v1 v2 v3 v4 v5 v6 v7 v8 v9 : Value} (h : w.heap[g]? = some (.cells #[v0, v1, v2, v3, v4, v5, v6, v7, v8, v9] T (0, 0))) : w.cell? ⟨g, 0, none⟩ = some v0 ∧ w.cell? ⟨g, 1, none⟩ = some v1 ∧ w.cell? ⟨g, 2, none⟩ = some v2 ∧ w.cell? ⟨g, 3, none⟩ = some v3 ∧ w.cell? ⟨g, 4, none⟩ = some v4 ∧ w.cell? ⟨g, 5, none⟩ = some v5 ∧ w.cell? ⟨g, 6, none⟩ = some v6 ∧ w.cell? ⟨g, 7, none⟩ = some v7 ∧ w.cell? ⟨g, 8, none⟩ = some v8 ∧ w.cell? ⟨g, 9, none⟩ = some v9 :=
  ⟨cell_of_row _ _ 0 _ _ _ h, cell_of_row _ _ 1 _ _ _ h, cell_of_row _ _ 2 _ _ _ h, cell_of_row _ _ 3 _ _ _ h, cell_of_row _ _ 4 _ _ _ h, cell_of_row _ _ 5 _ _ _ h, cell_of_row _ _ 6 _ _ _ h, cell_of_row _ _ 7 _ _ _ h, cell_of_row _ _ 8 _ _ _ h, cell_of_row _ _ 9 _ _ _ h⟩
/-- one pair of results of a list -/
theorem SlS.pair {w : World} {v : Value} {l : List (ResM × ResM)} (h : SlS w 10 v (pairRows l)) (i : Nat) (hi : i < l.length) {r s : ResM} (hr : l.getD i (⟨0, 0, 0, false, 0⟩, ⟨0, 0, 0, false, 0⟩) = (r, s)) : ∃ b off cap, v = .slice (some ⟨b, off, none⟩) l.length cap ∧ b < w.heap.size ∧ w.cell? ⟨b, off + i * 10, none⟩ = some (.int .i64 r.kind) ∧ w.cell? ⟨b, off + i * 10 + 1, none⟩ = some (.int .i64 r.case) ∧ w.cell? ⟨b, off + i * 10 + 2, none⟩ = some (.int .u64 r.val) ∧ w.cell? ⟨b, off + i * 10 + 3, none⟩ = some (.bool r.ok) ∧ w.cell? ⟨b, off + i * 10 + 4, none⟩ = some (.int .i64 r.num) ∧ w.cell? ⟨b, off + i * 10 + 5, none⟩ = some (.int .i64 s.kind) ∧ w.cell? ⟨b, off + i * 10 + 6, none⟩ = some (.int .i64 s.case) ∧ w.cell? ⟨b, off + i * 10 + 7, none⟩ = some (.int .u64 s.val) ∧ w.cell? ⟨b, off + i * 10 + 8, none⟩ = some (.bool s.ok) ∧ w.cell? ⟨b, off + i * 10 + 9, none⟩ = some (.int .i64 s.num) := by
  have hl := pairRows_length l
  obtain ⟨b, off, cap, rfl, hb, hc⟩ := h.open (by omega)
  have h5 := hc i (by omega)
  have hg : (pairRows l).getD i [] = pairL (r, s) := by
    rw [← hr]
    simp [pairRows, List.getD_eq_getElem?_getD, hi]
  rw [hg] at h5
  exact ⟨b, off, cap, by rw [hl], hb, h5 0 _ rfl, h5 1 _ rfl, h5 2 _ rfl, h5 3 _ rfl, h5 4 _ rfl, h5 5 _ rfl, h5 6 _ rfl, h5 7 _ rfl, h5 8 _ rfl, h5 9 _ rfl⟩
theorem meeting_mem {l : List ChanM} {a b : OpM} {i : Nat} {x y : ResM} (h : (x, y) ∈ meetingE l a b i) : pairB l a x b y = true ∧ pairB l b y a x = true := by
  have h1 : pairB l a x b y = true := by
    unfold meetingE at h
    rw [List.mem_flatten] at h
    obtain ⟨row, hr, hm⟩ := h
    obtain ⟨j, -, rfl⟩ := List.mem_map.1 hr
    unfold meetRow at hm
    exact (List.mem_filter.1 hm).2
  refine ⟨h1, ?_⟩
  unfold pairB at h1 ⊢
  rw [Bool.or_comm]
  exact h1
theorem cases_few {op : OpM} (h : op.good) : (casesE op).length ≤ 100 := by
  unfold casesE
  have := h.cases
  split
  · omega
  · split <;> simp
theorem rmeeting_at (v va vb : Value) (l : List ChanM) (a b : OpM) (w : World) (C : List (ResM × ResM)) (hC : meetingE l a b (casesE a).length = C) (hv : SlH w v l) (ha : OpV w va a) (hb : OpV w vb b) (hga : a.good) (hgb : b.good) : Calls Try.prog 16 #[v, va, vb] w fun e w' => ∃ am km, e = .returned (.slice am C.length km) ∧ SlS w' 10 (.slice am C.length km) (pairRows C) ∧ Below w.heap.size w w' := by
  refine (rmeeting_any v va vb l a b w hv ha hb hga.fine.ok hgb.fine.ok (cases_few hga) (cases_few hgb)).mono ?_
  rintro e w' ⟨u, rfl, hs, hb⟩
  rw [hC] at hs
  obtain ⟨am, km, rfl, -⟩ := hs.len
  rw [pairRows_length] at hs ⊢
  exact ⟨am, km, rfl, hs, hb⟩
theorem result_at (g : Nat) (vl vo : Value) (l : List ChanM) (op : OpM) (w : World) (hC : CodesE w g) (hv : SlH w vl l) (ho : OpX w g vo op) (hcl : op.cases.length ≤ 200) : Calls Try.prog 19 #[.pointer (some ⟨g, 0, none⟩), vl, vo] w fun e w' => ∃ (k f vv : Int) (o : Bool) (n : Int), e = .returned (.agg #[.int .i64 k, .int .i64 f, .int .u64 vv, .bool o, .int .i64 n]) ∧ CodesE w' g ∧ w.grownBy w' (some g) := by
  refine (result_any g vl vo l op w hC hv ho hcl).mono ?_
  rintro e w' ⟨⟨k, f, vv, o, n⟩, rfl, h1, h2⟩
  exact ⟨k, f, vv, o, n, rfl, h1, h2⟩
theorem pair_q (a1 a2 a3 : Int) (a4 : Bool) (a5 b1 b2 b3 : Int) (b4 : Bool) (b5 : Int) (q : Bool) (v va vb : Value) (l : List ChanM) (a b : OpM) (w : World) (hv : SlH w v l) (ha : OpV w va a) (hb : OpV w vb b) (hq : pairB l a ⟨a1, a2, a3, a4, a5⟩ b ⟨b1, b2, b3, b4, b5⟩ = q) : Calls Try.prog 17 #[v, va, .agg #[.int .i64 a1, .int .i64 a2, .int .u64 a3, .bool a4, .int .i64 a5], vb, .agg #[.int .i64 b1, .int .i64 b2, .int .u64 b3, .bool b4, .int .i64 b5]] w fun e w' => e = .returned (.bool q) ∧ Below w.heap.size w w' := by
  have := qPair_any v va vb l a ⟨a1, a2, a3, a4, a5⟩ b ⟨b1, b2, b3, b4, b5⟩ w hv ha hb
  rw [pairP_eq, hq] at this
  exact this
theorem pair_r (a1 a2 a3 : Int) (a4 : Bool) (a5 b1 b2 b3 : Int) (b4 : Bool) (b5 : Int) (q : Bool) (v va vb : Value) (l : List ChanM) (a b : OpM) (w : World) (hv : SlH w v l) (ha : OpV w va a) (hb : OpV w vb b) (hq : pairB l a ⟨a1, a2, a3, a4, a5⟩ b ⟨b1, b2, b3, b4, b5⟩ = q) : Calls Try.prog 18 #[v, va, .agg #[.int .i64 a1, .int .i64 a2, .int .u64 a3, .bool a4, .int .i64 a5], vb, .agg #[.int .i64 b1, .int .i64 b2, .int .u64 b3, .bool b4, .int .i64 b5]] w fun e w' => e = .returned (.bool q) ∧ Below w.heap.size w w' := by
  have := rPair_any v va vb l a ⟨a1, a2, a3, a4, a5⟩ b ⟨b1, b2, b3, b4, b5⟩ w hv ha hb
  rw [hq] at this
  exact this
end Go.Proofs.Ytialclohhemkiaa
