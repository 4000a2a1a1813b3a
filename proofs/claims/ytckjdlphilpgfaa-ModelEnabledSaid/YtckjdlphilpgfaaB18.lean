import Derived.Test.YtckjdlphilpgfaaRows
import Derived.Deep.QuietTactic
import Derived.BigQuiet
import Derived.Deep.DeepCutAuto
import Derived.Deep.CutBlock
import Derived.Test.YtckjdlphilpgfaaB01
import Derived.Test.YtckjdlphilpgfaaB17
import Derived.Test.YtckjdlphilpgfaaB06
set_option linter.unusedVariables false
set_option linter.unusedSimpArgs false
/- The reader of choices (package chanfabricdraw): its state in memory, and what its small methods do to it. -/
namespace Go.Proofs.Ytckjdlphilpgfaa
open Go.ChangeShapes Go.WideShapes Go.ChangeAt Go.RowKit
set_option maxRecDepth 100000

/-- the reader in block g has the choices r left, and its counter of values stands at val -/
def CodesAt (w : World) (g : Nat) (r : List Int) (val : Int) : Prop :=
  ∃ v l, ∃ k : Nat, w.heap[g]? = some (.cells #[v, .int .i64 k, .int .u64 val] 71 (0, 0)) ∧ SlI w .u8 v l ∧ k ≤ l.length ∧ r = l.drop k ∧ (l ≠ [] → ∀ a n c, v = .slice a n c → ∀ b, a = some b → b.block < g)
theorem CodesAt.drew {w : World} {g : Nat} {r : List Int} {val : Int} (h : CodesAt w g r val) (n : Nat) : CodesAt (w.drewN n) g r val := h
theorem CodesAt.lt {w : World} {g : Nat} {r : List Int} {val : Int} (h : CodesAt w g r val) : g < w.heap.size := by
  obtain ⟨v, l, k, hg, _⟩ := h
  exact (Array.getElem?_eq_some_iff.1 hg).1
theorem CodesAt.kept {w w' : World} {g B : Nat} {r : List Int} {val : Int} (h : CodesAt w g r val) (hB : g < B) (hb : Below B w w') : CodesAt w' g r val := by
  obtain ⟨v, l, k, hg, ⟨m1, m2, a, cap, rfl, hcap, h5⟩, hk, hr, h4⟩ := h
  refine ⟨_, l, k, (hb.block g hB).trans hg, ⟨m1, m2, a, cap, rfl, hcap, fun t ht => ?_⟩, hk, hr, h4⟩
  obtain ⟨b, off, e, hlt, hc⟩ := h5 t ht
  have hbg := h4 (by rintro rfl; simp at ht) _ _ _ rfl _ e
  exact ⟨b, off, e, Nat.lt_of_lt_of_le hlt hb.size, (hb.cell (p := ⟨b, off + t, none⟩) (by simp at hbg ⊢; omega)).trans hc⟩
/-- one choice -/
def nxt (r : List Int) (n : Int) : Int := match r with | [] => 0 | c :: _ => c % n

theorem nxt_bd (r : List Int) (n : Int) (h : 1 ≤ n) : 0 ≤ nxt r n ∧ nxt r n < n := by
  unfold nxt
  split
  · omega
  · exact ⟨Int.emod_nonneg _ (by omega), Int.emod_lt_of_pos _ (by omega)⟩
theorem left_any (g : Nat) (r : List Int) (val : Int) (w : World) (h : CodesAt w g r val) :
    Calls Try.prog 52 #[.pointer (some ⟨g, 0, none⟩)] w fun e w' => ∃ n, e = .returned (.bool (!r.isEmpty)) ∧ w.drewN n = w' := by
  obtain ⟨v, l, k, hg, hl, hk, rfl, _⟩ := h
  have hmx := hl.1
  obtain ⟨a, cap, rfl, _⟩ := hl.len
  have c0 := cell_of_row w g 0 _ _ _ hg
  have c1 := cell_of_row w g 1 _ _ _ hg
  simp at c0 c1
  clear hg hl
  have hr : ((l.drop k).isEmpty) = decide (l.length ≤ k) := by
    rw [Bool.eq_iff_iff]; simp
  have HR := Lib.hid hr
  clear hr
  go_enter Try.func52, Try.ntmps52
  go_wp2
  go_quiet (fail)
  go_wp2
  go_ret
  exact ⟨nq, ret_bool (by rw [HR.out]; by_cases e : k < l.length <;> simp [e] <;> omega), rfl⟩
theorem codes_step {w : World} {g : Nat} {val : Int} {b off n cap k : Nat} {l : List Int}
    (hg : w.heap[g]? = some (.cells #[.slice (some ⟨b, off, none⟩) n cap, .int .i64 k, .int .u64 val] 71 (0, 0)))
    (hl : SlI w .u8 (.slice (some ⟨b, off, none⟩) n cap) l) (hlt : k < l.length) (hbg0 : b < g) (m : Nat) :
    (CodesAt (w.setCell ⟨g, 1, none⟩ (.int .i64 ((k : Int) + 1))) g (l.drop k).tail val) ∧
    w.grownBy ((w.setCell ⟨g, 1, none⟩ (.int .i64 ((k : Int) + 1))).drewN m) (some g) ∧
    (w.setCell ⟨g, 1, none⟩ (.int .i64 ((k : Int) + 1))).cell? ⟨g, 0, none⟩ = some (.slice (some ⟨b, off, none⟩) n cap) ∧
    (w.setCell ⟨g, 1, none⟩ (.int .i64 ((k : Int) + 1))).cell? ⟨g, 1, none⟩ = some (.int .i64 ((k : Int) + 1)) ∧
    (w.setCell ⟨g, 1, none⟩ (.int .i64 ((k : Int) + 1))).cell? ⟨b, off + k, none⟩ = some (.int .u8 (l.getD k 0)) := by
  have hbg : b ≠ g := by omega
  have hs := heap_setCell_same w g 1 _ _ (.int .i64 ((k : Int) + 1)) hg
  have ho : ∀ j, j ≠ g → (w.setCell ⟨g, 1, none⟩ (.int .i64 ((k : Int) + 1))).heap[j]? = w.heap[j]? := fun j hj => heap_setCell_other w ⟨g, 1, none⟩ j _ hj
  have e0 := cell_of_row _ g 0 _ _ _ hs
  have e1 := cell_of_row _ g 1 _ _ _ hs
  have hcell : ∀ j, (w.setCell ⟨g, 1, none⟩ (.int .i64 ((k : Int) + 1))).cell? ⟨b, j, none⟩ = w.cell? ⟨b, j, none⟩ := fun j => World.cell?_of_block (ho b hbg)
  obtain ⟨m1, m2, a', cap', e, hle, h5⟩ := hl
  simp only [Value.slice.injEq] at e
  obtain ⟨rfl, rfl, rfl⟩ := e
  have hsz : (w.setCell ⟨g, 1, none⟩ (.int .i64 ((k : Int) + 1))).heap.size = w.heap.size := by simp
  refine ⟨⟨_, l, k + 1, by simpa using hs, ⟨m1, m2, _, _, rfl, hle, fun t ht => ?_⟩, hlt, by rw [List.tail_drop], ?_⟩, ⟨rfl, rfl, rfl, by simp, fun j _ hj => ho j (fun e => hj (by rw [e]))⟩, by simpa using e0, by simpa using e1, ?_⟩
  · obtain ⟨b1, o1, e2, h6, h7⟩ := h5 t ht
    simp only [Option.some.injEq, Addr.mk.injEq, and_true] at e2
    obtain ⟨rfl, rfl⟩ := e2
    exact ⟨_, _, rfl, by rw [hsz]; exact h6, (hcell _).trans h7⟩
  · intro _ a n c e bb e2
    simp only [Value.slice.injEq] at e
    rw [← e.1] at e2
    cases e2
    exact hbg0
  · obtain ⟨b1, o1, e2, h6, h7⟩ := h5 k hlt
    simp only [Option.some.injEq, Addr.mk.injEq, and_true] at e2
    obtain ⟨rfl, rfl⟩ := e2
    exact (hcell _).trans h7
theorem next_any (g : Nat) (r : List Int) (val n : Int) (w : World) (h : CodesAt w g r val) (h1 : 1 ≤ n) (h2 : n ≤ 256) :
    Calls Try.prog 23 #[.pointer (some ⟨g, 0, none⟩), .int .i64 n] w fun e w' => e = .returned (.int .i64 (nxt r n)) ∧ CodesAt w' g r.tail val ∧ w.grownBy w' (some g) := by
  have h0 := h
  obtain ⟨v, l, k, hg, hl, hk, hr, hv⟩ := h
  have hmx := hl.1
  by_cases hlt : k < l.length
  · obtain ⟨b, off, cap, rfl, hcap, hb, hc⟩ := hl.open (by rintro rfl; simp at hlt)
    have c0 := cell_of_row w g 0 _ _ _ hg
    have c1 := cell_of_row w g 1 _ _ _ hg
    have f1 := frozen_of_row w g 1 _ _ hg
    simp at c0 c1
    have hu := hl.2.1 (l.getD k 0) (by simp [List.getD_eq_getElem?_getD, hlt])
    have ST := Lib.hid fun m q => codes_step (w := w.drewN m) hg (hl.drew m) hlt (hv (by rintro rfl; simp at hlt) _ _ _ rfl _ rfl) q
    have hre : r.isEmpty = false := by rw [hr]; simp; omega
    have hn := Lib.hid (show nxt r n = l.getD k 0 % n by rw [hr, List.drop_eq_getElem_cons hlt]; simp [nxt, List.getD_eq_getElem?_getD, hlt])
    have L := Lib.hid fun w' => left_any g r val w'
    have H0 := Lib.hid h0
    have HR := Lib.hid hr
    have hkx : k ≤ 140737488351232 := by omega
    generalize l.getD k 0 = x at *
    have hx : 0 ≤ x ∧ x < 256 := by rw [hu, IntKind.wrap_u8]; omega
    obtain ⟨hx0, hx1⟩ := hx
    have e1 := Int.tmod_eq_emod_of_nonneg (b := n) hx0
    have e2 := Int.emod_nonneg x (show n ≠ 0 by omega)
    have e3 := Int.emod_lt_of_pos x (show 0 < n by omega)
    have hltI : (k : Int) < l.length := by omega
    clear hg hl hc hv hr h0 hu
    have EX := Lib.hid e1
    clear e1
    go_enter Try.func23, Try.ntmps23
    go_wp2_with (go_at_call 52; refine (L.out _ H0.out).mono ?_; rintro e w' ⟨m, rfl, rfl⟩)
    obtain ⟨s1, s5, s2, s3, s4⟩ := ST.out m 0
    have SS := Lib.hid (And.intro s1 s5)
    clear s1 s5 c0 c1 f1
    generalize (w.drewN m).setCell _ _ = W1 at *
    go_quiet (fail)
    go_wp2
    go_ret
    exact ⟨ret_i64 (hn.out.symm), by rw [HR.out]; exact SS.out.1, ⟨SS.out.2.os, SS.out.2.tape, SS.out.2.output, SS.out.2.size, SS.out.2.block⟩⟩
  · have hr0 : r = [] := by rw [hr]; simp; omega
    subst hr0
    have L := Lib.hid fun w' => left_any g [] val w'
    have H0 := Lib.hid h0
    clear hg hl hv hr h0
    go_enter Try.func23, Try.ntmps23
    go_wp2_with (go_at_call 52; refine (L.out _ H0.out).mono ?_; rintro e w' ⟨m, rfl, rfl⟩)
    go_ret
    exact ⟨rfl, H0.out, ⟨rfl, rfl, rfl, Nat.le_refl _, fun _ _ _ => rfl⟩⟩
theorem new_any (v : Value) (l : List Int) (m : Nat) (w : World) (hl : SlI w .u8 v l) (hm : m ≤ 1000) :
    Calls Try.prog 10 #[v, .int .i64 m] w fun e w' => e = .returned (.pointer (some ⟨w.heap.size, 0, none⟩)) ∧ CodesAt w' w.heap.size (l.take m) 0 ∧ Below w.heap.size w w' := by
  have h0 := hl
  obtain ⟨m1, m2, a, cap, rfl, hcap, h5⟩ := hl
  by_cases hlt : m < l.length
  · obtain ⟨b, off, rfl, hb, -⟩ := h5 m hlt
    have hlen : (l.take m).length = m := by simp; omega
    have hfin : SlI (w.alloc (.cells #[.slice (some ⟨b, off, none⟩) m cap, .int .i64 0, .int .u64 0] 71)) .u8 (.slice (some ⟨b, off, none⟩) m cap) (l.take m) := by
      refine ⟨by omega, fun x hx => m2 x (List.mem_of_mem_take hx), _, cap, by rw [hlen], by omega, fun t ht => ?_⟩
      have ht' : t < m := by simp at ht; omega
      obtain ⟨b', off', e, hb', hc⟩ := h5 t (by omega)
      simp only [Option.some.injEq, Addr.mk.injEq, and_true] at e
      obtain ⟨rfl, rfl⟩ := e
      refine ⟨b, off, rfl, by simp; omega, ?_⟩
      rw [World.cell?_alloc_past _ _ _ hb', hc]
      simp [List.getD_eq_getElem?_getD, ht']
    have HF := Lib.hid hfin
    clear hfin h5
    have hmc : (m : Int) ≤ cap := by omega
    have hb' : b < w.heap.size := hb
    clear hlen h0 m2
    go_enter Try.func10, Try.ntmps10
    go_wp2
    go_ret
    exact ⟨rfl, ⟨_, l.take m, 0, heap_alloc_new w _, HF.out, Nat.zero_le _, rfl, fun _ a n c e b2 e2 => by
      simp only [Value.slice.injEq] at e
      rw [← e.1] at e2
      cases e2
      exact hb'⟩, (Below.refl _ _).alloc (Nat.le_refl _) _⟩
  · have e : l.take m = l := List.take_of_length_le (by omega)
    rw [e]
    have hfin : SlI (w.alloc (.cells #[.slice a l.length cap, .int .i64 0, .int .u64 0] 71)) .u8 (.slice a l.length cap) l := h0.below ((Below.refl _ _).alloc (Nat.le_refl _) _)
    have HF := Lib.hid hfin
    have H5 := Lib.hid h5
    clear hfin h5 e h0 m2
    go_enter Try.func10, Try.ntmps10
    go_wp2
    go_ret
    refine ⟨rfl, ⟨_, l, 0, heap_alloc_new w _, HF.out, Nat.zero_le _, rfl, fun hne a n c e b2 e2 => ?_⟩, (Below.refl _ _).alloc (Nat.le_refl _) _⟩
    simp only [Value.slice.injEq] at e
    obtain ⟨b, off, e3, hb, _⟩ := H5.out 0 (List.length_pos_iff.2 hne)
    rw [← e.1, e3] at e2
    cases e2
    exact hb
end Go.Proofs.Ytckjdlphilpgfaa
/- The reader of choices: what Next returns, whatever the choices are. -/
namespace Go.Proofs.Ytckjdlphilpgfaa
open Go.ChangeShapes Go.WideShapes Go.ChangeAt Go.RowKit
set_option maxRecDepth 100000

def CodesE (w : World) (g : Nat) : Prop := ∃ r val, CodesAt w g r val
theorem CodesE.lt {w : World} {g : Nat} (h : CodesE w g) : g < w.heap.size := by obtain ⟨r, val, h⟩ := h; exact h.lt
theorem CodesE.kept {w w' : World} {g B : Nat} (h : CodesE w g) (hB : g < B) (hb : Below B w w') : CodesE w' g := by
  obtain ⟨r, val, h⟩ := h; exact ⟨r, val, h.kept hB hb⟩
theorem nextE (g : Nat) (n : Int) (w : World) (h : CodesE w g) (h1 : 1 ≤ n) (h2 : n ≤ 256) :
    Calls Try.prog 23 #[.pointer (some ⟨g, 0, none⟩), .int .i64 n] w fun e w' => ∃ x : Int, e = .returned (.int .i64 x) ∧ 0 ≤ x ∧ x < n ∧ CodesE w' g ∧ w.grownBy w' (some g) := by
  obtain ⟨r, val, h⟩ := h
  refine (next_any g r val n w h h1 h2).mono ?_
  rintro e w' ⟨rfl, hc, hg⟩
  have := nxt_bd r n h1
  exact ⟨_, rfl, this.1, this.2, ⟨_, _, hc⟩, hg⟩
end Go.Proofs.Ytckjdlphilpgfaa
/- Layer 14: channels that are drawn. -/
namespace Go.Proofs.Ytckjdlphilpgfaa
open Go.ChangeShapes Go.WideShapes Go.ChangeAt Go.RowKit
set_option maxRecDepth 100000

theorem codes_is {w : World} {g : Nat} (h : CodesE w g) : ∃ cs f, w.heap[g]? = some (.cells cs 71 f) := by
  obtain ⟨r, val, v, l, k, h1, -⟩ := h
  exact ⟨_, _, h1⟩
/-- an element is appended to an owned list; its block is the old one or new -/
theorem step_append_u64n {w : World} {ops : Array Oper} {o : Oper} {a : Act} {K : Act → World → Prop} {Q : Exit → Act → World → Prop} {E : Prop}
    (hgd : o.guard = none) (s x : Operand) (hop : o.op = Op.call { callee := Callee.builtin Builtin.append, args := #[s, x], argTypes := #[32, 32] })
    (base : Nat) (v : Value) (l : List Int) (hs : a.eval s = v) (hown : OwnI w base 23 .u64 v l) (y : Int) (g : Nat)
    (hx : a.eval x = .slice (some ⟨g, 0, none⟩) 1 1) (hcell : w.cell? ⟨g, 0, none⟩ = some (.int .u64 y)) (hl : l.length ≤ 1000000) (hb : base ≤ w.heap.size)
    (hK : ∀ v' w', OwnI w' base 23 .u64 v' (l ++ [y]) → w.grownBy w' v.ownBlock → (v'.ownBlock = v.ownBlock ∨ v'.ownBlock = some w.heap.size) → K (a.put o.dst v') w') :
    if Region.wanted o (yielded ops a.tmps) = true then Oper.wp Try.prog o a w K Q else E := by
  have hw : Region.wanted o (yielded ops a.tmps) = true := by simp [Region.wanted, hgd]
  rw [if_pos hw]
  obtain ⟨i0, hi, hz0, hz1, hz2⟩ := info_parts Try.info_u64
  obtain ⟨v', w', hr, h1, h2, -, h4⟩ := run_append_own_at (P := Try.prog) w base 32 o.type 23 i0 (.int .u64 0) 1 _ (by kernel_rfl) hi hz0 hz1 hz2 rfl (by decide) v l.length _ hown ⟨g, 0, none⟩ 1 1 [.int .u64 y] rfl (fun j u hj => by
    match j, hj with
    | 0, hj => simp at hj; subst hj; simpa [Addr.add] using hcell) (fun u hu => by simp at hu; subst hu; rfl) (by unfold maxLen; omega) (by omega) hb
  refine Lib.wp_append_run w s x _ _ hop _ _ hs hx v' w' hr (hK v' w' ?_ h2 h4)
  unfold OwnI
  rw [List.length_append, List.map_append]
  exact h1
/-- what channels are drawn -/
structure ChR (l : List ChanM) : Prop where
  lo : 1 ≤ l.length
  hi : l.length ≤ 3
  caps : ∀ c ∈ l, 0 ≤ c.cap ∧ c.cap ≤ 16
  bufs : ∀ c ∈ l, c.buf.length ≤ 16
abbrev nilV : Value := .slice none 0 0
/-- while channels are drawn -/
structure ChI (w0 wr : World) (g B gv cv : Nat) (l : List ChanM) (us : List Value) : Prop where
  len : us.length = l.length
  rows : OwnS wr B 69 3 (.slice (some ⟨gv, 0, none⟩) l.length cv) (chRows l us)
  own : ∀ j, j < l.length → OwnI wr B 23 .u64 (us.getD j nilV) (l.getD j noChan).buf
  val : ∀ j, j < l.length → ∀ x ∈ (l.getD j noChan).buf, x = IntKind.u64.wrap x
  cap : ∀ j, j < l.length → 0 ≤ (l.getD j noChan).cap ∧ (l.getD j noChan).cap ≤ 16
  buf : ∀ j, j < l.length → (l.getD j noChan).buf.length ≤ 16
  apart : ∀ a b, a ≠ b → a < l.length → b < l.length → (us.getD a nilV).ownBlock = none ∨ (us.getD a nilV).ownBlock ≠ (us.getD b nilV).ownBlock
  code : CodesE wr g
  grown : w0.grownBy wr (some g)
  gB : g < B
  B0 : w0.heap.size ≤ B
  Bw : B ≤ wr.heap.size
theorem ChI.vg {w0 wr : World} {g B gv cv : Nat} {l : List ChanM} {us : List Value} (h : ChI w0 wr g B gv cv l us) : B ≤ gv ∧ gv < wr.heap.size := h.rows.lt gv rfl
/-- rows and buffers lie in different blocks -/
theorem ChI.off {w0 wr : World} {g B gv cv : Nat} {l : List ChanM} {us : List Value} (h : ChI w0 wr g B gv cv l us) {j : Nat} (hj : j < l.length) : (us.getD j nilV).ownBlock ≠ some gv := fun e => by
  have h1 := h.own j hj
  rcases h1.2 with ⟨h2, _⟩ | ⟨g2, cap, cur, h2, _, hg2, _⟩
  · rw [h2] at e; cases e
  · rw [h2] at e
    simp only [Value.ownBlock, Option.some.injEq] at e
    rcases h.rows.2.2 with ⟨h3, _⟩ | ⟨g3, cap3, cur3, h3, _, hg3, _⟩
    · cases h3
    · simp only [Value.slice.injEq, Option.some.injEq, Addr.mk.injEq] at h3
      rw [← h3.1.1, ← e] at hg3
      rw [hg2] at hg3
      simp only [Option.some.injEq, Obj.cells.injEq] at hg3
      exact absurd hg3.2.1 (by decide)
theorem ChI.draw {w0 wr w2 : World} {g B gv cv : Nat} {l : List ChanM} {us : List Value} (h : ChI w0 wr g B gv cv l us) (hg : wr.grownBy w2 (some g)) (hc : CodesE w2 g) : ChI w0 w2 g B gv cv l us :=
  ⟨h.len, h.rows.kept hg (h.rows.ne h.gB), fun j hj => (h.own j hj).kept hg ((h.own j hj).ne h.gB), h.val, h.cap, h.buf, h.apart, hc, grownBy_trans h.grown hg, h.gB, h.B0, Nat.le_trans h.Bw hg.size⟩
theorem ChI.below {w0 wr w2 : World} {g B gv cv : Nat} {l : List ChanM} {us : List Value} (h : ChI w0 wr g B gv cv l us) (hb : Below wr.heap.size wr w2) : ChI w0 w2 g B gv cv l us :=
  ⟨h.len, h.rows.below hb, fun j hj => (h.own j hj).below hb, h.val, h.cap, h.buf, h.apart, h.code.kept h.code.lt hb, grownBy_of_below h.grown (hb.mono h.grown.size), h.gB, h.B0, Nat.le_trans h.Bw hb.size⟩
theorem codes_row {w w2 : World} {g : Nat} (h : CodesE w g) (hg : w2.heap[g]? = w.heap[g]?) (hs : w.heap.size ≤ w2.heap.size) (hlt : ∀ j, j < g → w2.heap[j]? = w.heap[j]?) : CodesE w2 g := by
  obtain ⟨r, val, v, l, k, h1, h2, h3, h4, h5⟩ := h
  refine ⟨r, val, v, l, k, by rw [hg]; exact h1, ?_, h3, h4, h5⟩
  obtain ⟨q1, q2, a, cap, rfl, q4, q5⟩ := h2
  refine ⟨q1, q2, a, cap, rfl, q4, fun t ht => ?_⟩
  obtain ⟨b, off, rfl, hb, hc⟩ := q5 t ht
  have hbg : b < g := h5 (by intro e; rw [e] at ht; simp at ht) _ _ _ rfl _ rfl
  refine ⟨b, off, rfl, Nat.lt_of_lt_of_le hb hs, ?_⟩
  unfold World.cell? at hc ⊢
  rw [hlt b hbg]
  exact hc
theorem codes_grown {w w2 : World} {g B : Nat} {row : Option Nat} (h : CodesE w g) (hg : w.grownBy w2 row) (hr : ∀ j, row = some j → B ≤ j) (hB : g < B) : CodesE w2 g :=
  codes_row h (hg.block g h.lt (fun e => by have := hr g e.symm; omega)) hg.size (fun j hj => hg.block j (by have := h.lt; omega) (fun e => by have := hr j e.symm; omega))
/-- a value comes to the buffer of channel i -/
theorem ChI.push {w0 wr u2 : World} {g B gv cv i : Nat} {l : List ChanM} {us : List Value} {v6 : Value} {x : Int} (h : ChI w0 wr g B gv cv l us) (hi : i < l.length) (hx : x = IntKind.u64.wrap x) (hl : (l.getD i noChan).buf.length ≤ 15)
    (hg : wr.grownBy u2 (us.getD i nilV).ownBlock) (ho : OwnI u2 B 23 .u64 v6 ((l.getD i noChan).buf ++ [x])) (hn : v6.ownBlock = (us.getD i nilV).ownBlock ∨ v6.ownBlock = some wr.heap.size) :
    ChI w0 (u2.setCell ⟨gv, i * 3 + 1, none⟩ v6) g B gv cv (l.set i { l.getD i noChan with buf := (l.getD i noChan).buf ++ [x] }) (us.set i v6) := by
  have hlen := chRows_length l us h.len
  have hv6 : v6.oneCell' = true := by rcases ho.shape with ⟨rfl, -⟩ | ⟨g2, c2, rfl, -⟩ <;> rfl
  have hob : ∀ j, (us.getD i nilV).ownBlock = some j → B ≤ j := fun j hj => (h.own i hi).own_ge j hj
  have hvg := h.vg
  have hr2 := h.rows.kept hg (.inr fun e => h.off hi e.symm)
  have hcode : CodesE u2 g := codes_grown h.code hg hob h.gB
  have hgr : w0.grownBy u2 (some g) := grownBy_of_new h.grown hg (fun k hk => Nat.le_trans h.B0 (hob k hk))
  have hset : w0.grownBy (u2.setCell ⟨gv, i * 3 + 1, none⟩ v6) (some g) := grownBy_of_new hgr (grownBy_setCell u2 ⟨gv, i * 3 + 1, none⟩ v6) (fun k hk => by cases hk; have := h.B0; show w0.heap.size ≤ gv; omega)
  have hv6g : v6.ownBlock ≠ some gv := fun e => by
    rcases hn with h1 | h1
    · exact h.off hi (h1.symm.trans e)
    · rw [h1] at e; cases e; exact absurd hvg.2 (Nat.lt_irrefl _)
  have hi2 : i < (chRows l us).length := by omega
  refine ⟨by rw [List.length_set, List.length_set]; exact h.len, ?_, fun j hj => ?_, fun j hj => ?_, fun j hj => ?_, fun j hj => ?_, fun a b hab ha hb => ?_, codes_grown hcode (grownBy_setCell u2 ⟨gv, i * 3 + 1, none⟩ v6) (fun j hj => by cases hj; exact hvg.1) h.gB, hset, h.gB, h.B0, ?_⟩
  · rw [List.length_set, ← chRows_set l us i _ _ h.len]
    exact hr2.setCell i hi2 [.int .i64 (l.getD i noChan).cap] [.bool (l.getD i noChan).closed] _ v6 (by rw [chRows_row l us i h.len hi hi2]; rfl) hv6
  · rw [List.length_set] at hj
    rw [getD_setL, getD_setL]
    by_cases hji : i = j
    · rw [if_pos ⟨hji, by rw [h.len]; exact hj⟩, if_pos ⟨hji, hj⟩]
      exact ho.kept (grownBy_setCell u2 ⟨gv, i * 3 + 1, none⟩ v6) (.inr hv6g)
    · rw [if_neg (fun e => hji e.1), if_neg (fun e => hji e.1)]
      exact ((h.own j hj).kept hg (h.apart j i (fun e => hji e.symm) hj hi)).kept (grownBy_setCell u2 ⟨gv, i * 3 + 1, none⟩ v6) (.inr (h.off hj))
  · rw [List.length_set] at hj
    rw [getD_setL]
    split
    · intro y hy
      rcases List.mem_append.1 hy with h1 | h1
      · exact h.val i hi y h1
      · rw [List.mem_singleton.1 h1]; exact hx
    · exact h.val j hj
  · rw [List.length_set] at hj
    rw [getD_setL]
    split
    · exact h.cap i hi
    · exact h.cap j hj
  · rw [List.length_set] at hj
    rw [getD_setL]
    split
    · show ((l.getD i noChan).buf ++ [x]).length ≤ 16
      rw [List.length_append]
      show _ + 1 ≤ 16
      omega
    · exact h.buf j hj
  · rw [List.length_set] at ha hb
    rw [getD_setL, getD_setL, h.len]
    by_cases hia : i = a
    · rw [if_pos ⟨hia, ha⟩, if_neg (fun e => hab (hia.symm.trans e.1))]
      subst hia
      rcases hn with h1 | h1
      · rw [h1]; exact h.apart i b hab ha hb
      · rw [h1]
        refine .inr fun e => ?_
        have := (h.own b hb).2
        rcases (h.own b hb).shape with ⟨e2, -⟩ | ⟨g2, c2, e2, -, hg2, -⟩
        · rw [e2] at e; cases e
        · rw [e2] at e; cases e; exact absurd hg2 (Nat.lt_irrefl _)
    · rw [if_neg (fun e => hia e.1)]
      by_cases hib : i = b
      · rw [if_pos ⟨hib, hb⟩]
        subst hib
        rcases hn with h1 | h1
        · rw [h1]; exact h.apart a i hab ha hb
        · rw [h1]
          rcases (h.own a ha).shape with ⟨e2, -⟩ | ⟨g2, c2, e2, -, hg2, -⟩
          · rw [e2]; exact .inl rfl
          · rw [e2]
            refine .inr fun e => ?_
            cases e; exact absurd hg2 (Nat.lt_irrefl _)
      · rw [if_neg (fun e => hib e.1)]
        exact h.apart a b hab ha hb
  · have := hg.size
    have := h.Bw
    simp
    omega
/-- a channel is open or closed -/
theorem ChI.shut {w0 wr : World} {g B gv cv i : Nat} {l : List ChanM} {us : List Value} {b : Bool} (h : ChI w0 wr g B gv cv l us) (hi : i < l.length) :
    ChI w0 (wr.setCell ⟨gv, i * 3 + 2, none⟩ (.bool b)) g B gv cv (l.set i { l.getD i noChan with closed := b }) us := by
  have hlen := chRows_length l us h.len
  have hvg := h.vg
  have hi2 : i < (chRows l us).length := by omega
  have hset : w0.grownBy (wr.setCell ⟨gv, i * 3 + 2, none⟩ (.bool b)) (some g) := grownBy_of_new h.grown (grownBy_setCell wr ⟨gv, i * 3 + 2, none⟩ (.bool b)) (fun k hk => by cases hk; have := h.B0; show w0.heap.size ≤ gv; omega)
  have hself : us.set i (us.getD i nilV) = us := by
    rw [List.getD_eq_getElem?_getD, List.getElem?_eq_getElem (by rw [h.len]; exact hi)]
    exact List.set_getElem_self (by rw [h.len]; exact hi)
  refine ⟨by rw [List.length_set]; exact h.len, ?_, fun j hj => ?_, fun j hj => ?_, fun j hj => ?_, fun j hj => ?_, fun a b hab ha hb => ?_, codes_grown h.code (grownBy_setCell wr ⟨gv, i * 3 + 2, none⟩ (.bool b)) (fun j hj => by cases hj; exact hvg.1) h.gB, hset, h.gB, h.B0, ?_⟩
  · have h9 := chRows_set l us i { l.getD i noChan with closed := b } (us.getD i nilV) h.len
    rw [hself] at h9
    rw [List.length_set, ← h9]
    exact h.rows.setCell i hi2 [.int .i64 (l.getD i noChan).cap, us.getD i nilV] [] _ (.bool b) (by rw [chRows_row l us i h.len hi hi2]; rfl) rfl
  · rw [List.length_set] at hj
    rw [getD_setL]
    have hk := (h.own j hj).kept (grownBy_setCell wr ⟨gv, i * 3 + 2, none⟩ (.bool b)) (.inr (h.off hj))
    split
    · rename_i e; obtain ⟨rfl, -⟩ := e; exact hk
    · exact hk
  · rw [List.length_set] at hj
    rw [getD_setL]
    split
    · exact h.val i hi
    · exact h.val j hj
  · rw [List.length_set] at hj
    rw [getD_setL]
    split
    · exact h.cap i hi
    · exact h.cap j hj
  · rw [List.length_set] at hj
    rw [getD_setL]
    split
    · exact h.buf i hi
    · exact h.buf j hj
  · rw [List.length_set] at ha hb
    exact h.apart a b hab ha hb
  · have := h.Bw
    simp
    omega
theorem ChI.slH {w0 wr : World} {g B gv cv : Nat} {l : List ChanM} {us : List Value} (h : ChI w0 wr g B gv cv l us) (hl : l.length ≤ 1000000) : SlH wr (.slice (some ⟨gv, 0, none⟩) l.length cv) l :=
  h.rows.slH h.len hl (fun i hi => (h.own i hi).slU (by have := h.buf i hi; omega) (h.val i hi)) (fun c hc => by
    obtain ⟨i, hi, rfl⟩ := List.mem_iff_getElem.1 hc
    have := h.cap i hi
    rw [List.getD_eq_getElem?_getD, List.getElem?_eq_getElem hi] at this
    exact i64_small _ (by have := this.1; simp only [Option.getD_some] at this; omega) (by have := this.2; simp only [Option.getD_some] at this; omega))
theorem ChI.chR {w0 wr : World} {g B gv cv : Nat} {l : List ChanM} {us : List Value} (h : ChI w0 wr g B gv cv l us) (h1 : 1 ≤ l.length) (h2 : l.length ≤ 3) : ChR l :=
  ⟨h1, h2, fun c hc => by
    obtain ⟨i, hi, rfl⟩ := List.mem_iff_getElem.1 hc
    have := h.cap i hi
    rw [List.getD_eq_getElem?_getD, List.getElem?_eq_getElem hi] at this
    exact this, fun c hc => by
    obtain ⟨i, hi, rfl⟩ := List.mem_iff_getElem.1 hc
    have := h.buf i hi
    rw [List.getD_eq_getElem?_getD, List.getElem?_eq_getElem hi] at this
    exact this⟩
theorem ChI.start {w0 w1 w2 : World} {g gv cv : Nat} {caps : List Int} (hg : w0.grownBy w1 (some g)) (hb : Below w1.heap.size w1 w2) (hc : CodesE w1 g) (ho : OwnS w2 w1.heap.size 69 3 (.slice (some ⟨gv, 0, none⟩) caps.length cv) (chRows (nchE caps) (nils caps.length))) (hcap : ∀ x ∈ caps, 0 ≤ x ∧ x ≤ 16) : ChI w0 w2 g w1.heap.size gv cv (nchE caps) (nils caps.length) := by
  refine ⟨by rw [nchE_length]; simp [nils], by rw [nchE_length]; exact ho, fun j hj => ?_, fun j hj => ?_, fun j hj => ?_, fun j hj => ?_, fun a b _ _ _ => ?_, hc.kept hc.lt hb, grownBy_of_below hg (hb.mono hg.size), hc.lt, hg.size, hb.size⟩
  · rw [nchE_length] at hj
    rw [nils_get, nchE_get caps j hj]; exact OwnI.nil _ _ _ _
  · rw [nchE_length] at hj
    rw [nchE_get caps j hj]; intro x hx; cases hx
  · rw [nchE_length] at hj
    rw [nchE_get caps j hj]
    show 0 ≤ caps.getD j 0 ∧ caps.getD j 0 ≤ 16
    rw [List.getD_eq_getElem?_getD, List.getElem?_eq_getElem hj]
    exact hcap _ (List.getElem_mem hj)
  · rw [nchE_length] at hj
    rw [nchE_get caps j hj]; exact Nat.zero_le _
  · rw [nils_get]; exact .inl rfl
end Go.Proofs.Ytckjdlphilpgfaa
