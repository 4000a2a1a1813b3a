import Derived.Deep.DeepCutAuto
import Derived.Deep.CutBlock
import Derived.Deep.RegionHeld3
import Derived.Deep.RegionLaw
import Derived.Test.YtialclohhemkiaaB16
import Derived.Test.YtialclohhemkiaaB17
import Derived.Test.YtialclohhemkiaaB06
import Derived.Test.YtialclohhemkiaaB02
import Derived.Test.YtialclohhemkiaaB08
set_option linter.unusedVariables false
set_option linter.unusedSimpArgs false
/- Layer 14: channels that are drawn. -/
namespace Go.Proofs.Ytialclohhemkiaa
open Go.ChangeShapes Go.WideShapes Go.ChangeAt Go.RowKit
set_option maxRecDepth 100000

theorem codes_is {w : World} {g : Nat} (h : CodesE w g) : ∃ cs f, w.heap[g]? = some (.cells cs 89 f) := by
  obtain ⟨r, val, v, l, k, h1, -⟩ := h
  exact ⟨_, _, h1⟩
/-- an element is appended to an owned list; its block is the old one or new -/
theorem step_append_u64n {w : World} {ops : Array Oper} {o : Oper} {a : Act} {K : Act → World → Prop} {Q : Exit → Act → World → Prop} {E : Prop}
    (hgd : o.guard = none) (s x : Operand) (hop : o.op = Op.call { callee := Callee.builtin Builtin.append, args := #[s, x], argTypes := #[32, 32] })
    (base : Nat) (v : Value) (l : List Int) (hs : a.eval s = v) (hown : OwnI w base 23 .u64 v l) (y : Int) (g : Nat)
    (hx : a.eval x = .slice (some ⟨g, 0, none⟩) 1 1) (hcell : w.cell? ⟨g, 0, none⟩ = some (.int .u64 y)) (hl : l.length ≤ 1000000) (hb : base ≤ w.heap.size)
    (hK : ∀ v' w', OwnI w' base 23 .u64 v' (l ++ [y]) → w.grownBy w' v.ownBlock → (v'.ownBlock = v.ownBlock ∨ v'.ownBlock = some w.heap.size) → K (a.put o.dst v') w') :
    if Region.wanted o (yielded ops a.tmps) = true then Oper.wp Try.prog o a w K Q else E := by
  have hw : Region.wanted o (yielded ops a.tmps) = true := by simp [Region.wanted, hgd]
  rw [if_pos hw]
  obtain ⟨i0, hi, hz0, hz1, hz2⟩ := info_parts Try.info_u64
  obtain ⟨v', w', hr, h1, h2, -, h4⟩ := run_append_own_at (P := Try.prog) w base 32 o.type 23 i0 (.int .u64 0) 1 _ (by kernel_rfl) hi hz0 hz1 hz2 rfl (by decide) v l.length _ hown ⟨g, 0, none⟩ 1 1 [.int .u64 y] rfl (fun j u hj => by
    match j, hj with
    | 0, hj => simp at hj; subst hj; simpa [Addr.add] using hcell) (fun u hu => by simp at hu; subst hu; rfl) (by unfold maxLen; omega) (by omega) hb
  refine Lib.wp_append_run w s x _ _ hop _ _ hs hx v' w' hr (hK v' w' ?_ h2 h4)
  unfold OwnI
  rw [List.length_append, List.map_append]
  exact h1
/-- what channels are drawn -/
structure ChR (l : List ChanM) : Prop where
  lo : 1 ≤ l.length
  hi : l.length ≤ 3
  caps : ∀ c ∈ l, 0 ≤ c.cap ∧ c.cap ≤ 16
  bufs : ∀ c ∈ l, c.buf.length ≤ 16
abbrev nilV : Value := .slice none 0 0
/-- while channels are drawn -/
structure ChI (w0 wr : World) (g B gv cv : Nat) (l : List ChanM) (us : List Value) : Prop where
  len : us.length = l.length
  rows : OwnS wr B 79 3 (.slice (some ⟨gv, 0, none⟩) l.length cv) (chRows l us)
  own : ∀ j, j < l.length → OwnI wr B 23 .u64 (us.getD j nilV) (l.getD j noChan).buf
  val : ∀ j, j < l.length → ∀ x ∈ (l.getD j noChan).buf, x = IntKind.u64.wrap x
  cap : ∀ j, j < l.length → 0 ≤ (l.getD j noChan).cap ∧ (l.getD j noChan).cap ≤ 16
  buf : ∀ j, j < l.length → (l.getD j noChan).buf.length ≤ 16
  apart : ∀ a b, a ≠ b → a < l.length → b < l.length → (us.getD a nilV).ownBlock = none ∨ (us.getD a nilV).ownBlock ≠ (us.getD b nilV).ownBlock
  code : CodesE wr g
  grown : w0.grownBy wr (some g)
  gB : g < B
  B0 : w0.heap.size ≤ B
  Bw : B ≤ wr.heap.size
theorem ChI.vg {w0 wr : World} {g B gv cv : Nat} {l : List ChanM} {us : List Value} (h : ChI w0 wr g B gv cv l us) : B ≤ gv ∧ gv < wr.heap.size := h.rows.lt gv rfl
/-- rows and buffers lie in different blocks -/
theorem ChI.off {w0 wr : World} {g B gv cv : Nat} {l : List ChanM} {us : List Value} (h : ChI w0 wr g B gv cv l us) {j : Nat} (hj : j < l.length) : (us.getD j nilV).ownBlock ≠ some gv := fun e => by
  have h1 := h.own j hj
  rcases h1.2 with ⟨h2, _⟩ | ⟨g2, cap, cur, h2, _, hg2, _⟩
  · rw [h2] at e; cases e
  · rw [h2] at e
    simp only [Value.ownBlock, Option.some.injEq] at e
    rcases h.rows.2.2 with ⟨h3, _⟩ | ⟨g3, cap3, cur3, h3, _, hg3, _⟩
    · cases h3
    · simp only [Value.slice.injEq, Option.some.injEq, Addr.mk.injEq] at h3
      rw [← h3.1.1, ← e] at hg3
      rw [hg2] at hg3
      simp only [Option.some.injEq, Obj.cells.injEq] at hg3
      exact absurd hg3.2.1 (by decide)
theorem ChI.draw {w0 wr w2 : World} {g B gv cv : Nat} {l : List ChanM} {us : List Value} (h : ChI w0 wr g B gv cv l us) (hg : wr.grownBy w2 (some g)) (hc : CodesE w2 g) : ChI w0 w2 g B gv cv l us :=
  ⟨h.len, h.rows.kept hg (h.rows.ne h.gB), fun j hj => (h.own j hj).kept hg ((h.own j hj).ne h.gB), h.val, h.cap, h.buf, h.apart, hc, grownBy_trans h.grown hg, h.gB, h.B0, Nat.le_trans h.Bw hg.size⟩
theorem ChI.below {w0 wr w2 : World} {g B gv cv : Nat} {l : List ChanM} {us : List Value} (h : ChI w0 wr g B gv cv l us) (hb : Below wr.heap.size wr w2) : ChI w0 w2 g B gv cv l us :=
  ⟨h.len, h.rows.below hb, fun j hj => (h.own j hj).below hb, h.val, h.cap, h.buf, h.apart, h.code.kept h.code.lt hb, grownBy_of_below h.grown (hb.mono h.grown.size), h.gB, h.B0, Nat.le_trans h.Bw hb.size⟩
theorem codes_row {w w2 : World} {g : Nat} (h : CodesE w g) (hg : w2.heap[g]? = w.heap[g]?) (hs : w.heap.size ≤ w2.heap.size) (hlt : ∀ j, j < g → w2.heap[j]? = w.heap[j]?) : CodesE w2 g := by
  obtain ⟨r, val, v, l, k, h1, h2, h3, h4, h5⟩ := h
  refine ⟨r, val, v, l, k, by rw [hg]; exact h1, ?_, h3, h4, h5⟩
  obtain ⟨q1, q2, a, cap, rfl, q4, q5⟩ := h2
  refine ⟨q1, q2, a, cap, rfl, q4, fun t ht => ?_⟩
  obtain ⟨b, off, rfl, hb, hc⟩ := q5 t ht
  have hbg : b < g := h5 (by intro e; rw [e] at ht; simp at ht) _ _ _ rfl _ rfl
  refine ⟨b, off, rfl, Nat.lt_of_lt_of_le hb hs, ?_⟩
  unfold World.cell? at hc ⊢
  rw [hlt b hbg]
  exact hc
theorem codes_grown {w w2 : World} {g B : Nat} {row : Option Nat} (h : CodesE w g) (hg : w.grownBy w2 row) (hr : ∀ j, row = some j → B ≤ j) (hB : g < B) : CodesE w2 g :=
  codes_row h (hg.block g h.lt (fun e => by have := hr g e.symm; omega)) hg.size (fun j hj => hg.block j (by have := h.lt; omega) (fun e => by have := hr j e.symm; omega))
/-- a value comes to the buffer of channel i -/
theorem ChI.push {w0 wr u2 : World} {g B gv cv i : Nat} {l : List ChanM} {us : List Value} {v6 : Value} {x : Int} (h : ChI w0 wr g B gv cv l us) (hi : i < l.length) (hx : x = IntKind.u64.wrap x) (hl : (l.getD i noChan).buf.length ≤ 15)
    (hg : wr.grownBy u2 (us.getD i nilV).ownBlock) (ho : OwnI u2 B 23 .u64 v6 ((l.getD i noChan).buf ++ [x])) (hn : v6.ownBlock = (us.getD i nilV).ownBlock ∨ v6.ownBlock = some wr.heap.size) :
    ChI w0 (u2.setCell ⟨gv, i * 3 + 1, none⟩ v6) g B gv cv (l.set i { l.getD i noChan with buf := (l.getD i noChan).buf ++ [x] }) (us.set i v6) := by
  have hlen := chRows_length l us h.len
  have hv6 : v6.oneCell' = true := by rcases ho.shape with ⟨rfl, -⟩ | ⟨g2, c2, rfl, -⟩ <;> rfl
  have hob : ∀ j, (us.getD i nilV).ownBlock = some j → B ≤ j := fun j hj => (h.own i hi).own_ge j hj
  have hvg := h.vg
  have hr2 := h.rows.kept hg (.inr fun e => h.off hi e.symm)
  have hcode : CodesE u2 g := codes_grown h.code hg hob h.gB
  have hgr : w0.grownBy u2 (some g) := grownBy_of_new h.grown hg (fun k hk => Nat.le_trans h.B0 (hob k hk))
  have hset : w0.grownBy (u2.setCell ⟨gv, i * 3 + 1, none⟩ v6) (some g) := grownBy_of_new hgr (grownBy_setCell u2 ⟨gv, i * 3 + 1, none⟩ v6) (fun k hk => by cases hk; have := h.B0; show w0.heap.size ≤ gv; omega)
  have hv6g : v6.ownBlock ≠ some gv := fun e => by
    rcases hn with h1 | h1
    · exact h.off hi (h1.symm.trans e)
    · rw [h1] at e; cases e; exact absurd hvg.2 (Nat.lt_irrefl _)
  have hi2 : i < (chRows l us).length := by omega
  refine ⟨by rw [List.length_set, List.length_set]; exact h.len, ?_, fun j hj => ?_, fun j hj => ?_, fun j hj => ?_, fun j hj => ?_, fun a b hab ha hb => ?_, codes_grown hcode (grownBy_setCell u2 ⟨gv, i * 3 + 1, none⟩ v6) (fun j hj => by cases hj; exact hvg.1) h.gB, hset, h.gB, h.B0, ?_⟩
  · rw [List.length_set, ← chRows_set l us i _ _ h.len]
    exact hr2.setCell i hi2 [.int .i64 (l.getD i noChan).cap] [.bool (l.getD i noChan).closed] _ v6 (by rw [chRows_row l us i h.len hi hi2]; rfl) hv6
  · rw [List.length_set] at hj
    rw [getD_setL, getD_setL]
    by_cases hji : i = j
    · rw [if_pos ⟨hji, by rw [h.len]; exact hj⟩, if_pos ⟨hji, hj⟩]
      exact ho.kept (grownBy_setCell u2 ⟨gv, i * 3 + 1, none⟩ v6) (.inr hv6g)
    · rw [if_neg (fun e => hji e.1), if_neg (fun e => hji e.1)]
      exact ((h.own j hj).kept hg (h.apart j i (fun e => hji e.symm) hj hi)).kept (grownBy_setCell u2 ⟨gv, i * 3 + 1, none⟩ v6) (.inr (h.off hj))
  · rw [List.length_set] at hj
    rw [getD_setL]
    split
    · intro y hy
      rcases List.mem_append.1 hy with h1 | h1
      · exact h.val i hi y h1
      · rw [List.mem_singleton.1 h1]; exact hx
    · exact h.val j hj
  · rw [List.length_set] at hj
    rw [getD_setL]
    split
    · exact h.cap i hi
    · exact h.cap j hj
  · rw [List.length_set] at hj
    rw [getD_setL]
    split
    · show ((l.getD i noChan).buf ++ [x]).length ≤ 16
      rw [List.length_append]
      show _ + 1 ≤ 16
      omega
    · exact h.buf j hj
  · rw [List.length_set] at ha hb
    rw [getD_setL, getD_setL, h.len]
    by_cases hia : i = a
    · rw [if_pos ⟨hia, ha⟩, if_neg (fun e => hab (hia.symm.trans e.1))]
      subst hia
      rcases hn with h1 | h1
      · rw [h1]; exact h.apart i b hab ha hb
      · rw [h1]
        refine .inr fun e => ?_
        have := (h.own b hb).2
        rcases (h.own b hb).shape with ⟨e2, -⟩ | ⟨g2, c2, e2, -, hg2, -⟩
        · rw [e2] at e; cases e
        · rw [e2] at e; cases e; exact absurd hg2 (Nat.lt_irrefl _)
    · rw [if_neg (fun e => hia e.1)]
      by_cases hib : i = b
      · rw [if_pos ⟨hib, hb⟩]
        subst hib
        rcases hn with h1 | h1
        · rw [h1]; exact h.apart a i hab ha hb
        · rw [h1]
          rcases (h.own a ha).shape with ⟨e2, -⟩ | ⟨g2, c2, e2, -, hg2, -⟩
          · rw [e2]; exact .inl rfl
          · rw [e2]
            refine .inr fun e => ?_
            cases e; exact absurd hg2 (Nat.lt_irrefl _)
      · rw [if_neg (fun e => hib e.1)]
        exact h.apart a b hab ha hb
  · have := hg.size
    have := h.Bw
    simp
    omega
/-- a channel is open or closed -/
theorem ChI.shut {w0 wr : World} {g B gv cv i : Nat} {l : List ChanM} {us : List Value} {b : Bool} (h : ChI w0 wr g B gv cv l us) (hi : i < l.length) :
    ChI w0 (wr.setCell ⟨gv, i * 3 + 2, none⟩ (.bool b)) g B gv cv (l.set i { l.getD i noChan with closed := b }) us := by
  have hlen := chRows_length l us h.len
  have hvg := h.vg
  have hi2 : i < (chRows l us).length := by omega
  have hset : w0.grownBy (wr.setCell ⟨gv, i * 3 + 2, none⟩ (.bool b)) (some g) := grownBy_of_new h.grown (grownBy_setCell wr ⟨gv, i * 3 + 2, none⟩ (.bool b)) (fun k hk => by cases hk; have := h.B0; show w0.heap.size ≤ gv; omega)
  have hself : us.set i (us.getD i nilV) = us := by
    rw [List.getD_eq_getElem?_getD, List.getElem?_eq_getElem (by rw [h.len]; exact hi)]
    exact List.set_getElem_self (by rw [h.len]; exact hi)
  refine ⟨by rw [List.length_set]; exact h.len, ?_, fun j hj => ?_, fun j hj => ?_, fun j hj => ?_, fun j hj => ?_, fun a b hab ha hb => ?_, codes_grown h.code (grownBy_setCell wr ⟨gv, i * 3 + 2, none⟩ (.bool b)) (fun j hj => by cases hj; exact hvg.1) h.gB, hset, h.gB, h.B0, ?_⟩
  · have h9 := chRows_set l us i { l.getD i noChan with closed := b } (us.getD i nilV) h.len
    rw [hself] at h9
    rw [List.length_set, ← h9]
    exact h.rows.setCell i hi2 [.int .i64 (l.getD i noChan).cap, us.getD i nilV] [] _ (.bool b) (by rw [chRows_row l us i h.len hi hi2]; rfl) rfl
  · rw [List.length_set] at hj
    rw [getD_setL]
    have hk := (h.own j hj).kept (grownBy_setCell wr ⟨gv, i * 3 + 2, none⟩ (.bool b)) (.inr (h.off hj))
    split
    · rename_i e; obtain ⟨rfl, -⟩ := e; exact hk
    · exact hk
  · rw [List.length_set] at hj
    rw [getD_setL]
    split
    · exact h.val i hi
    · exact h.val j hj
  · rw [List.length_set] at hj
    rw [getD_setL]
    split
    · exact h.cap i hi
    · exact h.cap j hj
  · rw [List.length_set] at hj
    rw [getD_setL]
    split
    · exact h.buf i hi
    · exact h.buf j hj
  · rw [List.length_set] at ha hb
    exact h.apart a b hab ha hb
  · have := h.Bw
    simp
    omega
theorem ChI.slH {w0 wr : World} {g B gv cv : Nat} {l : List ChanM} {us : List Value} (h : ChI w0 wr g B gv cv l us) (hl : l.length ≤ 1000000) : SlH wr (.slice (some ⟨gv, 0, none⟩) l.length cv) l :=
  h.rows.slH h.len hl (fun i hi => (h.own i hi).slU (by have := h.buf i hi; omega) (h.val i hi)) (fun c hc => by
    obtain ⟨i, hi, rfl⟩ := List.mem_iff_getElem.1 hc
    have := h.cap i hi
    rw [List.getD_eq_getElem?_getD, List.getElem?_eq_getElem hi] at this
    exact i64_small _ (by have := this.1; simp only [Option.getD_some] at this; omega) (by have := this.2; simp only [Option.getD_some] at this; omega))
theorem ChI.chR {w0 wr : World} {g B gv cv : Nat} {l : List ChanM} {us : List Value} (h : ChI w0 wr g B gv cv l us) (h1 : 1 ≤ l.length) (h2 : l.length ≤ 3) : ChR l :=
  ⟨h1, h2, fun c hc => by
    obtain ⟨i, hi, rfl⟩ := List.mem_iff_getElem.1 hc
    have := h.cap i hi
    rw [List.getD_eq_getElem?_getD, List.getElem?_eq_getElem hi] at this
    exact this, fun c hc => by
    obtain ⟨i, hi, rfl⟩ := List.mem_iff_getElem.1 hc
    have := h.buf i hi
    rw [List.getD_eq_getElem?_getD, List.getElem?_eq_getElem hi] at this
    exact this⟩
theorem ChI.start {w0 w1 w2 : World} {g gv cv : Nat} {caps : List Int} (hg : w0.grownBy w1 (some g)) (hb : Below w1.heap.size w1 w2) (hc : CodesE w1 g) (ho : OwnS w2 w1.heap.size 79 3 (.slice (some ⟨gv, 0, none⟩) caps.length cv) (chRows (nchE caps) (nils caps.length))) (hcap : ∀ x ∈ caps, 0 ≤ x ∧ x ≤ 16) : ChI w0 w2 g w1.heap.size gv cv (nchE caps) (nils caps.length) := by
  refine ⟨by rw [nchE_length]; simp [nils], by rw [nchE_length]; exact ho, fun j hj => ?_, fun j hj => ?_, fun j hj => ?_, fun j hj => ?_, fun a b _ _ _ => ?_, hc.kept hc.lt hb, grownBy_of_below hg (hb.mono hg.size), hc.lt, hg.size, hb.size⟩
  · rw [nchE_length] at hj
    rw [nils_get, nchE_get caps j hj]; exact OwnI.nil _ _ _ _
  · rw [nchE_length] at hj
    rw [nchE_get caps j hj]; intro x hx; cases hx
  · rw [nchE_length] at hj
    rw [nchE_get caps j hj]
    show 0 ≤ caps.getD j 0 ∧ caps.getD j 0 ≤ 16
    rw [List.getD_eq_getElem?_getD, List.getElem?_eq_getElem hj]
    exact hcap _ (List.getElem_mem hj)
  · rw [nchE_length] at hj
    rw [nchE_get caps j hj]; exact Nat.zero_le _
  · rw [nils_get]; exact .inl rfl
end Go.Proofs.Ytialclohhemkiaa
/- The reader of choices: configurations. -/
namespace Go.Proofs.Ytialclohhemkiaa
open Go.ChangeShapes Go.WideShapes Go.ChangeAt Go.RowKit
set_option maxRecDepth 100000
def capsArr : Array Value := #[.int .i64 0, .int .i64 1, .int .i64 2, .int .i64 0, .int .i64 1, .int .i64 3]
def startsArr : Array Value := #[.int .u64 0, .int .u64 1, .int .u64 9223372036854775807, .int .u64 9223372036854775806, .int .u64 4611686018427387904, .int .u64 5]
/-- while a configuration is built: the reader, the two tables, the variable in block R + 3 with its two lists -/
structure CfgInv (w0 w : World) (g : Nat) (val : Int) (R : Nat) (vc vs : Value) (caps starts r : List Int) : Prop where
  lt : g < R
  eq : R = w0.heap.size
  codes : CodesAt w g r val
  grown : w0.grownBy w (some g)
  res : w.heap[R]? = some (.cells #[.slice none 0 0, .slice none 0 0, .int .i64 0] 34 (0, 0))
  lc : w.heap[R + 1]? = some (.cells capsArr 3 (0, 0))
  ls : w.heap[R + 2]? = some (.cells startsArr 23 (0, 0))
  box : w.heap[R + 3]? = some (.cells #[vc, vs, .int .i64 0] 34 (0, 0))
  oc : OwnI w (R + 4) 3 .i64 vc caps
  os : OwnI w (R + 4) 23 .u64 vs starts
theorem CfgInv.size {w0 w : World} {g : Nat} {val : Int} {R : Nat} {vc vs : Value} {caps starts r : List Int} (h : CfgInv w0 w g val R vc vs caps starts r) : R + 4 ≤ w.heap.size :=
  (Array.getElem?_eq_some_iff.1 h.box).1
theorem CfgInv.next {w0 w w' : World} {g : Nat} {val : Int} {R : Nat} {vc vs : Value} {caps starts r r' : List Int} (h : CfgInv w0 w g val R vc vs caps starts r) (hc : CodesAt w' g r' val) (hg : w.grownBy w' (some g)) :
    CfgInv w0 w' g val R vc vs caps starts r' := by
  have hs := h.size
  have hl := h.lt
  have b : ∀ j, R ≤ j → j < R + 4 → w'.heap[j]? = w.heap[j]? := fun j h1 h2 => hg.block j (by omega) (by simp; omega)
  exact ⟨hl, h.eq, hc, grownBy_trans h.grown hg, (b R (by omega) (by omega)).trans h.res, (b (R + 1) (by omega) (by omega)).trans h.lc, (b (R + 2) (by omega) (by omega)).trans h.ls, (b (R + 3) (by omega) (by omega)).trans h.box,
    h.oc.kept hg (h.oc.ne (by omega)), h.os.kept hg (h.os.ne (by omega))⟩
theorem own_apart {w : World} {b1 b2 : Nat} {e1 e2 : TypeId} {k1 k2 : IntKind} {v1 v2 : Value} {l1 l2 : List Int} (h1 : OwnI w b1 e1 k1 v1 l1) (h2 : OwnI w b2 e2 k2 v2 l2) (he : e1 ≠ e2) : v1.ownBlock = none ∨ v1.ownBlock ≠ v2.ownBlock := by
  rcases h1.2 with ⟨rfl, _⟩ | ⟨g, cap, cur, rfl, _, hg, _⟩
  · exact .inl rfl
  · rcases h2.2 with ⟨rfl, _⟩ | ⟨g', cap', cur', rfl, _, hg', _⟩
    · exact .inr (by simp [Value.ownBlock])
    · refine .inr ?_
      simp only [Value.ownBlock, ne_eq, Option.some.injEq]
      intro e
      rw [e, hg'] at hg
      simp at hg
      exact he hg.2.symm
theorem CfgInv.spot {w0 w w1 : World} {g : Nat} {val : Int} {R : Nat} {vc vs : Value} {caps starts r : List Int} {row : Option Nat} (h : CfgInv w0 w g val R vc vs caps starts r) (o : Obj) (hg : (w.alloc o).grownBy w1 row) (hge : ∀ j, row = some j → R + 4 ≤ j) :
    (w1.cell? ⟨R + 3, 0, none⟩ = some vc ∧ w1.frozen? ⟨R + 3, 0, none⟩ = false) ∧ (w1.cell? ⟨R + 3, 1, none⟩ = some vs ∧ w1.frozen? ⟨R + 3, 1, none⟩ = false) := by
  have hs := h.size
  have hb : Below (R + 4) w w1 := ((Below.refl (R + 4) w).alloc hs o).grown hg (by simp; omega) hge
  have hbox := (hb.block (R + 3) (by omega)).trans h.box
  exact ⟨⟨cell_of_row w1 (R + 3) 0 _ _ _ hbox, frozen_of_row w1 (R + 3) 0 _ _ hbox⟩, ⟨cell_of_row w1 (R + 3) 1 _ _ _ hbox, frozen_of_row w1 (R + 3) 1 _ _ hbox⟩⟩
theorem OwnI.shape_ne {w : World} {base : Nat} {e : TypeId} {k : IntKind} {v : Value} {l : List Int} {y : Int} (h : OwnI w base e k v (l ++ [y])) : ∃ g cap, v = .slice (some ⟨g, 0, none⟩) (l.length + 1) cap := by
  rcases h.shape with ⟨_, h1⟩ | ⟨g, cap, h1, _⟩
  · exact absurd h1 (by simp)
  · exact ⟨g, cap, by simpa using h1⟩
/-- one more capacity: what was appended is stored in the variable -/
theorem CfgInv.addCap {w0 w w1 : World} {g : Nat} {val : Int} {R : Nat} {vc vs vc' : Value} {caps starts r caps' : List Int} (h : CfgInv w0 w g val R vc vs caps starts r) (o : Obj) (ho : OwnI w1 (R + 4) 3 .i64 vc' caps') (hg : (w.alloc o).grownBy w1 vc.ownBlock) :
    CfgInv w0 (w1.setCell ⟨R + 3, 0, none⟩ vc') g val R vc' vs caps' starts r := by
  have hs := h.size
  have hl := h.lt
  have hge : ∀ j, vc.ownBlock = some j → R + 4 ≤ j := h.oc.own_ge
  have hb : Below (R + 4) w w1 := ((Below.refl (R + 4) w).alloc hs o).grown hg (by simp; omega) hge
  have b : ∀ j, j < R + 4 → w1.heap[j]? = w.heap[j]? := fun j h1 => hb.block j h1
  have b2 : ∀ j, j ≠ R + 3 → (w1.setCell ⟨R + 3, 0, none⟩ vc').heap[j]? = w1.heap[j]? := fun j hj => heap_setCell_other w1 ⟨R + 3, 0, none⟩ j _ hj
  have hbox := (b (R + 3) (by omega)).trans h.box
  have hos : OwnI w1 (R + 4) 23 .u64 vs starts := (h.os.alloc o).kept hg (own_apart (h.os.alloc o) (h.oc.alloc o) (by decide))
  have hsb : Below (R + 3) w1 (w1.setCell ⟨R + 3, 0, none⟩ vc') := (Below.refl (R + 3) w1).setCell (p := ⟨R + 3, 0, none⟩) (Nat.le_refl _) _
  refine ⟨hl, h.eq, (h.codes.kept (B := R + 4) (by omega) hb).kept (B := R + 3) (by omega) hsb, ?_, (b2 R (by omega)).trans ((b R (by omega)).trans h.res), (b2 (R + 1) (by omega)).trans ((b (R + 1) (by omega)).trans h.lc), (b2 (R + 2) (by omega)).trans ((b (R + 2) (by omega)).trans h.ls), ?_,
    ho.kept (grownBy_setCell w1 ⟨R + 3, 0, none⟩ vc') (ho.ne (by simp)), hos.kept (grownBy_setCell w1 ⟨R + 3, 0, none⟩ vc') (hos.ne (by simp))⟩
  · have e := h.eq
    exact grownBy_of_below (grownBy_of_below h.grown (hb.mono (by omega))) ((hsb).mono (by omega))
  · have := heap_setCell_same w1 (R + 3) 0 _ _ vc' hbox
    simpa using this
theorem CfgInv.addStart {w0 w w1 : World} {g : Nat} {val : Int} {R : Nat} {vc vs vs' : Value} {caps starts r starts' : List Int} (h : CfgInv w0 w g val R vc vs caps starts r) (o : Obj) (ho : OwnI w1 (R + 4) 23 .u64 vs' starts') (hg : (w.alloc o).grownBy w1 vs.ownBlock) :
    CfgInv w0 (w1.setCell ⟨R + 3, 1, none⟩ vs') g val R vc vs' caps starts' r := by
  have hs := h.size
  have hl := h.lt
  have hge : ∀ j, vs.ownBlock = some j → R + 4 ≤ j := h.os.own_ge
  have hb : Below (R + 4) w w1 := ((Below.refl (R + 4) w).alloc hs o).grown hg (by simp; omega) hge
  have b : ∀ j, j < R + 4 → w1.heap[j]? = w.heap[j]? := fun j h1 => hb.block j h1
  have b2 : ∀ j, j ≠ R + 3 → (w1.setCell ⟨R + 3, 1, none⟩ vs').heap[j]? = w1.heap[j]? := fun j hj => heap_setCell_other w1 ⟨R + 3, 1, none⟩ j _ hj
  have hbox := (b (R + 3) (by omega)).trans h.box
  have hoc : OwnI w1 (R + 4) 3 .i64 vc caps := (h.oc.alloc o).kept hg (own_apart (h.oc.alloc o) (h.os.alloc o) (by decide))
  have hsb : Below (R + 3) w1 (w1.setCell ⟨R + 3, 1, none⟩ vs') := (Below.refl (R + 3) w1).setCell (p := ⟨R + 3, 1, none⟩) (Nat.le_refl _) _
  refine ⟨hl, h.eq, (h.codes.kept (B := R + 4) (by omega) hb).kept (B := R + 3) (by omega) hsb, ?_, (b2 R (by omega)).trans ((b R (by omega)).trans h.res), (b2 (R + 1) (by omega)).trans ((b (R + 1) (by omega)).trans h.lc), (b2 (R + 2) (by omega)).trans ((b (R + 2) (by omega)).trans h.ls), ?_,
    hoc.kept (grownBy_setCell w1 ⟨R + 3, 1, none⟩ vs') (hoc.ne (by simp)), ho.kept (grownBy_setCell w1 ⟨R + 3, 1, none⟩ vs') (ho.ne (by simp))⟩
  · have e := h.eq
    exact grownBy_of_below (grownBy_of_below h.grown (hb.mono (by omega))) ((hsb).mono (by omega))
  · have := heap_setCell_same w1 (R + 3) 1 _ _ vs' hbox
    simpa using this
theorem undrew {a b : World} {row : Option Nat} (h : a.drew.grownBy b row) : a.grownBy b row := ⟨h.os, h.tape, h.output, h.size, h.block⟩
theorem nxt_nat (r : List Int) (n : Int) (h : 1 ≤ n) : ∃ p : Nat, nxt r n = p ∧ (p : Int) < n := by
  have := nxt_bd r n (by omega)
  exact ⟨(nxt r n).toNat, by omega, by omega⟩
theorem caps_at (w : World) (b p : Nat) (hp : p < 6) (h : w.heap[b]? = some (.cells capsArr 3 (0, 0))) : ∃ q : Int, w.cell? ⟨b, p, none⟩ = some (.int .i64 q) ∧ 0 ≤ q ∧ q ≤ 3 := by
  rw [cell_of_row w b p _ _ _ h]
  obtain rfl | rfl | rfl | rfl | rfl | rfl : p = 0 ∨ p = 1 ∨ p = 2 ∨ p = 3 ∨ p = 4 ∨ p = 5 := by omega
  all_goals exact ⟨_, rfl, by decide, by decide⟩
theorem starts_at (w : World) (b p : Nat) (hp : p < 6) (h : w.heap[b]? = some (.cells startsArr 23 (0, 0))) : ∃ q : Int, w.cell? ⟨b, p, none⟩ = some (.int .u64 q) ∧ Hid (0 ≤ q ∧ q < 9223372036854775808) := by
  rw [cell_of_row w b p _ _ _ h]
  obtain rfl | rfl | rfl | rfl | rfl | rfl : p = 0 ∨ p = 1 ∨ p = 2 ∨ p = 3 ∨ p = 4 ∨ p = 5 := by omega
  all_goals exact ⟨_, rfl, Lib.hid (by decide)⟩
def CfgOk (caps starts : List Int) (k : Nat) : Prop := caps.length = k ∧ starts.length = k ∧ (∀ x ∈ caps, 0 ≤ x ∧ x ≤ 3) ∧ ∀ x ∈ starts, 0 ≤ x ∧ x < 9223372036854775808
theorem CfgOk.snoc {caps starts : List Int} {k : Nat} (h : CfgOk caps starts k) (q s : Int) (hq : 0 ≤ q ∧ q ≤ 3) (hs : 0 ≤ s ∧ s < 9223372036854775808) : CfgOk (caps ++ [q]) (starts ++ [s]) (k + 1) := by
  obtain ⟨h1, h2, h3, h4⟩ := h
  refine ⟨by simp [h1], by simp [h2], fun x hx => ?_, fun x hx => ?_⟩
  · simp at hx; rcases hx with hx | rfl
    · exact h3 x hx
    · exact hq
  · simp at hx; rcases hx with hx | rfl
    · exact h4 x hx
    · exact hs
theorem CfgInv.start (w : World) (g : Nat) (r : List Int) (val : Int) (h : CodesAt w g r val) :
    CfgInv w ((((w.alloc (.cells #[.slice none 0 0, .slice none 0 0, .int .i64 0] 34)).alloc (.cells capsArr 3)).alloc (.cells startsArr 23)).alloc (.cells #[.slice none 0 0, .slice none 0 0, .int .i64 0] 34))
      g val w.heap.size (.slice none 0 0) (.slice none 0 0) [] [] r := by
  have hb : Below w.heap.size w ((((w.alloc (.cells #[.slice none 0 0, .slice none 0 0, .int .i64 0] 34)).alloc (.cells capsArr 3)).alloc (.cells startsArr 23)).alloc (.cells #[.slice none 0 0, .slice none 0 0, .int .i64 0] 34)) :=
    below_new (below_new (below_new (below_new (Below.refl _ _) _) _) _) _
  refine ⟨h.lt, rfl, h.kept h.lt hb, grownBy_of_below (grownBy_refl _ _) hb, ?_, ?_, ?_, ?_, OwnI.nil _ _ _ _, OwnI.nil _ _ _ _⟩
  · rw [heap_alloc_old _ _ (by simp <;> omega), heap_alloc_old _ _ (by simp <;> omega), heap_alloc_old _ _ (by simp <;> omega), heap_alloc_new]
  · rw [heap_alloc_old _ _ (by simp <;> omega), heap_alloc_old _ _ (by simp <;> omega)]
    have := heap_alloc_new (w.alloc (.cells #[.slice none 0 0, .slice none 0 0, .int .i64 0] 34)) (.cells capsArr 3)
    simpa using this
  · rw [heap_alloc_old _ _ (by simp <;> omega)]
    have := heap_alloc_new ((w.alloc (.cells #[.slice none 0 0, .slice none 0 0, .int .i64 0] 34)).alloc (.cells capsArr 3)) (.cells startsArr 23)
    simpa using this
  · have := heap_alloc_new (((w.alloc (.cells #[.slice none 0 0, .slice none 0 0, .int .i64 0] 34)).alloc (.cells capsArr 3)).alloc (.cells startsArr 23)) (.cells #[.slice none 0 0, .slice none 0 0, .int .i64 0] 34)
    simpa using this
theorem CfgInv.fin {w0 w : World} {g : Nat} {val : Int} {R k : Nat} {vc vs : Value} {caps starts r : List Int} (h : CfgInv w0 w g val R vc vs caps starts r) (hok : CfgOk caps starts k) (hk : k ≤ 100) (a b c d : Value) :
    SlI ((((w.setCell ⟨R + 3, 2, none⟩ a).setCell ⟨R, 0, none⟩ b).setCell ⟨R, 1, none⟩ c).setCell ⟨R, 2, none⟩ d) .i64 vc caps ∧
    SlI ((((w.setCell ⟨R + 3, 2, none⟩ a).setCell ⟨R, 0, none⟩ b).setCell ⟨R, 1, none⟩ c).setCell ⟨R, 2, none⟩ d) .u64 vs starts ∧
    CodesAt ((((w.setCell ⟨R + 3, 2, none⟩ a).setCell ⟨R, 0, none⟩ b).setCell ⟨R, 1, none⟩ c).setCell ⟨R, 2, none⟩ d) g r val ∧
    w0.grownBy ((((w.setCell ⟨R + 3, 2, none⟩ a).setCell ⟨R, 0, none⟩ b).setCell ⟨R, 1, none⟩ c).setCell ⟨R, 2, none⟩ d) (some g) ∧
    OwnI ((((w.setCell ⟨R + 3, 2, none⟩ a).setCell ⟨R, 0, none⟩ b).setCell ⟨R, 1, none⟩ c).setCell ⟨R, 2, none⟩ d) (R + 4) 3 .i64 vc caps ∧ OwnI ((((w.setCell ⟨R + 3, 2, none⟩ a).setCell ⟨R, 0, none⟩ b).setCell ⟨R, 1, none⟩ c).setCell ⟨R, 2, none⟩ d) (R + 4) 23 .u64 vs starts := by
  obtain ⟨o1, o2, o3, o4⟩ := hok
  have hb : Below R w ((((w.setCell ⟨R + 3, 2, none⟩ a).setCell ⟨R, 0, none⟩ b).setCell ⟨R, 1, none⟩ c).setCell ⟨R, 2, none⟩ d) :=
    ((((Below.refl R w).setCell (p := ⟨R + 3, 2, none⟩) (by simp) a).setCell (p := ⟨R, 0, none⟩) (Nat.le_refl _) b).setCell (p := ⟨R, 1, none⟩) (Nat.le_refl _) c).setCell (p := ⟨R, 2, none⟩) (Nat.le_refl _) d
  have keep : ∀ {e k v l}, OwnI w (R + 4) e k v l → OwnI ((((w.setCell ⟨R + 3, 2, none⟩ a).setCell ⟨R, 0, none⟩ b).setCell ⟨R, 1, none⟩ c).setCell ⟨R, 2, none⟩ d) (R + 4) e k v l := fun ho => by
    have h1 := ho.kept (grownBy_setCell w ⟨R + 3, 2, none⟩ a) (ho.ne (by simp))
    have h2 := h1.kept (grownBy_setCell _ ⟨R, 0, none⟩ b) (h1.ne (by simp))
    have h3 := h2.kept (grownBy_setCell _ ⟨R, 1, none⟩ c) (h2.ne (by simp))
    exact h3.kept (grownBy_setCell _ ⟨R, 2, none⟩ d) (h3.ne (by simp))
  refine ⟨(keep h.oc).read (by omega) fun x hx => ?_, (keep h.os).read (by omega) fun x hx => ?_, h.codes.kept h.lt hb, grownBy_of_below h.grown (hb.mono (by rw [h.eq]; exact Nat.le_refl _)), keep h.oc, keep h.os⟩
  · have := o3 x hx; exact i64_ok x (by omega) (by omega)
  · have := o4 x hx; rw [IntKind.wrap_u64]; omega
set_option maxRecDepth 100000 in
set_option maxHeartbeats 1000000 in
theorem config_own (g : Nat) (r : List Int) (val : Int) (w : World) (h : CodesAt w g r val) :
    Calls Try.prog 20 #[.pointer (some ⟨g, 0, none⟩)] w fun e w' => ∃ vc vs t caps starts r', e = .returned (.agg #[vc, vs, .int .i64 t]) ∧
      SlI w' .i64 vc caps ∧ SlI w' .u64 vs starts ∧ caps.length = starts.length ∧ 1 ≤ caps.length ∧ caps.length ≤ 3 ∧ 2 ≤ t ∧ t ≤ 4 ∧ CodesAt w' g r' val ∧ w.grownBy w' (some g) ∧ offB g vc ∧ offB g vs ∧ CfgOk caps starts caps.length ∧ OwnI w' w.heap.size 3 .i64 vc caps ∧ OwnI w' w.heap.size 23 .u64 vs starts := by
  have hgl := h.lt
  go_enter Try.func20, Try.ntmps20
  have ST := Lib.hid (CfgInv.start w g r val h)
  go_wp2_with fail
  rw [show w.heap.size + 1 + 1 + 1 = w.heap.size + 3 from rfl, show w.heap.size + 1 + 1 = w.heap.size + 2 from rfl]
  generalize hRR : w.heap.size = R at *
  clear hRR
  go_loopw [6] (fun c wr => ∃ k : Nat, ∃ vc vs caps starts r', k ≤ 3 ∧ c = .int .i64 k ∧ Hid (CfgInv w wr g val R vc vs caps starts r') ∧ Hid (CfgOk caps starts k)) (fun c _ => 4 - (intOf c).toNat)
  case atStart => exact ⟨0, _, _, _, _, _, by omega, rfl, ST, rfl, rfl, by simp, by simp⟩
  case round =>
    clear ST
    obtain ⟨k, vc, vs, caps, starts, r', hk, rfl, hI, hL⟩ := hrel
    obtain ⟨wo, rfl⟩ : ∃ wo : World, wo = wr := ⟨_, rfl⟩
    go_wp2_with fail
    refine (next_any g r' val 3 _ hI.out.codes (by omega) (by omega)).mono ?_; rintro e w1 ⟨rfl, hc1, hg1⟩
    have nb := nxt_bd r' 3 (by omega)
    generalize nxt r' 3 = y at *
    have hI1 := Lib.hid (hI.out.next hc1 hg1)
    clear hI hc1 hg1
    by_cases hlt : (k : Int) ≤ y
    · go_wp2_with fail
      have c0 := cell_of_row w1 (R + 3) 0 _ _ _ hI1.out.box
      simp at c0
      go_region_law (first
          | (refine step_append_i64 (by rfl) _ _ (by rfl) (R + 4) vc caps (by rfl) (hI2.out.oc.alloc _) q _ (by rfl) (by exact World.cell?_alloc_at _ _ _ _ rfl) (by rw [hL.out.1]; omega) (by have := hI2.out.size; simp; omega) ?_; intro vc2 w3 ho3 hg3; obtain ⟨gg, cg, hvc2⟩ := OwnI.shape_ne ho3; obtain ⟨⟨c3, f3⟩, -⟩ := hI2.out.spot _ hg3 hI2.out.oc.own_ge; subst hvc2)
          | (go_simp; go_at_call 22; refine (next_any g _ val 6 _ (by exact hI1.out.codes) (by omega) (by omega)).mono ?_; rintro e w2 ⟨rfl, hc2, hg2⟩; have hI2 := Lib.hid (hI1.out.next hc2 (undrew hg2)); obtain ⟨p, hp, hp6⟩ := nxt_nat (List.tail r') 6 (by omega); rw [hp]; obtain ⟨q, hq, hq3⟩ := caps_at w2 (R + 1) p (by omega) hI2.out.lc; have c0 := cell_of_row w2 (R + 3) 0 _ _ _ hI2.out.box; have f0 := frozen_of_row w2 (R + 3) 0 _ _ hI2.out.box; have z2 : R + 3 < w2.heap.size := (by have := hI2.out.size; omega); simp at c0))
      all_goals
        have hI3 := Lib.hid (hI2.out.addCap _ ho3 hg3)
        have HQ3 := Lib.hid hq3
        generalize hc2e : caps ++ [q] = caps2 at *
        have HC2 := Lib.hid hc2e
        generalize (Value.slice (some ⟨gg, 0, none⟩) (caps.length + 1) cg) = vc2 at *
        clear hI1 hI2 ho3 hg3 hc2 hg2 c0 f0 c3 f3 z2 hq hq3 hp hp6 hc2e
        go_wp2_with fail
        generalize w3.setCell ⟨R + 3, 0, none⟩ vc2 = W3 at *
        have d0 := cell_of_row W3 (R + 3) 1 _ _ _ hI3.out.box
        simp at d0
        go_region_law (first
          | (refine step_append_u64 (by rfl) _ _ (by rfl) (R + 4) vs starts (by rfl) (hI4.out.os.alloc _) q4 _ (by rfl) (by exact World.cell?_alloc_at _ _ _ _ rfl) (by rw [hL.out.2.1]; omega) (by have := hI4.out.size; simp; omega) ?_; intro vs2 w5 ho5 hg5; obtain ⟨gg5, cg5, hvs2⟩ := OwnI.shape_ne ho5; obtain ⟨-, ⟨c5, f5⟩⟩ := hI4.out.spot _ hg5 hI4.out.os.own_ge; subst hvs2)
          | (go_simp; go_at_call 22; refine (next_any g _ val 6 _ (by exact hI3.out.codes) (by omega) (by omega)).mono ?_; rintro e w4 ⟨rfl, hc4, hg4⟩; have hI4 := Lib.hid (hI3.out.next hc4 (undrew hg4)); obtain ⟨p4, hp4, hp64⟩ := nxt_nat (List.tail (List.tail r')) 6 (by omega); rw [hp4]; obtain ⟨q4, hq4, hq43⟩ := starts_at w4 (R + 2) p4 (by omega) hI4.out.ls; have d0 := cell_of_row w4 (R + 3) 1 _ _ _ hI4.out.box; have f0 := frozen_of_row w4 (R + 3) 1 _ _ hI4.out.box; have z4 : R + 3 < w4.heap.size := (by have := hI4.out.size; omega); simp at d0))
        all_goals
          have hI5 := Lib.hid (hI4.out.addStart _ ho5 hg5)
          have hL5 := Lib.hid (hL.out.snoc q q4 HQ3.out hq43.out)
          rw [HC2.out] at hL5
          clear hI4 ho5 hg5 hc4 hg4 d0 f0 c5 f5 z4 hq4 hp4 hp64
          go_wp2
          go_roundw
          case rel => exact ⟨k + 1, _, _, _, _, _, by omega, by go_num, hI5, hL5⟩
          case measure => simp [intOf]; omega
    · have hk1 : 1 ≤ k := by omega
      go_wp2_with fail
      refine (next_any g _ val 3 _ hI1.out.codes (by omega) (by omega)).mono ?_; rintro e w2 ⟨rfl, hc2, hg2⟩
      have nb2 := nxt_bd r'.tail 3 (by omega)
      generalize nxt r'.tail 3 = t at *
      have hI2 := Lib.hid (hI1.out.next hc2 hg2)
      have c0 := cell_of_row w2 (R + 3) 0 _ _ _ hI2.out.box
      have c1 := cell_of_row w2 (R + 3) 1 _ _ _ hI2.out.box
      have c2 := cell_of_row w2 (R + 3) 2 _ _ _ hI2.out.box
      have f2 := frozen_of_row w2 (R + 3) 2 _ _ hI2.out.box
      have d0 := cell_of_row w2 R 0 _ _ _ hI2.out.res
      have d1 := cell_of_row w2 R 1 _ _ _ hI2.out.res
      have d2 := cell_of_row w2 R 2 _ _ _ hI2.out.res
      have g0 := frozen_of_row w2 R 0 _ _ hI2.out.res
      have g1 := frozen_of_row w2 R 1 _ _ hI2.out.res
      have g2 := frozen_of_row w2 R 2 _ _ hI2.out.res
      simp at c0 c1 c2 d0 d1 d2
      have hRR : ¬ R = R + 3 := by omega
      have hR3 : ¬ R + 3 = R := by omega
      obtain ⟨ac, cc, rfl⟩ : ∃ ac cc, vc = .slice ac caps.length cc := by
        rcases hI2.out.oc.shape with ⟨rfl, h⟩ | ⟨g', cap', rfl, _⟩
        · exact ⟨none, 0, by rw [h]; rfl⟩
        · exact ⟨_, _, rfl⟩
      obtain ⟨ast, cst, rfl⟩ : ∃ ac cc, vs = .slice ac starts.length cc := by
        rcases hI2.out.os.shape with ⟨rfl, h⟩ | ⟨g', cap', rfl, _⟩
        · exact ⟨none, 0, by rw [h]; rfl⟩
        · exact ⟨_, _, rfl⟩
      clear hc2 hg2 hI1
      have HI := Lib.hid hI2.out
      go_wp2
      refine bodyPost_ret (v := .agg #[.slice ac caps.length cc, .slice ast starts.length cst, .int .i64 (2 + t)]) (by simp [results, Try.results20, go_sem, *]) rfl ?_
      obtain ⟨s1, s2, s3, s4, s5, s6⟩ := HI.out.fin hL.out (by omega) (.int .i64 (2 + t)) (.slice ac caps.length cc) (.slice ast starts.length cst) (.int .i64 (2 + t))
      have hl := hL.out
      exact ⟨_, _, _, caps, starts, _, rfl, s1, s2, by rw [hl.1, hl.2.1], by rw [hl.1]; exact hk1, by rw [hl.1]; exact hk, by omega, by omega, s3, s4, HI.out.oc.off (by omega), HI.out.os.off (by omega), by rw [hl.1]; exact hl, s5.mono_base (by have := HI.out.eq; omega), s6.mono_base (by have := HI.out.eq; omega)⟩
theorem config_any (g : Nat) (r : List Int) (val : Int) (w : World) (h : CodesAt w g r val) :
    Calls Try.prog 20 #[.pointer (some ⟨g, 0, none⟩)] w fun e w' => ∃ vc vs t caps starts r', e = .returned (.agg #[vc, vs, .int .i64 t]) ∧
      SlI w' .i64 vc caps ∧ SlI w' .u64 vs starts ∧ caps.length = starts.length ∧ 1 ≤ caps.length ∧ caps.length ≤ 3 ∧ 2 ≤ t ∧ t ≤ 4 ∧ CodesAt w' g r' val ∧ w.grownBy w' (some g) ∧ offB g vc ∧ offB g vs ∧ CfgOk caps starts caps.length := by
  refine (config_own g r val w h).mono ?_
  rintro e w' ⟨vc, vs, t, caps, starts, r', h0, h1, h2, h3, h4, h5, h6, h7, h8, h9, h10, h11, h12, -, -⟩
  exact ⟨vc, vs, t, caps, starts, r', h0, h1, h2, h3, h4, h5, h6, h7, h8, h9, h10, h11, h12⟩
end Go.Proofs.Ytialclohhemkiaa
/- The reader of choices: a drawn configuration is valid; it reads on while the reader goes on. -/
namespace Go.Proofs.Ytialclohhemkiaa
open Go.ChangeShapes Go.WideShapes Go.ChangeAt Go.RowKit
set_option maxRecDepth 100000

theorem CfgOk.good {caps starts : List Int} {t : Int} (h : CfgOk caps starts caps.length) (hl : caps.length ≤ 3) (ht : 1 ≤ t ∧ t ≤ 8) : ConfM.good ⟨caps, starts, t⟩ :=
  ⟨by show caps.length ≤ 8; omega, h.2.1, fun x hx => by have := h.2.2.1 x hx; omega, h.2.2.2, ht⟩
theorem configG (g : Nat) (w : World) (h : CodesE w g) :
    Calls Try.prog 20 #[.pointer (some ⟨g, 0, none⟩)] w fun e w' => ∃ (vc vs : Value) (c : ConfM), e = .returned (.agg #[vc, vs, .int .i64 c.threads]) ∧ SlI w' .i64 vc c.caps ∧ SlI w' .u64 vs c.starts ∧ offB g vc ∧ offB g vs ∧ c.good ∧ 1 ≤ c.caps.length ∧ c.caps.length ≤ 3 ∧ CodesE w' g ∧ w.grownBy w' (some g) := by
  obtain ⟨r, val, h⟩ := h
  refine (config_any g r val w h).mono ?_
  rintro e w' ⟨vc, vs, t, caps, starts, r', rfl, h1, h2, h3, h4, h5, h6, h7, h8, h9, h10, h11, h12⟩
  exact ⟨vc, vs, ⟨caps, starts, t⟩, rfl, h1, h2, h10, h11, h12.good h5 (by omega), h4, h5, ⟨_, _, h8⟩, h9⟩
end Go.Proofs.Ytialclohhemkiaa
