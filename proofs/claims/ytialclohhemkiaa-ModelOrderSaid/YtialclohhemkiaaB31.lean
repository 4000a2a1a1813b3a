import Derived.Deep.OwnRows
import Derived.Test.YtialclohhemkiaaB30
import Derived.Test.YtialclohhemkiaaB16
set_option linter.unusedVariables false
set_option linter.unusedSimpArgs false
/- Layer 14: the world of ModelOrder. -/
namespace Go.Proofs.Ytialclohhemkiaa
open Go.ChangeShapes Go.WideShapes Go.ChangeAt Go.RowKit
set_option maxRecDepth 100000

theorem Try.info_wl : (Try.prog.info? 32).map (fun i => (i.zero, i.size, i.bytes)) = some (some (.slice none 0 0), 1, 24) := by kernel_rfl
theorem Try.info_bl : (Try.prog.info? 4).map (fun i => (i.zero, i.size, i.bytes)) = some (some (.bool false), 1, 1) := by kernel_rfl
theorem makeLL (m : Nat) (hm : m ≤ 3) (w' : World) : (Instr.makeSlice 48 (.int .i64 (m : Int)) (.int .i64 (m : Int))).run Try.prog w' = .ok (.slice (some ⟨w'.heap.size, 0, none⟩) m m) (w'.alloc (.cells (Array.replicate m nilV) 32)) := by
  have e := run_make_row' (P := Try.prog) 48 32 (.slice none 0 0) 24 Try.underlying48 Try.info_wl rfl .i64 .i64 m (by omega) (by omega) w'
  rw [e, show madeCells #[Value.slice none 0 0] m = Array.replicate m nilV from Array.ext' (by rw [toList_madeCells_one, Array.toList_replicate])]
theorem makeBL (m : Nat) (hm : m ≤ 3) (w' : World) : (Instr.makeSlice 49 (.int .i64 (m : Int)) (.int .i64 (m : Int))).run Try.prog w' = .ok (.slice (some ⟨w'.heap.size, 0, none⟩) m m) (w'.alloc (.cells (Array.replicate m (Value.bool false)) 4)) := by
  have e := run_make_row' (P := Try.prog) 49 4 (.bool false) 1 Try.underlying49 Try.info_bl rfl .i64 .i64 m (by omega) (by omega) w'
  rw [e, show madeCells #[Value.bool false] m = Array.replicate m (Value.bool false) from Array.ext' (by rw [toList_madeCells_one, Array.toList_replicate])]
/-- the law's world between two operations -/
structure OrW (w wr : World) (g X S G H B m : Nat) (ac : Option Addr) (kc : Nat) (crow : Array Value) (caps : List Int) (i : Nat) (v : Value) (l : List ChanM) (us ug : List Value) (ls lg : List (List Int)) (hs : List Bool) : Prop where
  sl : SlHX (fun b => b ≠ H) wr v l
  or : OrI wr S G H B us ug ls lg hs
  p : OrP caps l ls lg hs
  ml : l.length = m
  few : ∀ x ∈ ls, x.length ≤ i
  fewg : ∀ x ∈ lg, x.length ≤ i
  val : ∀ x ∈ ls, ∀ y ∈ x, y = IntKind.u64.wrap y
  code : CodesE wr g
  cr : wr.heap[X]? = some (.cells crow 34 (0, 0))
  cs : SlI wr .i64 (.slice ac m kc) caps
  csg : offB g (.slice ac m kc)
  csX : ∀ j, X ≤ j → offB j (.slice ac m kc)
  below : Below w.heap.size w wr
  gw : w.heap.size ≤ g
  gX : g < X
  XS : X < S
  XG : X < G
  XH : X < H
section
variable {w wr : World} {g X S G H B m : Nat} {ac : Option Addr} {kc : Nat} {crow : Array Value} {caps : List Int} {i : Nat} {v : Value} {l : List ChanM} {us ug : List Value} {ls lg : List (List Int)} {hs : List Bool}
theorem OrW.draw {w2 : World} (h : OrW w wr g X S G H B m ac kc crow caps i v l us ug ls lg hs) (hg : wr.grownBy w2 (some g)) (hc : CodesE w2 g) : OrW w w2 g X S G H B m ac kc crow caps i v l us ug ls lg hs := by
  have := h.gX
  have := h.XS
  have := h.XG
  have := h.XH
  exact ⟨h.sl.drawn hg (codes_is h.code), h.or.kept hg (by omega) (by omega) (by omega) (by have := h.or.HB; omega), h.p, h.ml, h.few, h.fewg, h.val, hc, (hg.block X (Array.getElem?_eq_some_iff.1 h.cr).1 (fun e => by simp only [Option.some.injEq] at e; omega)).trans h.cr, h.cs.grown hg h.csg, h.csg, h.csX, below_grown h.below hg h.gw, h.gw, h.gX, h.XS, h.XG, h.XH⟩
theorem OrW.over {w2 : World} (h : OrW w wr g X S G H B m ac kc crow caps i v l us ug ls lg hs) (hb : Below wr.heap.size wr w2) : OrW w w2 g X S G H B m ac kc crow caps i v l us ug ls lg hs :=
  ⟨h.sl.below hb, h.or.below hb, h.p, h.ml, h.few, h.fewg, h.val, h.code.kept h.code.lt hb, (hb.block X (Array.getElem?_eq_some_iff.1 h.cr).1).trans h.cr, h.cs.below hb, h.csg, h.csX, below_then h.below hb, h.gw, h.gX, h.XS, h.XG, h.XH⟩
theorem OrW.wide (h : OrW w wr g X S G H B m ac kc crow caps i v l us ug ls lg hs) : OrW w wr g X S G H B m ac kc crow caps (i + 1) v l us ug ls lg hs :=
  ⟨h.sl, h.or, h.p, h.ml, fun x hx => Nat.le_succ_of_le (h.few x hx), fun x hx => Nat.le_succ_of_le (h.fewg x hx), h.val, h.code, h.cr, h.cs, h.csg, h.csX, h.below, h.gw, h.gX, h.XS, h.XG, h.XH⟩
theorem OrW.hlen (h : OrW w wr g X S G H B m ac kc crow caps i v l us ug ls lg hs) {n : Nat} (hn : n < m) : n < l.length ∧ n < ls.length ∧ n < lg.length ∧ n < hs.length :=
  ⟨by rw [h.ml]; exact hn, by rw [h.p.s, h.ml]; exact hn, by rw [h.p.g, h.ml]; exact hn, by rw [h.p.h, h.ml]; exact hn⟩
/-- a cell of a block of the law's own changes -/
theorem OrW.cells {w2 : World} {j : Nat} (h : OrW w wr g X S G H B m ac kc crow caps i v l us ug ls lg hs) (hg : wr.grownBy w2 (some j)) (hj : X < j) : CodesE w2 g ∧ w2.heap[X]? = some (.cells crow 34 (0, 0)) ∧ SlI w2 .i64 (.slice ac m kc) caps ∧ Below w.heap.size w w2 :=
  ⟨codes_grown h.code hg (B := g + 1) (fun k hk => by cases hk; have := h.gX; omega) (Nat.lt_succ_self g), (hg.block X (Array.getElem?_eq_some_iff.1 h.cr).1 (fun e => by simp only [Option.some.injEq] at e; omega)).trans h.cr, h.cs.grown hg (h.csX j (by omega)), below_grown h.below hg (by have := h.gw; have := h.gX; omega)⟩
/-- a channel is closed -/
theorem OrW.close {n : Nat} {v2 : Value} (h : OrW w wr g X S G H B m ac kc crow caps i v l us ug ls lg hs) (hn : n < m) (hs2 : SlHX (fun b => b ≠ H) wr v2 (l.set n { l.getD n noChan with closed := true })) : OrW w (wr.setCell ⟨H, n, none⟩ (.bool true)) g X S G H B m ac kc crow caps (i + 1) v2 (l.set n { l.getD n noChan with closed := true }) us ug ls lg (hs.set n true) := by
  have hl := h.hlen hn
  have hg := grownBy_setCell wr ⟨H, n, none⟩ (.bool true)
  obtain ⟨k1, k2, k3, k4⟩ := h.cells hg h.XH
  exact ⟨hs2.off hg (fun b hb => hb), h.or.close hl.2.2.2, h.p.close hl.1, by rw [List.length_set]; exact h.ml, fun x hx => Nat.le_succ_of_le (h.few x hx), fun x hx => Nat.le_succ_of_le (h.fewg x hx), h.val, k1, k2, k3, h.csg, h.csX, k4, h.gw, h.gX, h.XS, h.XG, h.XH⟩
/-- a channel that is closed is closed again in vain -/
theorem OrW.closed {n : Nat} (h : OrW w wr g X S G H B m ac kc crow caps i v l us ug ls lg hs) (hn : n < m) (ht : hs.getD n false = true) : OrW w (wr.setCell ⟨H, n, none⟩ (.bool true)) g X S G H B m ac kc crow caps (i + 1) v l us ug ls lg hs := by
  have hl := h.hlen hn
  have hg := grownBy_setCell wr ⟨H, n, none⟩ (.bool true)
  obtain ⟨k1, k2, k3, k4⟩ := h.cells hg h.XH
  have ho := h.or.close hl.2.2.2
  rw [h.p.same hl.1 ht] at ho
  exact ⟨h.sl.off hg (fun b hb => hb), ho, h.p, h.ml, fun x hx => Nat.le_succ_of_le (h.few x hx), fun x hx => Nat.le_succ_of_le (h.fewg x hx), h.val, k1, k2, k3, h.csg, h.csX, k4, h.gw, h.gX, h.XS, h.XG, h.XH⟩
/-- what an append and a store into the row of the lists S leave -/
theorem pushed {w2 wr u2 : World} {S' G' n B0 : Nat} {us' ug' : List Value} {ls' lg' : List (List Int)} {v2 v6 : Value} {l2 : List ChanM} (h : OrW w wr g X S G H B m ac kc crow caps i v l us ug ls lg hs) (ho : OrI wr S' G' H B us' ug' ls' lg' hs) (hXS : X < S') (hn : n < ls'.length) (h2 : SlHX (fun b => B0 ≤ b) wr v2 l2) (hB0 : wr.heap.size = B0 ∨ ∀ j, (us'.getD n nilV).ownBlock = some j → j < B0) (hSB0 : S' < B0) (hHB0 : H < B0)
    (hg : wr.grownBy u2 (us'.getD n nilV).ownBlock) (hv6 : v6.oneCell' = true) : SlHX (fun b => b ≠ H) (u2.setCell ⟨S', n, none⟩ v6) v2 l2 ∧ CodesE (u2.setCell ⟨S', n, none⟩ v6) g ∧ (u2.setCell ⟨S', n, none⟩ v6).heap[X]? = some (.cells crow 34 (0, 0)) ∧ SlI (u2.setCell ⟨S', n, none⟩ v6) .i64 (.slice ac m kc) caps ∧ Below w.heap.size w (u2.setCell ⟨S', n, none⟩ v6) := by
  have hset := grownBy_setCell u2 ⟨S', n, none⟩ v6
  have hXr := (Array.getElem?_eq_some_iff.1 h.cr).1
  have hgX := h.gX
  have hob : ∀ j, (us'.getD n nilV).ownBlock = some j → B ≤ j ∧ j < wr.heap.size := fun j hj => own_lt_B (ho.s.own n hn) hj
  have hBX : X < B := by have := ho.HB; have := h.XH; omega
  have h3 : SlHX (fun b => B0 ≤ b) u2 v2 l2 := by
    cases hv : (us'.getD n nilV).ownBlock with
    | none => rw [hv] at hg; exact h2.below ((Below.refl wr.heap.size wr).grown hg (Nat.le_refl _) (fun j hj => by cases hj))
    | some j =>
      have hj : j < B0 := by
        rcases hB0 with e | e
        · have := (hob j hv).2; omega
        · exact e j hv
      rw [hv] at hg
      exact h2.off hg (fun b hb => by omega)
  have h4 : SlHX (fun b => B0 ≤ b) (u2.setCell ⟨S', n, none⟩ v6) v2 l2 := h3.off hset (fun b hb => by show b ≠ S'; omega)
  have k1 : CodesE u2 g := codes_grown h.code hg (B := B) (fun k hk => (hob k hk).1) (by omega)
  have k2 : u2.heap[X]? = some (.cells crow 34 (0, 0)) := (hg.block X hXr (fun e => by have := (hob X e.symm).1; omega)).trans h.cr
  have k3 : SlI u2 .i64 (.slice ac m kc) caps := by
    cases hv : (us'.getD n nilV).ownBlock with
    | none => rw [hv] at hg; exact h.cs.below ((Below.refl wr.heap.size wr).grown hg (Nat.le_refl _) (fun j hj => by cases hj))
    | some j => have := (hob j hv).1; rw [hv] at hg; exact h.cs.grown hg (h.csX j (by omega))
  have k4 : Below w.heap.size w u2 := h.below.grown hg (by have := h.below.size; omega) (fun j hj => by have := (hob j hj).1; have := h.gw; omega)
  refine ⟨h4.mono (fun b hb e => by omega), codes_grown k1 hset (B := g + 1) (fun k hk => by cases hk; show g + 1 ≤ S'; omega) (Nat.lt_succ_self g), (hset.block X (Nat.lt_of_lt_of_le hXr hg.size) (fun e => by simp only [Option.some.injEq] at e; omega)).trans k2, k3.grown hset (h.csX S' (by omega)), below_grown k4 hset (by show w.heap.size ≤ S'; have := h.gw; omega)⟩
end
theorem val_set {S : List (List Int)} {n : Nat} {v : Int} (h : ∀ x ∈ S, ∀ y ∈ x, y = IntKind.u64.wrap y) (hv : v = IntKind.u64.wrap v) : ∀ x ∈ S.set n (S.getD n [] ++ [v]), ∀ y ∈ x, y = IntKind.u64.wrap y := fun x hx => by
  rcases List.mem_or_eq_of_mem_set hx with h1 | rfl
  · exact h x h1
  · intro y hy
    rcases List.mem_append.1 hy with h2 | h2
    · by_cases hn : n < S.length
      · rw [List.getD_eq_getElem?_getD, List.getElem?_eq_getElem hn] at h2
        exact h _ (List.getElem_mem hn) y h2
      · rw [List.getD_eq_getElem?_getD, List.getElem?_eq_none (by omega)] at h2
        cases h2
    · rw [List.mem_singleton.1 h2]; exact hv
section
variable {w wr : World} {g X S G H B m : Nat} {ac : Option Addr} {kc : Nat} {crow : Array Value} {caps : List Int} {i : Nat} {v : Value} {l : List ChanM} {us ug : List Value} {ls lg : List (List Int)} {hs : List Bool}
theorem OrW.send {u2 : World} {n B0 : Nat} {v2 v6 : Value} {x : Int} (h : OrW w wr g X S G H B m ac kc crow caps i v l us ug ls lg hs) (hn : n < m) (h2 : SlHX (fun b => B0 ≤ b) wr v2 (l.set n { l.getD n noChan with buf := (l.getD n noChan).buf ++ [x] })) (hB0 : ∀ j, (us.getD n nilV).ownBlock = some j → j < B0) (hSB0 : S < B0) (hHB0 : H < B0) (hx : x = IntKind.u64.wrap x)
    (hg : wr.grownBy u2 (us.getD n nilV).ownBlock) (ho : OwnI u2 B 23 .u64 v6 (ls.getD n [] ++ [x])) (hn6 : v6.ownBlock = (us.getD n nilV).ownBlock ∨ v6.ownBlock = some wr.heap.size) (hv6 : v6.oneCell' = true) :
    OrW w (u2.setCell ⟨S, n, none⟩ v6) g X S G H B m ac kc crow caps (i + 1) v2 (l.set n { l.getD n noChan with buf := (l.getD n noChan).buf ++ [x] }) (us.set n v6) ug (ls.set n (ls.getD n [] ++ [x])) lg hs := by
  have hl := h.hlen hn
  obtain ⟨k0, k1, k2, k3, k4⟩ := pushed (w2 := wr) h h.or h.XS hl.2.1 h2 (.inr hB0) hSB0 hHB0 hg hv6
  exact ⟨k0, h.or.push hl.2.1 hg ho hn6, h.p.send hl.1 x, by rw [List.length_set]; exact h.ml, few_set h.few hl.2.1, fun x hx => Nat.le_succ_of_le (h.fewg x hx), val_set h.val hx, k1, k2, k3, h.csg, h.csX, k4, h.gw, h.gX, h.XS, h.XG, h.XH⟩
theorem OrW.recv {u2 : World} {n B0 : Nat} {v2 v6 : Value} {x : Int} (h : OrW w wr g X S G H B m ac kc crow caps i v l us ug ls lg hs) (hn : n < m) (hlt : (lg.getD n []).length < (ls.getD n []).length) (h2 : SlHX (fun b => B0 ≤ b) wr v2 (l.set n { l.getD n noChan with buf := (l.getD n noChan).buf.tail })) (hB0 : ∀ j, (ug.getD n nilV).ownBlock = some j → j < B0) (hSB0 : G < B0) (hHB0 : H < B0)
    (hg : wr.grownBy u2 (ug.getD n nilV).ownBlock) (ho : OwnI u2 B 23 .u64 v6 (lg.getD n [] ++ [x])) (hn6 : v6.ownBlock = (ug.getD n nilV).ownBlock ∨ v6.ownBlock = some wr.heap.size) (hv6 : v6.oneCell' = true) :
    OrW w (u2.setCell ⟨G, n, none⟩ v6) g X S G H B m ac kc crow caps (i + 1) v2 (l.set n { l.getD n noChan with buf := (l.getD n noChan).buf.tail }) us (ug.set n v6) ls (lg.set n (lg.getD n [] ++ [x])) hs := by
  have hl := h.hlen hn
  obtain ⟨k0, k1, k2, k3, k4⟩ := pushed (w2 := wr) h h.or.symm h.XG hl.2.2.1 h2 (.inr hB0) hSB0 hHB0 hg hv6
  exact ⟨k0, (h.or.symm.push hl.2.2.1 hg ho hn6).symm, h.p.recv hl.1 hlt x, by rw [List.length_set]; exact h.ml, fun x hx => Nat.le_succ_of_le (h.few x hx), few_set h.fewg hl.2.2.1, h.val, k1, k2, k3, h.csg, h.csX, k4, h.gw, h.gX, h.XS, h.XG, h.XH⟩
end
theorem own_len {w : World} {B : Nat} {e : TypeId} {k : IntKind} {v : Value} {l : List Int} (h : OwnI w B e k v l) : ∃ a c, v = .slice a l.length c := by
  rcases h.shape with ⟨rfl, rfl⟩ | ⟨g, cap, rfl, -⟩
  · exact ⟨_, _, rfl⟩
  · exact ⟨_, _, rfl⟩
/-- append of one element to a list that the call owns; its block is the old one or new -/
theorem wp_append_u64n (w : World) {ops : Array Oper} {rest : List Oper} {o : Oper} {a : Act} {Q : Exit → Act → World → Prop}
    (hg : o.guard = none) (s x : Operand) (hop : o.op = Op.call { callee := Callee.builtin Builtin.append, args := #[s, x], argTypes := #[32, 32] })
    (base : Nat) (v : Value) (l : List Int) (hs : a.eval s = v) (hown : OwnI w base 23 .u64 v l) (y : Int) (g : Nat)
    (hx : a.eval x = .slice (some ⟨g, 0, none⟩) 1 1) (hcell : w.cell? ⟨g, 0, none⟩ = some (.int .u64 y)) (hl : l.length ≤ 1000000) (hb : base ≤ w.heap.size)
    (hK : ∀ v' w', OwnI w' base 23 .u64 v' (l ++ [y]) → w.grownBy w' v.ownBlock → (v'.ownBlock = v.ownBlock ∨ v'.ownBlock = some w.heap.size) → wpList Try.prog ops Q rest (a.put o.dst v') w') :
    wpList Try.prog ops Q (o :: rest) a w := by
  obtain ⟨i0, hi, hz0, hz1, hz2⟩ := info_parts Try.info_u64
  obtain ⟨v', w', hr, h1, h2, -, h4⟩ := run_append_own_at (P := Try.prog) w base 32 o.type 23 i0 (.int .u64 0) 1 _ (by kernel_rfl) hi hz0 hz1 hz2 rfl (by decide) v l.length _ hown ⟨g, 0, none⟩ 1 1 [.int .u64 y] rfl (fun j u hj => by
    match j, hj with
    | 0, hj => simp at hj; subst hj; simpa [Addr.add] using hcell) (fun u hu => by simp at hu; subst hu; rfl) (by unfold maxLen; omega) (by omega) hb
  refine Lib.wpList_append_run w hg s x _ _ hop _ _ hs hx v' w' hr (hK v' w' ?_ h2 h4)
  unfold OwnI
  rw [List.length_append, List.map_append]
  exact h1
/-- what Apply answers to one of the law's operations -/
def ApplQ (B0 : Nat) (w w' : World) (e : Ending) (c : Bool) (l2 : List ChanM) : Prop := ∃ v', e = .returned (.tuple #[v', .bool c]) ∧ (c = true → SlHX (fun b => B0 ≤ b) w' v' l2) ∧ Below w.heap.size w w'
theorem DoX.applQ {o : Option (List ChanM)} {w w' : World} {e : Ending} {p : Prop} [Decidable p] {l2 : List ChanM} {c : Bool} (h : DoX o w e w') (ho : o = if p then some l2 else none) (hc : c = decide p) : ApplQ w.heap.size w w' e c l2 := by
  obtain ⟨v', ok, rfl, h1, h2⟩ := h
  subst hc
  by_cases hp : p
  · rw [if_pos hp] at ho
    rcases h1 with ⟨l', h3, rfl, h4⟩ | ⟨h3, -⟩
    · rw [ho] at h3
      cases h3
      exact ⟨v', by rw [decide_eq_true hp], fun _ => h4, h2⟩
    · rw [ho] at h3; cases h3
  · rw [if_neg hp] at ho
    rcases h1 with ⟨l', h3, -⟩ | ⟨h3, rfl, -⟩
    · rw [ho] at h3; cases h3
    · refine ⟨v', by rw [decide_eq_false hp], fun h => ?_, h2⟩
      rw [decide_eq_false hp] at h
      cases h
section
variable {w wr : World} {g X S G H B m : Nat} {ac : Option Addr} {kc : Nat} {crow : Array Value} {caps : List Int} {i : Nat} {v : Value} {l : List ChanM} {us ug : List Value} {ls lg : List (List Int)} {hs : List Bool}
theorem OrW.applyS {n : Nat} {x : Int} (h : OrW w wr g X S G H B m ac kc crow caps i v l us ug ls lg hs) (hn : n < m) (hm : m ≤ 3) (hi : i ≤ 25) (hx : x = IntKind.u64.wrap x) : Calls Try.prog 24 #[v, .agg #[.int .i64 1, .int .i64 0, .int .i64 (n : Int), .int .u64 x, .int .i64 0, .slice none 0 0, .slice none 0 0], .agg #[.int .i64 1, .int .i64 (-1), .int .u64 0, .bool false, .int .i64 0]] wr fun e w' => ApplQ wr.heap.size wr w' e (decide (((ls.getD n []).length : Int) - ((lg.getD n []).length : Int) < caps.getD n 0) && !hs.getD n false) (l.set n { l.getD n noChan with buf := (l.getD n noChan).buf ++ [x] }) := by
  have hl := h.hlen hn
  refine (qApplyX_any v (.agg #[.int .i64 1, .int .i64 0, .int .i64 (n : Int), .int .u64 x, .int .i64 0, .slice none 0 0, .slice none 0 0]) l (sendO n x) sendR wr h.sl.slH (by rw [h.ml]; omega) (fun c hc => by have := h.p.few h.few c hc; omega) ⟨_, _, rfl, SlC.nil _, SlI.nil _ _⟩ ⟨i64_small _ (by show _ ≤ (n : Int); omega) (by show (n : Int) ≤ _; omega), hx⟩ (fun x hx => by cases hx) (by unfold casesE oneB; simp [sendO, recvO, closeO]) (allowB_eq l _ _ (fun e => by cases e))).mono ?_
  intro e w' hq
  refine hq.applQ (mod_send hl.1) ?_
  rw [h.p.room hl.1, h.p.cap n hl.1, h.p.shut n hl.1, Bool.decide_and, Bool.and_comm]
  cases hs.getD n false <;> simp
theorem OrW.applyR {n : Nat} {x : Int} (h : OrW w wr g X S G H B m ac kc crow caps i v l us ug ls lg hs) (hn : n < m) (hm : m ≤ 3) (hi : i ≤ 25) (hx : x = nextV (ls.getD n []) (lg.getD n [])) : Calls Try.prog 24 #[v, .agg #[.int .i64 2, .int .i64 0, .int .i64 (n : Int), .int .u64 0, .int .i64 0, .slice none 0 0, .slice none 0 0], .agg #[.int .i64 2, .int .i64 (-1), .int .u64 x, .bool true, .int .i64 0]] wr fun e w' => ApplQ wr.heap.size wr w' e (decide ((lg.getD n []).length < (ls.getD n []).length)) (l.set n { l.getD n noChan with buf := (l.getD n noChan).buf.tail }) := by
  have hl := h.hlen hn
  refine (qApplyX_any v (.agg #[.int .i64 2, .int .i64 0, .int .i64 (n : Int), .int .u64 0, .int .i64 0, .slice none 0 0, .slice none 0 0]) l (recvO n) (recvR x) wr h.sl.slH (by rw [h.ml]; omega) (fun c hc => by have := h.p.few h.few c hc; omega) ⟨_, _, rfl, SlC.nil _, SlI.nil _ _⟩ ⟨i64_small _ (by show _ ≤ (n : Int); omega) (by show (n : Int) ≤ _; omega), rfl⟩ (fun x hx => by cases hx) (by unfold casesE oneB; simp [sendO, recvO, closeO]) (allowB_eq l _ _ (fun e => by cases e))).mono ?_
  intro e w' hq
  refine hq.applQ (mod_recv hl.1) ?_
  rw [hx]
  exact (decide_eq_decide.2 (h.p.head hl.1)).symm
theorem OrW.applyC {n : Nat} (h : OrW w wr g X S G H B m ac kc crow caps i v l us ug ls lg hs) (hn : n < m) (hm : m ≤ 3) (hi : i ≤ 25) : Calls Try.prog 24 #[v, .agg #[.int .i64 3, .int .i64 0, .int .i64 (n : Int), .int .u64 0, .int .i64 0, .slice none 0 0, .slice none 0 0], .agg #[.int .i64 6, .int .i64 (-1), .int .u64 0, .bool false, .int .i64 0]] wr fun e w' => ApplQ wr.heap.size wr w' e (!hs.getD n false) (l.set n { l.getD n noChan with closed := true }) := by
  have hl := h.hlen hn
  refine (qApplyX_any v (.agg #[.int .i64 3, .int .i64 0, .int .i64 (n : Int), .int .u64 0, .int .i64 0, .slice none 0 0, .slice none 0 0]) l (closeO n) closeR6 wr h.sl.slH (by rw [h.ml]; omega) (fun c hc => by have := h.p.few h.few c hc; omega) ⟨_, _, rfl, SlC.nil _, SlI.nil _ _⟩ ⟨i64_small _ (by show _ ≤ (n : Int); omega) (by show (n : Int) ≤ _; omega), rfl⟩ (fun x hx => by cases hx) (by unfold casesE oneB; simp [sendO, recvO, closeO]) (allowB_eq l _ _ (fun e => by cases e))).mono ?_
  intro e w' hq
  refine hq.applQ (mod_close hl.1) ?_
  rw [h.p.shut n hl.1]
  cases hs.getD n false <;> simp
/-- the cells that the law reads -/
theorem OrW.reads {n : Nat} (h : OrW w wr g X S G H B m ac kc crow caps i v l us ug ls lg hs) (hn : n < m) : ∃ sa sc ga gc pc qc, wr.cell? ⟨S, n, none⟩ = some (.slice sa (ls.getD n []).length sc) ∧ wr.cell? ⟨G, n, none⟩ = some (.slice ga (lg.getD n []).length gc) ∧ wr.cell? ⟨H, n, none⟩ = some (.bool (hs.getD n false)) ∧ ac = some ⟨pc, qc, none⟩ ∧ pc < wr.heap.size ∧ wr.cell? ⟨pc, qc + n, none⟩ = some (.int .i64 (caps.getD n 0)) ∧ us.getD n nilV = .slice sa (ls.getD n []).length sc ∧ ug.getD n nilV = .slice ga (lg.getD n []).length gc := by
  have hl := h.hlen hn
  obtain ⟨sa, sc, h1⟩ := own_len (h.or.s.own n hl.2.1)
  obtain ⟨ga, gc, h2⟩ := own_len (h.or.g.own n hl.2.2.1)
  have h3 := h.or.s.cell hl.2.1
  have h4 := h.or.g.cell hl.2.2.1
  rw [h1] at h3
  rw [h2] at h4
  obtain ⟨q1, q2, a, cap, q3, q4, q5⟩ := h.cs
  simp only [Value.slice.injEq] at q3
  obtain ⟨rfl, -, rfl⟩ := q3
  obtain ⟨pc, qc, e, hb, hc⟩ := q5 n (by rw [← h.p.c]; exact hl.1)
  exact ⟨sa, sc, ga, gc, pc, qc, h3, h4, h.or.hcell hl.2.2.2, e, hb, hc, h1, h2⟩
end
end Go.Proofs.Ytialclohhemkiaa
