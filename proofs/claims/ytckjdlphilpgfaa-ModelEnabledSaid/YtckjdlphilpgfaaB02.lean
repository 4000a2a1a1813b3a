import Derived.Test.YtckjdlphilpgfaaRows
import Derived.Laws.AppendOwnNone
import Derived.Lib.AppendZeros
import Derived.Shelf.RegionOpenPlain
import Derived.Lib.SliceRun
import Derived.Deep.LoopGhost
import Derived.Deep.QuietTactic
import Derived.BigQuiet
import Derived.Test.YtckjdlphilpgfaaB01
set_option linter.unusedVariables false
set_option linter.unusedSimpArgs false
/- make and append on lists of numbers that the call owns, at this dump's types. -/
namespace Go.Proofs.Ytckjdlphilpgfaa
open Go.ChangeShapes Go.WideShapes Go.ChangeAt Go.RowKit
set_option maxRecDepth 100000
theorem toList_madeCells_one' (z : Value) (n : Nat) : (madeCells #[z] n).toList = List.replicate n z := toList_madeCells_one z n
theorem Try.info_i64 : (Try.prog.info? 3).map (fun i => (i.zero, i.size, i.bytes)) = some (some (.int .i64 0), 1, 8) := by kernel_rfl
theorem wp_make_i64 (w : World) {ops : Array Oper} {rest : List Oper} {o : Oper} {a : Act} {Q : Exit → Act → World → Prop}
    (hg : o.guard = none) (l c : Operand) (hop : o.op = Op.makeSlice 31 l c) (n : Nat) (L C : Int) (hl : a.eval l = .int .i64 L) (hc : a.eval c = .int .i64 C) (hL : L = n) (hC : C = n) (hn : n ≤ 1000000)
    (hK : ∀ w', OwnI w' w.heap.size 3 .i64 (.slice (some ⟨w.heap.size, 0, none⟩) n n) (List.replicate n 0) → Below w.heap.size w w' → wpList Try.prog ops Q rest (a.put o.dst (.slice (some ⟨w.heap.size, 0, none⟩) n n)) w') :
    wpList Try.prog ops Q (o :: rest) a w := by
  obtain ⟨i0, hi, hz0, hz1, hz2⟩ := info_parts Try.info_i64
  refine wpList_make_full w hg l c _ hop w.heap.size 3 i0 (.int .i64 0) 1 Try.underlying31 hi hz0 hz1 _ _ _ _ n hl hc hL hC (by rw [hz2]; omega) (by unfold maxLen; omega) (Nat.le_refl _) fun w' h1 h2 => ?_
  refine hK w' ?_ ((Below.refl _ _).grown h2 (Nat.le_refl _) (fun k hk => by cases hk))
  unfold OwnI
  rw [show (Value.int .i64 0).cells = #[.int .i64 0] from rfl, toList_madeCells_one'] at h1
  simpa using h1
/-- append of one element to a list that the call owns -/
theorem wp_append_i64 (w : World) {ops : Array Oper} {rest : List Oper} {o : Oper} {a : Act} {Q : Exit → Act → World → Prop}
    (hg : o.guard = none) (s x : Operand) (hop : o.op = Op.call { callee := Callee.builtin Builtin.append, args := #[s, x], argTypes := #[31, 31] })
    (base : Nat) (v : Value) (l : List Int) (hs : a.eval s = v) (hown : OwnI w base 3 .i64 v l) (y : Int) (g : Nat)
    (hx : a.eval x = .slice (some ⟨g, 0, none⟩) 1 1) (hcell : w.cell? ⟨g, 0, none⟩ = some (.int .i64 y)) (hl : l.length ≤ 1000000) (hb : base ≤ w.heap.size)
    (hK : ∀ v' w', OwnI w' base 3 .i64 v' (l ++ [y]) → w.grownBy w' v.ownBlock → wpList Try.prog ops Q rest (a.put o.dst v') w') :
    wpList Try.prog ops Q (o :: rest) a w := by
  obtain ⟨i0, hi, hz0, hz1, hz2⟩ := info_parts Try.info_i64
  refine wpList_append_own w hg s x _ hop base _ i0 (.int .i64 0) 1 _ (by kernel_rfl) hi hz0 hz1 rfl rfl (by decide) v l.length _ hs hown ⟨g, 0, none⟩ 1 1 [.int .i64 y] hx rfl ?_ ?_ (by unfold maxLen; omega) (by rw [hz2]; omega) hb fun v' w' h1 h2 h3 => hK v' w' ?_ h2
  · intro j u hj
    match j, hj with
    | 0, hj => simp at hj; subst hj; simpa [Addr.add] using hcell
  · intro u hu; simp at hu; subst hu; rfl
  · unfold OwnI
    rw [List.length_append, List.map_append]
    exact h1
/-- append of a whole list, that is not empty, to nil: a copy -/
theorem wp_copy_i64 (w : World) {ops : Array Oper} {rest : List Oper} {o : Oper} {a : Act} {Q : Exit → Act → World → Prop}
    (hg : o.guard = none) (s x : Operand) (hop : o.op = Op.call { callee := Callee.builtin Builtin.append, args := #[s, x], argTypes := #[31, 31] })
    (xv : Value) (l : List Int) (hs : a.eval s = .slice none 0 0) (hx : a.eval x = xv) (hS : SlI w .i64 xv l) (hne : l ≠ []) (hl : l.length ≤ 1000000)
    (hK : ∀ g cap w', OwnI w' w.heap.size 3 .i64 (.slice (some ⟨g, 0, none⟩) l.length cap) l → Below w.heap.size w w' → w.heap.size ≤ g → wpList Try.prog ops Q rest (a.put o.dst (.slice (some ⟨g, 0, none⟩) l.length cap)) w') :
    wpList Try.prog ops Q (o :: rest) a w := by
  obtain ⟨i0, hi, hz0, hz1, hz2⟩ := info_parts Try.info_i64
  obtain ⟨b, off, cap, rfl, hcap, hb, hc⟩ := hS.open hne
  refine wpList_append_own w hg s x _ hop w.heap.size _ i0 (.int .i64 0) 1 _ (by kernel_rfl) hi hz0 hz1 rfl rfl (by decide) (.slice none 0 0) 0 [] hs (World.ownsRow_nil _ _ _ _) ⟨b, off, none⟩ l.length cap (l.map (Value.int .i64)) hx (by simp) ?_ ?_ (by unfold maxLen; omega) (by rw [hz2]; omega) (Nat.le_refl _) fun v' w' h1 h2 _ => ?_
  · intro j u hj
    rw [add_plain]
    simp only [List.getElem?_map, Option.map_eq_some_iff] at hj
    obtain ⟨y, hy, rfl⟩ := hj
    have hjl : j < l.length := (List.getElem?_eq_some_iff.1 hy).1
    rw [hc j hjl, List.getD_eq_getElem?_getD, hy]; rfl
  · intro u hu; simp only [List.mem_map] at hu; obtain ⟨y, _, rfl⟩ := hu; rfl
  · have ho : OwnI w' w.heap.size 3 .i64 v' l := by unfold OwnI; simpa using h1
    rcases ho.shape with ⟨_, h⟩ | ⟨g, cap', rfl, hg1, _⟩
    · exact absurd h hne
    · exact hK g cap' w' ho ((Below.refl _ _).grown h2 (Nat.le_refl _) (fun j hj => by cases hj)) hg1
/-- the same inside a region that draws its order -/
theorem step_append_i64 {w : World} {ops : Array Oper} {o : Oper} {a : Act} {K : Act → World → Prop} {Q : Exit → Act → World → Prop} {E : Prop}
    (hgd : o.guard = none) (s x : Operand) (hop : o.op = Op.call { callee := Callee.builtin Builtin.append, args := #[s, x], argTypes := #[31, 31] })
    (base : Nat) (v : Value) (l : List Int) (hs : a.eval s = v) (hown : OwnI w base 3 .i64 v l) (y : Int) (g : Nat)
    (hx : a.eval x = .slice (some ⟨g, 0, none⟩) 1 1) (hcell : w.cell? ⟨g, 0, none⟩ = some (.int .i64 y)) (hl : l.length ≤ 1000000) (hb : base ≤ w.heap.size)
    (hK : ∀ v' w', OwnI w' base 3 .i64 v' (l ++ [y]) → w.grownBy w' v.ownBlock → K (a.put o.dst v') w') :
    if Region.wanted o (yielded ops a.tmps) = true then Oper.wp Try.prog o a w K Q else E := by
  have hw : Region.wanted o (yielded ops a.tmps) = true := by simp [Region.wanted, hgd]
  rw [if_pos hw]
  obtain ⟨i0, hi, hz0, hz1, hz2⟩ := info_parts Try.info_i64
  refine wp_append_own w s x _ hop base _ i0 (.int .i64 0) 1 _ (by kernel_rfl) hi hz0 hz1 rfl rfl (by decide) v l.length _ hs hown ⟨g, 0, none⟩ 1 1 [.int .i64 y] hx rfl ?_ ?_ (by unfold maxLen; omega) (by rw [hz2]; omega) hb fun v' w' h1 h2 _ => hK v' w' ?_ h2
  · intro j u hj
    match j, hj with
    | 0, hj => simp at hj; subst hj; simpa [Addr.add] using hcell
  · intro u hu; simp at hu; subst hu; rfl
  · unfold OwnI
    rw [List.length_append, List.map_append]
    exact h1
theorem Try.info_u64 : (Try.prog.info? 23).map (fun i => (i.zero, i.size, i.bytes)) = some (some (.int .u64 0), 1, 8) := by kernel_rfl
theorem wp_make_u64 (w : World) {ops : Array Oper} {rest : List Oper} {o : Oper} {a : Act} {Q : Exit → Act → World → Prop}
    (hg : o.guard = none) (l c : Operand) (hop : o.op = Op.makeSlice 32 l c) (n : Nat) (L C : Int) (hl : a.eval l = .int .i64 L) (hc : a.eval c = .int .i64 C) (hL : L = n) (hC : C = n) (hn : n ≤ 1000000)
    (hK : ∀ w', OwnI w' w.heap.size 23 .u64 (.slice (some ⟨w.heap.size, 0, none⟩) n n) (List.replicate n 0) → Below w.heap.size w w' → wpList Try.prog ops Q rest (a.put o.dst (.slice (some ⟨w.heap.size, 0, none⟩) n n)) w') :
    wpList Try.prog ops Q (o :: rest) a w := by
  obtain ⟨i0, hi, hz0, hz1, hz2⟩ := info_parts Try.info_u64
  refine wpList_make_full w hg l c _ hop w.heap.size 23 i0 (.int .u64 0) 1 Try.underlying32 hi hz0 hz1 _ _ _ _ n hl hc hL hC (by rw [hz2]; omega) (by unfold maxLen; omega) (Nat.le_refl _) fun w' h1 h2 => ?_
  refine hK w' ?_ ((Below.refl _ _).grown h2 (Nat.le_refl _) (fun k hk => by cases hk))
  unfold OwnI
  rw [show (Value.int .u64 0).cells = #[.int .u64 0] from rfl, toList_madeCells_one'] at h1
  simpa using h1
/-- append of one element to a list that the call owns -/
theorem wp_append_u64 (w : World) {ops : Array Oper} {rest : List Oper} {o : Oper} {a : Act} {Q : Exit → Act → World → Prop}
    (hg : o.guard = none) (s x : Operand) (hop : o.op = Op.call { callee := Callee.builtin Builtin.append, args := #[s, x], argTypes := #[32, 32] })
    (base : Nat) (v : Value) (l : List Int) (hs : a.eval s = v) (hown : OwnI w base 23 .u64 v l) (y : Int) (g : Nat)
    (hx : a.eval x = .slice (some ⟨g, 0, none⟩) 1 1) (hcell : w.cell? ⟨g, 0, none⟩ = some (.int .u64 y)) (hl : l.length ≤ 1000000) (hb : base ≤ w.heap.size)
    (hK : ∀ v' w', OwnI w' base 23 .u64 v' (l ++ [y]) → w.grownBy w' v.ownBlock → wpList Try.prog ops Q rest (a.put o.dst v') w') :
    wpList Try.prog ops Q (o :: rest) a w := by
  obtain ⟨i0, hi, hz0, hz1, hz2⟩ := info_parts Try.info_u64
  refine wpList_append_own w hg s x _ hop base _ i0 (.int .u64 0) 1 _ (by kernel_rfl) hi hz0 hz1 rfl rfl (by decide) v l.length _ hs hown ⟨g, 0, none⟩ 1 1 [.int .u64 y] hx rfl ?_ ?_ (by unfold maxLen; omega) (by rw [hz2]; omega) hb fun v' w' h1 h2 h3 => hK v' w' ?_ h2
  · intro j u hj
    match j, hj with
    | 0, hj => simp at hj; subst hj; simpa [Addr.add] using hcell
  · intro u hu; simp at hu; subst hu; rfl
  · unfold OwnI
    rw [List.length_append, List.map_append]
    exact h1
/-- append of a whole list, that is not empty, to nil: a copy -/
theorem wp_copy_u64 (w : World) {ops : Array Oper} {rest : List Oper} {o : Oper} {a : Act} {Q : Exit → Act → World → Prop}
    (hg : o.guard = none) (s x : Operand) (hop : o.op = Op.call { callee := Callee.builtin Builtin.append, args := #[s, x], argTypes := #[32, 32] })
    (xv : Value) (l : List Int) (hs : a.eval s = .slice none 0 0) (hx : a.eval x = xv) (hS : SlI w .u64 xv l) (hne : l ≠ []) (hl : l.length ≤ 1000000)
    (hK : ∀ g cap w', OwnI w' w.heap.size 23 .u64 (.slice (some ⟨g, 0, none⟩) l.length cap) l → Below w.heap.size w w' → w.heap.size ≤ g → wpList Try.prog ops Q rest (a.put o.dst (.slice (some ⟨g, 0, none⟩) l.length cap)) w') :
    wpList Try.prog ops Q (o :: rest) a w := by
  obtain ⟨i0, hi, hz0, hz1, hz2⟩ := info_parts Try.info_u64
  obtain ⟨b, off, cap, rfl, hcap, hb, hc⟩ := hS.open hne
  refine wpList_append_own w hg s x _ hop w.heap.size _ i0 (.int .u64 0) 1 _ (by kernel_rfl) hi hz0 hz1 rfl rfl (by decide) (.slice none 0 0) 0 [] hs (World.ownsRow_nil _ _ _ _) ⟨b, off, none⟩ l.length cap (l.map (Value.int .u64)) hx (by simp) ?_ ?_ (by unfold maxLen; omega) (by rw [hz2]; omega) (Nat.le_refl _) fun v' w' h1 h2 _ => ?_
  · intro j u hj
    rw [add_plain]
    simp only [List.getElem?_map, Option.map_eq_some_iff] at hj
    obtain ⟨y, hy, rfl⟩ := hj
    have hjl : j < l.length := (List.getElem?_eq_some_iff.1 hy).1
    rw [hc j hjl, List.getD_eq_getElem?_getD, hy]; rfl
  · intro u hu; simp only [List.mem_map] at hu; obtain ⟨y, _, rfl⟩ := hu; rfl
  · have ho : OwnI w' w.heap.size 23 .u64 v' l := by unfold OwnI; simpa using h1
    rcases ho.shape with ⟨_, h⟩ | ⟨g, cap', rfl, hg1, _⟩
    · exact absurd h hne
    · exact hK g cap' w' ho ((Below.refl _ _).grown h2 (Nat.le_refl _) (fun j hj => by cases hj)) hg1
/-- the same inside a region that draws its order -/
theorem step_append_u64 {w : World} {ops : Array Oper} {o : Oper} {a : Act} {K : Act → World → Prop} {Q : Exit → Act → World → Prop} {E : Prop}
    (hgd : o.guard = none) (s x : Operand) (hop : o.op = Op.call { callee := Callee.builtin Builtin.append, args := #[s, x], argTypes := #[32, 32] })
    (base : Nat) (v : Value) (l : List Int) (hs : a.eval s = v) (hown : OwnI w base 23 .u64 v l) (y : Int) (g : Nat)
    (hx : a.eval x = .slice (some ⟨g, 0, none⟩) 1 1) (hcell : w.cell? ⟨g, 0, none⟩ = some (.int .u64 y)) (hl : l.length ≤ 1000000) (hb : base ≤ w.heap.size)
    (hK : ∀ v' w', OwnI w' base 23 .u64 v' (l ++ [y]) → w.grownBy w' v.ownBlock → K (a.put o.dst v') w') :
    if Region.wanted o (yielded ops a.tmps) = true then Oper.wp Try.prog o a w K Q else E := by
  have hw : Region.wanted o (yielded ops a.tmps) = true := by simp [Region.wanted, hgd]
  rw [if_pos hw]
  obtain ⟨i0, hi, hz0, hz1, hz2⟩ := info_parts Try.info_u64
  refine wp_append_own w s x _ hop base _ i0 (.int .u64 0) 1 _ (by kernel_rfl) hi hz0 hz1 rfl rfl (by decide) v l.length _ hs hown ⟨g, 0, none⟩ 1 1 [.int .u64 y] hx rfl ?_ ?_ (by unfold maxLen; omega) (by rw [hz2]; omega) hb fun v' w' h1 h2 _ => hK v' w' ?_ h2
  · intro j u hj
    match j, hj with
    | 0, hj => simp at hj; subst hj; simpa [Addr.add] using hcell
  · intro u hu; simp at hu; subst hu; rfl
  · unfold OwnI
    rw [List.length_append, List.map_append]
    exact h1
theorem Try.info_u8 : (Try.prog.info? 5).map (fun i => (i.zero, i.size, i.bytes)) = some (some (.int .u8 0), 1, 1) := by kernel_rfl
theorem wp_make_u8 (w : World) {ops : Array Oper} {rest : List Oper} {o : Oper} {a : Act} {Q : Exit → Act → World → Prop}
    (hg : o.guard = none) (l c : Operand) (hop : o.op = Op.makeSlice 22 l c) (n : Nat) (L C : Int) (hl : a.eval l = .int .i64 L) (hc : a.eval c = .int .i64 C) (hL : L = n) (hC : C = n) (hn : n ≤ 1000000)
    (hK : ∀ w', OwnI w' w.heap.size 5 .u8 (.slice (some ⟨w.heap.size, 0, none⟩) n n) (List.replicate n 0) → Below w.heap.size w w' → wpList Try.prog ops Q rest (a.put o.dst (.slice (some ⟨w.heap.size, 0, none⟩) n n)) w') :
    wpList Try.prog ops Q (o :: rest) a w := by
  obtain ⟨i0, hi, hz0, hz1, hz2⟩ := info_parts Try.info_u8
  refine wpList_make_full w hg l c _ hop w.heap.size 5 i0 (.int .u8 0) 1 Try.underlying22 hi hz0 hz1 _ _ _ _ n hl hc hL hC (by rw [hz2]; omega) (by unfold maxLen; omega) (Nat.le_refl _) fun w' h1 h2 => ?_
  refine hK w' ?_ ((Below.refl _ _).grown h2 (Nat.le_refl _) (fun k hk => by cases hk))
  unfold OwnI
  rw [show (Value.int .u8 0).cells = #[.int .u8 0] from rfl, toList_madeCells_one'] at h1
  simpa using h1
/-- append of one element to a list that the call owns -/
theorem wp_append_u8 (w : World) {ops : Array Oper} {rest : List Oper} {o : Oper} {a : Act} {Q : Exit → Act → World → Prop}
    (hg : o.guard = none) (s x : Operand) (hop : o.op = Op.call { callee := Callee.builtin Builtin.append, args := #[s, x], argTypes := #[22, 22] })
    (base : Nat) (v : Value) (l : List Int) (hs : a.eval s = v) (hown : OwnI w base 5 .u8 v l) (y : Int) (g : Nat)
    (hx : a.eval x = .slice (some ⟨g, 0, none⟩) 1 1) (hcell : w.cell? ⟨g, 0, none⟩ = some (.int .u8 y)) (hl : l.length ≤ 1000000) (hb : base ≤ w.heap.size)
    (hK : ∀ v' w', OwnI w' base 5 .u8 v' (l ++ [y]) → w.grownBy w' v.ownBlock → wpList Try.prog ops Q rest (a.put o.dst v') w') :
    wpList Try.prog ops Q (o :: rest) a w := by
  obtain ⟨i0, hi, hz0, hz1, hz2⟩ := info_parts Try.info_u8
  refine wpList_append_own w hg s x _ hop base _ i0 (.int .u8 0) 1 _ (by kernel_rfl) hi hz0 hz1 rfl rfl (by decide) v l.length _ hs hown ⟨g, 0, none⟩ 1 1 [.int .u8 y] hx rfl ?_ ?_ (by unfold maxLen; omega) (by rw [hz2]; omega) hb fun v' w' h1 h2 h3 => hK v' w' ?_ h2
  · intro j u hj
    match j, hj with
    | 0, hj => simp at hj; subst hj; simpa [Addr.add] using hcell
  · intro u hu; simp at hu; subst hu; rfl
  · unfold OwnI
    rw [List.length_append, List.map_append]
    exact h1
/-- append of a whole list, that is not empty, to nil: a copy -/
theorem wp_copy_u8 (w : World) {ops : Array Oper} {rest : List Oper} {o : Oper} {a : Act} {Q : Exit → Act → World → Prop}
    (hg : o.guard = none) (s x : Operand) (hop : o.op = Op.call { callee := Callee.builtin Builtin.append, args := #[s, x], argTypes := #[22, 22] })
    (xv : Value) (l : List Int) (hs : a.eval s = .slice none 0 0) (hx : a.eval x = xv) (hS : SlI w .u8 xv l) (hne : l ≠ []) (hl : l.length ≤ 1000000)
    (hK : ∀ g cap w', OwnI w' w.heap.size 5 .u8 (.slice (some ⟨g, 0, none⟩) l.length cap) l → Below w.heap.size w w' → w.heap.size ≤ g → wpList Try.prog ops Q rest (a.put o.dst (.slice (some ⟨g, 0, none⟩) l.length cap)) w') :
    wpList Try.prog ops Q (o :: rest) a w := by
  obtain ⟨i0, hi, hz0, hz1, hz2⟩ := info_parts Try.info_u8
  obtain ⟨b, off, cap, rfl, hcap, hb, hc⟩ := hS.open hne
  refine wpList_append_own w hg s x _ hop w.heap.size _ i0 (.int .u8 0) 1 _ (by kernel_rfl) hi hz0 hz1 rfl rfl (by decide) (.slice none 0 0) 0 [] hs (World.ownsRow_nil _ _ _ _) ⟨b, off, none⟩ l.length cap (l.map (Value.int .u8)) hx (by simp) ?_ ?_ (by unfold maxLen; omega) (by rw [hz2]; omega) (Nat.le_refl _) fun v' w' h1 h2 _ => ?_
  · intro j u hj
    rw [add_plain]
    simp only [List.getElem?_map, Option.map_eq_some_iff] at hj
    obtain ⟨y, hy, rfl⟩ := hj
    have hjl : j < l.length := (List.getElem?_eq_some_iff.1 hy).1
    rw [hc j hjl, List.getD_eq_getElem?_getD, hy]; rfl
  · intro u hu; simp only [List.mem_map] at hu; obtain ⟨y, _, rfl⟩ := hu; rfl
  · have ho : OwnI w' w.heap.size 5 .u8 v' l := by unfold OwnI; simpa using h1
    rcases ho.shape with ⟨_, h⟩ | ⟨g, cap', rfl, hg1, _⟩
    · exact absurd h hne
    · exact hK g cap' w' ho ((Below.refl _ _).grown h2 (Nat.le_refl _) (fun j hj => by cases hj)) hg1
/-- the same inside a region that draws its order -/
theorem step_append_u8 {w : World} {ops : Array Oper} {o : Oper} {a : Act} {K : Act → World → Prop} {Q : Exit → Act → World → Prop} {E : Prop}
    (hgd : o.guard = none) (s x : Operand) (hop : o.op = Op.call { callee := Callee.builtin Builtin.append, args := #[s, x], argTypes := #[22, 22] })
    (base : Nat) (v : Value) (l : List Int) (hs : a.eval s = v) (hown : OwnI w base 5 .u8 v l) (y : Int) (g : Nat)
    (hx : a.eval x = .slice (some ⟨g, 0, none⟩) 1 1) (hcell : w.cell? ⟨g, 0, none⟩ = some (.int .u8 y)) (hl : l.length ≤ 1000000) (hb : base ≤ w.heap.size)
    (hK : ∀ v' w', OwnI w' base 5 .u8 v' (l ++ [y]) → w.grownBy w' v.ownBlock → K (a.put o.dst v') w') :
    if Region.wanted o (yielded ops a.tmps) = true then Oper.wp Try.prog o a w K Q else E := by
  have hw : Region.wanted o (yielded ops a.tmps) = true := by simp [Region.wanted, hgd]
  rw [if_pos hw]
  obtain ⟨i0, hi, hz0, hz1, hz2⟩ := info_parts Try.info_u8
  refine wp_append_own w s x _ hop base _ i0 (.int .u8 0) 1 _ (by kernel_rfl) hi hz0 hz1 rfl rfl (by decide) v l.length _ hs hown ⟨g, 0, none⟩ 1 1 [.int .u8 y] hx rfl ?_ ?_ (by unfold maxLen; omega) (by rw [hz2]; omega) hb fun v' w' h1 h2 _ => hK v' w' ?_ h2
  · intro j u hj
    match j, hj with
    | 0, hj => simp at hj; subst hj; simpa [Addr.add] using hcell
  · intro u hu; simp at hu; subst hu; rfl
  · unfold OwnI
    rw [List.length_append, List.map_append]
    exact h1
theorem Try.info_bool : (Try.prog.info? 4).map (fun i => (i.zero, i.size, i.bytes)) = some (some (.bool false), 1, 1) := by kernel_rfl
theorem wp_make_bool (w : World) {ops : Array Oper} {rest : List Oper} {o : Oper} {a : Act} {Q : Exit → Act → World → Prop}
    (hg : o.guard = none) (l c : Operand) (hop : o.op = Op.makeSlice 61 l c) (n : Nat) (L C : Int) (hl : a.eval l = .int .i64 L) (hc : a.eval c = .int .i64 C) (hL : L = n) (hC : C = n) (hn : n ≤ 1000000)
    (hK : ∀ w', OwnB w' w.heap.size 4 (.slice (some ⟨w.heap.size, 0, none⟩) n n) (List.replicate n false) → Below w.heap.size w w' → wpList Try.prog ops Q rest (a.put o.dst (.slice (some ⟨w.heap.size, 0, none⟩) n n)) w') :
    wpList Try.prog ops Q (o :: rest) a w := by
  obtain ⟨i0, hi, hz0, hz1, hz2⟩ := info_parts Try.info_bool
  refine wpList_make_full w hg l c _ hop w.heap.size 4 i0 (.bool false) 1 Try.underlying61 hi hz0 hz1 _ _ _ _ n hl hc hL hC (by rw [hz2]; omega) (by unfold maxLen; omega) (Nat.le_refl _) fun w' h1 h2 => ?_
  refine hK w' ?_ ((Below.refl _ _).grown h2 (Nat.le_refl _) (fun k hk => by cases hk))
  unfold OwnB
  rw [show (Value.bool false).cells = #[.bool false] from rfl, toList_madeCells_one'] at h1
  simpa using h1
end Go.Proofs.Ytckjdlphilpgfaa
/- Appending whole lists, and lists of lists that the call owns. -/
namespace Go.Proofs.Ytckjdlphilpgfaa
open Go.ChangeShapes Go.WideShapes Go.ChangeAt Go.RowKit
set_option maxRecDepth 100000

/-- an append of nothing leaves the value and the world -/
theorem run_append_zero {w : World} {T ty e : TypeId} {i : TypeInfo} (ht : Try.prog.underlying T = some (.slice e)) (hi : Try.prog.info? e = some i) (A B : Option Addr) (n c c' : Nat) (hn : n ≤ c) :
    (Builtin.append_ #[T, T] ty #[.slice A n c, .slice B 0 c']).run Try.prog w = .ok (.slice A n c) w := by
  cases A <;> cases B <;> simp [Builtin.append_, run_underlying ht, sizeOf, typeInfo, hi, Builtin.lenOf, Builtin.firstCells, storeCells, loadCells, loadCellsFrom, Result.andThen, hn]
theorem run_app_i64 (w : World) (ty : TypeId) (base : Nat) (v : Value) (l : List Int) (hown : OwnI w base 3 .i64 v l) (xv : Value) (l2 : List Int) (hS : SlI w .i64 xv l2)
    (hl : l.length ≤ 1000000) (hl2 : l2.length ≤ 1000000) (hb : base ≤ w.heap.size) :
    ∃ v' w', (Builtin.append_ #[31, 31] ty #[v, xv]).run Try.prog w = .ok v' w' ∧ OwnI w' base 3 .i64 v' (l ++ l2) ∧ w.grownBy w' v.ownBlock := by
  obtain ⟨i0, hi, hz0, hz1, hz2⟩ := info_parts Try.info_i64
  by_cases hne : l2 = []
  · subst hne
    obtain ⟨B, c', rfl, -⟩ := hS.len
    have e : ∃ A c, v = .slice A l.length c ∧ l.length ≤ c := by
      rcases hown.shape with ⟨rfl, rfl⟩ | ⟨g, cap, rfl, _, _, h, _⟩
      · exact ⟨_, _, rfl, Nat.le_refl _⟩
      · exact ⟨_, _, rfl, h⟩
    obtain ⟨A, c, rfl, hc⟩ := e
    refine ⟨_, w, run_append_zero (by kernel_rfl) hi A B l.length c c' hc, by simpa using hown, grownBy_refl _ _⟩
  · obtain ⟨b, off, cap, rfl, hcap, hbk, hc⟩ := hS.open hne
    obtain ⟨v', w', hr, h2, h3, -⟩ := run_append_own (P := Try.prog) w base 31 ty 3 i0 (.int .i64 0) 1 _ (by kernel_rfl) hi hz0 hz1 rfl rfl (by decide) v l.length _ hown ⟨b, off, none⟩ l2.length cap (l2.map (Value.int .i64)) (by simp) (by
      intro j u hj
      rw [add_plain]
      simp only [List.getElem?_map, Option.map_eq_some_iff] at hj
      obtain ⟨y, hy, rfl⟩ := hj
      have hjl : j < l2.length := (List.getElem?_eq_some_iff.1 hy).1
      rw [hc j hjl, List.getD_eq_getElem?_getD, hy]; rfl) (by intro u hu; simp only [List.mem_map] at hu; obtain ⟨y, _, rfl⟩ := hu; rfl) (by unfold maxLen; omega) (by rw [hz2]; omega) hb
    refine ⟨v', w', hr, ?_, h3⟩
    unfold OwnI
    rw [List.length_append, List.map_append]
    exact h2
/-- append of a list that reads, to a list that the call owns -/
theorem wp_app_i64 (w : World) {ops : Array Oper} {rest : List Oper} {o : Oper} {a : Act} {Q : Exit → Act → World → Prop}
    (hg : o.guard = none) (s x : Operand) (hop : o.op = Op.call { callee := Callee.builtin Builtin.append, args := #[s, x], argTypes := #[31, 31] })
    (base : Nat) (v : Value) (l : List Int) (hs : a.eval s = v) (hown : OwnI w base 3 .i64 v l) (xv : Value) (l2 : List Int) (hx : a.eval x = xv) (hS : SlI w .i64 xv l2)
    (hl : l.length ≤ 1000000) (hl2 : l2.length ≤ 1000000) (hb : base ≤ w.heap.size)
    (hK : ∀ v' w', OwnI w' base 3 .i64 v' (l ++ l2) → w.grownBy w' v.ownBlock → wpList Try.prog ops Q rest (a.put o.dst v') w') :
    wpList Try.prog ops Q (o :: rest) a w := by
  obtain ⟨v', w', hr, h1, h2⟩ := run_app_i64 w o.type base v l hown xv l2 hS hl hl2 hb
  exact Lib.wpList_append_run w hg s x _ _ hop _ _ hs hx v' w' hr (hK v' w' h1 h2)
/-- the same inside a region that draws its order -/
theorem step_app_i64 {w : World} {ops : Array Oper} {o : Oper} {a : Act} {K : Act → World → Prop} {Q : Exit → Act → World → Prop} {E : Prop}
    (hgd : o.guard = none) (s x : Operand) (hop : o.op = Op.call { callee := Callee.builtin Builtin.append, args := #[s, x], argTypes := #[31, 31] })
    (base : Nat) (v : Value) (l : List Int) (hs : a.eval s = v) (hown : OwnI w base 3 .i64 v l) (xv : Value) (l2 : List Int) (hx : a.eval x = xv) (hS : SlI w .i64 xv l2)
    (hl : l.length ≤ 1000000) (hl2 : l2.length ≤ 1000000) (hb : base ≤ w.heap.size)
    (hK : ∀ v' w', OwnI w' base 3 .i64 v' (l ++ l2) → w.grownBy w' v.ownBlock → K (a.put o.dst v') w') :
    if Region.wanted o (yielded ops a.tmps) = true then Oper.wp Try.prog o a w K Q else E := by
  have hw : Region.wanted o (yielded ops a.tmps) = true := by simp [Region.wanted, hgd]
  rw [if_pos hw]
  obtain ⟨v', w', hr, h1, h2⟩ := run_app_i64 w o.type base v l hown xv l2 hS hl hl2 hb
  exact Lib.wp_append_run w s x _ _ hop _ _ hs hx v' w' hr (hK v' w' h1 h2)
/-- a copy of a list of words -/
theorem run_copy_u64 (w : World) (ty : TypeId) (B : Nat) (hB : B ≤ w.heap.size) (s : Value) (hs : w.ownsRow B 23 1 s 0 []) (xv : Value) (l : List Int) (hS : SlI w .u64 xv l) (hl : l.length ≤ 1000000) :
    ∃ v' w', (Builtin.append_ #[32, 32] ty #[s, xv]).run Try.prog w = .ok v' w' ∧ OwnI w' B 23 .u64 v' l ∧ w.grownBy w' s.ownBlock := by
  obtain ⟨i0, hi, hz0, hz1, hz2⟩ := info_parts Try.info_u64
  by_cases hne : l = []
  · subst hne
    obtain ⟨B, c', rfl, -⟩ := hS.len
    have e : ∃ A c, s = .slice A 0 c ∧ 0 ≤ c := by
      rcases hs.2 with ⟨rfl, _⟩ | ⟨g, cap, cur, rfl, _⟩
      · exact ⟨_, _, rfl, Nat.le_refl _⟩
      · exact ⟨_, _, rfl, Nat.zero_le _⟩
    obtain ⟨A, c, rfl, hc⟩ := e
    exact ⟨_, w, run_append_zero (by kernel_rfl) hi A B 0 c c' hc, hs, grownBy_refl _ _⟩
  · obtain ⟨b, off, cap, rfl, hcap, hbk, hc⟩ := hS.open hne
    obtain ⟨v', w', hr, h2, h3, -⟩ := run_append_own (P := Try.prog) w B 32 ty 23 i0 (.int .u64 0) 1 _ (by kernel_rfl) hi hz0 hz1 rfl rfl (by decide) s 0 _ hs ⟨b, off, none⟩ l.length cap (l.map (Value.int .u64)) (by simp) (by
      intro j u hj
      rw [add_plain]
      simp only [List.getElem?_map, Option.map_eq_some_iff] at hj
      obtain ⟨y, hy, rfl⟩ := hj
      have hjl : j < l.length := (List.getElem?_eq_some_iff.1 hy).1
      rw [hc j hjl, List.getD_eq_getElem?_getD, hy]; rfl) (by intro u hu; simp only [List.mem_map] at hu; obtain ⟨y, _, rfl⟩ := hu; rfl) (by unfold maxLen; omega) (by rw [hz2]; omega) hB
    refine ⟨v', w', hr, ?_, h3⟩
    unfold OwnI
    simpa using h2
theorem Try.info_li : (Try.prog.info? 31).map (fun i => (i.zero, i.size, i.bytes)) = some (some (.slice none 0 0), 1, 24) := by kernel_rfl
theorem SlI.one {w : World} {k : IntKind} {v : Value} {l : List Int} (h : SlI w k v l) : v.oneCell' = true := by
  obtain ⟨_, _, a, cap, rfl, _⟩ := h; rfl
/-- an owned row of lists reads -/
theorem row_read {w : World} {base : Nat} {v : Value} {us : List Value} {ll : List (List Int)} (h : w.ownsRow base 31 1 v ll.length us) (he : ∀ t, t < ll.length → SlI w .i64 (us.getD t (.slice none 0 0)) (ll.getD t [])) (hl : ll.length ≤ 140737488351232) : SlL w v us ll := by
  have hus : us.length = ll.length := by have := h.1; omega
  refine ⟨hl, hus, ?_⟩
  have h0 := h
  rcases h.2 with ⟨rfl, h2⟩ | ⟨g, cap, cur, rfl, h3, h4, h5, h6, h7, h8⟩
  · exact ⟨none, 0, by rw [h2], by omega, fun t ht => by omega⟩
  · refine ⟨some ⟨g, 0, none⟩, cap, rfl, h5, fun t ht => ⟨g, 0, rfl, (Array.getElem?_eq_some_iff.1 h4).1, ?_, he t ht⟩⟩
    rw [Nat.zero_add, World.ownsRow.cellAt h0 t (by omega)]
    simp [List.getD_eq_getElem?_getD, show t < us.length by omega]
theorem each_set {w : World} {us : List Value} {ll : List (List Int)} (hus : us.length = ll.length) (i : Nat) {u : Value} {l : List Int} (hu : SlI w .i64 u l) (hk : ∀ t, t < ll.length → SlI w .i64 (us.getD t (.slice none 0 0)) (ll.getD t [])) :
    ∀ t, t < (ll.set i l).length → SlI w .i64 ((us.set i u).getD t (.slice none 0 0)) ((ll.set i l).getD t []) := by
  intro t ht
  have ht' : t < ll.length := by simpa using ht
  rw [getD_setL, getD_setL]
  by_cases e : i = t
  · simpa [e, hus, ht'] using hu
  · simpa [e] using hk t ht'
theorem SlL.each {w : World} {v : Value} {us : List Value} {ll : List (List Int)} (h : SlL w v us ll) : ∀ t, t < ll.length → SlI w .i64 (us.getD t (.slice none 0 0)) (ll.getD t []) := by
  obtain ⟨_, _, _, _, _, _, h5⟩ := h
  intro t ht
  obtain ⟨_, _, _, _, _, h⟩ := h5 t ht
  exact h
end Go.Proofs.Ytckjdlphilpgfaa
/- The library's small functions on slices: Clone, Grow of nil, Concat, Index. -/
namespace Go.Proofs.Ytckjdlphilpgfaa
open Go.ChangeShapes Go.WideShapes Go.ChangeAt Go.RowKit
set_option maxRecDepth 100000

theorem SlI.nil_of {w : World} {k : IntKind} {n c : Nat} {l : List Int} (h : SlI w k (.slice none n c) l) : l = [] := by
  obtain ⟨_, _, a', cap', e, _, h5⟩ := h
  simp only [Value.slice.injEq] at e
  rcases Nat.eq_zero_or_pos l.length with h0 | h0
  · exact List.length_eq_zero_iff.1 h0
  · obtain ⟨b, off, e2, _⟩ := h5 0 h0
    rw [← e.1] at e2; cases e2
theorem SlL.nil_of {w : World} {n c : Nat} {us : List Value} {l : List (List Int)} (h : SlL w (.slice none n c) us l) : l = [] := by
  obtain ⟨_, _, a', cap', e, _, h5⟩ := h
  simp only [Value.slice.injEq] at e
  rcases Nat.eq_zero_or_pos l.length with h0 | h0
  · exact List.length_eq_zero_iff.1 h0
  · obtain ⟨b, off, e2, _⟩ := h5 0 h0
    rw [← e.1] at e2; cases e2
set_option maxHeartbeats 1000000 in
theorem cloneU_any (v : Value) (l : List Int) (w : World) (h : SlI w .u64 v l) (hl : l.length ≤ 1000000) :
    Calls Try.prog 60 #[v] w fun e w' => ∃ v', e = .returned v' ∧ OwnI w' w.heap.size 23 .u64 v' l ∧ Below w.heap.size w w' := by
  obtain ⟨a, cap, e, hcap⟩ := h.len
  have H := Lib.hid h
  have HL := Lib.hid hl
  clear h hl
  have q0 : ∀ (w : World) (a : Option Addr) (n c n' c' : Nat), (binOp .eql 32 (.slice a n c) (.slice none n' c')).run Try.prog w = .ok (.bool a.isNone) w := fun w a n c n' c' => Lib.run_eql_slice_nil w _ _ a n c n' c' Try.underlying32
  cases a with
  | none =>
    subst e
    have hl0 := H.out.nil_of
    subst hl0
    go_enter Try.func60, Try.ntmps60
    go_wp2
    go_ret
    exact ⟨_, rfl, OwnI.nil _ _ _ _, Below.refl _ _⟩
  | some p =>
    subst e
    generalize hn : l.length = n at *
    have HN := Lib.hid hn
    clear hn
    have hnew : Hid (SlI (w.alloc (.cells #[] 23)) .u64 (.slice (some p) n cap) l) := H.out.below (below_new (Below.refl _ _) _)
    obtain ⟨v', w', hr, h1, h2⟩ := run_copy_u64 (w.alloc (.cells #[] 23)) 32 w.heap.size (by simp) (.slice (some ⟨w.heap.size, 0, none⟩) 0 0) (World.ownsRow_made w #[] 0 (Nat.le_refl _) (Nat.zero_le _) rfl) _ l hnew.out (by rw [HN.out]; exact HL.out)
    have H1 := Lib.hid h1
    have H2 := Lib.hid h2
    clear h1 h2
    go_enter Try.func60, Try.ntmps60
    go_wp2_with (at_builtin; refine Lib.wpList_append_run _ rfl _ _ _ _ rfl _ _ rfl rfl _ _ hr ?_)
    go_ret
    exact ⟨v', rfl, H1.out, below_grown (below_new (Below.refl _ _) _) H2.out (Nat.le_refl _)⟩
/-- x first lies at i -/
structure FstL (l : List Int) (x : Int) (i : Nat) : Prop where
  lt : i < l.length
  hit : l.getD i 0 = x
  miss : ∀ j, j < i → l.getD j 0 ≠ x
theorem erase_none (l : List Int) (x : Int) (h : ∀ j, j < l.length → l.getD j 0 ≠ x) : l.erase x = l := by
  refine List.erase_of_not_mem fun hm => ?_
  obtain ⟨j, hj, e⟩ := List.mem_iff_getElem.1 hm
  exact h j hj (by simpa [List.getD_eq_getElem?_getD, hj] using e)
theorem FstL.erase {l : List Int} {x : Int} {i : Nat} (h : FstL l x i) : l.erase x = l.take i ++ l.drop (i + 1) := by
  induction l generalizing i with
  | nil => exact absurd h.lt (by simp)
  | cons y l ih =>
    cases i with
    | zero =>
      have e : y = x := by simpa using h.hit
      subst e
      simp
    | succ i =>
      have e : y ≠ x := by simpa using h.miss 0 (Nat.succ_pos _)
      have hi : FstL l x i := ⟨by simpa using h.lt, by simpa using h.hit, fun j hj => by simpa using h.miss (j + 1) (by omega)⟩
      rw [List.erase_cons_tail (by simpa using e), ih hi]
      simp
end Go.Proofs.Ytckjdlphilpgfaa
