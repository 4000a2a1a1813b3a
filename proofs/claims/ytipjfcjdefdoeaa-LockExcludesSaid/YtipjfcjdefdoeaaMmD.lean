/- The reader of choices makes memories and accesses. -/
import Derived.Test.YtipjfcjdefdoeaaMmA
import Derived.Test.YtipjfcjdefdoeaaMmO
import Derived.Test.YtipjfcjdefdoeaaDrawE
import Derived.Deep.RegionLaw
namespace Go.Proofs.Ytipjfcjdefdoeaa
open Go.ChangeShapes Go.WideShapes Go.ChangeAt Go.RowKit
set_option maxRecDepth 100000

theorem apart_rows {w : World} {b1 b2 n1 n2 s1 s2 : Nat} {e1 e2 : TypeId} {v1 v2 : Value} {l1 l2 : List Value} (h1 : w.ownsRow b1 e1 s1 v1 n1 l1) (h2 : w.ownsRow b2 e2 s2 v2 n2 l2) (he : e1 ≠ e2) : v1.ownBlock = none ∨ v1.ownBlock ≠ v2.ownBlock := by
  rcases h1.2 with ⟨rfl, _⟩ | ⟨g, cap, cur, rfl, _, hg, _⟩
  · exact .inl rfl
  · rcases h2.2 with ⟨rfl, _⟩ | ⟨g', cap', cur', rfl, _, hg', _⟩
    · exact .inr (by simp [Value.ownBlock])
    · refine .inr ?_
      simp only [Value.ownBlock, ne_eq, Option.some.injEq]
      intro e
      rw [e, hg'] at hg
      simp at hg
      exact he hg.2.symm
theorem row_ne {w : World} {base n s : Nat} {e : TypeId} {v : Value} {l : List Value} (h : w.ownsRow base e s v n l) {g : Nat} (hg : g < base) : v.ownBlock = none ∨ v.ownBlock ≠ some g := by
  cases hv : v.ownBlock with
  | none => exact .inl rfl
  | some b => exact .inr fun e => by have := (World.ownsRow.lt h b hv).1; cases e; omega
/-- while a memory is made: the reader, the result's block, the variable with its words and lists -/
structure MemInv (w0 w : World) (g V : Nat) (vw vl : Value) (words : List Int) (us : List Value) (ll : List (List Int)) (tick : Int) : Prop where
  lt : g < w0.heap.size
  vlt : w0.heap.size + 1 ≤ V
  size : V + 1 ≤ w.heap.size
  codes : CodesE w g
  grown : w0.grownBy w (some g)
  res : w.heap[w0.heap.size]? = some (.cells zeroMem 29 (0, 0))
  var : w.heap[V]? = some (.cells #[vw, vl, .int .i64 tick] 29 (0, 0))
  ow : OwnI w (V + 1) 32 .u64 vw words
  ol : w.ownsRow (V + 1) 36 1 vl ll.length us
  each : ∀ t, t < ll.length → OwnI w (V + 1) 3 .i64 (us.getD t (.slice none 0 0)) (ll.getD t [])
theorem MemInv.next {w0 w w' : World} {g V : Nat} {vw vl : Value} {words : List Int} {us : List Value} {ll : List (List Int)} {tick : Int} (h : MemInv w0 w g V vw vl words us ll tick) (hc : CodesE w' g) (hg : w.grownBy w' (some g)) : MemInv w0 w' g V vw vl words us ll tick := by
  have hs := h.size
  have hl := h.lt
  have hv := h.vlt
  exact ⟨hl, hv, Nat.le_trans hs hg.size, hc, grownBy_trans h.grown hg, (hg.block _ (by omega) (by simp; omega)).trans h.res, (hg.block _ (by omega) (by simp; omega)).trans h.var, h.ow.kept hg (h.ow.ne (by omega)), h.ol.kept hg (row_ne h.ol (by omega)), fun t ht => (h.each t ht).kept hg ((h.each t ht).ne (by omega))⟩
theorem MemInv.below {w0 w w' : World} {g V : Nat} {vw vl : Value} {words : List Int} {us : List Value} {ll : List (List Int)} {tick : Int} (h : MemInv w0 w g V vw vl words us ll tick) (hb : Below w.heap.size w w') : MemInv w0 w' g V vw vl words us ll tick :=
  h.next (h.codes.kept h.codes.lt hb) (grown_below hb)
theorem MemInv.addWord {w0 w w1 : World} {g V : Nat} {vw vw' vl : Value} {words words' : List Int} {us : List Value} {ll : List (List Int)} {tick : Int} (h : MemInv w0 w g V vw vl words us ll tick) (ho : OwnI w1 (V + 1) 32 .u64 vw' words') (hg : w.grownBy w1 vw.ownBlock) :
    MemInv w0 (w1.setCell ⟨V, 0, none⟩ vw') g V vw' vl words' us ll tick := by
  have hs := h.size
  have hl := h.lt
  have hv := h.vlt
  have hge := h.ow.own_ge
  have b : ∀ j, j < V + 1 → w1.heap[j]? = w.heap[j]? := fun j hj => hg.block j (by omega) (fun e => by have := hge j e.symm; omega)
  have b2 : ∀ j, j ≠ V → (w1.setCell ⟨V, 0, none⟩ vw').heap[j]? = w1.heap[j]? := fun j hj => heap_setCell_other w1 ⟨V, 0, none⟩ j _ hj
  have hb : Below V w (w1.setCell ⟨V, 0, none⟩ vw') := ⟨hg.os, hg.tape, hg.output, by simpa using hg.size, fun k hk => (b2 k (by omega)).trans (b k (by omega))⟩
  have hvr := heap_setCell_same w1 V 0 _ _ vw' ((b _ (by omega)).trans h.var)
  have gs := grownBy_setCell w1 ⟨V, 0, none⟩ vw'
  have o1 := h.ol.kept hg (apart_rows h.ol h.ow (by decide))
  refine ⟨hl, hv, by simpa using Nat.le_trans hs hg.size, h.codes.kept (by omega) hb, ?_, (b2 _ (by omega)).trans ((b _ (by omega)).trans h.res), by simpa using hvr, ho.kept gs (ho.ne (Nat.lt_succ_self _)), o1.kept gs (row_ne o1 (Nat.lt_succ_self _)), fun t ht => ?_⟩
  · exact grownBy_of_new (grownBy_of_new h.grown hg (fun k hk => by have := hge k hk; omega)) gs (fun k hk => by cases hk; simp; omega)
  · have e1 := (h.each t ht).kept hg (apart_rows (h.each t ht) h.ow (by decide))
    exact e1.kept gs (e1.ne (Nat.lt_succ_self _))
theorem MemInv.addList {w0 w w1 : World} {g V : Nat} {vw vl vl' u : Value} {words l : List Int} {us : List Value} {ll : List (List Int)} {tick : Int} (h : MemInv w0 w g V vw vl words us ll tick) (hu : OwnI w (V + 1) 3 .i64 u l) (ho : w1.ownsRow (V + 1) 36 1 vl' (ll.length + 1) (us ++ [u])) (hg : w.grownBy w1 vl.ownBlock) :
    MemInv w0 (w1.setCell ⟨V, 1, none⟩ vl') g V vw vl' words (us ++ [u]) (ll ++ [l]) tick := by
  have hs := h.size
  have hl := h.lt
  have hv := h.vlt
  have hge := fun j hj => (World.ownsRow.lt h.ol j hj).1
  have hus : us.length = ll.length := by have := h.ol.1; omega
  have b : ∀ j, j < V + 1 → w1.heap[j]? = w.heap[j]? := fun j hj => hg.block j (by omega) (fun e => by have := hge j e.symm; omega)
  have b2 : ∀ j, j ≠ V → (w1.setCell ⟨V, 1, none⟩ vl').heap[j]? = w1.heap[j]? := fun j hj => heap_setCell_other w1 ⟨V, 1, none⟩ j _ hj
  have hb : Below V w (w1.setCell ⟨V, 1, none⟩ vl') := ⟨hg.os, hg.tape, hg.output, by simpa using hg.size, fun k hk => (b2 k (by omega)).trans (b k (by omega))⟩
  have hvr := heap_setCell_same w1 V 1 _ _ vl' ((b _ (by omega)).trans h.var)
  have gs := grownBy_setCell w1 ⟨V, 1, none⟩ vl'
  have o1 := h.ow.kept hg (apart_rows h.ow h.ol (by decide))
  refine ⟨hl, hv, by simpa using Nat.le_trans hs hg.size, h.codes.kept (by omega) hb, ?_, (b2 _ (by omega)).trans ((b _ (by omega)).trans h.res), by simpa using hvr, o1.kept gs (o1.ne (Nat.lt_succ_self _)), ?_, fun t ht => ?_⟩
  · exact grownBy_of_new (grownBy_of_new h.grown hg (fun k hk => by have := hge k hk; omega)) gs (fun k hk => by cases hk; simp; omega)
  · rw [List.length_append, List.length_singleton]
    exact ho.kept gs (row_ne ho (Nat.lt_succ_self _))
  · rw [List.length_append, List.length_singleton] at ht
    by_cases e : t < ll.length
    · have e1 := (h.each t e).kept hg (apart_rows (h.each t e) h.ol (by decide))
      have e2 := e1.kept gs (e1.ne (Nat.lt_succ_self _))
      simpa [List.getD_eq_getElem?_getD, List.getElem?_append_left, e, show t < us.length by omega] using e2
    · obtain rfl : t = ll.length := by omega
      have e1 := hu.kept hg (apart_rows hu h.ol (by decide))
      have e2 := e1.kept gs (e1.ne (Nat.lt_succ_self _))
      simpa [List.getD_eq_getElem?_getD, hus.symm] using e2
/-- append of one list to a row of lists that the call owns -/
theorem wp_append_li (w : World) {ops : Array Oper} {rest : List Oper} {o : Oper} {a : Act} {Q : Exit → Act → World → Prop}
    (hg : o.guard = none) (s x : Operand) (hop : o.op = Op.call { callee := Callee.builtin Builtin.append, args := #[s, x], argTypes := #[27, 27] })
    (base : Nat) (v : Value) (n : Nat) (us : List Value) (hs : a.eval s = v) (hown : w.ownsRow base 36 1 v n us) (u : Value) (hu : u.oneCell' = true) (g : Nat)
    (hx : a.eval x = .slice (some ⟨g, 0, none⟩) 1 1) (hcell : w.cell? ⟨g, 0, none⟩ = some u) (hl : n ≤ 1000000) (hb : base ≤ w.heap.size)
    (hK : ∀ v' w', w'.ownsRow base 36 1 v' (n + 1) (us ++ [u]) → w.grownBy w' v.ownBlock → wpList Try.prog ops Q rest (a.put o.dst v') w') :
    wpList Try.prog ops Q (o :: rest) a w := by
  obtain ⟨i0, hi, hz0, hz1, hz2⟩ := info_parts Try.info_li
  refine wpList_append_own w hg s x _ hop base _ i0 (.slice none 0 0) 1 _ (by kernel_rfl) hi hz0 hz1 rfl rfl (by decide) v n _ hs hown ⟨g, 0, none⟩ 1 1 [u] hx rfl ?_ ?_ (by unfold maxLen; omega) (by rw [hz2]; omega) hb fun v' w' h1 h2 _ => hK v' w' h1 h2
  · intro j y hj
    match j, hj with
    | 0, hj => simp at hj; subst hj; simpa [Addr.add] using hcell
  · intro y hy; simp at hy; subst hy; exact hu
theorem OwnI.shape2 {w : World} {base : Nat} {e : TypeId} {k : IntKind} {v : Value} {l : List Int} (h : OwnI w base e k v l) : ∃ A c, v = .slice A l.length c := by
  rcases h.shape with ⟨rfl, rfl⟩ | ⟨g, cap, rfl, _⟩
  · exact ⟨_, _, rfl⟩
  · exact ⟨_, _, rfl⟩
theorem row_shape {w : World} {base n s : Nat} {e : TypeId} {v : Value} {l : List Value} (h : w.ownsRow base e s v n l) : ∃ A c, v = .slice A n c := by
  rcases h.2 with ⟨rfl, h2⟩ | ⟨g, cap, cur, rfl, _⟩
  · rw [h2]; exact ⟨_, _, rfl⟩
  · exact ⟨_, _, rfl⟩
/-- the memory that was made: small numbers -/
structure SmallM (words : List Int) (ll : List (List Int)) (nw nl : Nat) : Prop where
  nw : words.length = nw
  nl : ll.length = nl
  wf : ∀ x ∈ words, 0 ≤ x ∧ x < 4
  each : ∀ t, (ll.getD t []).length ≤ 3 ∧ ∀ x ∈ ll.getD t [], 0 ≤ x ∧ x < 4
theorem SmallM.word {words : List Int} {ll : List (List Int)} {a b : Nat} (h : SmallM words ll a b) (x : Int) (hx : 0 ≤ x ∧ x < 4) : SmallM (words ++ [x]) ll (a + 1) b := by
  refine ⟨by simp [h.nw], h.nl, fun y hy => ?_, h.each⟩
  rw [List.mem_append, List.mem_singleton] at hy
  rcases hy with hy | rfl
  · exact h.wf y hy
  · exact hx
theorem SmallM.list {words : List Int} {ll : List (List Int)} {a b : Nat} (h : SmallM words ll a b) (l : List Int) (hl : l.length ≤ 3) (hx : ∀ x ∈ l, 0 ≤ x ∧ x < 4) : SmallM words (ll ++ [l]) a (b + 1) := by
  refine ⟨h.nw, by simp [h.nl], h.wf, fun t => ?_⟩
  by_cases e : t < ll.length
  · simpa [List.getD_eq_getElem?_getD, List.getElem?_append_left, e] using h.each t
  · by_cases e2 : t = ll.length
    · subst e2; simpa [List.getD_eq_getElem?_getD] using ⟨hl, hx⟩
    · rw [List.getD_eq_getElem?_getD, List.getElem?_eq_none (by simp; omega)]; simp
theorem u64_ok4 (x : Int) (h0 : 0 ≤ x) (h1 : x < 4) : x = IntKind.u64.wrap x := by rw [IntKind.wrap_u64]; omega
theorem i64_ok4 (x : Int) (h0 : 0 ≤ x) (h1 : x < 5) : x = IntKind.i64.wrap x := by rw [IntKind.wrap_i64]; omega
set_option maxHeartbeats 8000000 in
theorem memoryE (g : Nat) (w : World) (h : CodesE w g) :
    Calls Try.prog 9 #[.pointer (some ⟨g, 0, none⟩)] w fun e w' => ∃ v m, e = .returned v ∧ StM (fun w2 => w'.grownBy w2 (some g)) v m ∧ m.fits ∧ (0 ≤ m.tick ∧ m.tick < 5) ∧ m.words.length ≤ 7 ∧ m.lists.length ≤ 3 ∧ CodesE w' g ∧ w.grownBy w' (some g) := by
  have hlt := h.lt
  have hb0 := below_new (Below.refl w.heap.size w) (.cells zeroMem 29)
  have HC0 := Lib.hid (h.kept hlt hb0)
  have HB0 := Lib.hid hb0
  have HR0 : Hid ((w.alloc (.cells zeroMem 29)).heap[w.heap.size]? = some (.cells zeroMem 29 (0, 0))) := heap_alloc_new _ _
  clear h hb0
  go_enter Try.func9, Try.ntmps9
  go_wp2_with fail
  rw [show (#[.slice none 0 0, .slice none 0 0, .int .i64 0] : Array Value) = zeroMem from rfl]
  refine (nextE g 5 _ HC0.out (by omega) (by omega)).mono ?_; rintro e w1 ⟨tick, rfl, ht0, ht1, hc1, hg1⟩
  have hz1 : w.heap.size + 1 ≤ w1.heap.size := by have := hg1.size; simpa using this
  have N1 : Hid ((w1.alloc (.cells zeroMem 29)).heap[w1.heap.size]? = some (.cells zeroMem 29 (0, 0))) := heap_alloc_new _ _
  obtain ⟨W, hW⟩ : ∃ W, (w1.alloc (.cells zeroMem 29)).setRow w1.heap.size #[.slice none 0 0, .slice none 0 0, .int .i64 tick] = W := ⟨_, rfl⟩
  have hbW : Below w1.heap.size w1 W := hW ▸ row_below (below_new (Below.refl _ _) _) (Nat.le_refl _) _
  have hzW : w1.heap.size + 1 = W.heap.size := by rw [← hW]; simp
  have ST : Hid (MemInv w W g w1.heap.size (.slice none 0 0) (.slice none 0 0) [] [] [] tick) := by
    refine ⟨hlt, hz1, by omega, hc1.kept (by omega) hbW, grownBy_of_below (grownBy_trans (grown_below HB0.out) hg1) ((hbW.mono (by omega))), ?_, hW ▸ setRow_heap _ _ _ _ _ (0, 0) N1.out, OwnI.nil _ _ _ _, World.ownsRow_nil _ _ _ _, fun t ht => by simp at ht⟩
    exact (hbW.block _ (by omega)).trans ((hg1.block _ (by simp) (by simp; omega)).trans HR0.out)
  have SM : Hid (SmallM [] [] 0 0) := ⟨rfl, rfl, by simp, by simp⟩
  have HW := Lib.hid hW
  clear hc1 hg1 HC0 HB0 HR0 hbW hW
  go_upto_region 2 with (first
    | (refine wpList_store_row rfl 29 _ _ rfl (w1.heap.size) _ rfl rfl 29 zeroMem N1.out (by kernel_rfl) rfl (by simp [Value.oneCell']) ?_))
  rw [show (#[.slice none 0 0, .slice none 0 0, .int .i64 0] : Array Value) = zeroMem from rfl, HW.out]
  clear HW N1 hzW
  generalize w1.heap.size = V at *
  go_wp2_with fail
  go_loopw [4] (fun i wr => ∃ k : Nat, ∃ vw words, k ≤ 6 ∧ i = .int .i64 k ∧ Hid (MemInv w wr g V vw (.slice none 0 0) words [] [] tick) ∧ Hid (SmallM words [] k 0)) (fun i _ => 7 - (intOf i).toNat)
  case atStart => exact ⟨0, _, _, by omega, rfl, ST, SM⟩
  case round =>
    clear ST SM
    obtain ⟨k, vw, words, hk, rfl, hI, hO⟩ := hrel
    obtain ⟨wo, rfl⟩ : ∃ wo : World, wo = wr := ⟨_, rfl⟩
    go_wp2_with fail
    refine (nextE g 6 _ hI.out.codes (by omega) (by omega)).mono ?_; rintro e w2 ⟨x, rfl, hx0, hx1, hc2, hg2⟩
    have hI1 := Lib.hid (hI.out.next hc2 hg2)
    clear hI hc2 hg2
    by_cases hlt : (k : Int) < 1 + x
    · go_upto_region 5 with fail
      obtain ⟨v0, v1, v2⟩ := rowc3 hI1.out.var
      have q1 : V < w2.heap.size := by have := hI1.out.size; omega
      go_region_law (first
        | (refine step_append_u64 (by rfl) _ _ (by rfl) (V + 1) vw words (by rfl) (hI2.out.ow.alloc _) (IntKind.u64.wrap y) _ (by rfl) (by exact World.cell?_alloc_at _ _ _ _ rfl) (by rw [hO.out.nw]; omega) (by have := hI2.out.size; simp; omega) ?_; intro vw8 w8 ho8 hg8; obtain ⟨g8, cap8, e8⟩ := OwnI.shape2 ho8; rw [List.length_append, List.length_singleton] at e8; subst e8; have hr8 := (hg8.block V (by simp; have := hI2.out.size; omega) (by intro e; have := hI2.out.ow.own_ge _ e.symm; omega)).trans (((below_new (Below.refl _ _) _).block V (by have := hI2.out.size; omega)).trans hI2.out.var); have hF8 := frozen_of_row _ _ 0 _ _ hr8; obtain ⟨v0, v1, v2⟩ := rowc3 hr8; clear hr8)
        | (go_simp; go_at_call 13; refine (nextE g 4 _ (by exact hI1.out.codes) (by omega) (by omega)).mono ?_; rintro e w3 ⟨y, rfl, hy0, hy1, hc3, hg3⟩; have hI2 := Lib.hid (hI1.out.next hc3 ⟨hg3.os, hg3.tape, hg3.output, hg3.size, hg3.block⟩); obtain ⟨v0, v1, v2⟩ := rowc3 hI2.out.var; have q2 : V < w3.heap.size := (by have := hI2.out.size; omega); clear hc3 hg3))
      all_goals
        have hI3 := Lib.hid ((hI2.out.below (below_new (Below.refl _ _) _)).addWord ho8 hg8)
        rw [← u64_ok4 y hy0 hy1] at hI3
        have hO3 := Lib.hid (hO.out.word y ⟨hy0, hy1⟩)
        clear v0 v1 v2 ho8 hg8 hF8 hI2 hI1 hO
        go_wp2
        go_roundw
        case rel => exact ⟨k + 1, _, _, by omega, by go_num, hI3, hO3⟩
        case measure => simp [intOf]; omega
    · go_wp2_with fail
      go_loopw [5] (fun i wr => ∃ j : Nat, ∃ vl us ll, j ≤ 2 ∧ i = .int .i64 j ∧ Hid (MemInv w wr g V vw vl words us ll tick) ∧ Hid (SmallM words ll k j)) (fun i _ => 3 - (intOf i).toNat)
      case atStart => exact ⟨0, _, _, _, by omega, rfl, hI1, hO⟩
      case round =>
        clear hI1 hO
        obtain ⟨j, vl, us, ll, hj, rfl, hI, hO⟩ := hrel
        obtain ⟨wo, rfl⟩ : ∃ wo : World, wo = wr := ⟨_, rfl⟩
        go_wp2_with fail
        refine (nextE g 3 _ hI.out.codes (by omega) (by omega)).mono ?_; rintro e w3 ⟨y, rfl, hy0, hy1, hc3, hg3⟩
        have hI3 := Lib.hid (hI.out.next hc3 hg3)
        clear hI hc3 hg3
        by_cases hlt2 : (j : Int) < y
        · go_wp2_with fail
          go_loopw [6, 7] (fun s6 s7 wr => ∃ q : Nat, ∃ l u, q ≤ 3 ∧ s7 = .int .i64 q ∧ u = s6 ∧ Hid (OwnI wr w3.heap.size 3 .i64 u l) ∧ Hid (CodesE wr g) ∧ Hid (w3.grownBy wr (some g)) ∧ Hid (l.length = q ∧ ∀ x ∈ l, 0 ≤ x ∧ x < 4)) (fun _ s7 _ => 4 - (intOf s7).toNat)
          case atStart => exact ⟨0, [], _, by omega, rfl, rfl, OwnI.nil _ _ _ _, hI3.out.codes, grownBy_refl _ _, ⟨rfl, by simp⟩⟩
          case round =>
            obtain ⟨q, l, u, hq, rfl, rfl, hU, hC, hG, hL⟩ := hrel
            obtain ⟨wp, rfl⟩ : ∃ wp : World, wp = wr := ⟨_, rfl⟩
            have hz3 : g < w3.heap.size := hI3.out.codes.lt
            go_wp2_with fail
            refine (nextE g 4 _ hC.out (by omega) (by omega)).mono ?_; rintro e w4 ⟨z, rfl, hq0, hq1, hc4, hg4⟩
            have hU4 := Lib.hid (hU.out.kept hg4 (hU.out.ne hz3))
            have hC4 := Lib.hid hc4
            have hG4 := Lib.hid (grownBy_trans hG.out hg4)
            clear hU hC hG hc4 hg4
            by_cases hlt3 : (q : Int) < z
            · go_wp2_with fail
              refine (nextE g 4 _ hC4.out (by omega) (by omega)).mono ?_; rintro e w5 ⟨y5, rfl, hp0, hp1, hc5, hg5⟩
              have hU5 := Lib.hid (hU4.out.kept hg5 (hU4.out.ne hz3))
              have hC5 := Lib.hid hc5
              have hG5 := Lib.hid (grownBy_trans hG4.out hg5)
              have hz5 := hG5.out.size
              clear hU4 hC4 hG4 hc5 hg5
              have hll : l.length ≤ 1000000 := by have := hL.out.1; omega
              go_wp2_with (at_builtin; refine wp_append_i64 _ rfl _ _ rfl w3.heap.size u l rfl (hU5.out.alloc _) y5 _ rfl (World.cell?_alloc_at _ _ _ _ rfl) hll (Nat.le_trans hz5 (by simp)) ?_; intro v6 w6 ho6 hg6)
              have hge := hU5.out.own_ge
              have SS := Lib.hid (And.intro ho6 (And.intro (hC5.out.kept (B := w3.heap.size) hz3 (((((Below.refl _ w5).mono hz5).alloc hz5 _).grown hg6 (Nat.le_trans hz5 (by simp)) hge))) (grownBy_of_new (grownBy_of_below hG5.out ((below_new (Below.refl _ _) _).mono hz5)) hg6 hge)))
              have HL6 : Hid ((l ++ [y5]).length = q + 1 ∧ ∀ x ∈ l ++ [y5], 0 ≤ x ∧ x < 4) := by
                refine ⟨by simp [hL.out.1], fun x hx => ?_⟩
                rw [List.mem_append, List.mem_singleton] at hx
                rcases hx with hx | rfl
                · exact hL.out.2 x hx
                · exact ⟨hp0, hp1⟩
              clear ho6 hg6 hge
              go_wp2
              go_roundw
              case rel => exact ⟨q + 1, _, v6, by omega, by go_num, rfl, SS.out.1, SS.out.2.1, SS.out.2.2, HL6⟩
              case measure => simp [intOf]; omega
            · have hI4 := Lib.hid (hI3.out.next hC4.out hG4.out)
              have hz4 := hG4.out.size
              have hs3 := hI3.out.size
              have hU5 := Lib.hid (hU4.out.mono_base (b' := V + 1) (by omega))
              obtain ⟨ua, uc, rfl⟩ := hU5.out.shape2
              have hI5 := Lib.hid (hI4.out.below (below_new (Below.refl _ _) (.cells #[.slice ua l.length uc] 36)))
              have hU6 := Lib.hid (hU5.out.alloc (.cells #[.slice ua l.length uc] 36))
              have hzA := hI5.out.size
              obtain ⟨v0, v1, v2⟩ := rowc3 hI4.out.var
              have hV4 : V < w4.heap.size := by omega
              go_wp2_with (at_builtin; refine wp_append_li _ rfl _ _ rfl (V + 1) vl ll.length us rfl hI5.out.ol (.slice ua l.length uc) rfl _ rfl (World.cell?_alloc_at _ _ _ _ rfl) (by rw [hO.out.nl]; omega) (by omega) ?_; intro vl8 w8 ho8 hg8; obtain ⟨g8, cap8, e8⟩ := row_shape ho8; subst e8; have hr8 := (hg8.block V (by omega) (by intro e; have := (World.ownsRow.lt hI5.out.ol _ e.symm).1; omega)).trans hI5.out.var; have hF8 := frozen_of_row _ _ 1 _ _ hr8; obtain ⟨t0, t1, t2⟩ := rowc3 hr8)
              have hI7 := Lib.hid (hI5.out.addList hU6.out ho8 hg8)
              have hO7 := Lib.hid (hO.out.list l (by have := hL.out.1; omega) hL.out.2)
              clear ho8 hg8 hr8 v0 v1 v2 hI5 hI4 hI3 hU6 hU5 hU4
              go_wp2
              go_roundw
              case rel => exact ⟨j + 1, _, _, _, by omega, by go_num, hI7, hO7⟩
              case measure => simp [intOf]; omega
        · obtain ⟨v0, v1, v2⟩ := rowc3 hI3.out.var
          have e1 := (hI3.out.ow).shape2
          obtain ⟨wa, wc, rfl⟩ := e1
          obtain ⟨la, lc, rfl⟩ := row_shape hI3.out.ol
          have RES := Lib.hid hI3.out.res
          have FIN : Hid (StM (fun w2 => (w3.setRow w.heap.size #[.slice wa words.length wc, .slice la ll.length lc, .int .i64 tick]).grownBy w2 (some g)) (.agg #[.slice wa words.length wc, .slice la ll.length lc, .int .i64 tick]) ⟨words, ll, tick⟩) := by
            have hb := hI3.out
            have hv := hb.vlt
            have hsz := hb.size
            have gr := row_grown w3 w.heap.size #[.slice wa words.length wc, .slice la ll.length lc, .int .i64 tick]
            refine ⟨_, _, us, rfl, fun w2 hg2 => ⟨?_, ?_⟩⟩
            · exact ((hb.ow.kept gr (hb.ow.ne (by omega))).kept hg2 (hb.ow.ne (by have := hb.lt; omega))).read (by show words.length ≤ _; rw [hO.out.nw]; omega) (fun x hx => u64_ok4 x (hO.out.wf x hx).1 (hO.out.wf x hx).2)
            · refine row_read ((hb.ol.kept gr (row_ne hb.ol (by omega))).kept hg2 (row_ne hb.ol (by have := hb.lt; omega))) (fun t ht => ?_) (by show ll.length ≤ _; rw [hO.out.nl]; omega)
              have he := hb.each t ht
              have hsm := hO.out.each t
              exact ((he.kept gr (he.ne (by omega))).kept hg2 (he.ne (by have := hb.lt; omega))).read (by omega) (fun x hx => i64_ok4 x (hsm.2 x hx).1 (by have := (hsm.2 x hx).2; omega))
          have HFI : Hid (MemM.fits ⟨words, ll, tick⟩) := ⟨by show words.length ≤ _; rw [hO.out.nw]; omega, by show ll.length ≤ _; rw [hO.out.nl]; omega, fun t => by have := (hO.out.each t).1; show (ll.getD t []).length ≤ _; omega, fun x hx => u64_ok4 x (hO.out.wf x hx).1 (hO.out.wf x hx).2, i64_ok4 tick ht0 ht1⟩
          go_wp2_with (refine wpList_store_row rfl 29 _ _ rfl (w.heap.size) _ rfl rfl 29 zeroMem RES.out (by kernel_rfl) rfl (by simp [Value.oneCell']) ?_)
          refine bodyPost_ret (v := .agg #[.slice wa words.length wc, .slice la ll.length lc, .int .i64 tick]) (results_cell_row Try.results9 _ _ (w.heap.size) 29 _ (0, 0) _ rfl (setRow_heap _ _ _ _ 29 (0, 0) RES.out) Try.underlying29 rfl (by kernel_rfl)) rfl ?_
          have hl := hI3.out.lt
          have hfin : CodesE (w3.setRow w.heap.size #[.slice wa words.length wc, .slice la ll.length lc, .int .i64 tick]) g := hI3.out.codes.kept (B := w.heap.size) hl (row_below ((Below.refl w3.heap.size w3).mono (show w.heap.size ≤ w3.heap.size by have := hI3.out.size; have := hI3.out.vlt; omega)) (Nat.le_refl _) _)
          have hgr : w.grownBy (w3.setRow w.heap.size #[.slice wa words.length wc, .slice la ll.length lc, .int .i64 tick]) (some g) := grownBy_of_new hI3.out.grown (row_grown _ _ _) (fun k hk => by cases hk; exact Nat.le_refl _)
          first
          | exact ⟨_, ⟨words, ll, tick⟩, rfl, FIN.out, HFI.out, ⟨ht0, ht1⟩, by show words.length ≤ 7; rw [hO.out.nw]; omega, by show ll.length ≤ 3; rw [hO.out.nl]; omega, hfin, hgr⟩
          | exact ⟨_, rfl, ⟨words, ll, tick⟩, FIN.out, HFI.out, ⟨ht0, ht1⟩, by show words.length ≤ 7; rw [hO.out.nw]; omega, by show ll.length ≤ 3; rw [hO.out.nl]; omega, hfin, hgr⟩
end Go.Proofs.Ytipjfcjdefdoeaa
