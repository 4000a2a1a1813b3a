/- The records that a reader of choices gives. -/
import Derived.Test.YtkpnakomlfjndaaItems
import Derived.Test.YtkpnakomlfjndaaDrawE
import Derived.Test.YtkpnakomlfjndaaMmA
import Derived.Test.YtkpnakomlfjndaaOff
import Derived.Deep.LoopGhost
import Derived.Deep.DeepCutAuto
import Derived.Deep.CutBlock
namespace Go.Proofs.Ytkpnakomlfjndaa
open Go.ChangeShapes Go.WideShapes Go.ChangeAt Go.RowKit
set_option maxRecDepth 100000

theorem leftE (g : Nat) (w : World) (h : CodesE w g) :
    Calls Try.prog 61 #[.pointer (some ⟨g, 0, none⟩)] w fun e w' => ∃ b, e = .returned (.bool b) ∧ Below w.heap.size w w' := by
  obtain ⟨r, val, h⟩ := h
  refine (left_any g r val w h).mono ?_
  rintro e w' ⟨n, rfl, rfl⟩
  exact ⟨_, rfl, below_drewN (Below.refl _ _) n⟩
def zeroItem : Array Value := #[.int .i64 0, .int .i64 0, .int .i64 0, .int .u64 0, .int .u64 0, .int .i64 0, .int .u64 0, .bool false]
theorem rowsT_apart {w : World} {b1 b2 n1 n2 s1 s2 : Nat} {e1 e2 : TypeId} {v1 v2 : Value} {l1 l2 : List Value} (h1 : w.ownsRow b1 e1 s1 v1 n1 l1) (h2 : w.ownsRow b2 e2 s2 v2 n2 l2) (he : e1 ≠ e2) : v1.ownBlock = none ∨ v1.ownBlock ≠ v2.ownBlock := by
  rcases h1.2 with ⟨rfl, _⟩ | ⟨g, cap, cur, rfl, _, hg, _⟩
  · exact .inl rfl
  · rcases h2.2 with ⟨rfl, _⟩ | ⟨g', cap', cur', rfl, _, hg', _⟩
    · exact .inr (by simp [Value.ownBlock])
    · refine .inr ?_
      simp only [Value.ownBlock, ne_eq, Option.some.injEq]
      intro e
      rw [e, hg'] at hg
      simp at hg
      exact he hg.2.symm
/-- while records are drawn: the reader in block g, the words in block X, the list v of the call's own -/
structure ItInv (w0 wr : World) (g X : Nat) (v : Value) (l : List ItemM) (th : Int) : Prop where
  lt : g < w0.heap.size
  xw : w0.heap.size ≤ X
  codes : CodesE wr g
  grown : w0.grownBy wr (some g)
  words : ∃ ws, OwnI wr X 26 .u64 (.slice (some ⟨X, 0, none⟩) 4 4) ws ∧ ws.length = 4 ∧ ∀ x ∈ ws, x = IntKind.u64.wrap x
  out : OwnT wr w0.heap.size v l
  good : ∀ x ∈ l, x.good ∧ 0 ≤ x.thr ∧ x.thr < th
theorem ItInv.apart {w0 wr : World} {g X : Nat} {v : Value} {l : List ItemM} {th : Int} (h : ItInv w0 wr g X v l th) : v.ownBlock = none ∨ v.ownBlock ≠ some X := by
  obtain ⟨ws, h1, -, -⟩ := h.words
  exact rowsT_apart h.out h1 (by decide)
theorem ItInv.xlt {w0 wr : World} {g X : Nat} {v : Value} {l : List ItemM} {th : Int} (h : ItInv w0 wr g X v l th) : X < wr.heap.size := by
  obtain ⟨ws, h1, h2, -⟩ := h.words
  rcases h1.shape with ⟨h3, -⟩ | ⟨b, c, h3, -, h4, -⟩
  · simp at h3
  · simp only [Value.slice.injEq, Option.some.injEq, Addr.mk.injEq] at h3; omega
theorem ItInv.next {w0 wr w2 : World} {g X : Nat} {v : Value} {l : List ItemM} {th : Int} (h : ItInv w0 wr g X v l th) (hc : CodesE w2 g) (hg : wr.grownBy w2 (some g)) : ItInv w0 w2 g X v l th := by
  have hl := h.lt
  have hx := h.xw
  obtain ⟨ws, h1, h2, h3⟩ := h.words
  exact ⟨h.lt, h.xw, hc, grownBy_trans h.grown hg, ⟨ws, h1.kept hg (h1.ne (by omega)), h2, h3⟩, h.out.kept hg (h.out.ne hl), h.good⟩
theorem ItInv.more {w0 wr w2 : World} {g X : Nat} {v : Value} {l : List ItemM} {th : Int} (h : ItInv w0 wr g X v l th) (hb : Below wr.heap.size wr w2) : ItInv w0 w2 g X v l th := by
  obtain ⟨ws, h1, h2, h3⟩ := h.words
  exact ⟨h.lt, h.xw, h.codes.kept h.codes.lt hb, grownBy_of_new h.grown (grown_below (row := none) hb) (fun k hk => by cases hk), ⟨ws, h1.below hb, h2, h3⟩, h.out.below hb, h.good⟩
/-- another block is written -/
theorem ItInv.other {w0 wr w2 : World} {g X Y : Nat} {v : Value} {l : List ItemM} {th : Int} (h : ItInv w0 wr g X v l th) (hg : wr.grownBy w2 (some Y)) (hY : w0.heap.size ≤ Y) (hx : X ≠ Y) (hv : v.ownBlock = none ∨ v.ownBlock ≠ some Y) : ItInv w0 w2 g X v l th := by
  have hl := h.lt
  obtain ⟨ws, h1, h2, h3⟩ := h.words
  refine ⟨h.lt, h.xw, h.codes.grown (by omega) hg, grownBy_of_new h.grown hg (fun k hk => by cases hk; omega), ⟨ws, h1.kept hg (.inr (by simpa [Value.ownBlock] using hx)), h2, h3⟩, h.out.kept hg hv, h.good⟩
theorem ItInv.word {w0 wr : World} {g X : Nat} {v : Value} {l : List ItemM} {th : Int} (h : ItInv w0 wr g X v l th) (i : Nat) (x : Int) (hx : x = IntKind.u64.wrap x) : ItInv w0 (wr.setCell ⟨X, i, none⟩ (.int .u64 x)) g X v l th := by
  have hl := h.lt
  have hxw := h.xw
  have hg := grownBy_setCell wr ⟨X, i, none⟩ (.int .u64 x)
  have ha := h.apart
  obtain ⟨ws, h1, h2, h3⟩ := h.words
  refine ⟨h.lt, h.xw, h.codes.grown (by show g < X; omega) hg, grownBy_of_new h.grown hg (fun k hk => by cases hk; exact hxw), ⟨ws.set i x, h1.store i x h2.symm, by rw [List.length_set, h2], fun y hy => ?_⟩, h.out.kept hg ha, h.good⟩
  rcases List.mem_or_eq_of_mem_set hy with hy | rfl
  · exact h3 y hy
  · exact hx
theorem ItInv.cell {w0 wr : World} {g X : Nat} {v : Value} {l : List ItemM} {th : Int} (h : ItInv w0 wr g X v l th) (i : Nat) (hi : i < 4) : ∃ x, wr.cell? ⟨X, i, none⟩ = some (.int .u64 x) ∧ x = IntKind.u64.wrap x ∧ wr.frozen? ⟨X, i, none⟩ = false := by
  obtain ⟨ws, h1, h2, h3⟩ := h.words
  obtain ⟨c, f⟩ := h1.cell i (by omega)
  refine ⟨_, c, ?_, f⟩
  have hl : i < ws.length := by omega
  rw [List.getD_eq_getElem?_getD, List.getElem?_eq_getElem hl]
  exact h3 _ (List.getElem_mem hl)
theorem ItInv.add {w0 wr w2 : World} {g X : Nat} {v v' : Value} {l : List ItemM} {th : Int} {x : ItemM} (h : ItInv w0 wr g X v l th) (ho : OwnT w2 w0.heap.size v' (l ++ [x])) (hg : wr.grownBy w2 v.ownBlock) (hx : x.good ∧ 0 ≤ x.thr ∧ x.thr < th) : ItInv w0 w2 g X v' (l ++ [x]) th := by
  have hl := h.lt
  have ha := h.apart
  have hge := h.out.own_ge
  obtain ⟨ws, h1, h2, h3⟩ := h.words
  refine ⟨h.lt, h.xw, ?_, grownBy_of_new h.grown hg hge, ⟨ws, h1.kept hg ?_, h2, h3⟩, ho, fun y hy => ?_⟩
  · cases hv : v.ownBlock with
    | none => rw [hv] at hg; exact h.codes.kept h.codes.lt ⟨hg.os, hg.tape, hg.output, hg.size, fun j hj => hg.block j hj (by simp)⟩
    | some b => rw [hv] at hg; exact h.codes.grown (by have := hge b hv; omega) hg
  · rcases ha with ha | ha
    · exact .inr (by rw [ha]; simp [Value.ownBlock])
    · exact .inr fun e => ha (by rw [← e]; rfl)
  · rw [List.mem_append, List.mem_singleton] at hy
    rcases hy with hy | rfl
    · exact h.good y hy
    · exact hx
/-- .. and the record at hand in block Y -/
structure ItY (w0 wr : World) (g X : Nat) (v : Value) (l : List ItemM) (th : Int) (Y : Nat) (x : ItemM) : Prop where
  inv : ItInv w0 wr g X v l th
  yw : w0.heap.size ≤ Y
  xy : X ≠ Y
  ne : v.ownBlock = none ∨ v.ownBlock ≠ some Y
  row : wr.heap[Y]? = some (.cells #[.int .i64 x.thr, .int .i64 x.acc.kind, .int .i64 x.acc.addr, .int .u64 x.acc.old, .int .u64 x.acc.new, .int .i64 x.acc.til, .int .u64 x.val, .bool x.ok] 57 (0, 0))
theorem ItInv.box {w0 wr : World} {g X : Nat} {v : Value} {l : List ItemM} {th : Int} (h : ItInv w0 wr g X v l th) (x : ItemM) :
    ItY w0 ((wr.alloc (.cells zeroItem 57)).setRow wr.heap.size #[.int .i64 x.thr, .int .i64 x.acc.kind, .int .i64 x.acc.addr, .int .u64 x.acc.old, .int .u64 x.acc.new, .int .i64 x.acc.til, .int .u64 x.val, .bool x.ok]) g X v l th wr.heap.size x := by
  have hx := h.xlt
  have hs := h.grown.size
  refine ⟨h.more (row_below (below_new (Below.refl _ _) _) (Nat.le_refl _) _), hs, by omega, ?_, setRow_heap _ _ _ _ _ (0, 0) (heap_alloc_new _ _)⟩
  cases hv : v.ownBlock with
  | none => exact .inl rfl
  | some b => exact .inr fun e => by have := World.ownsRow.lt h.out b hv; cases e; omega
theorem ItY.word {w0 wr : World} {g X Y : Nat} {v : Value} {l : List ItemM} {th : Int} {x : ItemM} (h : ItY w0 wr g X v l th Y x) (i : Nat) (z : Int) (hz : z = IntKind.u64.wrap z) : ItY w0 (wr.setCell ⟨X, i, none⟩ (.int .u64 z)) g X v l th Y x :=
  ⟨h.inv.word i z hz, h.yw, h.xy, h.ne, (heap_setCell_other wr ⟨X, i, none⟩ Y _ (Ne.symm h.xy)).trans h.row⟩
theorem ItY.setVal {w0 wr : World} {g X Y : Nat} {v : Value} {l : List ItemM} {th : Int} {x : ItemM} (h : ItY w0 wr g X v l th Y x) (z : Int) : ItY w0 (wr.setCell ⟨Y, 6, none⟩ (.int .u64 z)) g X v l th Y ⟨x.thr, x.acc, z, x.ok⟩ := by
  refine ⟨h.inv.other (grownBy_setCell wr ⟨Y, 6, none⟩ _) h.yw h.xy h.ne, h.yw, h.xy, h.ne, ?_⟩
  have hs := heap_setCell_same wr Y 6 _ _ (.int .u64 z) h.row
  simpa using hs
theorem ItY.setOk {w0 wr : World} {g X Y : Nat} {v : Value} {l : List ItemM} {th : Int} {x : ItemM} (h : ItY w0 wr g X v l th Y x) (b : Bool) : ItY w0 (wr.setCell ⟨Y, 7, none⟩ (.bool b)) g X v l th Y ⟨x.thr, x.acc, x.val, b⟩ := by
  refine ⟨h.inv.other (grownBy_setCell wr ⟨Y, 7, none⟩ _) h.yw h.xy h.ne, h.yw, h.xy, h.ne, ?_⟩
  have hs := heap_setCell_same wr Y 7 _ _ (.bool b) h.row
  simpa using hs
set_option maxHeartbeats 16000000 in
theorem itemsE (g : Nat) (th most : Int) (w : World) (h : CodesE w g) (hth : 1 ≤ th ∧ th ≤ 256) (hm : 0 ≤ most ∧ most ≤ 1000) :
    Calls Try.prog 33 #[.pointer (some ⟨g, 0, none⟩), .int .i64 th, .int .i64 most] w fun e w' => ∃ v l, e = .returned v ∧ OwnT w' w.heap.size v l ∧ (l.length : Int) ≤ most ∧ (∀ x ∈ l, x.good ∧ 0 ≤ x.thr ∧ x.thr < th) ∧ CodesE w' g ∧ w.grownBy w' (some g) := by
  have HC := Lib.hid h
  obtain ⟨ht1, ht2⟩ := hth
  obtain ⟨hm0, hm1⟩ := hm
  obtain ⟨mo, rfl⟩ : ∃ mo : Nat, most = mo := ⟨most.toNat, by omega⟩
  clear h
  go_enter Try.func33, Try.ntmps33
  go_wp2_with (at_make; refine wp_make_u64 w rfl _ _ rfl 4 _ _ rfl rfl ?_ ?_ ?_ ?_; rfl; rfl; omega; intro w1 ho1 hb1)
  have hI0 : Hid (ItInv w w1 g w.heap.size (.slice none 0 0) [] th) := ⟨HC.out.lt, Nat.le_refl _, HC.out.kept HC.out.lt hb1, grown_below hb1, ⟨_, ho1, by simp, fun x hx => by rw [(List.mem_replicate.1 hx).2]; decide⟩, OwnT.nil _ _, fun x hx => by simp at hx⟩
  clear ho1 hb1 HC
  go_wp2_with fail
  obtain ⟨X, hX⟩ : ∃ X, w.heap.size = X := ⟨_, rfl⟩
  rw [hX] at hI0
  rw [hX]
  have HX := Lib.hid hX
  clear hX
  go_loopg [7] (mo + 1) (fun gg u wr => ∃ (A : Option Addr) (c : Nat) (l : List ItemM), u = .slice A l.length c ∧ l.length + gg = mo + 1 ∧ l.length ≤ mo ∧ Hid (ItInv w wr g X (.slice A l.length c) l th))
  case atStart => exact ⟨none, 0, [], rfl, by simp, by simp, hI0⟩
  case round =>
    clear hI0
    obtain ⟨A, c, l, rfl, hlg, hlm, HI⟩ := hrel
    obtain ⟨wo, rfl⟩ : ∃ wo : World, wo = wr := ⟨_, rfl⟩
    go_wp2_with fail
    refine (leftE g _ HI.out.codes).mono ?_; rintro e wl ⟨b, rfl, hbl⟩
    have HI1 := Lib.hid (HI.out.more hbl)
    clear hbl HI
    by_cases hgo : b = true ∧ l.length < mo
    case neg =>
      have hfin := HI1.out
      cases b with
      | false =>
        go_wp2
        go_ret
        exact ⟨_, _, rfl, HX.out ▸ hfin.out, by omega, hfin.good, hfin.codes, hfin.grown⟩
      | true =>
        have hnl : ¬ l.length < mo := fun h => hgo ⟨rfl, h⟩
        clear hgo
        go_wp2
        go_ret
        exact ⟨_, _, rfl, HX.out ▸ hfin.out, by omega, hfin.good, hfin.codes, hfin.grown⟩
    case pos =>
      obtain ⟨rfl, hlt⟩ := hgo
      have hltI : (l.length : Int) < (mo : Int) := by omega
      cases gk with
      | zero => exact absurd hlg (by omega)
      | succ gk =>
        go_wp2_with fail
        refine (nextE g th _ HI1.out.codes ht1 ht2).mono ?_; rintro e w2 ⟨z0, rfl, z00, z01, hc2, hg2⟩
        have HI2 := Lib.hid (HI1.out.next hc2 hg2)
        clear hc2 hg2 HI1
        go_wp2_with fail
        refine (nextE g 9 _ HI2.out.codes (by omega) (by omega)).mono ?_; rintro e w3 ⟨z1, rfl, z10, z11, hc3, hg3⟩
        have HI3 := Lib.hid (HI2.out.next hc3 hg3)
        clear hc3 hg3 HI2
        go_wp2_with fail
        refine (nextE g 4 _ HI3.out.codes (by omega) (by omega)).mono ?_; rintro e w4 ⟨z2, rfl, z20, z21, hc4, hg4⟩
        have HI4 := Lib.hid (HI3.out.next hc4 hg4)
        clear hc4 hg4 HI3
        go_wp2_with fail
        refine (nextE g 3 _ HI4.out.codes (by omega) (by omega)).mono ?_; rintro e w5 ⟨z3, rfl, z30, z31, hc5, hg5⟩
        have HI5 := Lib.hid (HI4.out.next hc5 hg5)
        clear hc5 hg5 HI4
        go_wp2_with fail
        refine (nextE g 3 _ HI5.out.codes (by omega) (by omega)).mono ?_; rintro e w6 ⟨z4, rfl, z40, z41, hc6, hg6⟩
        have HI6 := Lib.hid (HI5.out.next hc6 hg6)
        clear hc6 hg6 HI5
        have q1 : IntKind.i64.wrap (1 + z1) = 1 + z1 := by rw [IntKind.wrap_i64]; omega
        have q3 : IntKind.u64.wrap z3 = z3 := by rw [IntKind.wrap_u64]; omega
        have q4 : IntKind.u64.wrap z4 = z4 := by rw [IntKind.wrap_u64]; omega
        have HQ4 := Lib.hid q4
        obtain ⟨k, hk⟩ : ∃ k, 1 + z1 = k := ⟨_, rfl⟩
        have hk1 : 1 ≤ k ∧ k ≤ 9 := by omega
        obtain ⟨ad, rfl⟩ : ∃ ad : Nat, z2 = ad := ⟨z2.toNat, by omega⟩
        have had : ad < 4 := by omega
        have HY0 := Lib.hid (HI6.out.box ⟨z0, ⟨k, ad, z3, z4, 0⟩, 0, false⟩)
        have HGD : Hid (∀ (vl : Int) (ok : Bool), vl = IntKind.u64.wrap vl → ItemM.good ⟨z0, ⟨k, ad, z3, z4, 0⟩, vl, ok⟩) := fun vl ok hv => ⟨by show z0 = IntKind.i64.wrap z0; rw [IntKind.wrap_i64]; omega, ⟨by show k = IntKind.i64.wrap k; rw [IntKind.wrap_i64]; omega, by show (ad : Int) = IntKind.i64.wrap ad; rw [IntKind.wrap_i64]; omega, by show z3 = IntKind.u64.wrap z3; rw [IntKind.wrap_u64]; omega, by show z4 = IntKind.u64.wrap z4; rw [IntKind.wrap_u64]; omega, (by show (0 : Int) = IntKind.i64.wrap 0; decide)⟩, hv⟩
        have N6 : Hid ((w6.alloc (.cells zeroItem 57)).heap[w6.heap.size]? = some (.cells zeroItem 57 (0, 0))) := heap_alloc_new _ _
        obtain ⟨W6, hW6⟩ : ∃ W6, (w6.alloc (.cells zeroItem 57)).setRow w6.heap.size #[.int .i64 z0, .int .i64 k, .int .i64 ad, .int .u64 z3, .int .u64 z4, .int .i64 0, .int .u64 0, .bool false] = W6 := ⟨_, rfl⟩
        rw [hW6] at HY0
        have HW6 := Lib.hid hW6
        rw [hk] at q1
        clear hW6
        go_upto_region 5 with (refine wpList_store_row rfl 57 _ _ rfl (w6.heap.size) _ rfl rfl 57 zeroItem N6.out (by kernel_rfl) rfl (by simp [Value.oneCell']) ?_)
        rw [show (#[.int .i64 0, .int .i64 0, .int .i64 0, .int .u64 0, .int .u64 0, .int .i64 0, .int .u64 0, .bool false] : Array Value) = zeroItem from rfl]
        first | rw [HW6.out] | skip
        clear HW6 N6 q1 q3 HI6
        generalize w6.heap.size = Y at *
        simp only [Act.put]
        have HQ : Hid (z4 = IntKind.u64.wrap z4) := HQ4.out.symm
        clear HQ4 q4
        obtain ⟨y0, y1, y2, y3, y4, y5, y6, y7⟩ := rowc8 HY0.out.row
        dsimp only at y0 y1 y2 y3 y4 y5 y6 y7
        have f6 := frozen_of_row _ _ 6 _ _ HY0.out.row
        obtain ⟨x, xc, hx, xf⟩ := HY0.out.inv.cell ad had
        have HXW := Lib.hid hx
        have hxy : X ≠ Y := HY0.out.xy
        clear hx hk hk1 z10 z11
        rename_i hk9
        go_upto_block 2 with fail
        go_cut [] (fun wx => ∃ (vl : Int) (ok : Bool), Hid (vl = IntKind.u64.wrap vl) ∧ Hid (ItY w wx g X (.slice A l.length c) l th Y ⟨z0, ⟨k, ad, z3, z4, 0⟩, vl, ok⟩))
        case first =>
          rcases (show (k = 1 ∨ k = 5 ∨ k = 4) ∨ (k = 2 ∨ k = 6) ∨ k = 3 ∨ (k ≠ 1 ∧ k ≠ 2 ∧ k ≠ 3 ∧ k ≠ 4 ∧ k ≠ 5 ∧ k ≠ 6) by omega) with h | h | rfl | h
          · have HE := Lib.hid (HY0.out.setVal x)
            rcases h with rfl | rfl | rfl
            all_goals
              go_wp2_with fail
              go_meet
              exact ⟨x, false, HXW, HE⟩
          · have HE := Lib.hid (HY0.out.word ad z4 HQ.out)
            rcases h with rfl | rfl
            all_goals
              go_wp2_with fail
              go_meet
              exact ⟨0, false, (by show (0 : Int) = IntKind.u64.wrap 0; decide), HE⟩
          · have HE := Lib.hid (HY0.out.setVal x)
            go_upto_region 15 with fail
            generalize W6.setCell ⟨Y, 6, none⟩ (.int .u64 x) = W7 at *
            try simp only [Act.put]
            clear y0 y1 y2 y3 y4 y5 y6 y7 f6 xc xf
            obtain ⟨y0, y1, y2, y3, y4, y5, y6, y7⟩ := rowc8 HE.out.row
            dsimp only at y0 y1 y2 y3 y4 y5 y6 y7
            by_cases hxz : x = z3
            · have HE2 := Lib.hid (HE.out.setOk true)
              have f7 := frozen_of_row _ _ 7 _ _ HE.out.row
              have hxz1 : (x == z3) = true := by simpa using hxz
              have HXZ := Lib.hid hxz
              clear hxz
              go_upto_region 17 with fail
              generalize W7.setCell ⟨Y, 7, none⟩ (.bool true) = W8 at *
              clear y0 y1 y2 y3 y4 y5 y6 y7 f7
              obtain ⟨y0, y1, y2, y3, y4, y5, y6, y7⟩ := rowc8 HE2.out.row
              dsimp only at y0 y1 y2 y3 y4 y5 y6 y7
              obtain ⟨x2, xc, hx2, xf⟩ := HE2.out.inv.cell ad had
              have HE3 := Lib.hid (HE2.out.word ad z4 HQ.out)
              clear hx2
              go_wp2_with fail
              go_meet
              exact ⟨x, true, HXW, HE3⟩
            · have hxz1 : (x == z3) = false := by simpa using hxz
              clear hxz
              go_wp2_with fail
              go_meet
              exact ⟨x, false, HXW, HE⟩
          · obtain ⟨h1, h2, h3, h4, h5, h6⟩ := h
            have k1 := ne_beq h1
            have k2 := ne_beq h2
            have k3 := ne_beq h3
            have k4 := ne_beq h4
            have k5 := ne_beq h5
            have k6 := ne_beq h6
            clear h1 h2 h3 h4 h5 h6
            go_wp2_with fail
            go_meet
            exact ⟨0, false, (by show (0 : Int) = IntKind.u64.wrap 0; decide), HY0⟩
        case rest =>
          obtain ⟨vl, ok, HVL, HY⟩ := hcut
          obtain ⟨W9, rfl⟩ : ∃ W9 : World, W9 = wc := ⟨_, rfl⟩
          clear y0 y1 y2 y3 y4 y5 y6 y7 f6 xc xf HXW HY0
          have HGX := Lib.hid (HGD.out vl ok HVL.out)
          obtain ⟨y0, y1, y2, y3, y4, y5, y6, y7⟩ := rowc8 HY.out.row
          dsimp only at y0 y1 y2 y3 y4 y5 y6 y7
          go_wp2_with (at_builtin; refine wp_append_item _ rfl _ _ rfl w.heap.size (.slice A l.length c) l rfl (HY.out.inv.out.alloc _) ⟨z0, ⟨k, ad, z3, z4, 0⟩, vl, ok⟩ _ rfl ?_ ?_ ?_ ?_; exact ⟨World.cell?_alloc_at _ _ _ _ (by simp), World.cell?_alloc_at _ _ _ _ (by simp), World.cell?_alloc_at _ _ _ _ (by simp), World.cell?_alloc_at _ _ _ _ (by simp), World.cell?_alloc_at _ _ _ _ (by simp), World.cell?_alloc_at _ _ _ _ (by simp), World.cell?_alloc_at _ _ _ _ (by simp), World.cell?_alloc_at _ _ _ _ (by simp)⟩; omega; exact Nat.le_trans HY.out.inv.grown.size (by simp); intro v9 w9 ho9 hg9; obtain ⟨A9, c9, e9⟩ := ho9.len; subst e9)
          have HIN := Lib.hid (ItInv.add (HY.out.inv.more (below_new (Below.refl _ _) _)) ho9 hg9 ⟨HGX.out, z00, z01⟩)
          clear ho9 hg9 y0 y1 y2 y3 y4 y5 y6 y7
          go_roundg gk
          case rel => exact ⟨A9, c9, l ++ [⟨z0, ⟨k, ad, z3, z4, 0⟩, vl, ok⟩], by simp, by simp; omega, by simp; omega, HIN⟩
          case measure => omega
end Go.Proofs.Ytkpnakomlfjndaa
