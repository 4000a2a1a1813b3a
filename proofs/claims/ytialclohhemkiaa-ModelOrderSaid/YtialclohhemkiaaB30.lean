
import Derived.Test.YtialclohhemkiaaB29
import Derived.Test.YtialclohhemkiaaB20
import Derived.Test.YtialclohhemkiaaB04
import Derived.Test.YtialclohhemkiaaB03
import Derived.Test.YtialclohhemkiaaB17
set_option linter.unusedVariables false
set_option linter.unusedSimpArgs false
/- Layer 14: lists of lists that the law owns: what was sent, what was received. -/
namespace Go.Proofs.Ytialclohhemkiaa
open Go.ChangeShapes Go.WideShapes Go.ChangeAt Go.RowKit
set_option maxRecDepth 100000

/-- the lists ll: the block S holds their slices us, each list in a block of its own from B on -/
structure LsI (w : World) (S B : Nat) (us : List Value) (ll : List (List Int)) : Prop where
  len : us.length = ll.length
  row : w.heap[S]? = some (.cells us.toArray 32 (0, 0))
  own : ∀ j, j < ll.length → OwnI w B 23 .u64 (us.getD j nilV) (ll.getD j [])
  apart : ∀ a b, a ≠ b → a < ll.length → b < ll.length → (us.getD a nilV).ownBlock = none ∨ (us.getD a nilV).ownBlock ≠ (us.getD b nilV).ownBlock
  SB : S < B
theorem LsI.lt {w : World} {S B : Nat} {us : List Value} {ll : List (List Int)} (h : LsI w S B us ll) : S < w.heap.size := (Array.getElem?_eq_some_iff.1 h.row).1
theorem LsI.cell {w : World} {S B : Nat} {us : List Value} {ll : List (List Int)} (h : LsI w S B us ll) {j : Nat} (hj : j < ll.length) : w.cell? ⟨S, j, none⟩ = some (us.getD j nilV) :=
  cell_of_row _ _ j _ _ _ h.row |>.trans (by
    have hj2 : j < us.length := by rw [h.len]; exact hj
    rw [List.getElem?_toArray, List.getElem?_eq_getElem hj2, List.getD_eq_getElem?_getD, List.getElem?_eq_getElem hj2]
    rfl)
theorem LsI.fz {w : World} {S B : Nat} {us : List Value} {ll : List (List Int)} (h : LsI w S B us ll) (j : Nat) : w.frozen? ⟨S, j, none⟩ = false := frozen_of_row _ _ _ _ _ h.row
theorem LsI.kept {w w2 : World} {S B g : Nat} {us : List Value} {ll : List (List Int)} (h : LsI w S B us ll) (hg : w.grownBy w2 (some g)) (hS : g ≠ S) (hB : g < B) : LsI w2 S B us ll :=
  ⟨h.len, (hg.block S h.lt (fun e => hS (by simpa using e.symm))).trans h.row, fun j hj => (h.own j hj).kept hg ((h.own j hj).ne hB), h.apart, h.SB⟩
theorem LsI.below {w w2 : World} {S B : Nat} {us : List Value} {ll : List (List Int)} (h : LsI w S B us ll) (hb : Below w.heap.size w w2) : LsI w2 S B us ll :=
  ⟨h.len, (hb.block S h.lt).trans h.row, fun j hj => (h.own j hj).below hb, h.apart, h.SB⟩
/-- two lists of lists, and truth values -/
structure OrI (w : World) (S G H B : Nat) (us ug : List Value) (ls lg : List (List Int)) (hs : List Bool) : Prop where
  s : LsI w S B us ls
  g : LsI w G B ug lg
  h : w.heap[H]? = some (.cells (hs.map Value.bool).toArray 4 (0, 0))
  cross : ∀ a b, a < ls.length → b < lg.length → (us.getD a nilV).ownBlock = none ∨ (us.getD a nilV).ownBlock ≠ (ug.getD b nilV).ownBlock
  SG : S ≠ G
  SH : S ≠ H
  GH : G ≠ H
  HB : H < B
  Bw : B ≤ w.heap.size
theorem OrI.symm {w : World} {S G H B : Nat} {us ug : List Value} {ls lg : List (List Int)} {hs : List Bool} (h : OrI w S G H B us ug ls lg hs) : OrI w G S H B ug us lg ls hs :=
  ⟨h.g, h.s, h.h, fun a b ha hb => by
    rcases h.cross b a hb ha with h1 | h1
    · rw [h1]
      cases (ug.getD a nilV).ownBlock
      · exact .inl rfl
      · exact .inr (by simp)
    · exact .inr fun e => h1 e.symm, fun e => h.SG e.symm, h.GH, h.SH, h.HB, h.Bw⟩
theorem OrI.kept {w w2 : World} {S G H B g : Nat} {us ug : List Value} {ls lg : List (List Int)} {hs : List Bool} (h : OrI w S G H B us ug ls lg hs) (hg : w.grownBy w2 (some g)) (hS : g ≠ S) (hG : g ≠ G) (hH : g ≠ H) (hB : g < B) : OrI w2 S G H B us ug ls lg hs :=
  ⟨h.s.kept hg hS hB, h.g.kept hg hG hB, (hg.block H (Array.getElem?_eq_some_iff.1 h.h).1 (fun e => hH (by simpa using e.symm))).trans h.h, h.cross, h.SG, h.SH, h.GH, h.HB, Nat.le_trans h.Bw hg.size⟩
theorem OrI.below {w w2 : World} {S G H B : Nat} {us ug : List Value} {ls lg : List (List Int)} {hs : List Bool} (h : OrI w S G H B us ug ls lg hs) (hb : Below w.heap.size w w2) : OrI w2 S G H B us ug ls lg hs :=
  ⟨h.s.below hb, h.g.below hb, (hb.block H (Array.getElem?_eq_some_iff.1 h.h).1).trans h.h, h.cross, h.SG, h.SH, h.GH, h.HB, Nat.le_trans h.Bw hb.size⟩
theorem OrI.hcell {w : World} {S G H B : Nat} {us ug : List Value} {ls lg : List (List Int)} {hs : List Bool} (h : OrI w S G H B us ug ls lg hs) {j : Nat} (hj : j < hs.length) : w.cell? ⟨H, j, none⟩ = some (.bool (hs.getD j false)) :=
  cell_of_row _ _ j _ _ _ h.h |>.trans (by
    rw [List.getElem?_toArray, List.getElem?_map, List.getElem?_eq_getElem hj, List.getD_eq_getElem?_getD, List.getElem?_eq_getElem hj]
    rfl)
theorem OrI.hfz {w : World} {S G H B : Nat} {us ug : List Value} {ls lg : List (List Int)} {hs : List Bool} (h : OrI w S G H B us ug ls lg hs) (j : Nat) : w.frozen? ⟨H, j, none⟩ = false := frozen_of_row _ _ _ _ _ h.h
theorem cells_neq {w : World} {a b : Nat} {ca cb : Array Value} {ta tb : TypeId} {fa fb : Nat × Nat} (ha : w.heap[a]? = some (.cells ca ta fa)) (hb : w.heap[b]? = some (.cells cb tb fb)) (h : ta ≠ tb) : a ≠ b := fun e => by
  subst e
  rw [ha] at hb
  simp only [Option.some.injEq, Obj.cells.injEq] at hb
  exact h hb.2.1
/-- channel i is closed -/
theorem OrI.close {w : World} {S G H B i : Nat} {us ug : List Value} {ls lg : List (List Int)} {hs : List Bool} (h : OrI w S G H B us ug ls lg hs) (hi : i < hs.length) : OrI (w.setCell ⟨H, i, none⟩ (.bool true)) S G H B us ug ls lg (hs.set i true) := by
  have hg : w.grownBy (w.setCell ⟨H, i, none⟩ (.bool true)) (some H) := grownBy_setCell w ⟨H, i, none⟩ (.bool true)
  refine ⟨h.s.kept hg (fun e => h.SH e.symm) h.HB, h.g.kept hg (fun e => h.GH e.symm) h.HB, ?_, h.cross, h.SG, h.SH, h.GH, h.HB, Nat.le_trans h.Bw hg.size⟩
  have h2 := heap_setCell_same w H i _ _ (.bool true) h.h
  rw [h2, List.setIfInBounds_toArray, List.map_set]
theorem own_lt_B {w : World} {B : Nat} {e : TypeId} {k : IntKind} {v : Value} {l : List Int} (h : OwnI w B e k v l) {j : Nat} (hj : v.ownBlock = some j) : B ≤ j ∧ j < w.heap.size := World.ownsRow.lt h j hj
/-- a value is added to list i of the first lists -/
theorem OrI.push {w u2 : World} {S G H B i : Nat} {us ug : List Value} {ls lg : List (List Int)} {hs : List Bool} {v6 : Value} {x : Int} (h : OrI w S G H B us ug ls lg hs) (hi : i < ls.length)
    (hg : w.grownBy u2 (us.getD i nilV).ownBlock) (ho : OwnI u2 B 23 .u64 v6 (ls.getD i [] ++ [x])) (hn : v6.ownBlock = (us.getD i nilV).ownBlock ∨ v6.ownBlock = some w.heap.size) :
    OrI (u2.setCell ⟨S, i, none⟩ v6) S G H B (us.set i v6) ug (ls.set i (ls.getD i [] ++ [x])) lg hs := by
  have hob : ∀ j, (us.getD i nilV).ownBlock = some j → B ≤ j := fun j hj => (own_lt_B (h.s.own i hi) hj).1
  have hblk : ∀ j, j < w.heap.size → j < B → u2.heap[j]? = w.heap[j]? := fun j hj hjB => hg.block j hj (fun e => by have := hob j e.symm; omega)
  have hset := grownBy_setCell u2 ⟨S, i, none⟩ v6
  have hlen := h.s.len
  have hlt := h.s.lt
  have hnw : ∀ {v : Value} {l : List Int}, OwnI w B 23 .u64 v l → ((us.getD i nilV).ownBlock = none ∨ (us.getD i nilV).ownBlock ≠ v.ownBlock) → v6.ownBlock = none ∨ v6.ownBlock ≠ v.ownBlock := fun {v l} hv h1 => by
    rcases hn with h2 | h2
    · rw [h2]; exact h1
    · rw [h2]
      refine .inr fun e => ?_
      have := (own_lt_B hv e.symm).2
      omega
  have hkeep : ∀ {v : Value} {l : List Int}, OwnI w B 23 .u64 v l → (v.ownBlock = none ∨ v.ownBlock ≠ (us.getD i nilV).ownBlock) → OwnI (u2.setCell ⟨S, i, none⟩ v6) B 23 .u64 v l := fun {v l} hv h1 => (hv.kept hg h1).kept hset ((hv.kept hg h1).ne h.s.SB)
  have hsw : ∀ {a b : Option Nat}, (a = none ∨ a ≠ b) → (b = none ∨ b ≠ a) := fun {a b} h1 => by
    rcases h1 with h2 | h2
    · rw [h2]
      cases b
      · exact .inl rfl
      · exact .inr (by simp)
    · exact .inr fun e => h2 e.symm
  have hSu : u2.heap[S]? = some (.cells us.toArray 32 (0, 0)) := (hblk S hlt h.s.SB).trans h.s.row
  refine ⟨⟨by rw [List.length_set, List.length_set]; exact hlen, ?_, fun j hj => ?_, fun a b hab ha hb => ?_, h.s.SB⟩, ⟨h.g.len, ?_, fun j hj => ?_, h.g.apart, h.g.SB⟩, ?_, fun a b ha hb => ?_, h.SG, h.SH, h.GH, h.HB, ?_⟩
  · rw [heap_setCell_same u2 S i _ _ v6 hSu, List.setIfInBounds_toArray]
  · rw [List.length_set] at hj
    rw [getD_setL, getD_setL]
    by_cases hji : i = j
    · rw [if_pos ⟨hji, by rw [hlen]; exact hj⟩, if_pos ⟨hji, hj⟩]
      exact ho.kept hset (ho.ne h.s.SB)
    · rw [if_neg (fun e => hji e.1), if_neg (fun e => hji e.1)]
      exact hkeep (h.s.own j hj) (h.s.apart j i (fun e => hji e.symm) hj hi)
  · rw [List.length_set] at ha hb
    rw [getD_setL, getD_setL, hlen]
    by_cases hia : i = a
    · rw [if_pos ⟨hia, ha⟩, if_neg (fun e => hab (hia.symm.trans e.1))]
      subst hia
      exact hnw (h.s.own b hb) (h.s.apart i b hab ha hb)
    · rw [if_neg (fun e => hia e.1)]
      by_cases hib : i = b
      · rw [if_pos ⟨hib, hb⟩]
        subst hib
        exact hsw (hnw (h.s.own a ha) (h.s.apart i a (fun e => hab e.symm) hb ha))
      · rw [if_neg (fun e => hib e.1)]
        exact h.s.apart a b hab ha hb
  · exact (hset.block G (Nat.lt_of_lt_of_le h.g.lt hg.size) (fun e => h.SG (by simpa using e.symm))).trans ((hblk G h.g.lt h.g.SB).trans h.g.row)
  · exact hkeep (h.g.own j hj) (hsw (h.cross i j hi hj))
  · have hHl := (Array.getElem?_eq_some_iff.1 h.h).1
    exact (hset.block H (Nat.lt_of_lt_of_le hHl hg.size) (fun e => h.SH (by simpa using e.symm))).trans ((hblk H hHl h.HB).trans h.h)
  · rw [List.length_set] at ha
    rw [getD_setL, hlen]
    by_cases hia : i = a
    · rw [if_pos ⟨hia, ha⟩]
      subst hia
      exact hnw (h.g.own b hb) (h.cross i b ha hb)
    · rw [if_neg (fun e => hia e.1)]
      exact h.cross a b ha hb
  · have := hg.size
    have := h.Bw
    simp
    omega
end Go.Proofs.Ytialclohhemkiaa
/- Layer 14, plainly: what was sent and what was received, in order. -/
namespace Go.Proofs.Ytialclohhemkiaa
open Go.ChangeShapes Go.WideShapes Go.ChangeAt Go.RowKit
set_option maxRecDepth 100000

def sendO (n : Nat) (v : Int) : OpM := ⟨1, 0, n, v, 0, [], []⟩
def recvO (n : Nat) : OpM := ⟨2, 0, n, 0, 0, [], []⟩
def closeO (n : Nat) : OpM := ⟨3, 0, n, 0, 0, [], []⟩
def sendR : ResM := ⟨1, -1, 0, false, 0⟩
def recvR (x : Int) : ResM := ⟨2, -1, x, true, 0⟩
def closeR6 : ResM := ⟨6, -1, 0, false, 0⟩
theorem exB_of {l : List ChanM} {n : Nat} (h : n < l.length) : exB l n = true := by
  unfold exB
  simp
  exact h
theorem chE_of (l : List ChanM) (n : Nat) : chE l n = l.getD n noChan := rfl
theorem mod_send {l : List ChanM} {n : Nat} {v : Int} (h : n < l.length) : modE l (sendO n v) sendR = if (l.getD n noChan).closed = false ∧ ((l.getD n noChan).buf.length : Int) < (l.getD n noChan).cap then some (l.set n { l.getD n noChan with buf := (l.getD n noChan).buf ++ [v] }) else none := by
  unfold modE chosenE doE sendO sendR oneB oneC
  simp [exB_of h, chE_of, onlyB, setE]
theorem mod_recv {l : List ChanM} {n : Nat} {x : Int} (h : n < l.length) : modE l (recvO n) (recvR x) = if (l.getD n noChan).buf.head? = some x then some (l.set n { l.getD n noChan with buf := (l.getD n noChan).buf.tail }) else none := by
  unfold modE chosenE doE recvO recvR oneB oneC
  simp [exB_of h, chE_of, onlyB, setE]
theorem mod_close {l : List ChanM} {n : Nat} (h : n < l.length) : modE l (closeO n) closeR6 = if (l.getD n noChan).closed = false then some (l.set n { l.getD n noChan with closed := true }) else none := by
  unfold modE closeO closeR6
  simp [exB_of h, chE_of, onlyB, setE]
/-- channels with what was sent on them and received from them -/
structure OrP (caps : List Int) (l : List ChanM) (S G : List (List Int)) (hs : List Bool) : Prop where
  c : l.length = caps.length
  s : S.length = l.length
  g : G.length = l.length
  h : hs.length = l.length
  cap : ∀ j, j < l.length → (l.getD j noChan).cap = caps.getD j 0
  buf : ∀ j, j < l.length → (l.getD j noChan).buf = (S.getD j []).drop (G.getD j []).length
  le : ∀ j, j < l.length → (G.getD j []).length ≤ (S.getD j []).length
  shut : ∀ j, j < l.length → (l.getD j noChan).closed = hs.getD j false
theorem OrP.new (caps : List Int) : OrP caps (nchE caps) (List.replicate caps.length []) (List.replicate caps.length []) (List.replicate caps.length false) := by
  have hl : (nchE caps).length = caps.length := by unfold nchE; simp
  have hg : ∀ j, j < caps.length → (nchE caps).getD j noChan = ⟨caps.getD j 0, [], false⟩ := fun j hj => by
    unfold nchE
    simp [List.getD_eq_getElem?_getD, hj]
  have hr : ∀ j, j < caps.length → (List.replicate caps.length ([] : List Int)).getD j [] = [] := fun j hj => by simp [List.getD_eq_getElem?_getD, hj]
  have hb : ∀ j, j < caps.length → (List.replicate caps.length false).getD j false = false := fun j hj => by simp [List.getD_eq_getElem?_getD, hj]
  refine ⟨hl, by simp [hl], by simp [hl], by simp [hl], fun j hj => ?_, fun j hj => ?_, fun j hj => ?_, fun j hj => ?_⟩
  all_goals rw [hl] at hj
  · rw [hg j hj]
  · rw [hg j hj, hr j hj]; rfl
  · rw [hr j hj]; exact Nat.le_refl _
  · rw [hg j hj, hb j hj]
theorem getD_setI {α : Type} {l : List α} {i t : Nat} {x d : α} (hi : i < l.length) : (l.set i x).getD t d = if i = t then x else l.getD t d := by
  rw [getD_setL]
  by_cases h : i = t
  · rw [if_pos ⟨h, h ▸ hi⟩, if_pos h]
  · rw [if_neg (fun e => h e.1), if_neg h]
theorem OrP.send {caps : List Int} {l : List ChanM} {S G : List (List Int)} {hs : List Bool} (p : OrP caps l S G hs) {n : Nat} (hn : n < l.length) (v : Int) :
    OrP caps (l.set n { l.getD n noChan with buf := (l.getD n noChan).buf ++ [v] }) (S.set n (S.getD n [] ++ [v])) G hs := by
  have hS : n < S.length := by rw [p.s]; exact hn
  refine ⟨by rw [List.length_set]; exact p.c, by rw [List.length_set, List.length_set]; exact p.s, by rw [List.length_set]; exact p.g, by rw [List.length_set]; exact p.h, fun j hj => ?_, fun j hj => ?_, fun j hj => ?_, fun j hj => ?_⟩
  all_goals rw [List.length_set] at hj
  · rw [getD_setI hn]; split
    · rename_i e; subst e; exact p.cap n hn
    · exact p.cap j hj
  · rw [getD_setI hn, getD_setI hS]; split
    · rename_i e; subst e
      show (l.getD n noChan).buf ++ [v] = _
      rw [p.buf n hn, List.drop_append_of_le_length (p.le n hn)]
    · exact p.buf j hj
  · rw [getD_setI hS]; split
    · rename_i e; subst e
      have := p.le n hn
      rw [List.length_append]
      omega
    · exact p.le j hj
  · rw [getD_setI hn]; split
    · rename_i e; subst e; exact p.shut n hn
    · exact p.shut j hj
theorem OrP.recv {caps : List Int} {l : List ChanM} {S G : List (List Int)} {hs : List Bool} (p : OrP caps l S G hs) {n : Nat} (hn : n < l.length) (hlt : (G.getD n []).length < (S.getD n []).length) (x : Int) :
    OrP caps (l.set n { l.getD n noChan with buf := (l.getD n noChan).buf.tail }) S (G.set n (G.getD n [] ++ [x])) hs := by
  have hG : n < G.length := by rw [p.g]; exact hn
  refine ⟨by rw [List.length_set]; exact p.c, by rw [List.length_set]; exact p.s, by rw [List.length_set, List.length_set]; exact p.g, by rw [List.length_set]; exact p.h, fun j hj => ?_, fun j hj => ?_, fun j hj => ?_, fun j hj => ?_⟩
  all_goals rw [List.length_set] at hj
  · rw [getD_setI hn]; split
    · rename_i e; subst e; exact p.cap n hn
    · exact p.cap j hj
  · rw [getD_setI hn, getD_setI hG]; split
    · rename_i e; subst e
      show (l.getD n noChan).buf.tail = _
      rw [p.buf n hn, List.tail_drop, List.length_append]
      rfl
    · exact p.buf j hj
  · rw [getD_setI hG]; split
    · rename_i e; subst e
      rw [List.length_append]
      show _ + 1 ≤ _
      omega
    · exact p.le j hj
  · rw [getD_setI hn]; split
    · rename_i e; subst e; exact p.shut n hn
    · exact p.shut j hj
theorem OrP.close {caps : List Int} {l : List ChanM} {S G : List (List Int)} {hs : List Bool} (p : OrP caps l S G hs) {n : Nat} (hn : n < l.length) :
    OrP caps (l.set n { l.getD n noChan with closed := true }) S G (hs.set n true) := by
  have hH : n < hs.length := by rw [p.h]; exact hn
  refine ⟨by rw [List.length_set]; exact p.c, by rw [List.length_set]; exact p.s, by rw [List.length_set]; exact p.g, by rw [List.length_set, List.length_set]; exact p.h, fun j hj => ?_, fun j hj => ?_, fun j hj => ?_, fun j hj => ?_⟩
  all_goals rw [List.length_set] at hj
  · rw [getD_setI hn]; split
    · rename_i e; subst e; exact p.cap n hn
    · exact p.cap j hj
  · rw [getD_setI hn]; split
    · rename_i e; subst e; exact p.buf n hn
    · exact p.buf j hj
  · exact p.le j hj
  · rw [getD_setI hn, getD_setI hH]; split
    · rfl
    · exact p.shut j hj
/-- what is received: the first value that was sent and not received -/
def nextV (S G : List Int) : Int := if G.length < S.length then S.getD G.length 0 else 0
theorem OrP.head {caps : List Int} {l : List ChanM} {S G : List (List Int)} {hs : List Bool} (p : OrP caps l S G hs) {n : Nat} (hn : n < l.length) : ((l.getD n noChan).buf.head? = some (nextV (S.getD n []) (G.getD n []))) ↔ (G.getD n []).length < (S.getD n []).length := by
  rw [p.buf n hn]
  unfold nextV
  obtain ⟨a, ha⟩ : ∃ a, S.getD n [] = a := ⟨_, rfl⟩
  obtain ⟨b, hb⟩ : ∃ b, G.getD n [] = b := ⟨_, rfl⟩
  rw [ha, hb]
  by_cases h : b.length < a.length
  · simp only [h, if_true, iff_true]
    rw [List.head?_drop, List.getD_eq_getElem?_getD, List.getElem?_eq_getElem h]
    rfl
  · simp only [h, if_false, iff_false]
    rw [List.drop_eq_nil_of_le (by omega)]
    simp
theorem OrP.same {caps : List Int} {l : List ChanM} {S G : List (List Int)} {hs : List Bool} (p : OrP caps l S G hs) {n : Nat} (hn : n < l.length) (ht : hs.getD n false = true) : hs.set n true = hs := by
  have hH : n < hs.length := by rw [p.h]; exact hn
  rw [List.getD_eq_getElem?_getD, List.getElem?_eq_getElem hH] at ht
  have ht2 : hs[n] = true := ht
  rw [← ht2]
  exact List.set_getElem_self hH
theorem OrP.room {caps : List Int} {l : List ChanM} {S G : List (List Int)} {hs : List Bool} (p : OrP caps l S G hs) {n : Nat} (hn : n < l.length) : ((l.getD n noChan).buf.length : Int) = ((S.getD n []).length : Int) - ((G.getD n []).length : Int) := by
  rw [p.buf n hn, List.length_drop]
  have := p.le n hn
  omega
theorem OrP.few {caps : List Int} {l : List ChanM} {S G : List (List Int)} {hs : List Bool} (p : OrP caps l S G hs) {m : Nat} (hm : ∀ x ∈ S, x.length ≤ m) : ∀ c ∈ l, c.buf.length ≤ m := fun c hc => by
  obtain ⟨j, hj, rfl⟩ := List.mem_iff_getElem.1 hc
  have h1 := p.buf j hj
  rw [List.getD_eq_getElem?_getD, List.getElem?_eq_getElem hj] at h1
  have h2 : (l[j]).buf = _ := h1
  rw [h2, List.length_drop]
  have hjS : j < S.length := by rw [p.s]; exact hj
  have h3 : (S.getD j []).length ≤ m := by
    rw [List.getD_eq_getElem?_getD, List.getElem?_eq_getElem hjS]
    exact hm _ (List.getElem_mem hjS)
  omega
theorem few_set {S : List (List Int)} {m n : Nat} {v : Int} (hm : ∀ x ∈ S, x.length ≤ m) (hn : n < S.length) : ∀ x ∈ S.set n (S.getD n [] ++ [v]), x.length ≤ m + 1 := fun x hx => by
  rcases List.mem_or_eq_of_mem_set hx with h | rfl
  · have := hm x h; omega
  · rw [List.length_append, List.getD_eq_getElem?_getD, List.getElem?_eq_getElem hn]
    have := hm _ (List.getElem_mem hn)
    show (S[n]).length + 1 ≤ _
    omega
theorem few_at {S : List (List Int)} {m n : Nat} (hm : ∀ x ∈ S, x.length ≤ m) (hn : n < S.length) : (S.getD n []).length ≤ m := by
  rw [List.getD_eq_getElem?_getD, List.getElem?_eq_getElem hn]
  exact hm _ (List.getElem_mem hn)
end Go.Proofs.Ytialclohhemkiaa
