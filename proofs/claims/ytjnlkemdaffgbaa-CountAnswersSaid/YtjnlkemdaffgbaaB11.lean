import Derived.Deep.RegionLaw
import Derived.Deep.DeepCutAuto
import Derived.Deep.RegionHeld3
import Derived.Test.YtjnlkemdaffgbaaB02
import Derived.Test.YtjnlkemdaffgbaaB04
import Derived.Test.YtjnlkemdaffgbaaB03
import Derived.Test.YtjnlkemdaffgbaaB10
import Derived.Test.YtjnlkemdaffgbaaB01
set_option linter.unusedVariables false
set_option linter.unusedSimpArgs false
/- An access changes at most one word or one list: plainly. -/
namespace Go.Proofs.Ytjnlkemdaffgbaa
open Go.ChangeShapes Go.WideShapes Go.ChangeAt Go.RowKit
set_option maxRecDepth 100000

def wrP (k : Int) : Prop := k = 2 ∨ k = 3 ∨ k = 6 ∨ k = 8 ∨ k = 9
/-- what an access makes of a memory: nothing, one word, or one list -/
inductive OneM (m : MemM) (a : AccM) : Prop
  | none (h : (applyE m a).1 = m)
  | word (x : Int) (hk : a.kind < 7) (hw : wrP a.kind) (hc : a.kind = 3 → (applyE m a).2.1.ok = true) (h0 : 0 ≤ a.addr) (h1 : a.addr < m.words.length) (h : (applyE m a).1 = ⟨m.words.set a.addr.toNat x, m.lists, m.tick⟩)
  | list (l : List Int) (hk : 7 ≤ a.kind) (hw : wrP a.kind) (h0 : 0 ≤ a.addr) (h1 : a.addr < m.lists.length) (h : (applyE m a).1 = ⟨m.words, m.lists.set a.addr.toNat l, m.tick⟩)
theorem hasB_in {n : Nat} {a : Int} (h : hasB n a ≠ false) : 0 ≤ a ∧ a < n := by
  unfold hasB at h
  simp at h
  exact h
theorem applyE_one (m : MemM) (a : AccM) : OneM m a := by
  by_cases hg : grantB m a = false
  · exact .none (by simp [applyE, hg])
  have hg2 : grantB m a = true := by simpa using hg
  by_cases h7 : 7 ≤ a.kind
  · have e1 : (applyE m a).1 = (listE m a).1 := by simp [applyE, hg2, h7]
    by_cases hh : hasB m.lists.length a.addr = false
    · exact .none (by rw [e1]; simp [listE, hh])
    have hh2 := hasB_in hh
    by_cases hk : a.kind = 7
    · exact .none (by rw [e1]; unfold listE; rw [if_neg hh, if_pos hk])
    have h9 : a.kind ≤ 9 := by
      unfold grantB at hg2
      rw [if_neg (by omega)] at hg2
      simp at hg2
      exact hg2.2
    refine .list (nextL a.kind (IntKind.i64.wrap a.new) (m.lists.getD a.addr.toNat [])) h7 ?_ hh2.1 hh2.2 (by rw [e1]; unfold listE; rw [if_neg hh, if_neg hk])
    have : a.kind = 8 ∨ a.kind = 9 := by omega
    rcases this with e | e <;> simp [wrP, e]
  · have e1 : (applyE m a).1 = (wordE m a).1 := by simp [applyE, hg2, h7]
    have e2 : (applyE m a).2.1 = (wordE m a).2 := by simp [applyE, hg2, h7]
    by_cases hh : hasB m.words.length a.addr = false
    · exact .none (by rw [e1]; simp [wordE, hh])
    have hh2 := hasB_in hh
    by_cases h26 : a.kind = 2 ∨ a.kind = 6
    · refine .word a.new (by omega) ?_ (by omega) hh2.1 hh2.2 (by rw [e1]; unfold wordE; rw [if_neg hh, if_pos h26])
      rcases h26 with e | e <;> simp [wrP, e]
    by_cases h3 : a.kind = 3
    · by_cases ho : m.words.getD a.addr.toNat 0 = a.old
      · refine .word a.new (by omega) (by simp [wrP, h3]) (fun _ => ?_) hh2.1 hh2.2 (by rw [e1]; unfold wordE; rw [if_neg hh, if_neg h26, if_pos h3, if_pos ho])
        rw [e2]; unfold wordE; rw [if_neg hh, if_neg h26, if_pos h3, if_pos ho]
      · exact .none (by rw [e1]; unfold wordE; rw [if_neg hh, if_neg h26, if_pos h3, if_neg ho])
    · by_cases h4 : a.kind = 4
      · exact .none (by rw [e1]; unfold wordE; rw [if_neg hh, if_neg h26, if_neg h3, if_pos h4])
      · exact .none (by rw [e1]; unfold wordE; rw [if_neg hh, if_neg h26, if_neg h3, if_neg h4])
/-- In the words of the law: the sizes and the time stay, and what changes stands at the address. -/
theorem OneM.sizes {m : MemM} {a : AccM} (h : OneM m a) : (applyE m a).1.words.length = m.words.length ∧ (applyE m a).1.lists.length = m.lists.length ∧ (applyE m a).1.tick = m.tick := by
  cases h with
  | none h => rw [h]; exact ⟨rfl, rfl, rfl⟩
  | word x hk hw hc h0 h1 h => rw [h]; exact ⟨List.length_set, rfl, rfl⟩
  | list l hk hw h0 h1 h => rw [h]; exact ⟨rfl, List.length_set, rfl⟩
theorem OneM.word_at {m : MemM} {a : AccM} (h : OneM m a) (i : Nat) (hi : (applyE m a).1.words.getD i 0 ≠ m.words.getD i 0) : (i : Int) = a.addr ∧ a.kind < 7 ∧ wrP a.kind ∧ (a.kind = 3 → (applyE m a).2.1.ok = true) := by
  cases h with
  | none h => rw [h] at hi; exact absurd rfl hi
  | word x hk hw hc h0 h1 h =>
    refine ⟨?_, hk, hw, hc⟩
    rw [h] at hi
    have hi : (m.words.set a.addr.toNat x).getD i 0 ≠ m.words.getD i 0 := hi
    rw [getD_setL] at hi
    split at hi
    · omega
    · exact absurd rfl hi
  | list l hk hw h0 h1 h => rw [h] at hi; exact absurd rfl hi
theorem OneM.list_at {m : MemM} {a : AccM} (h : OneM m a) (i : Nat) (hi : (applyE m a).1.lists.getD i [] ≠ m.lists.getD i []) : (i : Int) = a.addr ∧ 7 ≤ a.kind ∧ wrP a.kind := by
  cases h with
  | none h => rw [h] at hi; exact absurd rfl hi
  | word x hk hw hc h0 h1 h => rw [h] at hi; exact absurd rfl hi
  | list l hk hw h0 h1 h =>
    refine ⟨?_, hk, hw⟩
    rw [h] at hi
    have hi : (m.lists.set a.addr.toNat l).getD i [] ≠ m.lists.getD i [] := hi
    rw [getD_setL] at hi
    split at hi
    · omega
    · exact absurd rfl hi
end Go.Proofs.Ytjnlkemdaffgbaa
/- The reader of choices: what Next returns, whatever the choices are. -/
namespace Go.Proofs.Ytjnlkemdaffgbaa
open Go.ChangeShapes Go.WideShapes Go.ChangeAt Go.RowKit
set_option maxRecDepth 100000

def CodesE (w : World) (g : Nat) : Prop := ∃ r val, CodesAt w g r val
theorem CodesE.lt {w : World} {g : Nat} (h : CodesE w g) : g < w.heap.size := by obtain ⟨r, val, h⟩ := h; exact h.lt
theorem CodesE.kept {w w' : World} {g B : Nat} (h : CodesE w g) (hB : g < B) (hb : Below B w w') : CodesE w' g := by
  obtain ⟨r, val, h⟩ := h; exact ⟨r, val, h.kept hB hb⟩
theorem nextE (g : Nat) (n : Int) (w : World) (h : CodesE w g) (h1 : 1 ≤ n) (h2 : n ≤ 256) :
    Calls Try.prog 14 #[.pointer (some ⟨g, 0, none⟩), .int .i64 n] w fun e w' => ∃ x : Int, e = .returned (.int .i64 x) ∧ 0 ≤ x ∧ x < n ∧ CodesE w' g ∧ w.grownBy w' (some g) := by
  obtain ⟨r, val, h⟩ := h
  refine (next_any g r val n w h h1 h2).mono ?_
  rintro e w' ⟨rfl, hc, hg⟩
  have := nxt_bd r n h1
  exact ⟨_, rfl, this.1, this.2, ⟨_, _, hc⟩, hg⟩
end Go.Proofs.Ytjnlkemdaffgbaa
/- The reader of choices makes memories and accesses. -/
namespace Go.Proofs.Ytjnlkemdaffgbaa
open Go.ChangeShapes Go.WideShapes Go.ChangeAt Go.RowKit
set_option maxRecDepth 100000

end Go.Proofs.Ytjnlkemdaffgbaa
/- What reads the same whatever is done to two blocks. -/
namespace Go.Proofs.Ytjnlkemdaffgbaa
open Go.ChangeShapes Go.WideShapes Go.ChangeAt Go.RowKit
set_option maxRecDepth 100000

/-- the worlds that hold w0's memory but for the blocks a and b -/
def Off (a b : Nat) (w0 : World) : World → Prop := fun w => w0.heap.size ≤ w.heap.size ∧ ∀ j, j < w0.heap.size → j ≠ a → j ≠ b → w.heap[j]? = w0.heap[j]?
theorem Off.self (a b : Nat) (w : World) : Off a b w w := ⟨Nat.le_refl _, fun _ _ _ _ => rfl⟩
theorem Off.trans {a b : Nat} {w0 w1 w2 : World} (h : Off a b w0 w1) (h2 : Off a b w1 w2) : Off a b w0 w2 :=
  ⟨Nat.le_trans h.1 h2.1, fun j hj ha hb => (h2.2 j (Nat.lt_of_lt_of_le hj h.1) ha hb).trans (h.2 j hj ha hb)⟩
theorem Off.below {a b : Nat} {w w' : World} (h : Below w.heap.size w w') : Off a b w w' := ⟨h.size, fun j hj _ _ => h.block j hj⟩
theorem Off.wide (a b : Nat) (w0 : World) : Wide (Off a b w0) := fun _ _ h hb => h.trans (Off.below hb)
theorem Off.grown {a b : Nat} {w w' : World} (h : w.grownBy w' (some a)) : Off a b w w' := ⟨h.size, fun j hj ha _ => h.block j hj (by simp; omega)⟩
theorem Off.setRow {a b : Nat} (w : World) (cs : Array Value) : Off a b w (w.setRow b cs) := ⟨by simp [World.setRow], fun j _ _ hb => setRow_other w b j cs hb⟩
theorem Off.setCell {a b : Nat} (w : World) (o : Nat) (u : Value) : Off a b w (w.setCell ⟨b, o, none⟩ u) := ⟨by simp, fun j _ _ hb => heap_setCell_other w ⟨b, o, none⟩ j u hb⟩
theorem Off.nx {a b : Nat} {w0 w w' : World} (h : Off a b w0 w) (hb : Below w.heap.size w w') (h1 : a < w.heap.size) (h2 : b < w.heap.size) : ∀ w2, Off a b w' w2 → Nx (Off a b w0) w w' w2 := fun w2 h3 =>
  ⟨h.trans ((Off.below hb).trans h3), ⟨h3.1, fun j hj hj2 => h3.2 j hj2 (by omega) (by omega)⟩⟩
theorem OwnI.stays {a b : Nat} {w : World} {base : Nat} {e : TypeId} {k : IntKind} {v : Value} {l : List Int} (h : OwnI w base e k v l) (h1 : a < base) (h2 : b < base) (hl : l.length ≤ 140737488351232) (hw : ∀ x ∈ l, x = k.wrap x) : StI (Off a b w) k v l := by
  intro w2 ho
  have h3 : OwnI w2 base e k v l := by
    refine ⟨h.1, ?_⟩
    rcases h.2 with h4 | ⟨g, cap, cur, h4, h5, h6, h7⟩
    · exact .inl h4
    · exact .inr ⟨g, cap, cur, h4, h5, (ho.2 g (Array.getElem?_eq_some_iff.1 h6).1 (by omega) (by omega)).trans h6, h7⟩
  exact h3.read hl hw
theorem StI.sub {G H : World → Prop} {k : IntKind} {v : Value} {l : List Int} (h : StI G k v l) (hs : ∀ w, H w → G w) : StI H k v l := fun w hw => h w (hs w hw)
theorem CodesE.grown {w w' : World} {g b : Nat} (h : CodesE w g) (hg : g < b) (ho : w.grownBy w' (some b)) : CodesE w' g :=
  h.kept (B := g + 1) (Nat.lt_succ_self _) ⟨ho.os, ho.tape, ho.output, ho.size, fun j hj => ho.block j (by have := h.lt; omega) (by simp; omega)⟩
theorem sl1_at {w : World} {k : IntKind} {b : Nat} {x : Int} {T : TypeId} (h : w.heap[b]? = some (.cells #[.int k x] T (0, 0))) (hx : x = k.wrap x) : SlI w k (.slice (some ⟨b, 0, none⟩) 1 1) [x] := by
  refine ⟨by simp, by intro z hz; simp at hz; subst hz; exact hx, _, 1, rfl, Nat.le_refl _, fun t ht => ⟨b, 0, rfl, (Array.getElem?_eq_some_iff.1 h).1, ?_⟩⟩
  obtain rfl : t = 0 := by simp at ht; omega
  exact cell_of_row _ _ 0 _ _ _ h
theorem sll2_at {w : World} {b : Nat} {u0 u1 : Value} {l0 l1 : List Int} {T : TypeId} (h : w.heap[b]? = some (.cells #[u0, u1] T (0, 0))) (h0 : SlI w .i64 u0 l0) (h1 : SlI w .i64 u1 l1) : SlL w (.slice (some ⟨b, 0, none⟩) 2 2) [u0, u1] [l0, l1] := by
  refine ⟨by simp, rfl, _, 2, rfl, Nat.le_refl _, fun t ht => ⟨b, 0, rfl, (Array.getElem?_eq_some_iff.1 h).1, ?_⟩⟩
  obtain rfl | rfl : t = 0 ∨ t = 1 := by simp at ht; omega
  · exact ⟨cell_of_row _ _ 0 _ _ _ h, h0⟩
  · exact ⟨cell_of_row _ _ 1 _ _ _ h, h1⟩
end Go.Proofs.Ytjnlkemdaffgbaa
/- A memory in a variable beside a reader of choices; which memories are too large to be looked at. -/
namespace Go.Proofs.Ytjnlkemdaffgbaa
open Go.ChangeShapes Go.WideShapes Go.ChangeAt Go.RowKit
set_option maxRecDepth 100000

theorem SlI.heapEq {w w2 : World} (h : w2.heap = w.heap) {k : IntKind} {v : Value} {l : List Int} (hs : SlI w k v l) : SlI w2 k v l := by
  obtain ⟨h1, h2, a, cap, h3, h4, h5⟩ := hs
  refine ⟨h1, h2, a, cap, h3, h4, fun t ht => ?_⟩
  obtain ⟨b, off, e, hb, hc⟩ := h5 t ht
  refine ⟨b, off, e, by rw [h]; exact hb, ?_⟩
  unfold World.cell? at hc ⊢
  rw [h]
  exact hc
theorem SlL.heapEq {w w2 : World} (h : w2.heap = w.heap) {v : Value} {us : List Value} {ll : List (List Int)} (hs : SlL w v us ll) : SlL w2 v us ll := by
  obtain ⟨h1, h2, a, cap, h3, h4, h5⟩ := hs
  refine ⟨h1, h2, a, cap, h3, h4, fun t ht => ?_⟩
  obtain ⟨b, off, e, hb, hc, hu⟩ := h5 t ht
  refine ⟨b, off, e, by rw [h]; exact hb, ?_, hu.heapEq h⟩
  unfold World.cell? at hc ⊢
  rw [h]
  exact hc
/-- what reads so while one block changes reads so while another one, which is new, does too -/
theorem StM.off {w0 w : World} {g M : Nat} {v : Value} {m : MemM} (h : StM (fun w2 => w0.grownBy w2 (some g)) v m) (hb : Below w0.heap.size w0 w) (hM : w0.heap.size ≤ M) : StM (Off g M w) v m := by
  obtain ⟨vw, vl, us, e, hall⟩ := h
  refine ⟨vw, vl, us, e, fun w2 h2 => ?_⟩
  have hg : w0.grownBy { w0 with heap := w2.heap } (some g) := ⟨rfl, rfl, rfl, Nat.le_trans hb.size h2.1, fun j hj hne => (h2.2 j (Nat.lt_of_lt_of_le hj hb.size) (by simpa using fun e => hne (by rw [e])) (by omega)).trans (hb.block j hj)⟩
  obtain ⟨h3, h4⟩ := hall _ hg
  exact ⟨h3.heapEq (w := { w0 with heap := w2.heap }) rfl, h4.heapEq (w := { w0 with heap := w2.heap }) rfl⟩
/-- the reader's block g, the memory's variable in block M -/
structure MemS (w0 wr : World) (g M : Nat) (m : MemM) : Prop where
  g0 : w0.heap.size ≤ g
  gm : g < M
  codes : CodesE wr g
  mem : ∃ A c A2 c2, wr.heap[M]? = some (.cells #[.slice A m.words.length c, .slice A2 m.lists.length c2, .int .i64 m.tick] 39 (0, 0)) ∧ StM (Off g M wr) (.agg #[.slice A m.words.length c, .slice A2 m.lists.length c2, .int .i64 m.tick]) m
  fits : m.fits
  wl : m.words.length ≤ 7
  ll : m.lists.length ≤ 3
  below : Below w0.heap.size w0 wr
theorem MemS.lt {w0 wr : World} {g M : Nat} {m : MemM} (h : MemS w0 wr g M m) : M < wr.heap.size := by
  obtain ⟨A, c, A2, c2, h1, -⟩ := h.mem
  exact (Array.getElem?_eq_some_iff.1 h1).1
theorem MemS.move {w0 wr w2 : World} {g M : Nat} {m : MemM} (h : MemS w0 wr g M m) (ho : Off g M wr w2) (hm : w2.heap[M]? = wr.heap[M]?) (hc : CodesE w2 g) (hb : Below w0.heap.size w0 w2) : MemS w0 w2 g M m := by
  obtain ⟨A, c, A2, c2, h1, h2⟩ := h.mem
  exact ⟨h.g0, h.gm, hc, ⟨A, c, A2, c2, hm.trans h1, h2.sub fun w3 h3 => ho.trans h3⟩, h.fits, h.wl, h.ll, hb⟩
theorem MemS.next {w0 wr w2 : World} {g M : Nat} {m : MemM} (h : MemS w0 wr g M m) (hb : Below wr.heap.size wr w2) : MemS w0 w2 g M m :=
  h.move (Off.below hb) (hb.block M h.lt) (h.codes.kept h.codes.lt hb) (below_then h.below hb)
theorem MemS.drawn {w0 wr w2 : World} {g M : Nat} {m : MemM} (h : MemS w0 wr g M m) (hc : CodesE w2 g) (hg : wr.grownBy w2 (some g)) : MemS w0 w2 g M m := by
  have hgm := h.gm
  exact h.move (Off.grown hg) (hg.block M h.lt (by simp; omega)) hc (h.below.grown hg h.below.size (fun k hk => by cases hk; exact h.g0))
theorem MemS.open {w0 wr : World} {g M : Nat} {m : MemM} (h : MemS w0 wr g M m) : ∃ A c A2 c2, Hid (wr.heap[M]? = some (.cells #[.slice A m.words.length c, .slice A2 m.lists.length c2, .int .i64 m.tick] 39 (0, 0))) ∧ Hid (StM (Off g M wr) (.agg #[.slice A m.words.length c, .slice A2 m.lists.length c2, .int .i64 m.tick]) m) := h.mem
/-- the memory that an access left is stored in the variable -/
theorem MemS.taken {w0 wr w1 w2 : World} {g M : Nat} {m m' : MemM} {A A2 : Option Addr} {c c2 : Nat} (h : MemS w0 wr g M m) (hb : Below wr.heap.size wr w1) (hb2 : Below w1.heap.size w1 w2)
    (hs : StM (Nx (Off g M wr) wr w1) (.agg #[.slice A m'.words.length c, .slice A2 m'.lists.length c2, .int .i64 m'.tick]) m') (hf : m'.fits) (hw : m'.words.length ≤ 7) (hl : m'.lists.length ≤ 3) : MemS w0 (w2.setRow M #[.slice A m'.words.length c, .slice A2 m'.lists.length c2, .int .i64 m'.tick]) g M m' := by
  have hlt := h.lt
  have hgm := h.gm
  have hg0 := h.g0
  have hs1 := hb.size
  have hs2 := hb2.size
  obtain ⟨B, d, B2, d2, h1, h2⟩ := h.mem
  have hr := (hb2.block M (by omega)).trans ((hb.block M hlt).trans h1)
  refine ⟨h.g0, h.gm, ?_, ⟨A, c, A2, c2, setRow_heap _ _ _ _ _ (0, 0) hr, hs.sub fun w3 h3 => ?_⟩, hf, hw, hl, row_below (below_then (below_then h.below hb) hb2) (by omega) _⟩
  · exact (h.codes.kept h.codes.lt (below_then hb hb2)).kept hgm (row_below (Below.refl M w2) (Nat.le_refl _) _)
  · exact Off.nx (Off.self _ _ _) hb h.codes.lt hlt w3 ((Off.below hb2).trans ((Off.setRow w2 _).trans h3))
def BigR (m : MemM) (b : Bool) : Prop := b = false → m.words.length ≤ 40 ∧ m.lists.length ≤ 20 ∧ 0 ≤ m.tick ∧ ∀ t, t < m.lists.length → (m.lists.getD t []).length ≤ 40
def BigQ (m : MemM) (w : World) (e : Ending) (w' : World) : Prop := ∃ b, e = .returned (.bool b) ∧ BigR m b ∧ Below w.heap.size w w'
theorem fits_raw {m : MemM} (hw : ∀ x ∈ m.words, x = IntKind.u64.wrap x) (ht : m.tick = IntKind.i64.wrap m.tick) (h : m.words.length ≤ 40 ∧ m.lists.length ≤ 20 ∧ 0 ≤ m.tick ∧ ∀ t, t < m.lists.length → (m.lists.getD t []).length ≤ 40) : m.fits := by
  obtain ⟨h1, h2, -, h4⟩ := h
  refine ⟨by omega, by omega, fun t => ?_, hw, ht⟩
  by_cases htl : t < m.lists.length
  · have := h4 t htl; omega
  · rw [List.getD_eq_getElem?_getD, List.getElem?_eq_none (by omega)]; simp
end Go.Proofs.Ytjnlkemdaffgbaa
/- The reader of choices: configurations. -/
namespace Go.Proofs.Ytjnlkemdaffgbaa
open Go.ChangeShapes Go.WideShapes Go.ChangeAt Go.RowKit
set_option maxRecDepth 100000
def capsArr : Array Value := #[.int .i64 0, .int .i64 1, .int .i64 2, .int .i64 0, .int .i64 1, .int .i64 3]
def startsArr : Array Value := #[.int .u64 0, .int .u64 1, .int .u64 9223372036854775807, .int .u64 9223372036854775806, .int .u64 4611686018427387904, .int .u64 5]
/-- while a configuration is built: the reader, the two tables, the variable in block R + 3 with its two lists -/
structure CfgInv (w0 w : World) (g : Nat) (val : Int) (R : Nat) (vc vs : Value) (caps starts r : List Int) : Prop where
  lt : g < R
  eq : R = w0.heap.size
  codes : CodesAt w g r val
  grown : w0.grownBy w (some g)
  res : w.heap[R]? = some (.cells #[.slice none 0 0, .slice none 0 0, .int .i64 0] 36 (0, 0))
  lc : w.heap[R + 1]? = some (.cells capsArr 3 (0, 0))
  ls : w.heap[R + 2]? = some (.cells startsArr 27 (0, 0))
  box : w.heap[R + 3]? = some (.cells #[vc, vs, .int .i64 0] 36 (0, 0))
  oc : OwnI w (R + 4) 3 .i64 vc caps
  os : OwnI w (R + 4) 27 .u64 vs starts
theorem CfgInv.size {w0 w : World} {g : Nat} {val : Int} {R : Nat} {vc vs : Value} {caps starts r : List Int} (h : CfgInv w0 w g val R vc vs caps starts r) : R + 4 ≤ w.heap.size :=
  (Array.getElem?_eq_some_iff.1 h.box).1
theorem CfgInv.next {w0 w w' : World} {g : Nat} {val : Int} {R : Nat} {vc vs : Value} {caps starts r r' : List Int} (h : CfgInv w0 w g val R vc vs caps starts r) (hc : CodesAt w' g r' val) (hg : w.grownBy w' (some g)) :
    CfgInv w0 w' g val R vc vs caps starts r' := by
  have hs := h.size
  have hl := h.lt
  have b : ∀ j, R ≤ j → j < R + 4 → w'.heap[j]? = w.heap[j]? := fun j h1 h2 => hg.block j (by omega) (by simp; omega)
  exact ⟨hl, h.eq, hc, grownBy_trans h.grown hg, (b R (by omega) (by omega)).trans h.res, (b (R + 1) (by omega) (by omega)).trans h.lc, (b (R + 2) (by omega) (by omega)).trans h.ls, (b (R + 3) (by omega) (by omega)).trans h.box,
    h.oc.kept hg (h.oc.ne (by omega)), h.os.kept hg (h.os.ne (by omega))⟩
theorem own_apart {w : World} {b1 b2 : Nat} {e1 e2 : TypeId} {k1 k2 : IntKind} {v1 v2 : Value} {l1 l2 : List Int} (h1 : OwnI w b1 e1 k1 v1 l1) (h2 : OwnI w b2 e2 k2 v2 l2) (he : e1 ≠ e2) : v1.ownBlock = none ∨ v1.ownBlock ≠ v2.ownBlock := by
  rcases h1.2 with ⟨rfl, _⟩ | ⟨g, cap, cur, rfl, _, hg, _⟩
  · exact .inl rfl
  · rcases h2.2 with ⟨rfl, _⟩ | ⟨g', cap', cur', rfl, _, hg', _⟩
    · exact .inr (by simp [Value.ownBlock])
    · refine .inr ?_
      simp only [Value.ownBlock, ne_eq, Option.some.injEq]
      intro e
      rw [e, hg'] at hg
      simp at hg
      exact he hg.2.symm
theorem CfgInv.spot {w0 w w1 : World} {g : Nat} {val : Int} {R : Nat} {vc vs : Value} {caps starts r : List Int} {row : Option Nat} (h : CfgInv w0 w g val R vc vs caps starts r) (o : Obj) (hg : (w.alloc o).grownBy w1 row) (hge : ∀ j, row = some j → R + 4 ≤ j) :
    (w1.cell? ⟨R + 3, 0, none⟩ = some vc ∧ w1.frozen? ⟨R + 3, 0, none⟩ = false) ∧ (w1.cell? ⟨R + 3, 1, none⟩ = some vs ∧ w1.frozen? ⟨R + 3, 1, none⟩ = false) := by
  have hs := h.size
  have hb : Below (R + 4) w w1 := ((Below.refl (R + 4) w).alloc hs o).grown hg (by simp; omega) hge
  have hbox := (hb.block (R + 3) (by omega)).trans h.box
  exact ⟨⟨cell_of_row w1 (R + 3) 0 _ _ _ hbox, frozen_of_row w1 (R + 3) 0 _ _ hbox⟩, ⟨cell_of_row w1 (R + 3) 1 _ _ _ hbox, frozen_of_row w1 (R + 3) 1 _ _ hbox⟩⟩
theorem OwnI.shape_ne {w : World} {base : Nat} {e : TypeId} {k : IntKind} {v : Value} {l : List Int} {y : Int} (h : OwnI w base e k v (l ++ [y])) : ∃ g cap, v = .slice (some ⟨g, 0, none⟩) (l.length + 1) cap := by
  rcases h.shape with ⟨_, h1⟩ | ⟨g, cap, h1, _⟩
  · exact absurd h1 (by simp)
  · exact ⟨g, cap, by simpa using h1⟩
/-- one more capacity: what was appended is stored in the variable -/
theorem CfgInv.addCap {w0 w w1 : World} {g : Nat} {val : Int} {R : Nat} {vc vs vc' : Value} {caps starts r caps' : List Int} (h : CfgInv w0 w g val R vc vs caps starts r) (o : Obj) (ho : OwnI w1 (R + 4) 3 .i64 vc' caps') (hg : (w.alloc o).grownBy w1 vc.ownBlock) :
    CfgInv w0 (w1.setCell ⟨R + 3, 0, none⟩ vc') g val R vc' vs caps' starts r := by
  have hs := h.size
  have hl := h.lt
  have hge : ∀ j, vc.ownBlock = some j → R + 4 ≤ j := h.oc.own_ge
  have hb : Below (R + 4) w w1 := ((Below.refl (R + 4) w).alloc hs o).grown hg (by simp; omega) hge
  have b : ∀ j, j < R + 4 → w1.heap[j]? = w.heap[j]? := fun j h1 => hb.block j h1
  have b2 : ∀ j, j ≠ R + 3 → (w1.setCell ⟨R + 3, 0, none⟩ vc').heap[j]? = w1.heap[j]? := fun j hj => heap_setCell_other w1 ⟨R + 3, 0, none⟩ j _ hj
  have hbox := (b (R + 3) (by omega)).trans h.box
  have hos : OwnI w1 (R + 4) 27 .u64 vs starts := (h.os.alloc o).kept hg (own_apart (h.os.alloc o) (h.oc.alloc o) (by decide))
  have hsb : Below (R + 3) w1 (w1.setCell ⟨R + 3, 0, none⟩ vc') := (Below.refl (R + 3) w1).setCell (p := ⟨R + 3, 0, none⟩) (Nat.le_refl _) _
  refine ⟨hl, h.eq, (h.codes.kept (B := R + 4) (by omega) hb).kept (B := R + 3) (by omega) hsb, ?_, (b2 R (by omega)).trans ((b R (by omega)).trans h.res), (b2 (R + 1) (by omega)).trans ((b (R + 1) (by omega)).trans h.lc), (b2 (R + 2) (by omega)).trans ((b (R + 2) (by omega)).trans h.ls), ?_,
    ho.kept (grownBy_setCell w1 ⟨R + 3, 0, none⟩ vc') (ho.ne (by simp)), hos.kept (grownBy_setCell w1 ⟨R + 3, 0, none⟩ vc') (hos.ne (by simp))⟩
  · have e := h.eq
    exact grownBy_of_below (grownBy_of_below h.grown (hb.mono (by omega))) ((hsb).mono (by omega))
  · have := heap_setCell_same w1 (R + 3) 0 _ _ vc' hbox
    simpa using this
theorem CfgInv.addStart {w0 w w1 : World} {g : Nat} {val : Int} {R : Nat} {vc vs vs' : Value} {caps starts r starts' : List Int} (h : CfgInv w0 w g val R vc vs caps starts r) (o : Obj) (ho : OwnI w1 (R + 4) 27 .u64 vs' starts') (hg : (w.alloc o).grownBy w1 vs.ownBlock) :
    CfgInv w0 (w1.setCell ⟨R + 3, 1, none⟩ vs') g val R vc vs' caps starts' r := by
  have hs := h.size
  have hl := h.lt
  have hge : ∀ j, vs.ownBlock = some j → R + 4 ≤ j := h.os.own_ge
  have hb : Below (R + 4) w w1 := ((Below.refl (R + 4) w).alloc hs o).grown hg (by simp; omega) hge
  have b : ∀ j, j < R + 4 → w1.heap[j]? = w.heap[j]? := fun j h1 => hb.block j h1
  have b2 : ∀ j, j ≠ R + 3 → (w1.setCell ⟨R + 3, 1, none⟩ vs').heap[j]? = w1.heap[j]? := fun j hj => heap_setCell_other w1 ⟨R + 3, 1, none⟩ j _ hj
  have hbox := (b (R + 3) (by omega)).trans h.box
  have hoc : OwnI w1 (R + 4) 3 .i64 vc caps := (h.oc.alloc o).kept hg (own_apart (h.oc.alloc o) (h.os.alloc o) (by decide))
  have hsb : Below (R + 3) w1 (w1.setCell ⟨R + 3, 1, none⟩ vs') := (Below.refl (R + 3) w1).setCell (p := ⟨R + 3, 1, none⟩) (Nat.le_refl _) _
  refine ⟨hl, h.eq, (h.codes.kept (B := R + 4) (by omega) hb).kept (B := R + 3) (by omega) hsb, ?_, (b2 R (by omega)).trans ((b R (by omega)).trans h.res), (b2 (R + 1) (by omega)).trans ((b (R + 1) (by omega)).trans h.lc), (b2 (R + 2) (by omega)).trans ((b (R + 2) (by omega)).trans h.ls), ?_,
    hoc.kept (grownBy_setCell w1 ⟨R + 3, 1, none⟩ vs') (hoc.ne (by simp)), ho.kept (grownBy_setCell w1 ⟨R + 3, 1, none⟩ vs') (ho.ne (by simp))⟩
  · have e := h.eq
    exact grownBy_of_below (grownBy_of_below h.grown (hb.mono (by omega))) ((hsb).mono (by omega))
  · have := heap_setCell_same w1 (R + 3) 1 _ _ vs' hbox
    simpa using this
theorem undrew {a b : World} {row : Option Nat} (h : a.drew.grownBy b row) : a.grownBy b row := ⟨h.os, h.tape, h.output, h.size, h.block⟩
theorem nxt_nat (r : List Int) (n : Int) (h : 1 ≤ n) : ∃ p : Nat, nxt r n = p ∧ (p : Int) < n := by
  have := nxt_bd r n (by omega)
  exact ⟨(nxt r n).toNat, by omega, by omega⟩
theorem caps_at (w : World) (b p : Nat) (hp : p < 6) (h : w.heap[b]? = some (.cells capsArr 3 (0, 0))) : ∃ q : Int, w.cell? ⟨b, p, none⟩ = some (.int .i64 q) ∧ 0 ≤ q ∧ q ≤ 3 := by
  rw [cell_of_row w b p _ _ _ h]
  obtain rfl | rfl | rfl | rfl | rfl | rfl : p = 0 ∨ p = 1 ∨ p = 2 ∨ p = 3 ∨ p = 4 ∨ p = 5 := by omega
  all_goals exact ⟨_, rfl, by decide, by decide⟩
theorem starts_at (w : World) (b p : Nat) (hp : p < 6) (h : w.heap[b]? = some (.cells startsArr 27 (0, 0))) : ∃ q : Int, w.cell? ⟨b, p, none⟩ = some (.int .u64 q) ∧ Hid (0 ≤ q ∧ q < 9223372036854775808) := by
  rw [cell_of_row w b p _ _ _ h]
  obtain rfl | rfl | rfl | rfl | rfl | rfl : p = 0 ∨ p = 1 ∨ p = 2 ∨ p = 3 ∨ p = 4 ∨ p = 5 := by omega
  all_goals exact ⟨_, rfl, Lib.hid (by decide)⟩
def CfgOk (caps starts : List Int) (k : Nat) : Prop := caps.length = k ∧ starts.length = k ∧ (∀ x ∈ caps, 0 ≤ x ∧ x ≤ 3) ∧ ∀ x ∈ starts, 0 ≤ x ∧ x < 9223372036854775808
theorem CfgOk.snoc {caps starts : List Int} {k : Nat} (h : CfgOk caps starts k) (q s : Int) (hq : 0 ≤ q ∧ q ≤ 3) (hs : 0 ≤ s ∧ s < 9223372036854775808) : CfgOk (caps ++ [q]) (starts ++ [s]) (k + 1) := by
  obtain ⟨h1, h2, h3, h4⟩ := h
  refine ⟨by simp [h1], by simp [h2], fun x hx => ?_, fun x hx => ?_⟩
  · simp at hx; rcases hx with hx | rfl
    · exact h3 x hx
    · exact hq
  · simp at hx; rcases hx with hx | rfl
    · exact h4 x hx
    · exact hs
theorem CfgInv.start (w : World) (g : Nat) (r : List Int) (val : Int) (h : CodesAt w g r val) :
    CfgInv w ((((w.alloc (.cells #[.slice none 0 0, .slice none 0 0, .int .i64 0] 36)).alloc (.cells capsArr 3)).alloc (.cells startsArr 27)).alloc (.cells #[.slice none 0 0, .slice none 0 0, .int .i64 0] 36))
      g val w.heap.size (.slice none 0 0) (.slice none 0 0) [] [] r := by
  have hb : Below w.heap.size w ((((w.alloc (.cells #[.slice none 0 0, .slice none 0 0, .int .i64 0] 36)).alloc (.cells capsArr 3)).alloc (.cells startsArr 27)).alloc (.cells #[.slice none 0 0, .slice none 0 0, .int .i64 0] 36)) :=
    below_new (below_new (below_new (below_new (Below.refl _ _) _) _) _) _
  refine ⟨h.lt, rfl, h.kept h.lt hb, grownBy_of_below (grownBy_refl _ _) hb, ?_, ?_, ?_, ?_, OwnI.nil _ _ _ _, OwnI.nil _ _ _ _⟩
  · rw [heap_alloc_old _ _ (by simp <;> omega), heap_alloc_old _ _ (by simp <;> omega), heap_alloc_old _ _ (by simp <;> omega), heap_alloc_new]
  · rw [heap_alloc_old _ _ (by simp <;> omega), heap_alloc_old _ _ (by simp <;> omega)]
    have := heap_alloc_new (w.alloc (.cells #[.slice none 0 0, .slice none 0 0, .int .i64 0] 36)) (.cells capsArr 3)
    simpa using this
  · rw [heap_alloc_old _ _ (by simp <;> omega)]
    have := heap_alloc_new ((w.alloc (.cells #[.slice none 0 0, .slice none 0 0, .int .i64 0] 36)).alloc (.cells capsArr 3)) (.cells startsArr 27)
    simpa using this
  · have := heap_alloc_new (((w.alloc (.cells #[.slice none 0 0, .slice none 0 0, .int .i64 0] 36)).alloc (.cells capsArr 3)).alloc (.cells startsArr 27)) (.cells #[.slice none 0 0, .slice none 0 0, .int .i64 0] 36)
    simpa using this
theorem CfgInv.fin {w0 w : World} {g : Nat} {val : Int} {R k : Nat} {vc vs : Value} {caps starts r : List Int} (h : CfgInv w0 w g val R vc vs caps starts r) (hok : CfgOk caps starts k) (hk : k ≤ 100) (a b c d : Value) :
    SlI ((((w.setCell ⟨R + 3, 2, none⟩ a).setCell ⟨R, 0, none⟩ b).setCell ⟨R, 1, none⟩ c).setCell ⟨R, 2, none⟩ d) .i64 vc caps ∧
    SlI ((((w.setCell ⟨R + 3, 2, none⟩ a).setCell ⟨R, 0, none⟩ b).setCell ⟨R, 1, none⟩ c).setCell ⟨R, 2, none⟩ d) .u64 vs starts ∧
    CodesAt ((((w.setCell ⟨R + 3, 2, none⟩ a).setCell ⟨R, 0, none⟩ b).setCell ⟨R, 1, none⟩ c).setCell ⟨R, 2, none⟩ d) g r val ∧
    w0.grownBy ((((w.setCell ⟨R + 3, 2, none⟩ a).setCell ⟨R, 0, none⟩ b).setCell ⟨R, 1, none⟩ c).setCell ⟨R, 2, none⟩ d) (some g) ∧
    OwnI ((((w.setCell ⟨R + 3, 2, none⟩ a).setCell ⟨R, 0, none⟩ b).setCell ⟨R, 1, none⟩ c).setCell ⟨R, 2, none⟩ d) (R + 4) 3 .i64 vc caps ∧ OwnI ((((w.setCell ⟨R + 3, 2, none⟩ a).setCell ⟨R, 0, none⟩ b).setCell ⟨R, 1, none⟩ c).setCell ⟨R, 2, none⟩ d) (R + 4) 27 .u64 vs starts := by
  obtain ⟨o1, o2, o3, o4⟩ := hok
  have hb : Below R w ((((w.setCell ⟨R + 3, 2, none⟩ a).setCell ⟨R, 0, none⟩ b).setCell ⟨R, 1, none⟩ c).setCell ⟨R, 2, none⟩ d) :=
    ((((Below.refl R w).setCell (p := ⟨R + 3, 2, none⟩) (by simp) a).setCell (p := ⟨R, 0, none⟩) (Nat.le_refl _) b).setCell (p := ⟨R, 1, none⟩) (Nat.le_refl _) c).setCell (p := ⟨R, 2, none⟩) (Nat.le_refl _) d
  have keep : ∀ {e k v l}, OwnI w (R + 4) e k v l → OwnI ((((w.setCell ⟨R + 3, 2, none⟩ a).setCell ⟨R, 0, none⟩ b).setCell ⟨R, 1, none⟩ c).setCell ⟨R, 2, none⟩ d) (R + 4) e k v l := fun ho => by
    have h1 := ho.kept (grownBy_setCell w ⟨R + 3, 2, none⟩ a) (ho.ne (by simp))
    have h2 := h1.kept (grownBy_setCell _ ⟨R, 0, none⟩ b) (h1.ne (by simp))
    have h3 := h2.kept (grownBy_setCell _ ⟨R, 1, none⟩ c) (h2.ne (by simp))
    exact h3.kept (grownBy_setCell _ ⟨R, 2, none⟩ d) (h3.ne (by simp))
  refine ⟨(keep h.oc).read (by omega) fun x hx => ?_, (keep h.os).read (by omega) fun x hx => ?_, h.codes.kept h.lt hb, grownBy_of_below h.grown (hb.mono (by rw [h.eq]; exact Nat.le_refl _)), keep h.oc, keep h.os⟩
  · have := o3 x hx; exact i64_ok x (by omega) (by omega)
  · have := o4 x hx; rw [IntKind.wrap_u64]; omega
set_option maxRecDepth 100000 in
set_option maxHeartbeats 1000000 in
theorem config_own (g : Nat) (r : List Int) (val : Int) (w : World) (h : CodesAt w g r val) :
    Calls Try.prog 12 #[.pointer (some ⟨g, 0, none⟩)] w fun e w' => ∃ vc vs t caps starts r', e = .returned (.agg #[vc, vs, .int .i64 t]) ∧
      SlI w' .i64 vc caps ∧ SlI w' .u64 vs starts ∧ caps.length = starts.length ∧ 1 ≤ caps.length ∧ caps.length ≤ 3 ∧ 2 ≤ t ∧ t ≤ 4 ∧ CodesAt w' g r' val ∧ w.grownBy w' (some g) ∧ offB g vc ∧ offB g vs ∧ CfgOk caps starts caps.length ∧ OwnI w' w.heap.size 3 .i64 vc caps ∧ OwnI w' w.heap.size 27 .u64 vs starts := by
  have hgl := h.lt
  go_enter Try.func12, Try.ntmps12
  have ST := Lib.hid (CfgInv.start w g r val h)
  go_wp2_with fail
  rw [show w.heap.size + 1 + 1 + 1 = w.heap.size + 3 from rfl, show w.heap.size + 1 + 1 = w.heap.size + 2 from rfl]
  generalize hRR : w.heap.size = R at *
  clear hRR
  go_loopw [6] (fun c wr => ∃ k : Nat, ∃ vc vs caps starts r', k ≤ 3 ∧ c = .int .i64 k ∧ Hid (CfgInv w wr g val R vc vs caps starts r') ∧ Hid (CfgOk caps starts k)) (fun c _ => 4 - (intOf c).toNat)
  case atStart => exact ⟨0, _, _, _, _, _, by omega, rfl, ST, rfl, rfl, by simp, by simp⟩
  case round =>
    clear ST
    obtain ⟨k, vc, vs, caps, starts, r', hk, rfl, hI, hL⟩ := hrel
    obtain ⟨wo, rfl⟩ : ∃ wo : World, wo = wr := ⟨_, rfl⟩
    go_wp2_with fail
    refine (next_any g r' val 3 _ hI.out.codes (by omega) (by omega)).mono ?_; rintro e w1 ⟨rfl, hc1, hg1⟩
    have nb := nxt_bd r' 3 (by omega)
    generalize nxt r' 3 = y at *
    have hI1 := Lib.hid (hI.out.next hc1 hg1)
    clear hI hc1 hg1
    by_cases hlt : (k : Int) ≤ y
    · go_wp2_with fail
      have c0 := cell_of_row w1 (R + 3) 0 _ _ _ hI1.out.box
      simp at c0
      go_region_law (first
          | (refine step_append_i64 (by rfl) _ _ (by rfl) (R + 4) vc caps (by rfl) (hI2.out.oc.alloc _) q _ (by rfl) (by exact World.cell?_alloc_at _ _ _ _ rfl) (by rw [hL.out.1]; omega) (by have := hI2.out.size; simp; omega) ?_; intro vc2 w3 ho3 hg3; obtain ⟨gg, cg, hvc2⟩ := OwnI.shape_ne ho3; obtain ⟨⟨c3, f3⟩, -⟩ := hI2.out.spot _ hg3 hI2.out.oc.own_ge; subst hvc2)
          | (go_simp; go_at_call 14; refine (next_any g _ val 6 _ (by exact hI1.out.codes) (by omega) (by omega)).mono ?_; rintro e w2 ⟨rfl, hc2, hg2⟩; have hI2 := Lib.hid (hI1.out.next hc2 (undrew hg2)); obtain ⟨p, hp, hp6⟩ := nxt_nat (List.tail r') 6 (by omega); rw [hp]; obtain ⟨q, hq, hq3⟩ := caps_at w2 (R + 1) p (by omega) hI2.out.lc; have c0 := cell_of_row w2 (R + 3) 0 _ _ _ hI2.out.box; have f0 := frozen_of_row w2 (R + 3) 0 _ _ hI2.out.box; have z2 : R + 3 < w2.heap.size := (by have := hI2.out.size; omega); simp at c0))
      all_goals
        have hI3 := Lib.hid (hI2.out.addCap _ ho3 hg3)
        have HQ3 := Lib.hid hq3
        generalize hc2e : caps ++ [q] = caps2 at *
        have HC2 := Lib.hid hc2e
        generalize (Value.slice (some ⟨gg, 0, none⟩) (caps.length + 1) cg) = vc2 at *
        clear hI1 hI2 ho3 hg3 hc2 hg2 c0 f0 c3 f3 z2 hq hq3 hp hp6 hc2e
        go_wp2_with fail
        generalize w3.setCell ⟨R + 3, 0, none⟩ vc2 = W3 at *
        have d0 := cell_of_row W3 (R + 3) 1 _ _ _ hI3.out.box
        simp at d0
        go_region_law (first
          | (refine step_append_u64 (by rfl) _ _ (by rfl) (R + 4) vs starts (by rfl) (hI4.out.os.alloc _) q4 _ (by rfl) (by exact World.cell?_alloc_at _ _ _ _ rfl) (by rw [hL.out.2.1]; omega) (by have := hI4.out.size; simp; omega) ?_; intro vs2 w5 ho5 hg5; obtain ⟨gg5, cg5, hvs2⟩ := OwnI.shape_ne ho5; obtain ⟨-, ⟨c5, f5⟩⟩ := hI4.out.spot _ hg5 hI4.out.os.own_ge; subst hvs2)
          | (go_simp; go_at_call 14; refine (next_any g _ val 6 _ (by exact hI3.out.codes) (by omega) (by omega)).mono ?_; rintro e w4 ⟨rfl, hc4, hg4⟩; have hI4 := Lib.hid (hI3.out.next hc4 (undrew hg4)); obtain ⟨p4, hp4, hp64⟩ := nxt_nat (List.tail (List.tail r')) 6 (by omega); rw [hp4]; obtain ⟨q4, hq4, hq43⟩ := starts_at w4 (R + 2) p4 (by omega) hI4.out.ls; have d0 := cell_of_row w4 (R + 3) 1 _ _ _ hI4.out.box; have f0 := frozen_of_row w4 (R + 3) 1 _ _ hI4.out.box; have z4 : R + 3 < w4.heap.size := (by have := hI4.out.size; omega); simp at d0))
        all_goals
          have hI5 := Lib.hid (hI4.out.addStart _ ho5 hg5)
          have hL5 := Lib.hid (hL.out.snoc q q4 HQ3.out hq43.out)
          rw [HC2.out] at hL5
          clear hI4 ho5 hg5 hc4 hg4 d0 f0 c5 f5 z4 hq4 hp4 hp64
          go_wp2
          go_roundw
          case rel => exact ⟨k + 1, _, _, _, _, _, by omega, by go_num, hI5, hL5⟩
          case measure => simp [intOf]; omega
    · have hk1 : 1 ≤ k := by omega
      go_wp2_with fail
      refine (next_any g _ val 3 _ hI1.out.codes (by omega) (by omega)).mono ?_; rintro e w2 ⟨rfl, hc2, hg2⟩
      have nb2 := nxt_bd r'.tail 3 (by omega)
      generalize nxt r'.tail 3 = t at *
      have hI2 := Lib.hid (hI1.out.next hc2 hg2)
      have c0 := cell_of_row w2 (R + 3) 0 _ _ _ hI2.out.box
      have c1 := cell_of_row w2 (R + 3) 1 _ _ _ hI2.out.box
      have c2 := cell_of_row w2 (R + 3) 2 _ _ _ hI2.out.box
      have f2 := frozen_of_row w2 (R + 3) 2 _ _ hI2.out.box
      have d0 := cell_of_row w2 R 0 _ _ _ hI2.out.res
      have d1 := cell_of_row w2 R 1 _ _ _ hI2.out.res
      have d2 := cell_of_row w2 R 2 _ _ _ hI2.out.res
      have g0 := frozen_of_row w2 R 0 _ _ hI2.out.res
      have g1 := frozen_of_row w2 R 1 _ _ hI2.out.res
      have g2 := frozen_of_row w2 R 2 _ _ hI2.out.res
      simp at c0 c1 c2 d0 d1 d2
      have hRR : ¬ R = R + 3 := by omega
      have hR3 : ¬ R + 3 = R := by omega
      obtain ⟨ac, cc, rfl⟩ : ∃ ac cc, vc = .slice ac caps.length cc := by
        rcases hI2.out.oc.shape with ⟨rfl, h⟩ | ⟨g', cap', rfl, _⟩
        · exact ⟨none, 0, by rw [h]; rfl⟩
        · exact ⟨_, _, rfl⟩
      obtain ⟨ast, cst, rfl⟩ : ∃ ac cc, vs = .slice ac starts.length cc := by
        rcases hI2.out.os.shape with ⟨rfl, h⟩ | ⟨g', cap', rfl, _⟩
        · exact ⟨none, 0, by rw [h]; rfl⟩
        · exact ⟨_, _, rfl⟩
      clear hc2 hg2 hI1
      have HI := Lib.hid hI2.out
      go_wp2
      refine bodyPost_ret (v := .agg #[.slice ac caps.length cc, .slice ast starts.length cst, .int .i64 (2 + t)]) (by simp [results, Try.results12, go_sem, *]) rfl ?_
      obtain ⟨s1, s2, s3, s4, s5, s6⟩ := HI.out.fin hL.out (by omega) (.int .i64 (2 + t)) (.slice ac caps.length cc) (.slice ast starts.length cst) (.int .i64 (2 + t))
      have hl := hL.out
      exact ⟨_, _, _, caps, starts, _, rfl, s1, s2, by rw [hl.1, hl.2.1], by rw [hl.1]; exact hk1, by rw [hl.1]; exact hk, by omega, by omega, s3, s4, HI.out.oc.off (by omega), HI.out.os.off (by omega), by rw [hl.1]; exact hl, s5.mono_base (by have := HI.out.eq; omega), s6.mono_base (by have := HI.out.eq; omega)⟩
theorem config_any (g : Nat) (r : List Int) (val : Int) (w : World) (h : CodesAt w g r val) :
    Calls Try.prog 12 #[.pointer (some ⟨g, 0, none⟩)] w fun e w' => ∃ vc vs t caps starts r', e = .returned (.agg #[vc, vs, .int .i64 t]) ∧
      SlI w' .i64 vc caps ∧ SlI w' .u64 vs starts ∧ caps.length = starts.length ∧ 1 ≤ caps.length ∧ caps.length ≤ 3 ∧ 2 ≤ t ∧ t ≤ 4 ∧ CodesAt w' g r' val ∧ w.grownBy w' (some g) ∧ offB g vc ∧ offB g vs ∧ CfgOk caps starts caps.length := by
  refine (config_own g r val w h).mono ?_
  rintro e w' ⟨vc, vs, t, caps, starts, r', h0, h1, h2, h3, h4, h5, h6, h7, h8, h9, h10, h11, h12, -, -⟩
  exact ⟨vc, vs, t, caps, starts, r', h0, h1, h2, h3, h4, h5, h6, h7, h8, h9, h10, h11, h12⟩
end Go.Proofs.Ytjnlkemdaffgbaa
