/- The shared memory, plainly: what an access makes of it. And how a memory reads. -/
import Derived.Test.YtimgcehogalhcaaLib
import Derived.Test.YtimgcehogalhcaaRows
namespace Go.Proofs.Ytimgcehogalhcaa
open Go.ChangeShapes Go.WideShapes Go.ChangeAt Go.RowKit
set_option maxRecDepth 100000

theorem rowc3 {w : World} {g : Nat} {T : TypeId} {v0 v1 v2 : Value} (h : w.heap[g]? = some (.cells #[v0, v1, v2] T (0, 0))) :
    w.cell? ⟨g, 0, none⟩ = some v0 ∧ w.cell? ⟨g, 1, none⟩ = some v1 ∧ w.cell? ⟨g, 2, none⟩ = some v2 :=
  ⟨cell_of_row _ _ 0 _ _ _ h, cell_of_row _ _ 1 _ _ _ h, cell_of_row _ _ 2 _ _ _ h⟩
theorem rowc4 {w : World} {g : Nat} {T : TypeId} {v0 v1 v2 v3 : Value} (h : w.heap[g]? = some (.cells #[v0, v1, v2, v3] T (0, 0))) :
    w.cell? ⟨g, 0, none⟩ = some v0 ∧ w.cell? ⟨g, 1, none⟩ = some v1 ∧ w.cell? ⟨g, 2, none⟩ = some v2 ∧ w.cell? ⟨g, 3, none⟩ = some v3 :=
  ⟨cell_of_row _ _ 0 _ _ _ h, cell_of_row _ _ 1 _ _ _ h, cell_of_row _ _ 2 _ _ _ h, cell_of_row _ _ 3 _ _ _ h⟩
theorem rowc5 {w : World} {g : Nat} {T : TypeId} {v0 v1 v2 v3 v4 : Value} (h : w.heap[g]? = some (.cells #[v0, v1, v2, v3, v4] T (0, 0))) :
    w.cell? ⟨g, 0, none⟩ = some v0 ∧ w.cell? ⟨g, 1, none⟩ = some v1 ∧ w.cell? ⟨g, 2, none⟩ = some v2 ∧ w.cell? ⟨g, 3, none⟩ = some v3 ∧ w.cell? ⟨g, 4, none⟩ = some v4 :=
  ⟨cell_of_row _ _ 0 _ _ _ h, cell_of_row _ _ 1 _ _ _ h, cell_of_row _ _ 2 _ _ _ h, cell_of_row _ _ 3 _ _ _ h, cell_of_row _ _ 4 _ _ _ h⟩
theorem row_grown (w : World) (g : Nat) (cs : Array Value) : w.grownBy (w.setRow g cs) (some g) :=
  ⟨rfl, rfl, rfl, by simp [World.setRow], fun k _ hk => setRow_other w g k cs (fun e => hk (by rw [e]))⟩
theorem row_below {B g : Nat} {a w : World} (h : Below B a w) (hB : B ≤ g) (cs : Array Value) : Below B a (w.setRow g cs) :=
  ⟨h.os, h.tape, h.output, by simpa [World.setRow] using h.size, fun k hk => (setRow_other w g k cs (by omega)).trans (h.block k hk)⟩
theorem grown_below {a b : World} {row : Option Nat} (h : Below a.heap.size a b) : a.grownBy b row := ⟨h.os, h.tape, h.output, h.size, fun j hj _ => h.block j hj⟩
structure MemM where
  words : List Int
  lists : List (List Int)
  tick : Int
structure AccM where
  kind : Int
  addr : Int
  old : Int
  new : Int
  til : Int
structure AnsM where
  val : Int
  ok : Bool
  late : Bool
  list : List Int
def ansZ : AnsM := ⟨0, false, false, []⟩
def hasB (n : Nat) (a : Int) : Bool := decide (0 ≤ a) && decide (a < n)
def comeB (t til : Int) : Bool := decide (0 < til) && decide (til - 1 ≤ t)
def grantB (m : MemM) (a : AccM) : Bool :=
  if a.kind = 4 then !hasB m.words.length a.addr || m.words.getD a.addr.toNat 0 != a.old || comeB m.tick a.til
  else decide (1 ≤ a.kind) && decide (a.kind ≤ 9)
/-- the list that an Add or a Drop leaves -/
def nextL (k x : Int) (l : List Int) : List Int := if k = 8 then (if l.length < 1000 then l ++ [x] else l) else l.erase x
def listE (m : MemM) (a : AccM) : MemM × AnsM :=
  if hasB m.lists.length a.addr = false then (m, ansZ) else
  if a.kind = 7 then (m, ⟨0, false, false, m.lists.getD a.addr.toNat []⟩) else
  (⟨m.words, m.lists.set a.addr.toNat (nextL a.kind (IntKind.i64.wrap a.new) (m.lists.getD a.addr.toNat [])), m.tick⟩, ⟨(nextL a.kind (IntKind.i64.wrap a.new) (m.lists.getD a.addr.toNat [])).length, false, false, []⟩)
def wordE (m : MemM) (a : AccM) : MemM × AnsM :=
  if hasB m.words.length a.addr = false then (m, ansZ) else
  if a.kind = 2 ∨ a.kind = 6 then (⟨m.words.set a.addr.toNat a.new, m.lists, m.tick⟩, ansZ) else
  if a.kind = 3 then (if m.words.getD a.addr.toNat 0 = a.old then (⟨m.words.set a.addr.toNat a.new, m.lists, m.tick⟩, ⟨m.words.getD a.addr.toNat 0, true, false, []⟩) else (m, ⟨m.words.getD a.addr.toNat 0, false, false, []⟩)) else
  if a.kind = 4 then (m, ⟨m.words.getD a.addr.toNat 0, false, m.words.getD a.addr.toNat 0 == a.old, []⟩)
  else (m, ⟨m.words.getD a.addr.toNat 0, false, false, []⟩)
def applyE (m : MemM) (a : AccM) : MemM × AnsM × Bool :=
  if grantB m a = false then (m, ansZ, false) else
  if 7 ≤ a.kind then ((listE m a).1, (listE m a).2, true) else ((wordE m a).1, (wordE m a).2, true)
def tickE (m : MemM) (n : Int) : MemM := if n < 1 then m else ⟨m.words, m.lists, min (m.tick + n) 1099511627776⟩
/-- a memory of a modest size -/
structure MemM.fits (m : MemM) : Prop where
  words : m.words.length ≤ 100000
  lists : m.lists.length ≤ 100000
  each : ∀ t, (m.lists.getD t []).length ≤ 100000
  wf : ∀ x ∈ m.words, x = IntKind.u64.wrap x
  tick : m.tick = IntKind.i64.wrap m.tick
structure AccM.ok (a : AccM) : Prop where
  kind : a.kind = IntKind.i64.wrap a.kind
  addr : a.addr = IntKind.i64.wrap a.addr
  old : a.old = IntKind.u64.wrap a.old
  new : a.new = IntKind.u64.wrap a.new
  til : a.til = IntKind.i64.wrap a.til
theorem nextL_length (k x : Int) (l : List Int) (h : l.length ≤ 100000) : (nextL k x l).length ≤ 100000 := by
  unfold nextL
  split
  · split
    · simp; omega
    · exact h
  · exact Nat.le_trans (List.length_erase_le ..) h
theorem getD_setL {α : Type} (l : List α) (i t : Nat) (x d : α) : (l.set i x).getD t d = if i = t ∧ t < l.length then x else l.getD t d := by
  simp only [List.getD_eq_getElem?_getD, List.getElem?_set]
  by_cases h : i = t
  · subst h
    by_cases h2 : i < l.length
    · simp [h2]
    · simp [h2]
  · simp [h]
theorem fits_set {m : MemM} (h : m.fits) (i : Nat) (l : List Int) (hl : l.length ≤ 100000) : MemM.fits ⟨m.words, m.lists.set i l, m.tick⟩ := by
  refine ⟨h.words, by simpa using h.lists, fun t => ?_, h.wf, h.tick⟩
  show ((m.lists.set i l).getD t []).length ≤ _
  rw [getD_setL]
  split
  · exact hl
  · exact h.each t
theorem fits_put {m : MemM} (h : m.fits) (i : Nat) (x : Int) (hx : x = IntKind.u64.wrap x) : MemM.fits ⟨m.words.set i x, m.lists, m.tick⟩ := by
  refine ⟨by simpa using h.words, h.lists, h.each, fun y hy => ?_, h.tick⟩
  rcases List.mem_or_eq_of_mem_set hy with hy | rfl
  · exact h.wf y hy
  · exact hx
theorem fits_apply {m : MemM} {a : AccM} (h : m.fits) (ha : a.ok) : (applyE m a).1.fits := by
  unfold applyE
  split
  · exact h
  · split
    · unfold listE
      split
      · exact h
      · split
        · exact h
        · exact fits_set h _ _ (nextL_length _ _ _ (h.each _))
    · unfold wordE
      split
      · exact h
      · split
        · exact fits_put h _ _ ha.new
        · split
          · split
            · exact fits_put h _ _ ha.new
            · exact h
          · split <;> exact h
/-- The slice value v reads in w as the list us of slices, which read as the lists ll of numbers. -/
def SlL (w : World) (v : Value) (us : List Value) (ll : List (List Int)) : Prop :=
  ll.length ≤ 140737488351232 ∧ us.length = ll.length ∧ ∃ a cap, v = .slice a ll.length cap ∧ ll.length ≤ cap ∧
    ∀ t, t < ll.length → ∃ b off, a = some ⟨b, off, none⟩ ∧ b < w.heap.size ∧ w.cell? ⟨b, off + t, none⟩ = some (us.getD t (.slice none 0 0)) ∧ SlI w .i64 (us.getD t (.slice none 0 0)) (ll.getD t [])
theorem SlL.below {w w' : World} {v : Value} {us : List Value} {ll : List (List Int)} (h : SlL w v us ll) (hb : Below w.heap.size w w') : SlL w' v us ll := by
  obtain ⟨h1, h2, a, cap, h3, h4, h5⟩ := h
  refine ⟨h1, h2, a, cap, h3, h4, fun t ht => ?_⟩
  obtain ⟨b, off, e, hlt, hc, hu⟩ := h5 t ht
  exact ⟨b, off, e, Nat.lt_of_lt_of_le hlt hb.size, (hb.cell (p := ⟨b, off + t, none⟩) hlt).trans hc, hu.below hb⟩
theorem SlL.drew {w : World} {v : Value} {us : List Value} {ll : List (List Int)} (h : SlL w v us ll) (n : Nat) : SlL (w.drewN n) v us ll := h
theorem SlL.len {w : World} {v : Value} {us : List Value} {ll : List (List Int)} (h : SlL w v us ll) : ∃ a cap, v = .slice a ll.length cap ∧ ll.length ≤ cap := by
  obtain ⟨_, _, a, cap, rfl, h4, _⟩ := h
  exact ⟨a, cap, rfl, h4⟩
theorem SlL.nil (w : World) : SlL w (.slice none 0 0) [] [] := ⟨by simp, rfl, none, 0, rfl, Nat.le_refl _, fun t ht => by simp at ht⟩
/-- opened where it is not empty -/
theorem SlL.open {w : World} {v : Value} {us : List Value} {ll : List (List Int)} (h : SlL w v us ll) (hne : ll ≠ []) :
    ∃ b off cap, v = .slice (some ⟨b, off, none⟩) ll.length cap ∧ ll.length ≤ cap ∧ b < w.heap.size ∧ (∀ t, t < ll.length → w.cell? ⟨b, off + t, none⟩ = some (us.getD t (.slice none 0 0))) ∧ ∀ t, t < ll.length → SlI w .i64 (us.getD t (.slice none 0 0)) (ll.getD t []) := by
  obtain ⟨_, _, a, cap, rfl, h4, h5⟩ := h
  obtain ⟨b, off, rfl, hlt, _⟩ := h5 0 (List.length_pos_iff.2 hne)
  refine ⟨b, off, cap, rfl, h4, hlt, fun t ht => ?_, fun t ht => ?_⟩
  · obtain ⟨b', off', e, _, hc, hu⟩ := h5 t ht
    simp only [Option.some.injEq, Addr.mk.injEq] at e
    obtain ⟨rfl, rfl, _⟩ := e
    exact hc
  · obtain ⟨b', off', e, _, hc, hu⟩ := h5 t ht
    exact hu
/-- The struct value v reads in w as the memory m. -/
def MemV (w : World) (v : Value) (m : MemM) : Prop :=
  ∃ vw vl us, v = .agg #[vw, vl, .int .i64 m.tick] ∧ SlI w .u64 vw m.words ∧ SlL w vl us m.lists
theorem MemV.below {w w' : World} {v : Value} {m : MemM} (h : MemV w v m) (hb : Below w.heap.size w w') : MemV w' v m := by
  obtain ⟨vw, vl, us, e, h1, h2⟩ := h; exact ⟨vw, vl, us, e, h1.below hb, h2.below hb⟩
def accV (a : AccM) : Value := .agg #[.int .i64 a.kind, .int .i64 a.addr, .int .u64 a.old, .int .u64 a.new, .int .i64 a.til]
/-- w2 has what lay from w on in w' -/
structure NewPart (w w' w2 : World) : Prop where
  size : w'.heap.size ≤ w2.heap.size
  same : ∀ j, w.heap.size ≤ j → j < w'.heap.size → w2.heap[j]? = w'.heap[j]?
/-- a set of worlds that more memory does not leave -/
def Wide (G : World → Prop) : Prop := ∀ w1 w2, G w1 → Below w1.heap.size w1 w2 → G w2
/-- the worlds of G that have what a call made -/
def Nx (G : World → Prop) (w w' : World) : World → Prop := fun w2 => G w2 ∧ NewPart w w' w2
theorem Nx.wide {G : World → Prop} (h : Wide G) (w w' : World) : Wide (Nx G w w') := fun w1 w2 h1 hb =>
  ⟨h _ _ h1.1 hb, ⟨Nat.le_trans h1.2.size hb.size, fun j hj hj2 => (hb.block j (Nat.lt_of_lt_of_le hj2 h1.2.size)).trans (h1.2.same j hj hj2)⟩⟩
theorem Nx.at {G : World → Prop} {w w' : World} (hG : G w) (h : Wide G) (hb : Below w.heap.size w w') : Nx G w w' w' :=
  ⟨h _ _ hG hb, ⟨Nat.le_refl _, fun _ _ _ => rfl⟩⟩
theorem NewPart.sub {w W W' F w2 : World} (h : NewPart w F w2) (hw : w.heap.size ≤ W.heap.size) (hs : W'.heap.size ≤ F.heap.size) (he : ∀ j, W.heap.size ≤ j → j < W'.heap.size → F.heap[j]? = W'.heap[j]?) : NewPart W W' w2 :=
  ⟨Nat.le_trans hs h.size, fun j hj hj2 => (h.same j (Nat.le_trans hw hj) (Nat.lt_of_lt_of_le hj2 hs)).trans (he j hj hj2)⟩
theorem OwnI.newPart {w w' w2 : World} {base : Nat} {e : TypeId} {k : IntKind} {v : Value} {l : List Int} (h : OwnI w' base e k v l) (hw : w.heap.size ≤ base) (hn : NewPart w w' w2) : OwnI w2 base e k v l := by
  refine ⟨h.1, ?_⟩
  rcases h.2 with h1 | ⟨g, cap, cur, h1, h2, h3, h4⟩
  · exact .inl h1
  · exact .inr ⟨g, cap, cur, h1, h2, (hn.same g (Nat.le_trans hw h2) (Array.getElem?_eq_some_iff.1 h3).1).trans h3, h4⟩
theorem row_newPart {w w' w2 : World} {base n : Nat} {e : TypeId} {v : Value} {us : List Value} (h : w'.ownsRow base e 1 v n us) (hw : w.heap.size ≤ base) (hn : NewPart w w' w2) : w2.ownsRow base e 1 v n us := by
  refine ⟨h.1, ?_⟩
  rcases h.2 with h1 | ⟨g, cap, cur, h1, h2, h3, h4⟩
  · exact .inl h1
  · exact .inr ⟨g, cap, cur, h1, h2, (hn.same g (Nat.le_trans hw h2) (Array.getElem?_eq_some_iff.1 h3).1).trans h3, h4⟩
/-- In all worlds of G the struct value v reads as the memory m. -/
def StM (G : World → Prop) (v : Value) (m : MemM) : Prop :=
  ∃ vw vl us, v = .agg #[vw, vl, .int .i64 m.tick] ∧ ∀ w, G w → SlI w .u64 vw m.words ∧ SlL w vl us m.lists
theorem StM.at {G : World → Prop} {v : Value} {m : MemM} {w : World} (h : StM G v m) (hG : G w) : MemV w v m := by
  obtain ⟨vw, vl, us, e, h1⟩ := h; exact ⟨vw, vl, us, e, h1 w hG⟩
theorem StM.sub {G H : World → Prop} {v : Value} {m : MemM} (h : StM G v m) (hs : ∀ w, H w → G w) : StM H v m := by
  obtain ⟨vw, vl, us, e, h1⟩ := h; exact ⟨vw, vl, us, e, fun w hw => h1 w (hs w hw)⟩
/-- In all worlds of G the slice value v reads as l. -/
def StI (G : World → Prop) (k : IntKind) (v : Value) (l : List Int) : Prop := ∀ w, G w → SlI w k v l
/-- In all worlds of G the struct value v reads as the answer b. -/
def StA (G : World → Prop) (v : Value) (b : AnsM) : Prop :=
  ∃ vl, v = .agg #[.int .u64 b.val, .bool b.ok, .bool b.late, vl] ∧ ∀ w, G w → SlI w .i64 vl b.list
theorem StA.sub {G H : World → Prop} {v : Value} {b : AnsM} (h : StA G v b) (hs : ∀ w, H w → G w) : StA H v b := by
  obtain ⟨vl, e, h1⟩ := h; exact ⟨vl, e, fun w hw => h1 w (hs w hw)⟩
theorem StA.bare (G : World → Prop) (x : Int) (p q : Bool) : StA G (.agg #[.int .u64 x, .bool p, .bool q, .slice none 0 0]) ⟨x, p, q, []⟩ := ⟨_, rfl, fun w _ => SlI.nil _ _⟩
/-- the worlds that hold w's memory -/
def Over (w0 : World) : World → Prop := fun w => Below w0.heap.size w0 w
theorem Over.wide (w0 : World) : Wide (Over w0) := fun _ _ h hb => below_then h hb
theorem Over.self (w0 : World) : Over w0 w0 := Below.refl _ _
theorem MemV.over {w : World} {v : Value} {m : MemM} (h : MemV w v m) : StM (Over w) v m := by
  obtain ⟨vw, vl, us, e, h1, h2⟩ := h; exact ⟨vw, vl, us, e, fun w2 hb => ⟨h1.below hb, h2.below hb⟩⟩
end Go.Proofs.Ytimgcehogalhcaa
