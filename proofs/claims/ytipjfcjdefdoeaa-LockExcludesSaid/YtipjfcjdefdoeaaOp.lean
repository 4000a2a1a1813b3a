/- Operations and the cases of a select: how a struct value and a list of structs read in memory. -/
import Derived.Test.YtipjfcjdefdoeaaLib
import Derived.Test.YtipjfcjdefdoeaaRows
namespace Go.Proofs.Ytipjfcjdefdoeaa
open Go.ChangeShapes Go.WideShapes Go.ChangeAt Go.RowKit
set_option maxRecDepth 100000

structure CaseM where
  send : Bool
  chan : Int
  val : Int
structure OpM where
  kind : Int
  mode : Int
  chan : Int
  val : Int
  dl : Int
  cases : List CaseM
  draws : List Int
def CaseM.ok (c : CaseM) : Prop := c.chan = IntKind.i64.wrap c.chan ∧ c.val = IntKind.u64.wrap c.val
def noCase : CaseM := ⟨false, 0, 0⟩
/-- the case c lies at offset o of block b -/
def CaseAt (w : World) (b o : Nat) (c : CaseM) : Prop :=
  w.cell? ⟨b, o, none⟩ = some (.bool c.send) ∧ w.cell? ⟨b, o + 1, none⟩ = some (.int .i64 c.chan) ∧ w.cell? ⟨b, o + 2, none⟩ = some (.int .u64 c.val)
/-- The slice value v reads in w as the cases l. -/
def SlC (w : World) (v : Value) (l : List CaseM) : Prop :=
  l.length ≤ 140737488351232 ∧ (∀ x ∈ l, x.ok) ∧ ∃ a cap, v = .slice a l.length cap ∧ l.length ≤ cap ∧
    ∀ t, t < l.length → ∃ b off, a = some ⟨b, off, none⟩ ∧ b < w.heap.size ∧ CaseAt w b (off + t * 3) (l.getD t noCase)
theorem CaseAt.below {w w' : World} {b o B : Nat} {c : CaseM} (h : CaseAt w b o c) (hb : b < B) (hw : Below B w w') : CaseAt w' b o c :=
  ⟨(hw.cell (p := ⟨b, o, none⟩) hb).trans h.1, (hw.cell (p := ⟨b, o + 1, none⟩) hb).trans h.2.1, (hw.cell (p := ⟨b, o + 2, none⟩) hb).trans h.2.2⟩
theorem SlC.below {w w' : World} {v : Value} {l : List CaseM} (h : SlC w v l) (hb : Below w.heap.size w w') : SlC w' v l := by
  obtain ⟨h1, h2, a, cap, h3, h4, h5⟩ := h
  refine ⟨h1, h2, a, cap, h3, h4, fun t ht => ?_⟩
  obtain ⟨b, off, e, hlt, hc⟩ := h5 t ht
  exact ⟨b, off, e, Nat.lt_of_lt_of_le hlt hb.size, hc.below hlt hb⟩
theorem SlC.drew {w : World} {v : Value} {l : List CaseM} (h : SlC w v l) (n : Nat) : SlC (w.drewN n) v l := h
theorem SlC.drew1 {w : World} {v : Value} {l : List CaseM} (h : SlC w v l) : SlC w.drew v l := h
theorem SlC.len {w : World} {v : Value} {l : List CaseM} (h : SlC w v l) : ∃ a cap, v = .slice a l.length cap := by
  obtain ⟨_, _, a, cap, rfl, _⟩ := h
  exact ⟨a, cap, rfl⟩
theorem SlC.nil (w : World) : SlC w (.slice none 0 0) [] :=
  ⟨by simp, by simp, none, 0, rfl, Nat.le_refl _, fun t ht => by simp at ht⟩
/-- The struct value v reads in w as the operation op. -/
def OpV (w : World) (v : Value) (op : OpM) : Prop :=
  ∃ vc vd, v = .agg #[.int .i64 op.kind, .int .i64 op.mode, .int .i64 op.chan, .int .u64 op.val, .int .i64 op.dl, vc, vd] ∧ SlC w vc op.cases ∧ SlI w .i64 vd op.draws
theorem OpV.below {w w' : World} {v : Value} {op : OpM} (h : OpV w v op) (hb : Below w.heap.size w w') : OpV w' v op := by
  obtain ⟨vc, vd, e, h1, h2⟩ := h
  exact ⟨vc, vd, e, h1.below hb, h2.below hb⟩
theorem OpV.drew {w : World} {v : Value} {op : OpM} (h : OpV w v op) (n : Nat) : OpV (w.drewN n) v op := h
/-- a box of seven cells, read in a later world -/
theorem box7 {w w1 : World} {T : TypeId} {v0 v1 v2 v3 v4 v5 v6 : Value} (hb : Below (w.alloc (.cells #[v0, v1, v2, v3, v4, v5, v6] T)).heap.size (w.alloc (.cells #[v0, v1, v2, v3, v4, v5, v6] T)) w1) :
    w1.cell? ⟨w.heap.size, 0, none⟩ = some v0 ∧ w1.cell? ⟨w.heap.size, 1, none⟩ = some v1 ∧ w1.cell? ⟨w.heap.size, 2, none⟩ = some v2 ∧ w1.cell? ⟨w.heap.size, 3, none⟩ = some v3 ∧
    w1.cell? ⟨w.heap.size, 4, none⟩ = some v4 ∧ w1.cell? ⟨w.heap.size, 5, none⟩ = some v5 ∧ w1.cell? ⟨w.heap.size, 6, none⟩ = some v6 := by
  have h : ∀ j, w1.cell? ⟨w.heap.size, j, none⟩ = (#[v0, v1, v2, v3, v4, v5, v6] : Array Value)[j]? := fun j =>
    (hb.cell (p := ⟨w.heap.size, j, none⟩) (by simp)).trans (World.cell?_alloc_at _ _ _ _ rfl)
  exact ⟨h 0, h 1, h 2, h 3, h 4, h 5, h 6⟩
structure ConfM where
  caps : List Int
  starts : List Int
  threads : Int
/-- The struct value v reads in w as the configuration c. -/
def ConfV (w : World) (v : Value) (c : ConfM) : Prop :=
  ∃ vc vs, v = .agg #[vc, vs, .int .i64 c.threads] ∧ SlI w .i64 vc c.caps ∧ SlI w .u64 vs c.starts
theorem ConfV.below {w w' : World} {v : Value} {c : ConfM} (h : ConfV w v c) (hb : Below w.heap.size w w') : ConfV w' v c := by
  obtain ⟨vc, vd, e, h1, h2⟩ := h
  exact ⟨vc, vd, e, h1.below hb, h2.below hb⟩
theorem ConfV.drew {w : World} {v : Value} {c : ConfM} (h : ConfV w v c) (n : Nat) : ConfV (w.drewN n) v c := h
theorem box3 {w w1 : World} {T : TypeId} {v0 v1 v2 : Value} (hb : Below (w.alloc (.cells #[v0, v1, v2] T)).heap.size (w.alloc (.cells #[v0, v1, v2] T)) w1) :
    w1.cell? ⟨w.heap.size, 0, none⟩ = some v0 ∧ w1.cell? ⟨w.heap.size, 1, none⟩ = some v1 ∧ w1.cell? ⟨w.heap.size, 2, none⟩ = some v2 := by
  have h : ∀ j, w1.cell? ⟨w.heap.size, j, none⟩ = (#[v0, v1, v2] : Array Value)[j]? := fun j =>
    (hb.cell (p := ⟨w.heap.size, j, none⟩) (by simp)).trans (World.cell?_alloc_at _ _ _ _ rfl)
  exact ⟨h 0, h 1, h 2⟩
end Go.Proofs.Ytipjfcjdefdoeaa
