/- Operations, plainly: the words of the document's check. -/
import Derived.Test.YtipjfcjdefdoeaaOp
import Derived.Test.YtipjfcjdefdoeaaPlain2
namespace Go.Proofs.Ytipjfcjdefdoeaa
open Go.RowKit
set_option maxRecDepth 100000

def namedB (n : Int) : Bool := decide (-1 ≤ n) && decide (n < 8)
def rangesB (op : OpM) : Bool := namedB op.chan && decide (0 ≤ op.dl) && decide (op.dl ≤ 1099511627776) && op.cases.all fun c => namedB c.chan
def shapeB (op : OpM) : Bool :=
  if ((op.kind == 3 || op.kind == 5 || op.kind == 6) && op.mode != 0) || (op.dl != 0 && op.mode != 2) then false
  else if op.kind != 4 then decide (op.cases.length = 0) && decide (op.draws.length = 0) && (op.kind == 1 || op.val == 0)
  else if op.chan != 0 || op.val != 0 || decide (op.draws.length ≠ op.cases.length) then false
  else op.cases.all fun c => c.send || c.val == 0
def kindB (op : OpM) : Bool := decide (1 ≤ op.kind) && decide (op.kind ≤ 6) && decide (0 ≤ op.mode) && decide (op.mode ≤ 2)
def checkE (op : OpM) : Int :=
  if kindB op = false then 2 else if rangesB op = false then 2 else if 6 < op.cases.length ∨ 6 < op.draws.length then 3
  else if okD 0 op.draws = false then 2 else if shapeB op = false then 5 else 0
structure OpM.ok (op : OpM) : Prop where
  kind : op.kind = IntKind.i64.wrap op.kind
  mode : op.mode = IntKind.i64.wrap op.mode
  chan : op.chan = IntKind.i64.wrap op.chan
  val : op.val = IntKind.u64.wrap op.val
  dl : op.dl = IntKind.i64.wrap op.dl
/-- a valid operation of small numbers -/
structure OpM.good (op : OpM) : Prop where
  check : checkE op = 0
  ok : op.ok
  cases : op.cases.length ≤ 6
  draws : op.draws.length ≤ 6
  cok : ∀ c ∈ op.cases, c.ok
theorem i64_small (x : Int) (h0 : -2000000000000 ≤ x) (h1 : x ≤ 2000000000000) : x = IntKind.i64.wrap x := i64_ok x (by omega) (by omega)
theorem good_one (kd md ch vl dl : Int) (hk : 1 ≤ kd ∧ kd ≤ 6) (h4 : kd ≠ 4) (hm : (md = 0 ∧ dl = 0) ∨ ((kd = 1 ∨ kd = 2) ∧ ((md = 1 ∧ dl = 0) ∨ (md = 2 ∧ 0 ≤ dl ∧ dl < 5)))) (hc : -1 ≤ ch ∧ ch < 8) (hv : vl = IntKind.u64.wrap vl) (hv2 : kd = 1 ∨ vl = 0) :
    OpM.good ⟨kd, md, ch, vl, dl, [], []⟩ := by
  have hm2 : 0 ≤ md ∧ md ≤ 2 := by omega
  have hd2 : 0 ≤ dl ∧ dl < 5 := by omega
  refine ⟨?_, ⟨i64_small _ (by simp only; omega) (by simp only; omega), i64_small _ (by simp only; omega) (by simp only; omega), i64_small _ (by simp only; omega) (by simp only; omega), hv, i64_small _ (by simp only; omega) (by simp only; omega)⟩, by simp, by simp, by simp⟩
  have k1 : kindB ⟨kd, md, ch, vl, dl, [], []⟩ = true := by simp [kindB]; omega
  have k2 : rangesB ⟨kd, md, ch, vl, dl, [], []⟩ = true := by simp [rangesB, namedB]; omega
  have k3 : shapeB ⟨kd, md, ch, vl, dl, [], []⟩ = true := by
    unfold shapeB
    have a1 : (kd == 4) = false := by simpa using h4
    have a2 : (kd != 4) = true := by simpa using h4
    have a3 : (((kd == 3 || kd == 5 || kd == 6) && md != 0) || (dl != 0 && md != 2)) = false := by
      rcases hm with ⟨rfl, rfl⟩ | ⟨h, ⟨rfl, rfl⟩ | ⟨rfl, _⟩⟩
      · simp
      · rcases h with rfl | rfl <;> decide
      · rcases h with rfl | rfl <;> simp
    simp only [a3, a2, if_true, Bool.false_eq_true, if_false]
    rcases hv2 with rfl | rfl <;> simp
  simp [checkE, k1, k2, k3, okD]
end Go.Proofs.Ytipjfcjdefdoeaa
