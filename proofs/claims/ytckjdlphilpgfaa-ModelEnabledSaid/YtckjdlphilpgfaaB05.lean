import Derived.Deep.QuietTactic
import Derived.BigQuiet
import Derived.Deep.DeepCutAuto
import Derived.Deep.CutBlock
import Derived.Test.YtckjdlphilpgfaaB04
import Derived.Test.YtckjdlphilpgfaaB01
import Derived.Test.YtckjdlphilpgfaaB02
import Derived.Test.YtckjdlphilpgfaaB03
set_option linter.unusedVariables false
set_option linter.unusedSimpArgs false
/- Lists of structs that read, of any width; lists of channels. -/
namespace Go.Proofs.Ytckjdlphilpgfaa
open Go.ChangeShapes Go.WideShapes Go.ChangeAt Go.RowKit
set_option maxRecDepth 100000

/-- The slice value v reads in w as structs of s cells each. -/
def SlS (w : World) (s : Nat) (v : Value) (rows : List (List Value)) : Prop :=
  rows.length ≤ 140737488351232 ∧ Rows' s rows ∧ ∃ a cap, v = .slice a rows.length cap ∧ rows.length ≤ cap ∧
    ∀ i, i < rows.length → ∃ b off, a = some ⟨b, off, none⟩ ∧ b < w.heap.size ∧ w.rangeAt b (off + i * s) (rows.getD i [])
theorem SlS.below {w w' : World} {s : Nat} {v : Value} {rows : List (List Value)} (h : SlS w s v rows) (hb : Below w.heap.size w w') : SlS w' s v rows := by
  obtain ⟨h1, h2, a, cap, rfl, h3, h4⟩ := h
  refine ⟨h1, h2, a, cap, rfl, h3, fun i hi => ?_⟩
  obtain ⟨b, off, e, hlt, hr⟩ := h4 i hi
  exact ⟨b, off, e, Nat.lt_of_lt_of_le hlt hb.size, fun j u hj => (hb.cell (p := ⟨b, off + i * s + j, none⟩) hlt).trans (hr j u hj)⟩
theorem SlS.len {w : World} {s : Nat} {v : Value} {rows : List (List Value)} (h : SlS w s v rows) : ∃ a cap, v = .slice a rows.length cap ∧ rows.length ≤ cap := by
  obtain ⟨-, -, a, cap, rfl, h3, -⟩ := h
  exact ⟨a, cap, rfl, h3⟩
theorem SlS.open {w : World} {s : Nat} {v : Value} {rows : List (List Value)} (h : SlS w s v rows) (hn : 0 < rows.length) : ∃ b off cap, v = .slice (some ⟨b, off, none⟩) rows.length cap ∧ b < w.heap.size ∧ ∀ i, i < rows.length → w.rangeAt b (off + i * s) (rows.getD i []) := by
  obtain ⟨-, -, a, cap, rfl, h3, h4⟩ := h
  obtain ⟨b, off, rfl, hlt, -⟩ := h4 0 hn
  refine ⟨b, off, cap, rfl, hlt, fun i hi => ?_⟩
  obtain ⟨b', off', e, -, hr⟩ := h4 i hi
  simp only [Option.some.injEq, Addr.mk.injEq] at e
  obtain ⟨rfl, rfl, -⟩ := e
  exact hr
theorem SlS.nil (w : World) (s : Nat) : SlS w s (.slice none 0 0) [] := ⟨by simp, fun r h => by simp at h, none, 0, rfl, Nat.le_refl _, fun i hi => by simp at hi⟩
theorem OwnS.sls {w : World} {base s : Nat} {e : TypeId} {v : Value} {rows : List (List Value)} (h : OwnS w base e s v rows) (hl : rows.length ≤ 140737488351232) : SlS w s v rows := by
  refine ⟨hl, h.1, ?_⟩
  rcases h.shape with ⟨rfl, rfl⟩ | ⟨g, cap, rfl, h3, h4, h5⟩
  · exact ⟨none, 0, rfl, Nat.le_refl _, fun i hi => by simp at hi⟩
  · refine ⟨some ⟨g, 0, none⟩, cap, rfl, h5, fun i hi => ⟨g, 0, rfl, h4, ?_⟩⟩
    rw [List.getD_eq_getElem?_getD, List.getElem?_eq_getElem hi, Nat.zero_add]
    exact (h.row i hi).1
/-- a list that reads is copied -/
theorem run_copy_sls (w : World) (st ty : TypeId) {e : TypeId} {s bytes : Nat} {z : Value} (hu : Try.prog.underlying st = some (.slice e)) (hinfo : (Try.prog.info? e).map (fun i => (i.zero, i.size, i.bytes)) = some (some z, s, bytes)) (hzs : z.cells.size = s) (hsz : 0 < s) (hby : bytes ≤ 200)
    {base : Nat} {v : Value} {rows : List (List Value)} (hS : SlS w s v rows) (hne : rows ≠ []) (hl : rows.length ≤ 1000000) (hb : base ≤ w.heap.size) :
    ∃ v' w', (Builtin.append_ #[st, st] ty #[.slice none 0 0, v]).run Try.prog w = .ok v' w' ∧ OwnS w' base e s v' rows ∧ w.grownBy w' none := by
  obtain ⟨i0, hi, hz0, hz1, hz2⟩ := info_parts hinfo
  have hr1 := hS.2.1
  obtain ⟨b, off, cap, rfl, hbl, hr⟩ := hS.open (List.length_pos_iff.2 hne)
  obtain ⟨v', w', hrun, h2, h3, -, h4⟩ := run_append_own_at (P := Try.prog) w base st ty e i0 z s bytes hu hi hz0 hz1 hz2 hzs hsz (.slice none 0 0) 0 [] (World.ownsRow_nil w base e s) ⟨b, off, none⟩ rows.length cap rows.flatten (flatS_length rows hr1) (fun j u hj => by
      have hlt := (List.getElem?_eq_some_iff.1 hj).1
      rw [flatS_length rows hr1] at hlt
      have hq : j / s < rows.length := Nat.div_lt_of_lt_mul (by rw [Nat.mul_comm]; exact hlt)
      have hm : j % s < s := Nat.mod_lt _ hsz
      have hj2 : j = j / s * s + j % s := by rw [Nat.mul_comm]; exact (Nat.div_add_mod j s).symm
      have e2 : ((⟨b, off, none⟩ : Addr).add j) = ⟨b, off + (j / s) * s + j % s, none⟩ := by rw [Addr.add_mid, Nat.add_assoc, ← hj2]
      rw [e2]
      refine hr (j / s) hq (j % s) u ?_
      rw [List.getD_eq_getElem?_getD, List.getElem?_eq_getElem hq]
      have h9 := flatS_get rows hr1 (j / s) (j % s) hq hm
      rw [← hj2] at h9
      show rows[j / s][j % s]? = some u
      rw [← h9]
      exact hj) (fun u hu => by
      obtain ⟨r, hr, hur⟩ := List.mem_flatten.1 hu
      exact (hr1 r hr).2 u hur) (by unfold maxLen; omega) (by have : (0 + rows.length) * bytes ≤ 1000000 * 200 := Nat.mul_le_mul (by omega) hby; omega) hb
  rw [Nat.zero_add, List.nil_append] at h2
  exact ⟨v', w', hrun, ⟨hr1, h2⟩, h3⟩
theorem wp_copy_sls (w : World) (st : TypeId) {e : TypeId} {s bytes : Nat} {z : Value} (hu : Try.prog.underlying st = some (.slice e)) (hinfo : (Try.prog.info? e).map (fun i => (i.zero, i.size, i.bytes)) = some (some z, s, bytes)) (hzs : z.cells.size = s) (hsz : 0 < s) (hby : bytes ≤ 200)
    {ops : Array Oper} {rest : List Oper} {o : Oper} {a : Act} {Q : Exit → Act → World → Prop}
    (hg : o.guard = none) (sl x : Operand) (hop : o.op = Op.call { callee := Callee.builtin Builtin.append, args := #[sl, x], argTypes := #[st, st] })
    {base : Nat} {v : Value} {rows : List (List Value)} (hs : a.eval sl = .slice none 0 0) (hx : a.eval x = v) (hS : SlS w s v rows) (hne : rows ≠ []) (hl : rows.length ≤ 1000000) (hb : base ≤ w.heap.size)
    (hK : ∀ v' w', OwnS w' base e s v' rows → w.grownBy w' none → wpList Try.prog ops Q rest (a.put o.dst v') w') :
    wpList Try.prog ops Q (o :: rest) a w := by
  obtain ⟨v', w', hr, h1, h2⟩ := run_copy_sls w st o.type hu hinfo hzs hsz hby hS hne hl hb
  exact Lib.wpList_append_run w hg sl x _ _ hop _ _ hs hx v' w' hr (hK v' w' h1 h2)
/-- channels: their buffers lie where us says -/
def chRow (c : ChanM) (u : Value) : List Value := [.int .i64 c.cap, u, .bool c.closed]
def chRows : List ChanM → List Value → List (List Value)
  | c :: l, u :: us => chRow c u :: chRows l us
  | _, _ => []
theorem chRows_length : ∀ (l : List ChanM) (us : List Value), us.length = l.length → (chRows l us).length = l.length
  | [], [], _ => rfl
  | c :: l, u :: us, h => by show (chRows l us).length + 1 = _; rw [chRows_length l us (by simpa using h)]; rfl
  | [], u :: us, h => by simp at h
  | c :: l, [], h => by simp at h
theorem chRows_get : ∀ (l : List ChanM) (us : List Value) (i : Nat), us.length = l.length → i < l.length → (chRows l us).getD i [] = chRow (l.getD i noChan) (us.getD i (.slice none 0 0))
  | c :: l, u :: us, 0, _, _ => rfl
  | c :: l, u :: us, i + 1, h, hi => by
    have := chRows_get l us i (by simpa using h) (by simpa using hi)
    simpa [chRows] using this
  | [], [], i, _, hi => by simp at hi
  | [], u :: us, _, h, _ => by simp at h
  | c :: l, [], _, h, _ => by simp at h
theorem chRows_set : ∀ (l : List ChanM) (us : List Value) (i : Nat) (c : ChanM) (u : Value), us.length = l.length → (chRows l us).set i (chRow c u) = chRows (l.set i c) (us.set i u)
  | c :: l, u :: us, 0, _, _, _ => rfl
  | c :: l, u :: us, i + 1, c2, u2, h => by
    have := chRows_set l us i c2 u2 (by simpa using h)
    simp [chRows, this]
  | [], [], i, _, _, _ => by cases i <;> rfl
  | [], u :: us, _, _, _, h => by simp at h
  | c :: l, [], _, _, _, h => by simp at h
theorem chRows_snoc : ∀ (l : List ChanM) (us : List Value) (c : ChanM) (u : Value), us.length = l.length → chRows (l ++ [c]) (us ++ [u]) = chRows l us ++ [chRow c u]
  | [], [], _, _, _ => rfl
  | c :: l, u :: us, c2, u2, h => by
    have := chRows_snoc l us c2 u2 (by simpa using h)
    simp [chRows, this]
  | [], u :: us, _, _, h => by simp at h
  | c :: l, [], _, _, h => by simp at h
/-- the block b is none of the reader's -/
def notC (w : World) (b : Nat) : Prop := ∀ cs f, w.heap[b]? ≠ some (.cells cs 71 f)
/-- what the slice value v shows lies in no block of the reader's -/
def fineB (w : World) (v : Value) : Prop := ∀ a n c, v = .slice (some a) n c → n = 0 ∨ (a.block < w.heap.size ∧ notC w a.block)
theorem fineB.nil (w : World) : fineB w (.slice none 0 0) := fun a n c h => by simp at h
theorem fineB.below {w w' : World} {v : Value} (h : fineB w v) (hb : Below w.heap.size w w') : fineB w' v := fun a n c e => by
  rcases h a n c e with h1 | ⟨h1, h2⟩
  · exact .inl h1
  · exact .inr ⟨Nat.lt_of_lt_of_le h1 hb.size, fun cs f => by rw [hb.block a.block h1]; exact h2 cs f⟩
theorem notC.setCell {w : World} {b : Nat} (h : notC w b) (p : Addr) (u : Value) : notC (w.setCell p u) b := fun cs f e => by
  by_cases hb : b = p.block
  · subst hb
    unfold World.setCell at e
    simp only [Array.getElem?_modify, if_true] at e
    obtain ⟨o, ho, hf⟩ := Option.map_eq_some_iff.1 e
    cases o <;> simp only [Obj.cells.injEq, reduceCtorEq] at hf
    exact h _ _ (by rw [ho, hf.2.1])
  · rw [heap_setCell_other w p b u hb] at e
    exact h cs f e
theorem fineB.setCell {w : World} {v : Value} (h : fineB w v) (p : Addr) (u : Value) : fineB (w.setCell p u) v := fun a n c e => by
  rcases h a n c e with h1 | ⟨h1, h2⟩
  · exact .inl h1
  · exact .inr ⟨by simpa using h1, h2.setCell p u⟩
theorem notC_of {w : World} {b : Nat} {cur : Array Value} {e : TypeId} {f : Nat × Nat} (h : w.heap[b]? = some (.cells cur e f)) (he : e ≠ 71) : notC w b := fun cs f2 h2 => by
  rw [h] at h2
  simp only [Option.some.injEq, Obj.cells.injEq] at h2
  exact he h2.2.1
theorem own_fine {w : World} {base s n : Nat} {e : TypeId} {v : Value} {xs : List Value} (h : w.ownsRow base e s v n xs) (he : e ≠ 71) : fineB w v := fun a m c e2 => by
  rcases h.2 with ⟨rfl, rfl⟩ | ⟨g, cap, cur, rfl, -, hg, -⟩
  · simp at e2
  · simp only [Value.slice.injEq, Option.some.injEq] at e2
    obtain ⟨rfl, -, -⟩ := e2
    exact .inr ⟨(Array.getElem?_eq_some_iff.1 hg).1, notC_of hg he⟩
/-- a buffer that reads, in no block of the reader's -/
def SlU (w : World) (u : Value) (l : List Int) : Prop := SlI w .u64 u l ∧ fineB w u
theorem SlU.below {w w' : World} {u : Value} {l : List Int} (h : SlU w u l) (hb : Below w.heap.size w w') : SlU w' u l := ⟨h.1.below hb, h.2.below hb⟩
theorem SlU.nil (w : World) : SlU w (.slice none 0 0) [] := ⟨SlI.nil _ _, fineB.nil _⟩
theorem OwnI.slU {w : World} {base : Nat} {u : Value} {l : List Int} (h : OwnI w base 23 .u64 u l) (hl : l.length ≤ 140737488351232) (hw : ∀ x ∈ l, x = IntKind.u64.wrap x) : SlU w u l := ⟨h.read hl hw, own_fine h (by decide)⟩
/-- The slice value v reads in w as the channels l. -/
def SlH (w : World) (v : Value) (l : List ChanM) : Prop :=
  ∃ us : List Value, us.length = l.length ∧ SlS w 3 v (chRows l us) ∧ (∀ i, i < l.length → SlU w (us.getD i (.slice none 0 0)) (l.getD i noChan).buf) ∧ (∀ c ∈ l, c.cap = IntKind.i64.wrap c.cap) ∧ fineB w v
theorem SlH.below {w w' : World} {v : Value} {l : List ChanM} (h : SlH w v l) (hb : Below w.heap.size w w') : SlH w' v l := by
  obtain ⟨us, h1, h2, h3, h4, h5⟩ := h
  exact ⟨us, h1, h2.below hb, fun i hi => (h3 i hi).below hb, h4, h5.below hb⟩
theorem SlH.len {w : World} {v : Value} {l : List ChanM} (h : SlH w v l) : ∃ a cap, v = .slice a l.length cap ∧ l.length ≤ cap := by
  obtain ⟨us, h1, h2, -⟩ := h
  obtain ⟨a, cap, rfl, h3⟩ := h2.len
  rw [chRows_length l us h1] at h3 ⊢
  exact ⟨a, cap, rfl, h3⟩
theorem SlH.bound {w : World} {v : Value} {l : List ChanM} (h : SlH w v l) : l.length ≤ 140737488351232 := by
  obtain ⟨us, h1, h2, -⟩ := h
  have := h2.1
  rw [chRows_length l us h1] at this
  exact this
/-- one channel of a list -/
theorem SlH.at2 {w : World} {v : Value} {l : List ChanM} (h : SlH w v l) (i : Nat) (hi : i < l.length) : ∃ b off cap u, v = .slice (some ⟨b, off, none⟩) l.length cap ∧ b < w.heap.size ∧ w.cell? ⟨b, off + i * 3, none⟩ = some (.int .i64 (l.getD i noChan).cap) ∧ w.cell? ⟨b, off + i * 3 + 1, none⟩ = some u ∧ w.cell? ⟨b, off + i * 3 + 2, none⟩ = some (.bool (l.getD i noChan).closed) ∧ SlU w u (l.getD i noChan).buf := by
  obtain ⟨us, h1, h2, h3, -⟩ := h
  have hlen := chRows_length l us h1
  obtain ⟨b, off, cap, rfl, hb, hr⟩ := h2.open (by omega)
  have h5 := hr i (by omega)
  rw [chRows_get l us i h1 hi] at h5
  exact ⟨b, off, cap, _, by rw [hlen], hb, h5 0 _ rfl, h5 1 _ rfl, h5 2 _ rfl, h3 i hi⟩
theorem SlH.at {w : World} {v : Value} {l : List ChanM} (h : SlH w v l) (i : Nat) (hi : i < l.length) : ∃ b off cap u, v = .slice (some ⟨b, off, none⟩) l.length cap ∧ b < w.heap.size ∧ w.cell? ⟨b, off + i * 3, none⟩ = some (.int .i64 (l.getD i noChan).cap) ∧ w.cell? ⟨b, off + i * 3 + 1, none⟩ = some u ∧ w.cell? ⟨b, off + i * 3 + 2, none⟩ = some (.bool (l.getD i noChan).closed) ∧ SlI w .u64 u (l.getD i noChan).buf := by
  obtain ⟨b, off, cap, u, h1, h2, h3, h4, h5, h6⟩ := h.at2 i hi
  exact ⟨b, off, cap, u, h1, h2, h3, h4, h5, h6.1⟩
theorem OwnS.slH {w : World} {base : Nat} {v : Value} {l : List ChanM} {us : List Value} (h : OwnS w base 69 3 v (chRows l us)) (h1 : us.length = l.length) (hl : l.length ≤ 1000000) (h3 : ∀ i, i < l.length → SlU w (us.getD i (.slice none 0 0)) (l.getD i noChan).buf) (h4 : ∀ c ∈ l, c.cap = IntKind.i64.wrap c.cap) : SlH w v l :=
  ⟨us, h1, h.sls (by rw [chRows_length l us h1]; omega), h3, h4, own_fine h.2 (by decide)⟩
theorem fineB.off {w w2 : World} {g : Nat} {v : Value} {b off n c : Nat} (h : fineB w v) (hv : v = .slice (some ⟨b, off, none⟩) n c) (hn : 0 < n) (hC : ∃ cs f, w.heap[g]? = some (.cells cs 71 f)) : b ≠ g := fun e => by
  obtain ⟨cs, f, hg⟩ := hC
  rcases h _ _ _ hv with h1 | ⟨-, h1⟩
  · omega
  · subst e
    exact h1 cs f hg
theorem fineB.grown {w w2 : World} {g : Nat} {v : Value} (h : fineB w v) (hg : w.grownBy w2 (some g)) (hC : ∃ cs f, w.heap[g]? = some (.cells cs 71 f)) : fineB w2 v := fun a n c e => by
  rcases h a n c e with h1 | ⟨h1, h2⟩
  · exact .inl h1
  · refine .inr ⟨Nat.lt_of_lt_of_le h1 hg.size, fun cs f => ?_⟩
    obtain ⟨cs2, f2, hgg⟩ := hC
    rw [hg.block a.block h1 (fun e => by simp only [Option.some.injEq] at e; rw [e] at h2; exact h2 cs2 f2 hgg)]
    exact h2 cs f
theorem SlU.grown {w w2 : World} {g : Nat} {u : Value} {l : List Int} (h : SlU w u l) (hg : w.grownBy w2 (some g)) (hC : ∃ cs f, w.heap[g]? = some (.cells cs 71 f)) : SlU w2 u l := by
  refine ⟨h.1.grown hg fun a n c e => ?_, h.2.grown hg hC⟩
  rcases h.2 a n c e with h1 | ⟨-, h1⟩
  · exact .inl h1
  · refine .inr fun e2 => ?_
    obtain ⟨cs, f, hgg⟩ := hC
    rw [e2] at h1
    exact h1 cs f hgg
/-- the reader's block changes, and channels stay -/
theorem SlH.grown {w w2 : World} {g : Nat} {v : Value} {l : List ChanM} (h : SlH w v l) (hg : w.grownBy w2 (some g)) (hC : ∃ cs f, w.heap[g]? = some (.cells cs 71 f)) : SlH w2 v l := by
  obtain ⟨us, h1, h2, h3, h4, h5⟩ := h
  refine ⟨us, h1, ?_, fun i hi => (h3 i hi).grown hg hC, h4, h5.grown hg hC⟩
  obtain ⟨q1, q2, a, cap, rfl, q4, q5⟩ := h2
  refine ⟨q1, q2, a, cap, rfl, q4, fun i hi => ?_⟩
  obtain ⟨b, off, rfl, hb, hr⟩ := q5 i hi
  have hne : b ≠ g := h5.off (w2 := w) rfl (by omega) hC
  exact ⟨b, off, rfl, Nat.lt_of_lt_of_le hb hg.size, fun j u hj => by
    have hbk := hg.block b hb (fun e => hne (by simp only [Option.some.injEq] at e; exact e))
    have := hr j u hj
    unfold World.cell? at this ⊢
    rw [hbk]
    exact this⟩
end Go.Proofs.Ytckjdlphilpgfaa
/- The case that an operation is by itself. -/
namespace Go.Proofs.Ytckjdlphilpgfaa
open Go.ChangeShapes Go.WideShapes Go.ChangeAt Go.RowKit
set_option maxRecDepth 100000

def sgB (op : OpM) : Bool := op.kind == 1 || op.kind == 2
def sgC (op : OpM) : CaseM := if op.kind = 1 then ⟨true, op.chan, op.val⟩ else if op.kind = 2 then ⟨false, op.chan, op.val⟩ else noCase
def caseW (c : CaseM) : Value := .agg #[.bool c.send, .int .i64 c.chan, .int .u64 c.val]
theorem single_any (v : Value) (op : OpM) (w : World) (h : OpV w v op) :
    Calls Try.prog 61 #[v] w fun e w' => e = .returned (.tuple #[caseW (sgC op), .bool (sgB op)]) ∧ Below w.heap.size w w' := by
  have HC : Hid (sgC op = if op.kind = 1 then ⟨true, op.chan, op.val⟩ else if op.kind = 2 then ⟨false, op.chan, op.val⟩ else noCase) := rfl
  have HS : Hid (sgB op = (op.kind == 1 || op.kind == 2)) := rfl
  generalize sgC op = sc at *
  generalize sgB op = sb at *
  obtain ⟨kd, md, ch, vl, dl, cs, ds⟩ := op
  obtain ⟨vc, vd, rfl, hc, hd⟩ := h
  dsimp only at *
  obtain ⟨a3, cap3, rfl⟩ := hc.len
  obtain ⟨a4, cap4, rfl, -⟩ := hd.len
  clear hc hd
  by_cases h1 : kd = 1
  · subst h1
    rw [if_pos rfl] at HC
    go_enter Try.func61, Try.ntmps61
    go_wp2
    refine bodyPost_ret (v := .tuple #[.agg #[.bool true, .int .i64 ch, .int .u64 vl], .bool true]) (by simp [results, Try.results61, go_sem]) rfl ?_
    exact ⟨by rw [HC.out, HS.out]; rfl, (((Below.refl w.heap.size w).alloc (Nat.le_refl _) _).alloc (by simp) _)⟩
  · rw [if_neg h1] at HC
    by_cases h2 : kd = 2
    · subst h2
      rw [if_pos rfl] at HC
      clear h1
      go_enter Try.func61, Try.ntmps61
      go_wp2
      refine bodyPost_ret (v := .tuple #[.agg #[.bool false, .int .i64 ch, .int .u64 vl], .bool true]) (by simp [results, Try.results61, go_sem]) rfl ?_
      exact ⟨by rw [HC.out, HS.out]; rfl, (((Below.refl w.heap.size w).alloc (Nat.le_refl _) _).alloc (by simp) _)⟩
    · rw [if_neg h2] at HC
      have b1 : (kd == 1) = false := by simpa using h1
      have b2 : (kd == 2) = false := by simpa using h2
      have b3 : (kd != 1) = true := by simpa using h1
      have b4 : (kd != 2) = true := by simpa using h2
      have HS2 : Hid (sb = false) := by have := HS.out; rw [b1, b2] at this; exact this
      clear h1 h2
      go_enter Try.func61, Try.ntmps61
      go_wp2
      refine bodyPost_ret (v := .tuple #[.agg #[.bool false, .int .i64 0, .int .u64 0], .bool false]) (by simp [results, Try.results61, go_sem]) rfl ?_
      exact ⟨by rw [HC.out, HS2.out]; rfl, (((Below.refl w.heap.size w).alloc (Nat.le_refl _) _).alloc (by simp) _)⟩
theorem rsingle_any (v : Value) (op : OpM) (w : World) (h : OpV w v op) :
    Calls Try.prog 67 #[v] w fun e w' => e = .returned (.tuple #[caseW (sgC op), .bool (sgB op)]) ∧ Below w.heap.size w w' := by
  have HC : Hid (sgC op = if op.kind = 1 then ⟨true, op.chan, op.val⟩ else if op.kind = 2 then ⟨false, op.chan, op.val⟩ else noCase) := rfl
  have HS : Hid (sgB op = (op.kind == 1 || op.kind == 2)) := rfl
  generalize sgC op = sc at *
  generalize sgB op = sb at *
  obtain ⟨kd, md, ch, vl, dl, cs, ds⟩ := op
  obtain ⟨vc, vd, rfl, hc, hd⟩ := h
  dsimp only at *
  obtain ⟨a3, cap3, rfl⟩ := hc.len
  obtain ⟨a4, cap4, rfl, -⟩ := hd.len
  clear hc hd
  by_cases h1 : kd = 1
  · subst h1
    rw [if_pos rfl] at HC
    go_enter Try.func67, Try.ntmps67
    go_wp2
    refine bodyPost_ret (v := .tuple #[.agg #[.bool true, .int .i64 ch, .int .u64 vl], .bool true]) (by simp [results, Try.results67, go_sem]) rfl ?_
    exact ⟨by rw [HC.out, HS.out]; rfl, (((Below.refl w.heap.size w).alloc (Nat.le_refl _) _).alloc (by simp) _)⟩
  · rw [if_neg h1] at HC
    by_cases h2 : kd = 2
    · subst h2
      rw [if_pos rfl] at HC
      clear h1
      go_enter Try.func67, Try.ntmps67
      go_wp2
      refine bodyPost_ret (v := .tuple #[.agg #[.bool false, .int .i64 ch, .int .u64 vl], .bool true]) (by simp [results, Try.results67, go_sem]) rfl ?_
      exact ⟨by rw [HC.out, HS.out]; rfl, (((Below.refl w.heap.size w).alloc (Nat.le_refl _) _).alloc (by simp) _)⟩
    · rw [if_neg h2] at HC
      have b1 : (kd == 1) = false := by simpa using h1
      have b2 : (kd == 2) = false := by simpa using h2
      have b3 : (kd != 1) = true := by simpa using h1
      have b4 : (kd != 2) = true := by simpa using h2
      have HS2 : Hid (sb = false) := by have := HS.out; rw [b1, b2] at this; exact this
      clear h1 h2
      go_enter Try.func67, Try.ntmps67
      go_wp2
      refine bodyPost_ret (v := .tuple #[.agg #[.bool false, .int .i64 0, .int .u64 0], .bool false]) (by simp [results, Try.results67, go_sem]) rfl ?_
      exact ⟨by rw [HC.out, HS2.out]; rfl, (((Below.refl w.heap.size w).alloc (Nat.le_refl _) _).alloc (by simp) _)⟩
end Go.Proofs.Ytckjdlphilpgfaa
/- A region that draws its order, whose operations only read and whose callees make memory of their own: one walk in the order of the text. -/
namespace Go.Proofs.Ytckjdlphilpgfaa
open Go.ChangeShapes Go.WideShapes Go.ChangeAt Go.RowKit
set_option maxRecDepth 100000

/-- a world that holds more than W, and W's memory as it was -/
structure Ext (W : World) where
  wd : World
  below : Below W.heap.size W wd
instance (W : World) : Nonempty (Ext W) := ⟨⟨W, Below.refl _ _⟩⟩
theorem wp_region_ext {P : Program} {id : Nat} {Q : Exit → Act → World → Prop} {a : Act} {w : World} {l : List Oper} (W : World) (hm : P.follows .mixedOrders = true) (hB : Region.lexB .any l.toArray = true) (hW : Below W.heap.size W w)
    (h : wpQuiet P l.toArray (fun w' => ∃ n : Ext W, w' = n.wd) (fun a' => ∀ w', (∃ n : Ext W, w' = n.wd) → Q .normal a' w') l a) : (Code.region id l.toArray true).wp P Q a w :=
  wp_region_quiet (C := fun w' => ∃ n : Ext W, w' = n.wd) hm hB ⟨⟨_, below_drewN hW 1⟩, rfl⟩ (by simpa using h)
theorem calls_ext {P : Program} {f : FuncId} {args : Array Value} {W : World} {n : Ext W} {v : Value}
    (h : Calls P f args n.wd fun e w' => e = .returned v ∧ Below n.wd.heap.size n.wd w') : Calls P f args n.wd fun e w'' => e = .returned v ∧ ∃ m : Ext W, w'' = m.wd :=
  h.mono fun _ w' ⟨he, hm⟩ => ⟨he, ⟨w', below_then n.below hm⟩, rfl⟩
theorem calls_ext_draw {P : Program} {f : FuncId} {args : Array Value} {W : World} {n : Ext W} {v : Value}
    (h : Calls P f args n.wd fun e w' => e = .returned v ∧ ∃ m, n.wd.drewN m = w') : Calls P f args n.wd fun e w'' => e = .returned v ∧ ∃ m : Ext W, w'' = m.wd :=
  h.mono fun _ w' ⟨he, m, hm⟩ => ⟨he, ⟨w', hm ▸ below_drewN n.below m⟩, rfl⟩
theorem ext_cell {W : World} (b o : Nat) (h : b < W.heap.size) (v : Value) (hc : W.cell? ⟨b, o, none⟩ = some v) (n : Ext W) : n.wd.cell? ⟨b, o, none⟩ = some v := (n.below.cell (p := ⟨b, o, none⟩) h).trans hc
end Go.Proofs.Ytckjdlphilpgfaa
/- Layer 14: the reference's small functions of the model. -/
namespace Go.Proofs.Ytckjdlphilpgfaa
open Go.ChangeShapes Go.WideShapes Go.ChangeAt Go.RowKit
set_option maxRecDepth 100000

theorem one_new (w : World) (a : Obj) : ∃ W, w.alloc a = W ∧ Hid (Below w.heap.size w W) ∧ Hid (W.heap[w.heap.size]? = some a) ∧ w.heap.size + 1 = W.heap.size :=
  ⟨_, rfl, below_new (Below.refl w.heap.size w) _, heap_alloc_new _ _, by simp⟩
theorem two_new (w : World) (a b : Obj) : ∃ W, (w.alloc a).alloc b = W ∧ Hid (Below w.heap.size w W) ∧ Hid (W.heap[w.heap.size]? = some a) ∧ Hid (W.heap[w.heap.size + 1]? = some b) ∧ w.heap.size + 2 = W.heap.size :=
  ⟨_, rfl, below_new (below_new (Below.refl w.heap.size w) _) _, heap_alloc2_old _ _ _, heap_alloc2_new _ _ _, by simp⟩
theorem three_new (w : World) (a b c : Obj) : ∃ W, ((w.alloc a).alloc b).alloc c = W ∧ Hid (Below w.heap.size w W) ∧ Hid (W.heap[w.heap.size]? = some a) ∧ Hid (W.heap[w.heap.size + 1]? = some b) ∧ Hid (W.heap[w.heap.size + 2]? = some c) ∧ w.heap.size + 3 = W.heap.size := by
  refine ⟨_, rfl, below_new (below_new (below_new (Below.refl w.heap.size w) _) _) _, Lib.hid ?_, Lib.hid ?_, Lib.hid ?_, by simp⟩
  · rw [heap_alloc_old _ _ (by simp <;> omega), heap_alloc_old _ _ (by simp <;> omega), heap_alloc_new]
  · rw [heap_alloc_old _ _ (by simp <;> omega)]
    simpa using heap_alloc_new (w.alloc a) b
  · simpa using heap_alloc_new ((w.alloc a).alloc b) c
theorem rowc7 {w : World} {g : Nat} {T : TypeId} {v0 v1 v2 v3 v4 v5 v6 : Value} (h : w.heap[g]? = some (.cells #[v0, v1, v2, v3, v4, v5, v6] T (0, 0))) : w.cell? ⟨g, 0, none⟩ = some v0 ∧ w.cell? ⟨g, 1, none⟩ = some v1 ∧ w.cell? ⟨g, 2, none⟩ = some v2 ∧ w.cell? ⟨g, 3, none⟩ = some v3 ∧ w.cell? ⟨g, 4, none⟩ = some v4 ∧ w.cell? ⟨g, 5, none⟩ = some v5 ∧ w.cell? ⟨g, 6, none⟩ = some v6 :=
  ⟨cell_of_row _ _ 0 _ _ _ h, cell_of_row _ _ 1 _ _ _ h, cell_of_row _ _ 2 _ _ _ h, cell_of_row _ _ 3 _ _ _ h, cell_of_row _ _ 4 _ _ _ h, cell_of_row _ _ 5 _ _ _ h, cell_of_row _ _ 6 _ _ _ h⟩
def resW (r : ResM) : Value := .agg #[.int .i64 r.kind, .int .i64 r.case, .int .u64 r.val, .bool r.ok, .int .i64 r.num]
set_option maxRecDepth 100000 in
set_option maxHeartbeats 16000000 in
theorem mexists_any (v : Value) (l : List ChanM) (n : Int) (w : World) (hv : SlH w v l) : Calls Try.prog 51 #[v, .int .i64 n] w fun e w' => e = .returned (.bool (exB l n)) ∧ w = w' := by
  have hb := hv.bound
  obtain ⟨a, cap, rfl, -⟩ := hv.len
  clear hv
  by_cases h0 : 0 ≤ n
  · by_cases h1 : n < (l.length : Int)
    · have hh : exB l n = true := by unfold exB; simp [h0, h1]
      rw [hh]
      clear hh
      go_enter Try.func51, Try.ntmps51
      go_wp2
      go_ret
      exact ⟨rfl, rfl⟩
    · have hq : decide (n < (l.length : Int)) = false := decide_eq_false h1
      have hh : exB l n = false := by unfold exB; rw [hq]; simp
      rw [hh]
      clear hh h1
      go_enter Try.func51, Try.ntmps51
      go_wp2
      go_ret
      exact ⟨rfl, rfl⟩
  · have hq : decide (0 ≤ n) = false := decide_eq_false h0
    have hq2 : decide (n ≥ 0) = false := decide_eq_false h0
    have hh : exB l n = false := by unfold exB; rw [hq]; rfl
    rw [hh]
    clear hh h0
    go_enter Try.func51, Try.ntmps51
    go_wp2
    go_ret
    exact ⟨rfl, rfl⟩
set_option maxRecDepth 100000 in
set_option maxHeartbeats 16000000 in
theorem monly_any (r : ResM) (value number : Bool) (w : World) : Calls Try.prog 64 #[resW r, .bool value, .bool number] w fun e w' => e = .returned (.bool (onlyB r value number)) ∧ Below w.heap.size w w' := by
  obtain ⟨kd, cs, rv, rok, nm⟩ := r
  obtain ⟨bb, hbb⟩ : ∃ b, onlyB ⟨kd, cs, rv, rok, nm⟩ value number = b := ⟨_, rfl⟩
  rw [hbb]
  unfold onlyB at hbb
  unfold resW
  dsimp only at hbb ⊢
  obtain ⟨b1, h1⟩ : ∃ b, (rv == 0) = b := ⟨_, rfl⟩
  obtain ⟨b2, h2⟩ : ∃ b, (nm == 0) = b := ⟨_, rfl⟩
  rw [h1, h2] at hbb
  have HBB := Lib.hid hbb
  clear hbb
  obtain ⟨W, hW, HB, R0, hz⟩ := one_new w (.cells #[.int .i64 kd, .int .i64 cs, .int .u64 rv, .bool rok, .int .i64 nm] 25)
  have HW := Lib.hid hW
  clear hW
  go_enter Try.func64, Try.ntmps64
  go_upto_region 1 with fail
  rw [HW.out]
  clear HW
  obtain ⟨x0, x1, x2, x3, x4⟩ := rowc5 R0.out
  cases value <;> cases number <;> cases rok <;> cases b1 <;> cases b2 <;> (
    go_wp2
    go_ret
    exact ⟨by rw [← HBB.out]; rfl, HB.out⟩)
set_option maxRecDepth 100000 in
set_option maxHeartbeats 16000000 in
theorem mready_any (v : Value) (l : List ChanM) (x : CaseM) (w : World) (hv : SlH w v l) : Calls Try.prog 32 #[v, caseW x] w fun e w' => e = .returned (.bool (readyB l x)) ∧ Below w.heap.size w w' := by
  have HV := Lib.hid hv
  have TE := Lib.hid fun w' (hb : Below w.heap.size w w') => mexists_any v l x.chan w' (hv.below hb)
  obtain ⟨rb, hrb⟩ : ∃ b, readyB l x = b := ⟨_, rfl⟩
  rw [hrb]
  unfold readyB at hrb
  obtain ⟨sd, ch, vl⟩ := x
  dsimp only at hrb TE
  unfold caseW
  try dsimp only
  have HRB := Lib.hid hrb
  obtain ⟨ex, hex⟩ : ∃ b, exB l ch = b := ⟨_, rfl⟩
  rw [hex] at TE HRB
  have HEX := Lib.hid hex
  obtain ⟨a, cap, hve, -⟩ := hv.len
  subst hve
  clear hv hrb hex
  obtain ⟨W, hW, HB, R0, hz⟩ := one_new w (.cells #[.bool sd, .int .i64 ch, .int .u64 vl] 63)
  have HW := Lib.hid hW
  clear hW
  go_enter Try.func32, Try.ntmps32
  go_upto_region 1 with fail
  rw [HW.out]
  clear HW
  obtain ⟨x0_0, x0_1, x0_2⟩ := rowc3 R0.out
  go_wp2_with fail
  refine (TE.out _ HB.out).mono ?_; rintro e w' ⟨rfl, rfl⟩
  cases ex with
  | false =>
    have hr : rb = false := by rw [← HRB.out]; rfl
    subst hr
    go_wp2
    go_ret
    exact ⟨rfl, HB.out⟩
  | true =>
    have hx := HEX.out
    unfold exB at hx
    simp only [Bool.and_eq_true, decide_eq_true_eq] at hx
    obtain ⟨i, hi⟩ : ∃ i : Nat, ch = (i : Int) := ⟨ch.toNat, by omega⟩
    have hil : i < l.length := by omega
    have hiI : (i : Int) < (l.length : Int) := by omega
    have hce : chE l ch = l.getD i noChan := by unfold chE; rw [hi]; rfl
    rw [hce] at HRB
    have HV2 := HV.out.below HB.out
    obtain ⟨b, off, cap', u, hve, hb, c0, c1, c2, hu⟩ := HV2.at i hil
    simp only [Value.slice.injEq] at hve
    obtain ⟨rfl, -, rfl⟩ := hve
    obtain ⟨⟨cc, bf, cl⟩, hcc⟩ : ∃ c, l.getD i noChan = c := ⟨_, rfl⟩
    rw [hcc] at c0 c2 hu HRB
    dsimp only at c0 c2 hu HRB
    have hbl := hu.1
    obtain ⟨ua, uc, rfl, -⟩ := hu.len
    rw [hi] at x0_1 ⊢
    clear hx hce hcc hi HEX HV HV2 TE
    obtain ⟨Wx, hWx⟩ : ∃ Wx, (W.alloc (.cells #[.int .i64 0, .slice none 0 0, .bool false] 69)).setRow W.heap.size #[.int .i64 cc, .slice ua bf.length uc, .bool cl] = Wx := ⟨_, rfl⟩
    have Nx : Hid ((W.alloc (.cells #[.int .i64 0, .slice none 0 0, .bool false] 69)).heap[W.heap.size]? = some (.cells #[.int .i64 0, .slice none 0 0, .bool false] 69 (0, 0))) := heap_alloc_new _ _
    have HBx : Hid (Below W.heap.size W Wx) := hWx ▸ row_below (below_new (Below.refl _ _) _) (Nat.le_refl _) _
    have Rx : Hid (Wx.heap[W.heap.size]? = some (.cells #[.int .i64 cc, .slice ua bf.length uc, .bool cl] 69 (0, 0))) := hWx ▸ setRow_heap _ _ _ _ _ (0, 0) Nx.out
    have HWx := Lib.hid hWx
    clear hWx
    go_upto_region 4 with (refine wpList_store_row rfl 69 _ _ rfl (W.heap.size) _ rfl rfl 69 #[.int .i64 0, .slice none 0 0, .bool false] Nx.out (by kernel_rfl) rfl (by simp [Value.oneCell']) ?_)
    rw [HWx.out]
    try simp only [Act.put]
    clear HWx Nx
    have HBX := Lib.hid (below_then HB.out HBx.out)
    obtain ⟨y0, y1, y2⟩ := rowc3 Rx.out
    obtain ⟨z0, z1, z2⟩ := rowc3 ((HBx.out.block w.heap.size (Array.getElem?_eq_some_iff.1 R0.out).1).trans R0.out)
    clear c0 c1 c2 x0_0 x0_1 x0_2
    rw [Bool.true_and] at HRB
    cases sd with
    | true =>
      cases cl with
      | true =>
        have hr : rb = true := by rw [← HRB.out]; rfl
        subst hr
        go_wp2
        go_ret
        exact ⟨rfl, HBX.out⟩
      | false =>
        obtain ⟨bq, hbq⟩ : ∃ b, decide ((bf.length : Int) < cc) = b := ⟨_, rfl⟩
        have hr : rb = bq := by rw [← HRB.out, ← hbq]; rfl
        subst hr
        go_wp2
        go_ret
        exact ⟨by first | rfl | simp [hbq], HBX.out⟩
    | false =>
      cases cl with
      | true =>
        have hr : rb = true := by rw [← HRB.out]; rfl
        subst hr
        go_wp2
        go_ret
        exact ⟨rfl, HBX.out⟩
      | false =>
        have hr : rb = decide (0 < bf.length) := by rw [← HRB.out]; rfl
        by_cases h0 : 0 < bf.length
        · have h0I : (0 : Int) < (bf.length : Int) := by omega
          rw [decide_eq_true h0] at hr
          subst hr
          go_wp2
          go_ret
          exact ⟨rfl, HBX.out⟩
        · have h0I : ¬ (0 : Int) < (bf.length : Int) := by omega
          rw [decide_eq_false h0] at hr
          subst hr
          go_wp2
          go_ret
          exact ⟨by first | rfl | (simp; omega), HBX.out⟩
end Go.Proofs.Ytckjdlphilpgfaa
