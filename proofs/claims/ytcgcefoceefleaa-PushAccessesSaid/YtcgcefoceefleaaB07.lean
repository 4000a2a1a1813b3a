import Derived.Deep.DeepCutAuto
import Derived.Test.YtcgcefoceefleaaB06
import Derived.Test.YtcgcefoceefleaaB03
set_option linter.unusedVariables false
set_option linter.unusedSimpArgs false
/- The memory with which a configuration begins: plainly, and what package layout makes. -/
namespace Go.Proofs.Ytcgcefoceefleaa
open Go.ChangeShapes Go.WideShapes Go.ChangeAt Go.RowKit
set_option maxRecDepth 100000

theorem results_cell_tmp {fn : Func} {P : Program} {p u : Tmp} {t1 : TypeId} (h : fn.results = #[.cell p t1, .tmp u]) (tmps : Array Value) (w : World) (g1 : Nat) (u1 : TypeId) (c1 : Array Value) (f1 : Nat × Nat) (d1 : TypeDesc)
    (hp : tmps.getD p undef = .pointer (some ⟨g1, 0, none⟩)) (hg1 : w.heap[g1]? = some (.cells c1 u1 f1))
    (hu1 : P.underlying t1 = some d1) (hd1 : (match d1 with | .struct _ | .array _ _ => true | _ => false) = true) (hi1 : (P.info? t1).map (·.size) = some c1.size) (x : Value) (hx : tmps.getD u undef = x) :
    (results fn tmps).run P w = .ok (.tuple #[.agg c1, x]) w := by
  have hp' : tmps[p]?.getD undef = .pointer (some ⟨g1, 0, none⟩) := by simpa using hp
  have hx' : tmps[u]?.getD undef = x := by simpa using hx
  simp [results, h, hp', hx', asAddr, run_loadVar_row w g1 u1 t1 c1 f1 d1 hg1 hu1 hd1 hi1]
def zeroMem5 : Array Value := #[.slice none 0 0, .slice none 0 0, .int .i64 0]
/-- the start of channel k -/
def ConfM.st (c : ConfM) (k : Nat) : Int := c.starts.getD k 0
/-- the words behind the first j slots of channel k -/
def slotsE (c : ConfM) (k : Nat) (ws : List Int) : Nat → List Int
  | 0 => ws
  | j + 1 => (slotsE c k ws j).set (c.slotW k (nextI (c.st k) j)).toNat (nextI (c.st k) j)
/-- the words behind the first two of channel k -/
def headE (c : ConfM) (k : Nat) (ws : List Int) : List Int := (ws.set (c.base k).toNat (packI (c.st k) false)).set (c.base k + 1).toNat (c.st k)
/-- the words behind k channels -/
def chansE (c : ConfM) : Nat → List Int
  | 0 => List.replicate (c.thrW c.threads).toNat 0
  | k + 1 => slotsE c k (headE c k (chansE c k)) (c.size k).toNat
def newE (c : ConfM) : MemM := if checkC c = 0 then ⟨chansE c c.caps.length, List.replicate (2 * c.caps.length) [], 0⟩ else ⟨[], [], 0⟩
theorem slotsE_len (c : ConfM) (k : Nat) (ws : List Int) (j : Nat) : (slotsE c k ws j).length = ws.length := by
  induction j with
  | zero => rfl
  | succ j ih => show (List.set _ _ _).length = _; rw [List.length_set, ih]
theorem headE_len (c : ConfM) (k : Nat) (ws : List Int) : (headE c k ws).length = ws.length := by simp [headE]
theorem chansE_len (c : ConfM) (k : Nat) : (chansE c k).length = (c.thrW c.threads).toNat := by
  induction k with
  | zero => exact List.length_replicate
  | succ k ih => show (slotsE _ _ _ _).length = _; rw [slotsE_len, headE_len, ih]
def Wf (l : List Int) : Prop := ∀ x ∈ l, x = IntKind.u64.wrap x
theorem Wf.set {l : List Int} (h : Wf l) (i : Nat) (x : Int) (hx : x = IntKind.u64.wrap x) : Wf (l.set i x) := by
  intro y hy
  rcases List.mem_or_eq_of_mem_set hy with hy | rfl
  · exact h y hy
  · exact hx
theorem next_wf (a n : Int) : nextI a n = IntKind.u64.wrap (nextI a n) := by rw [IntKind.wrap_u64]; unfold nextI; omega
theorem next_lt (a n : Int) : 0 ≤ nextI a n ∧ nextI a n < 9223372036854775808 := by unfold nextI; omega
theorem ConfM.good.st {c : ConfM} (h : c.good) (k : Nat) (hk : k < c.caps.length) : 0 ≤ c.st k ∧ c.st k < 9223372036854775808 := by
  have hk2 : k < c.starts.length := by rw [h.same]; exact hk
  show 0 ≤ c.starts.getD k 0 ∧ c.starts.getD k 0 < 9223372036854775808
  rw [List.getD_eq_getElem?_getD, List.getElem?_eq_getElem hk2]
  exact h.starts _ (List.getElem_mem hk2)
theorem slotsE_wf (c : ConfM) (k : Nat) {ws : List Int} (h : Wf ws) (j : Nat) : Wf (slotsE c k ws j) := by
  induction j with
  | zero => exact h
  | succ j ih => exact Wf.set ih _ _ (next_wf _ _)
theorem headE_wf {c : ConfM} {k : Nat} (hs : 0 ≤ c.st k ∧ c.st k < 9223372036854775808) {ws : List Int} (h : Wf ws) : Wf (headE c k ws) := by
  refine Wf.set (Wf.set h _ _ ?_) _ _ ?_
  · rw [IntKind.wrap_u64]; unfold packI; simp <;> omega
  · rw [IntKind.wrap_u64]; omega
theorem chansE_wf {c : ConfM} (hg : c.good) (k : Nat) (hk : k ≤ c.caps.length) : Wf (chansE c k) := by
  induction k with
  | zero => intro x hx; rw [(List.mem_replicate.1 hx).2]; decide
  | succ k ih => exact slotsE_wf _ _ (headE_wf (hg.st k (by omega)) (ih (by omega))) _
/-- where the words end -/
theorem ConfM.good.mono {c : ConfM} (h : c.good) (k : Nat) (hk : k < c.caps.length) : c.base k + (5 + c.size k * 2) ≤ c.base c.caps.length := by
  have key : ∀ d, k + 1 + d ≤ c.caps.length → c.base (k + 1) ≤ c.base (k + 1 + d) := by
    intro d
    induction d with
    | zero => intro _; exact Int.le_refl _
    | succ d ih =>
      intro hd
      have h1 := ih (by omega)
      have h2 := h.size (k + 1 + d) (by omega)
      have e : c.base (k + 1 + (d + 1)) = c.base (k + 1 + d) + (5 + c.size (k + 1 + d) * 2) := rfl
      omega
  have h1 := key (c.caps.length - (k + 1)) (by omega)
  rw [show k + 1 + (c.caps.length - (k + 1)) = c.caps.length by omega] at h1
  exact h1
theorem ConfM.good.slot_in {c : ConfM} (h : c.good) (k : Nat) (s : Int) (hk : k < c.caps.length) (hs : 0 ≤ s) : 0 ≤ c.slotW k s ∧ c.slotW k s + 1 < c.thrW c.threads := by
  have h1 := h.mono k hk
  have h2 := h.base8 k (Nat.le_of_lt hk)
  have h3 := h.size k hk
  have h4 := slotI_lt s (c.size k) hs h3.1
  have h5 := h.thr
  show 0 ≤ c.base k + 5 + slotI s (c.size k) * 2 ∧ c.base k + 5 + slotI s (c.size k) * 2 + 1 < c.base c.caps.length + c.threads * 11
  omega
theorem ConfM.good.base_in {c : ConfM} (h : c.good) (k : Nat) (hk : k < c.caps.length) : 0 ≤ c.base k ∧ c.base k + 1 < c.thrW c.threads := by
  have h1 := h.mono k hk
  have h2 := h.base8 k (Nat.le_of_lt hk)
  have h3 := h.size k hk
  have h5 := h.thr
  show 0 ≤ c.base k ∧ c.base k + 1 < c.base c.caps.length + c.threads * 11
  omega
theorem Try.info_lists : (Try.prog.info? 33).map (fun i => (i.zero, i.size, i.bytes)) = some (some (.slice none 0 0), 1, 24) := by kernel_rfl
theorem wp_make_lists (w : World) {ops : Array Oper} {rest : List Oper} {o : Oper} {a : Act} {Q : Exit → Act → World → Prop}
    (hg : o.guard = none) (l c : Operand) (hop : o.op = Op.makeSlice 39 l c) (n : Nat) (L C : Int) (hl : a.eval l = .int .i64 L) (hc : a.eval c = .int .i64 C) (hL : L = n) (hC : C = n) (hn : n ≤ 1000000)
    (hK : ∀ w', w'.ownsRow w.heap.size 33 1 (.slice (some ⟨w.heap.size, 0, none⟩) n n) n (List.replicate n (.slice none 0 0)) → Below w.heap.size w w' → wpList Try.prog ops Q rest (a.put o.dst (.slice (some ⟨w.heap.size, 0, none⟩) n n)) w') :
    wpList Try.prog ops Q (o :: rest) a w := by
  obtain ⟨i0, hi, hz0, hz1, hz2⟩ := info_parts Try.info_lists
  refine wpList_make_full w hg l c _ hop w.heap.size 33 i0 (.slice none 0 0) 1 Try.underlying39 hi hz0 hz1 _ _ _ _ n hl hc hL hC (by rw [hz2]; omega) (by unfold maxLen; omega) (Nat.le_refl _) fun w' h1 h2 => ?_
  refine hK w' ?_ ((Below.refl _ _).grown h2 (Nat.le_refl _) (fun k hk => by cases hk))
  rw [show (Value.slice none 0 0).cells = #[.slice none 0 0] from rfl, toList_madeCells_one'] at h1
  simpa using h1
theorem nils_read {w : World} {base n : Nat} {v : Value} (h : w.ownsRow base 33 1 v n (List.replicate n (.slice none 0 0))) (hn : n ≤ 1000000) : SlL w v (List.replicate n (.slice none 0 0)) (List.replicate n []) := by
  have hl : (List.replicate n ([] : List Int)).length = n := List.length_replicate
  refine row_read (by rw [hl]; exact h) (fun t ht => ?_) (by rw [hl]; omega)
  rw [hl] at ht
  rw [show (List.replicate n (Value.slice none 0 0)).getD t (.slice none 0 0) = .slice none 0 0 by simp [List.getD_eq_getElem?_getD, ht], show (List.replicate n ([] : List Int)).getD t [] = [] by simp [List.getD_eq_getElem?_getD, ht]]
  exact SlI.nil _ _
/-- while the words are made: their row in block X, all else below it as it was -/
structure NewI (w0 wr : World) (X t : Nat) (ws : List Int) : Prop where
  row : OwnI wr X 27 .u64 (.slice (some ⟨X, 0, none⟩) t t) ws
  len : ws.length = t
  below : Below X w0 wr
theorem NewI.next {w0 wr w2 : World} {X t : Nat} {ws : List Int} (h : NewI w0 wr X t ws) (hb : Below wr.heap.size wr w2) : NewI w0 w2 X t ws := by
  have hX : X ≤ wr.heap.size := by
    rcases h.row.shape with ⟨h1, _⟩ | ⟨g, cap, h1, _, h2, _⟩
    · simp at h1
    · simp only [Value.slice.injEq, Option.some.injEq, Addr.mk.injEq] at h1; omega
  exact ⟨h.row.below hb, h.len, h.below.trans (hb.mono hX)⟩
theorem NewI.set {w0 wr : World} {X t : Nat} {ws : List Int} (h : NewI w0 wr X t ws) (i : Nat) (x : Int) : NewI w0 (wr.setCell ⟨X, i, none⟩ (.int .u64 x)) X t (ws.set i x) :=
  ⟨h.row.store i x h.len.symm, by rw [List.length_set]; exact h.len, h.below.setCell (p := ⟨X, i, none⟩) (Nat.le_refl _) _⟩
/-- a memory and an error are handed back -/
def NewR (w : World) (c : ConfM) (e : Ending) (w' : World) : Prop :=
  ∃ v', e = .returned (.tuple #[v', .int .i64 (checkC c)]) ∧ MemV w' v' (newE c) ∧ Below w.heap.size w w'
end Go.Proofs.Ytcgcefoceefleaa
