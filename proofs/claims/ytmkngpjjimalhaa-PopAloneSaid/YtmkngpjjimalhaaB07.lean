import Derived.Deep.DeepCutAuto
import Derived.Test.YtmkngpjjimalhaaB06
import Derived.Test.YtmkngpjjimalhaaB03
import Derived.Test.YtmkngpjjimalhaaB05
import Derived.Test.YtmkngpjjimalhaaB02
set_option linter.unusedVariables false
set_option linter.unusedSimpArgs false
/- The memory with which a configuration begins: plainly, and what package layout makes. -/
namespace Go.Proofs.Ytmkngpjjimalhaa
open Go.ChangeShapes Go.WideShapes Go.ChangeAt Go.RowKit
set_option maxRecDepth 100000

theorem results_cell_tmp {fn : Func} {P : Program} {p u : Tmp} {t1 : TypeId} (h : fn.results = #[.cell p t1, .tmp u]) (tmps : Array Value) (w : World) (g1 : Nat) (u1 : TypeId) (c1 : Array Value) (f1 : Nat × Nat) (d1 : TypeDesc)
    (hp : tmps.getD p undef = .pointer (some ⟨g1, 0, none⟩)) (hg1 : w.heap[g1]? = some (.cells c1 u1 f1))
    (hu1 : P.underlying t1 = some d1) (hd1 : (match d1 with | .struct _ | .array _ _ => true | _ => false) = true) (hi1 : (P.info? t1).map (·.size) = some c1.size) (x : Value) (hx : tmps.getD u undef = x) :
    (results fn tmps).run P w = .ok (.tuple #[.agg c1, x]) w := by
  have hp' : tmps[p]?.getD undef = .pointer (some ⟨g1, 0, none⟩) := by simpa using hp
  have hx' : tmps[u]?.getD undef = x := by simpa using hx
  simp [results, h, hp', hx', asAddr, run_loadVar_row w g1 u1 t1 c1 f1 d1 hg1 hu1 hd1 hi1]
def zeroMem5 : Array Value := #[.slice none 0 0, .slice none 0 0, .int .i64 0]
/-- the start of channel k -/
def ConfM.st (c : ConfM) (k : Nat) : Int := c.starts.getD k 0
/-- the words behind the first j slots of channel k -/
def slotsE (c : ConfM) (k : Nat) (ws : List Int) : Nat → List Int
  | 0 => ws
  | j + 1 => (slotsE c k ws j).set (c.slotW k (nextI (c.st k) j)).toNat (nextI (c.st k) j)
/-- the words behind the first two of channel k -/
def headE (c : ConfM) (k : Nat) (ws : List Int) : List Int := (ws.set (c.base k).toNat (packI (c.st k) false)).set (c.base k + 1).toNat (c.st k)
/-- the words behind k channels -/
def chansE (c : ConfM) : Nat → List Int
  | 0 => List.replicate (c.thrW c.threads).toNat 0
  | k + 1 => slotsE c k (headE c k (chansE c k)) (c.size k).toNat
def newE (c : ConfM) : MemM := if checkC c = 0 then ⟨chansE c c.caps.length, List.replicate (2 * c.caps.length) [], 0⟩ else ⟨[], [], 0⟩
theorem slotsE_len (c : ConfM) (k : Nat) (ws : List Int) (j : Nat) : (slotsE c k ws j).length = ws.length := by
  induction j with
  | zero => rfl
  | succ j ih => show (List.set _ _ _).length = _; rw [List.length_set, ih]
theorem headE_len (c : ConfM) (k : Nat) (ws : List Int) : (headE c k ws).length = ws.length := by simp [headE]
theorem chansE_len (c : ConfM) (k : Nat) : (chansE c k).length = (c.thrW c.threads).toNat := by
  induction k with
  | zero => exact List.length_replicate
  | succ k ih => show (slotsE _ _ _ _).length = _; rw [slotsE_len, headE_len, ih]
def Wf (l : List Int) : Prop := ∀ x ∈ l, x = IntKind.u64.wrap x
theorem Wf.set {l : List Int} (h : Wf l) (i : Nat) (x : Int) (hx : x = IntKind.u64.wrap x) : Wf (l.set i x) := by
  intro y hy
  rcases List.mem_or_eq_of_mem_set hy with hy | rfl
  · exact h y hy
  · exact hx
theorem next_wf (a n : Int) : nextI a n = IntKind.u64.wrap (nextI a n) := by rw [IntKind.wrap_u64]; unfold nextI; omega
theorem next_lt (a n : Int) : 0 ≤ nextI a n ∧ nextI a n < 9223372036854775808 := by unfold nextI; omega
theorem ConfM.good.st {c : ConfM} (h : c.good) (k : Nat) (hk : k < c.caps.length) : 0 ≤ c.st k ∧ c.st k < 9223372036854775808 := by
  have hk2 : k < c.starts.length := by rw [h.same]; exact hk
  show 0 ≤ c.starts.getD k 0 ∧ c.starts.getD k 0 < 9223372036854775808
  rw [List.getD_eq_getElem?_getD, List.getElem?_eq_getElem hk2]
  exact h.starts _ (List.getElem_mem hk2)
theorem slotsE_wf (c : ConfM) (k : Nat) {ws : List Int} (h : Wf ws) (j : Nat) : Wf (slotsE c k ws j) := by
  induction j with
  | zero => exact h
  | succ j ih => exact Wf.set ih _ _ (next_wf _ _)
theorem headE_wf {c : ConfM} {k : Nat} (hs : 0 ≤ c.st k ∧ c.st k < 9223372036854775808) {ws : List Int} (h : Wf ws) : Wf (headE c k ws) := by
  refine Wf.set (Wf.set h _ _ ?_) _ _ ?_
  · rw [IntKind.wrap_u64]; unfold packI; simp <;> omega
  · rw [IntKind.wrap_u64]; omega
theorem chansE_wf {c : ConfM} (hg : c.good) (k : Nat) (hk : k ≤ c.caps.length) : Wf (chansE c k) := by
  induction k with
  | zero => intro x hx; rw [(List.mem_replicate.1 hx).2]; decide
  | succ k ih => exact slotsE_wf _ _ (headE_wf (hg.st k (by omega)) (ih (by omega))) _
/-- where the words end -/
theorem ConfM.good.mono {c : ConfM} (h : c.good) (k : Nat) (hk : k < c.caps.length) : c.base k + (5 + c.size k * 2) ≤ c.base c.caps.length := by
  have key : ∀ d, k + 1 + d ≤ c.caps.length → c.base (k + 1) ≤ c.base (k + 1 + d) := by
    intro d
    induction d with
    | zero => intro _; exact Int.le_refl _
    | succ d ih =>
      intro hd
      have h1 := ih (by omega)
      have h2 := h.size (k + 1 + d) (by omega)
      have e : c.base (k + 1 + (d + 1)) = c.base (k + 1 + d) + (5 + c.size (k + 1 + d) * 2) := rfl
      omega
  have h1 := key (c.caps.length - (k + 1)) (by omega)
  rw [show k + 1 + (c.caps.length - (k + 1)) = c.caps.length by omega] at h1
  exact h1
theorem ConfM.good.slot_in {c : ConfM} (h : c.good) (k : Nat) (s : Int) (hk : k < c.caps.length) (hs : 0 ≤ s) : 0 ≤ c.slotW k s ∧ c.slotW k s + 1 < c.thrW c.threads := by
  have h1 := h.mono k hk
  have h2 := h.base8 k (Nat.le_of_lt hk)
  have h3 := h.size k hk
  have h4 := slotI_lt s (c.size k) hs h3.1
  have h5 := h.thr
  show 0 ≤ c.base k + 5 + slotI s (c.size k) * 2 ∧ c.base k + 5 + slotI s (c.size k) * 2 + 1 < c.base c.caps.length + c.threads * 11
  omega
theorem ConfM.good.base_in {c : ConfM} (h : c.good) (k : Nat) (hk : k < c.caps.length) : 0 ≤ c.base k ∧ c.base k + 1 < c.thrW c.threads := by
  have h1 := h.mono k hk
  have h2 := h.base8 k (Nat.le_of_lt hk)
  have h3 := h.size k hk
  have h5 := h.thr
  show 0 ≤ c.base k ∧ c.base k + 1 < c.base c.caps.length + c.threads * 11
  omega
theorem Try.info_lists : (Try.prog.info? 33).map (fun i => (i.zero, i.size, i.bytes)) = some (some (.slice none 0 0), 1, 24) := by kernel_rfl
theorem wp_make_lists (w : World) {ops : Array Oper} {rest : List Oper} {o : Oper} {a : Act} {Q : Exit → Act → World → Prop}
    (hg : o.guard = none) (l c : Operand) (hop : o.op = Op.makeSlice 39 l c) (n : Nat) (L C : Int) (hl : a.eval l = .int .i64 L) (hc : a.eval c = .int .i64 C) (hL : L = n) (hC : C = n) (hn : n ≤ 1000000)
    (hK : ∀ w', w'.ownsRow w.heap.size 33 1 (.slice (some ⟨w.heap.size, 0, none⟩) n n) n (List.replicate n (.slice none 0 0)) → Below w.heap.size w w' → wpList Try.prog ops Q rest (a.put o.dst (.slice (some ⟨w.heap.size, 0, none⟩) n n)) w') :
    wpList Try.prog ops Q (o :: rest) a w := by
  obtain ⟨i0, hi, hz0, hz1, hz2⟩ := info_parts Try.info_lists
  refine wpList_make_full w hg l c _ hop w.heap.size 33 i0 (.slice none 0 0) 1 Try.underlying39 hi hz0 hz1 _ _ _ _ n hl hc hL hC (by rw [hz2]; omega) (by unfold maxLen; omega) (Nat.le_refl _) fun w' h1 h2 => ?_
  refine hK w' ?_ ((Below.refl _ _).grown h2 (Nat.le_refl _) (fun k hk => by cases hk))
  rw [show (Value.slice none 0 0).cells = #[.slice none 0 0] from rfl, toList_madeCells_one'] at h1
  simpa using h1
theorem nils_read {w : World} {base n : Nat} {v : Value} (h : w.ownsRow base 33 1 v n (List.replicate n (.slice none 0 0))) (hn : n ≤ 1000000) : SlL w v (List.replicate n (.slice none 0 0)) (List.replicate n []) := by
  have hl : (List.replicate n ([] : List Int)).length = n := List.length_replicate
  refine row_read (by rw [hl]; exact h) (fun t ht => ?_) (by rw [hl]; omega)
  rw [hl] at ht
  rw [show (List.replicate n (Value.slice none 0 0)).getD t (.slice none 0 0) = .slice none 0 0 by simp [List.getD_eq_getElem?_getD, ht], show (List.replicate n ([] : List Int)).getD t [] = [] by simp [List.getD_eq_getElem?_getD, ht]]
  exact SlI.nil _ _
/-- while the words are made: their row in block X, all else below it as it was -/
structure NewI (w0 wr : World) (X t : Nat) (ws : List Int) : Prop where
  row : OwnI wr X 27 .u64 (.slice (some ⟨X, 0, none⟩) t t) ws
  len : ws.length = t
  below : Below X w0 wr
theorem NewI.next {w0 wr w2 : World} {X t : Nat} {ws : List Int} (h : NewI w0 wr X t ws) (hb : Below wr.heap.size wr w2) : NewI w0 w2 X t ws := by
  have hX : X ≤ wr.heap.size := by
    rcases h.row.shape with ⟨h1, _⟩ | ⟨g, cap, h1, _, h2, _⟩
    · simp at h1
    · simp only [Value.slice.injEq, Option.some.injEq, Addr.mk.injEq] at h1; omega
  exact ⟨h.row.below hb, h.len, h.below.trans (hb.mono hX)⟩
theorem NewI.set {w0 wr : World} {X t : Nat} {ws : List Int} (h : NewI w0 wr X t ws) (i : Nat) (x : Int) : NewI w0 (wr.setCell ⟨X, i, none⟩ (.int .u64 x)) X t (ws.set i x) :=
  ⟨h.row.store i x h.len.symm, by rw [List.length_set]; exact h.len, h.below.setCell (p := ⟨X, i, none⟩) (Nat.le_refl _) _⟩
/-- a memory and an error are handed back -/
def NewR (w : World) (c : ConfM) (e : Ending) (w' : World) : Prop :=
  ∃ v', e = .returned (.tuple #[v', .int .i64 (checkC c)]) ∧ MemV w' v' (newE c) ∧ Below w.heap.size w w'
end Go.Proofs.Ytmkngpjjimalhaa
/- The document's small machines: New, access, and Next of one that has ended. -/
namespace Go.Proofs.Ytmkngpjjimalhaa
open Go.ChangeShapes Go.WideShapes Go.ChangeAt Go.RowKit
set_option maxRecDepth 100000

theorem rowc14 {w : World} {g : Nat} {T : TypeId} {v0 v1 v2 v3 v4 v5 v6 v7 v8 v9 v10 v11 v12 v13 : Value} (h : w.heap[g]? = some (.cells #[v0, v1, v2, v3, v4, v5, v6, v7, v8, v9, v10, v11, v12, v13] T (0, 0))) :
    w.cell? ⟨g, 0, none⟩ = some v0 ∧ w.cell? ⟨g, 1, none⟩ = some v1 ∧ w.cell? ⟨g, 2, none⟩ = some v2 ∧ w.cell? ⟨g, 3, none⟩ = some v3 ∧ w.cell? ⟨g, 4, none⟩ = some v4 ∧ w.cell? ⟨g, 5, none⟩ = some v5 ∧ w.cell? ⟨g, 6, none⟩ = some v6 ∧ w.cell? ⟨g, 7, none⟩ = some v7 ∧ w.cell? ⟨g, 8, none⟩ = some v8 ∧ w.cell? ⟨g, 9, none⟩ = some v9 ∧ w.cell? ⟨g, 10, none⟩ = some v10 ∧ w.cell? ⟨g, 11, none⟩ = some v11 ∧ w.cell? ⟨g, 12, none⟩ = some v12 ∧ w.cell? ⟨g, 13, none⟩ = some v13 :=
  ⟨cell_of_row _ _ 0 _ _ _ h, cell_of_row _ _ 1 _ _ _ h, cell_of_row _ _ 2 _ _ _ h, cell_of_row _ _ 3 _ _ _ h, cell_of_row _ _ 4 _ _ _ h, cell_of_row _ _ 5 _ _ _ h, cell_of_row _ _ 6 _ _ _ h, cell_of_row _ _ 7 _ _ _ h, cell_of_row _ _ 8 _ _ _ h, cell_of_row _ _ 9 _ _ _ h, cell_of_row _ _ 10 _ _ _ h, cell_of_row _ _ 11 _ _ _ h, cell_of_row _ _ 12 _ _ _ h, cell_of_row _ _ 13 _ _ _ h⟩
theorem two_new (w : World) (a b : Obj) : ∃ W, (w.alloc a).alloc b = W ∧ Hid (Below w.heap.size w W) ∧ Hid (W.heap[w.heap.size]? = some a) ∧ Hid (W.heap[w.heap.size + 1]? = some b) ∧ w.heap.size + 2 = W.heap.size :=
  ⟨_, rfl, below_new (below_new (Below.refl w.heap.size w) _) _, heap_alloc2_old _ _ _, heap_alloc2_new _ _ _, by simp⟩
theorem three_new (w : World) (a b c : Obj) : ∃ W, ((w.alloc a).alloc b).alloc c = W ∧ Hid (Below w.heap.size w W) ∧ Hid (W.heap[w.heap.size]? = some a) ∧ Hid (W.heap[w.heap.size + 1]? = some b) ∧ Hid (W.heap[w.heap.size + 2]? = some c) ∧ w.heap.size + 3 = W.heap.size := by
  refine ⟨_, rfl, below_new (below_new (below_new (Below.refl w.heap.size w) _) _) _, Lib.hid ?_, Lib.hid ?_, Lib.hid ?_, by simp⟩
  · rw [heap_alloc_old _ _ (by simp <;> omega), heap_alloc_old _ _ (by simp <;> omega), heap_alloc_new]
  · rw [heap_alloc_old _ _ (by simp <;> omega)]
    have := heap_alloc_new (w.alloc a) b
    simpa using this
  · have := heap_alloc_new ((w.alloc a).alloc b) c
    simpa using this
set_option maxHeartbeats 4000000 in
theorem access_any (k ad o n : Int) (w : World) : Calls Try.prog 52 #[.int .i64 k, .int .i64 ad, .int .u64 o, .int .u64 n] w fun e w' => e = .returned (accV ⟨k, ad, o, n, 0⟩) ∧ Below w.heap.size w w' := by
  obtain ⟨W, hW⟩ : ∃ W, w.alloc (.cells #[.int .i64 0, .int .i64 0, .int .u64 0, .int .u64 0, .int .i64 0] 75) = W := ⟨_, rfl⟩
  have HB : Hid (Below w.heap.size w W) := hW ▸ below_new (Below.refl w.heap.size w) _
  have R0 : Hid (W.heap[w.heap.size]? = some (.cells #[.int .i64 0, .int .i64 0, .int .u64 0, .int .u64 0, .int .i64 0] 75 (0, 0))) := hW ▸ heap_alloc_new _ _
  have HW := Lib.hid hW
  clear hW
  go_enter Try.func52, Try.ntmps52
  go_upto_region 1 with fail
  rw [HW.out]
  clear HW
  go_wp2_with (refine wpList_store_row rfl 75 _ _ rfl (w.heap.size) _ rfl rfl 75 #[.int .i64 0, .int .i64 0, .int .u64 0, .int .u64 0, .int .i64 0] R0.out (by kernel_rfl) rfl (by simp [Value.oneCell']) ?_)
  refine bodyPost_ret (v := accV ⟨k, ad, o, n, 0⟩) (results_cell_row Try.results52 _ _ (w.heap.size) 75 _ (0, 0) _ rfl (setRow_heap _ _ _ _ 75 (0, 0) R0.out) Try.underlying75 rfl (by kernel_rfl)) rfl ?_
  exact ⟨rfl, row_below HB.out (Nat.le_refl _) _⟩
set_option maxHeartbeats 4000000 in
theorem machNew_any (a a2 : Option Addr) (cap cap2 : Nat) (c : ConfM) (what ch th : Int) (w : World) : Calls Try.prog 21 #[.agg #[.slice a c.caps.length cap, .slice a2 c.starts.length cap2, .int .i64 c.threads], .int .i64 what, .int .i64 ch, .int .i64 th] w fun e w' => e = .returned (.agg (machL (.slice a c.caps.length cap) (.slice a2 c.starts.length cap2) c.threads ⟨what, 1, ch, th, 0, 0, 0, 0, 0, 0, 0⟩).toArray) ∧ Below w.heap.size w w' := by
  obtain ⟨W, hW, HB, R0, R1, hz⟩ := two_new w (.cells #[.slice a c.caps.length cap, .slice a2 c.starts.length cap2, .int .i64 c.threads] 36) (.cells #[.int .i64 0, .int .i64 0, .slice none 0 0, .slice none 0 0, .int .i64 0, .int .i64 0, .int .i64 0, .int .i64 0, .int .i64 0, .int .u64 0, .int .u64 0, .int .u64 0, .int .i64 0, .int .u64 0] 56)
  have HW := Lib.hid hW
  clear hW
  go_enter Try.func21, Try.ntmps21
  go_upto_region 1 with fail
  rw [HW.out]
  clear HW
  obtain ⟨x0, x1, x2⟩ := rowc3 R0.out
  go_wp2_with (refine wpList_store_row rfl 56 _ _ rfl (w.heap.size + 1) _ rfl rfl 56 #[.int .i64 0, .int .i64 0, .slice none 0 0, .slice none 0 0, .int .i64 0, .int .i64 0, .int .i64 0, .int .i64 0, .int .i64 0, .int .u64 0, .int .u64 0, .int .u64 0, .int .i64 0, .int .u64 0] R1.out (by kernel_rfl) rfl (by simp [Value.oneCell']) ?_)
  refine bodyPost_ret (v := .agg (machL (.slice a c.caps.length cap) (.slice a2 c.starts.length cap2) c.threads ⟨what, 1, ch, th, 0, 0, 0, 0, 0, 0, 0⟩).toArray) (results_cell_row Try.results21 _ _ (w.heap.size + 1) 56 _ (0, 0) _ rfl (setRow_heap _ _ _ _ 56 (0, 0) R1.out) Try.underlying56 rfl (by kernel_rfl)) rfl ?_
  exact ⟨rfl, row_below HB.out (by omega) _⟩
set_option maxHeartbeats 4000000 in
theorem machNext_end (a a2 : Option Addr) (cap cap2 : Nat) (c : ConfM) (m : MachM) (hp : m.pl = 0) (w : World) : Calls Try.prog 26 #[(.agg (machL (.slice a c.caps.length cap) (.slice a2 c.starts.length cap2) c.threads m).toArray)] w fun e w' => e = .returned (accV ⟨0, 0, 0, 0, 0⟩) ∧ Below w.heap.size w w' := by
  obtain ⟨W, hW, HB, R0, R1, hz⟩ := two_new w (.cells #[.int .i64 m.what, .int .i64 0, .slice a c.caps.length cap, .slice a2 c.starts.length cap2, .int .i64 c.threads, .int .i64 m.chan, .int .i64 m.thr, .int .i64 m.idx, .int .i64 m.kind, .int .u64 m.val, .int .u64 m.t, .int .u64 m.h, .int .i64 m.ok, .int .u64 m.ov] 56) (.cells #[.int .i64 0, .int .i64 0, .int .u64 0, .int .u64 0, .int .i64 0] 75)
  have HW := Lib.hid hW
  clear hW
  unfold machL
  rw [hp]
  clear hp
  go_enter Try.func26, Try.ntmps26
  go_upto_region 1 with fail
  rw [HW.out]
  clear HW
  obtain ⟨x0, x1, x2, x3, x4, x5, x6, x7, x8, x9, x10, x11, x12, x13⟩ := rowc14 R0.out
  go_wp2_with (refine wpList_store_row rfl 75 _ _ rfl (w.heap.size + 1) _ rfl rfl 75 #[.int .i64 0, .int .i64 0, .int .u64 0, .int .u64 0, .int .i64 0] R1.out (by kernel_rfl) rfl (by simp [Value.oneCell']) ?_)
  refine bodyPost_ret (v := accV ⟨0, 0, 0, 0, 0⟩) (results_cell_row Try.results26 _ _ (w.heap.size + 1) 75 _ (0, 0) _ rfl (setRow_heap _ _ _ _ 75 (0, 0) R1.out) Try.underlying75 rfl (by kernel_rfl)) rfl ?_
  exact ⟨rfl, row_below HB.out (by omega) _⟩
end Go.Proofs.Ytmkngpjjimalhaa
/- The document's small machines: end, and Resume of one that has ended. -/
namespace Go.Proofs.Ytmkngpjjimalhaa
open Go.ChangeShapes Go.WideShapes Go.ChangeAt Go.RowKit
set_option maxRecDepth 100000

set_option maxRecDepth 100000 in
set_option maxHeartbeats 16000000 in
theorem machEnd_any (a a2 : Option Addr) (cap cap2 : Nat) (c : ConfM) (m : MachM) (k v : Int) (w : World) : Calls Try.prog 27 #[(.agg (machL (.slice a c.caps.length cap) (.slice a2 c.starts.length cap2) c.threads m).toArray), .int .i64 k, .int .u64 v] w fun e w' => e = .returned (.agg (machL (.slice a c.caps.length cap) (.slice a2 c.starts.length cap2) c.threads { m with pl := 0, ok := k, ov := v }).toArray) ∧ Below w.heap.size w w' := by
  obtain ⟨W, hW, HB, R0, R1, hz⟩ := two_new w (.cells #[.int .i64 m.what, .int .i64 m.pl, .slice a c.caps.length cap, .slice a2 c.starts.length cap2, .int .i64 c.threads, .int .i64 m.chan, .int .i64 m.thr, .int .i64 m.idx, .int .i64 m.kind, .int .u64 m.val, .int .u64 m.t, .int .u64 m.h, .int .i64 m.ok, .int .u64 m.ov] 56) (.cells #[.int .i64 0, .int .i64 0, .slice none 0 0, .slice none 0 0, .int .i64 0, .int .i64 0, .int .i64 0, .int .i64 0, .int .i64 0, .int .u64 0, .int .u64 0, .int .u64 0, .int .i64 0, .int .u64 0] 56)
  have HW := Lib.hid hW
  clear hW
  unfold machL
  dsimp only
  have f1 := frozen_of_row W w.heap.size 1 _ _ R0.out
  have f2 := frozen_of_row W w.heap.size 12 _ _ R0.out
  have f3 := frozen_of_row W w.heap.size 13 _ _ R0.out
  have r1 := heap_setCell_same W w.heap.size 1 _ _ (.int .i64 0) R0.out
  simp at r1
  have r2 := heap_setCell_same _ w.heap.size 12 _ _ (.int .i64 k) r1
  simp at r2
  have r3 := heap_setCell_same _ w.heap.size 13 _ _ (.int .u64 v) r2
  simp at r3
  have R3 := Lib.hid r3
  clear r1 r2 r3
  have Q1 := Lib.hid ((heap_setCell_other _ ⟨w.heap.size, 13, none⟩ (w.heap.size + 1) (.int .u64 v) (by show w.heap.size + 1 ≠ w.heap.size; omega)).trans ((heap_setCell_other _ ⟨w.heap.size, 12, none⟩ (w.heap.size + 1) (.int .i64 k) (by show w.heap.size + 1 ≠ w.heap.size; omega)).trans ((heap_setCell_other W ⟨w.heap.size, 1, none⟩ (w.heap.size + 1) (.int .i64 0) (by show w.heap.size + 1 ≠ w.heap.size; omega)).trans R1.out)))
  have HB5 := Lib.hid (((HB.out.setCell (p := ⟨w.heap.size, 1, none⟩) (Nat.le_refl _) (.int .i64 0)).setCell (p := ⟨w.heap.size, 12, none⟩) (Nat.le_refl _) (.int .i64 k)).setCell (p := ⟨w.heap.size, 13, none⟩) (Nat.le_refl _) (.int .u64 v))
  obtain ⟨W5, hW5⟩ : ∃ W5, ((W.setCell ⟨w.heap.size, 1, none⟩ (.int .i64 0)).setCell ⟨w.heap.size, 12, none⟩ (.int .i64 k)).setCell ⟨w.heap.size, 13, none⟩ (.int .u64 v) = W5 := ⟨_, rfl⟩
  rw [hW5] at R3 Q1 HB5
  have HW5 := Lib.hid hW5
  clear hW5
  go_enter Try.func27, Try.ntmps27
  go_upto_region 1 with fail
  rw [HW.out]
  clear HW
  obtain ⟨x0, x1, x2, x3, x4, x5, x6, x7, x8, x9, x10, x11, x12, x13⟩ := rowc14 R0.out
  go_upto_region 2 with fail
  rw [HW5.out]
  clear HW5 x0 x1 x2 x3 x4 x5 x6 x7 x8 x9 x10 x11 x12 x13 f1 f2 f3
  obtain ⟨x0, x1, x2, x3, x4, x5, x6, x7, x8, x9, x10, x11, x12, x13⟩ := rowc14 R3.out
  go_wp2_with (refine wpList_store_row rfl 56 _ _ rfl (w.heap.size + 1) _ rfl rfl 56 #[.int .i64 0, .int .i64 0, .slice none 0 0, .slice none 0 0, .int .i64 0, .int .i64 0, .int .i64 0, .int .i64 0, .int .i64 0, .int .u64 0, .int .u64 0, .int .u64 0, .int .i64 0, .int .u64 0] Q1.out (by kernel_rfl) rfl (by simp [Value.oneCell']) ?_)
  refine bodyPost_ret (v := .agg #[.int .i64 m.what, .int .i64 0, .slice a c.caps.length cap, .slice a2 c.starts.length cap2, .int .i64 c.threads, .int .i64 m.chan, .int .i64 m.thr, .int .i64 m.idx, .int .i64 m.kind, .int .u64 m.val, .int .u64 m.t, .int .u64 m.h, .int .i64 k, .int .u64 v]) (results_cell_row Try.results27 _ _ (w.heap.size + 1) 56 _ (0, 0) _ rfl (setRow_heap _ _ _ _ 56 (0, 0) Q1.out) Try.underlying56 rfl (by kernel_rfl)) rfl ?_
  exact ⟨rfl, row_below HB5.out (by omega) _⟩
set_option maxRecDepth 100000 in
set_option maxHeartbeats 16000000 in
theorem machRes_end (a a2 : Option Addr) (cap cap2 : Nat) (c : ConfM) (m : MachM) (b : Int) (p q : Bool) (aa : Option Addr) (n ac : Nat) (hp : m.pl = 0) (w : World) : Calls Try.prog 15 #[(.agg (machL (.slice a c.caps.length cap) (.slice a2 c.starts.length cap2) c.threads m).toArray), .agg #[.int .u64 b, .bool p, .bool q, .slice aa n ac]] w fun e w' => e = .returned (.agg (machL (.slice a c.caps.length cap) (.slice a2 c.starts.length cap2) c.threads m).toArray) ∧ Below w.heap.size w w' := by
  obtain ⟨W, hW, HB, R0, R1, R2, hz⟩ := three_new w (.cells #[.int .i64 m.what, .int .i64 0, .slice a c.caps.length cap, .slice a2 c.starts.length cap2, .int .i64 c.threads, .int .i64 m.chan, .int .i64 m.thr, .int .i64 m.idx, .int .i64 m.kind, .int .u64 m.val, .int .u64 m.t, .int .u64 m.h, .int .i64 m.ok, .int .u64 m.ov] 56) (.cells #[.int .u64 b, .bool p, .bool q, .slice aa n ac] 52) (.cells #[.int .i64 0, .int .i64 0, .slice none 0 0, .slice none 0 0, .int .i64 0, .int .i64 0, .int .i64 0, .int .i64 0, .int .i64 0, .int .u64 0, .int .u64 0, .int .u64 0, .int .i64 0, .int .u64 0] 56)
  have HW := Lib.hid hW
  clear hW
  unfold machL
  rw [hp]
  clear hp
  go_enter Try.func15, Try.ntmps15
  go_upto_region 1 with fail
  rw [HW.out]
  clear HW
  obtain ⟨x0, x1, x2, x3, x4, x5, x6, x7, x8, x9, x10, x11, x12, x13⟩ := rowc14 R0.out
  obtain ⟨y0, y1, y2, y3⟩ := rowc4 R1.out
  go_wp2_with (refine wpList_store_row rfl 56 _ _ rfl (w.heap.size + 2) _ rfl rfl 56 #[.int .i64 0, .int .i64 0, .slice none 0 0, .slice none 0 0, .int .i64 0, .int .i64 0, .int .i64 0, .int .i64 0, .int .i64 0, .int .u64 0, .int .u64 0, .int .u64 0, .int .i64 0, .int .u64 0] R2.out (by kernel_rfl) rfl (by simp [Value.oneCell']) ?_)
  refine bodyPost_ret (v := .agg #[.int .i64 m.what, .int .i64 0, .slice a c.caps.length cap, .slice a2 c.starts.length cap2, .int .i64 c.threads, .int .i64 m.chan, .int .i64 m.thr, .int .i64 m.idx, .int .i64 m.kind, .int .u64 m.val, .int .u64 m.t, .int .u64 m.h, .int .i64 m.ok, .int .u64 m.ov]) (results_cell_row Try.results15 _ _ (w.heap.size + 2) 56 _ (0, 0) _ rfl (setRow_heap _ _ _ _ 56 (0, 0) R2.out) Try.underlying56 rfl (by kernel_rfl)) rfl ?_
  exact ⟨rfl, row_below HB.out (by omega) _⟩
end Go.Proofs.Ytmkngpjjimalhaa
