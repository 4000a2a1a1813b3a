import Derived.Deep.DeepCutAuto
import Derived.Test.YtialclohhemkiaaB08
import Derived.Test.YtialclohhemkiaaB05
set_option linter.unusedVariables false
set_option linter.unusedSimpArgs false
/- Where everything lies: which configurations are valid. -/
namespace Go.Proofs.Ytialclohhemkiaa
open Go.ChangeShapes Go.WideShapes Go.ChangeAt Go.RowKit
set_option maxRecDepth 100000

def capB (x : Int) : Bool := decide (0 ≤ x) && decide (x ≤ 16)
def startB (x : Int) : Bool := decide (x < 9223372036854775808)
/-- the first error of a configuration, 0 if there is none -/
def checkC (c : ConfM) : Int :=
  if 8 < c.caps.length then 3 else if c.starts.length ≠ c.caps.length then 5 else if c.caps.all capB = false then 2 else if c.starts.all startB = false then 2 else
  if c.threads < 1 ∨ 8 < c.threads then 2 else 0
theorem checkC_good {c : ConfM} (h : c.good) : checkC c = 0 := by
  have h1 := h.len
  have h2 := h.thr
  have h3 : c.caps.all capB = true := List.all_eq_true.2 fun x hx => by have := h.caps x hx; simp [capB, this]
  have h4 : c.starts.all startB = true := List.all_eq_true.2 fun x hx => by have := h.starts x hx; simp [startB, this]
  unfold checkC
  rw [if_neg (by omega), if_neg (by simp [h.same]), if_neg (by simp [h3]), if_neg (by simp [h4]), if_neg (by omega)]
theorem good_of_check {c : ConfM} (h : checkC c = 0) (hs : ∀ x ∈ c.starts, 0 ≤ x) : c.good := by
  unfold checkC at h
  split at h
  · omega
  split at h
  · omega
  split at h
  · omega
  split at h
  · omega
  split at h
  · omega
  rename_i h1 h2 h3 h4 h5
  simp only [Bool.not_eq_false] at h3 h4
  refine ⟨by omega, by simpa using h2, fun x hx => ?_, fun x hx => ?_, by omega⟩
  · have := List.all_eq_true.1 h3 x hx
    simpa [capB] using this
  · have := List.all_eq_true.1 h4 x hx
    simp [startB] at this
    exact ⟨hs x hx, this⟩
theorem checkC_many {c : ConfM} (h : 8 < c.caps.length) : checkC c = 3 := by unfold checkC; rw [if_pos h]
theorem checkC_shape {c : ConfM} (h : ¬ 8 < c.caps.length) (h2 : c.starts.length ≠ c.caps.length) : checkC c = 5 := by unfold checkC; rw [if_neg h, if_pos h2]
theorem all_bad {l : List Int} {p : Int → Bool} (j : Nat) (h : j < l.length) (hb : p (l.getD j 0) = false) : l.all p = false := by
  rw [List.all_eq_false]
  rw [List.getD_eq_getElem?_getD, List.getElem?_eq_getElem h] at hb
  exact ⟨_, List.getElem_mem h, by simpa using hb⟩
theorem all_next {l : List Int} {p : Int → Bool} (j : Nat) (h : j < l.length) (ha : (l.take j).all p = true) (hb : p (l.getD j 0) = true) : (l.take (j + 1)).all p = true := by
  rw [List.take_add_one, List.getElem?_eq_getElem h, List.all_append, ha]
  rw [List.getD_eq_getElem?_getD, List.getElem?_eq_getElem h] at hb
  simpa using hb
theorem checkC_caps {c : ConfM} (h : ¬ 8 < c.caps.length) (h2 : c.starts.length = c.caps.length) (h3 : c.caps.all capB = false) : checkC c = 2 := by
  unfold checkC; rw [if_neg h, if_neg (by simp [h2]), if_pos h3]
theorem checkC_starts {c : ConfM} (h : ¬ 8 < c.caps.length) (h2 : c.starts.length = c.caps.length) (h4 : c.starts.all startB = false) : checkC c = 2 := by
  unfold checkC; rw [if_neg h, if_neg (by simp [h2])]; simp only [h4, if_true]; split <;> rfl
theorem checkC_thr {c : ConfM} (h : ¬ 8 < c.caps.length) (h2 : c.starts.length = c.caps.length) (h3 : c.caps.all capB = true) (h4 : c.starts.all startB = true) : checkC c = if c.threads < 1 ∨ 8 < c.threads then 2 else 0 := by
  unfold checkC; rw [if_neg h, if_neg (by simp [h2]), if_neg (by simp [h3]), if_neg (by simp [h4])]
set_option maxHeartbeats 2000000 in
theorem checkC_any (v : Value) (c : ConfM) (w : World) (h : ConfV w v c) :
    Calls Try.prog 56 #[v] w fun e w' => e = .returned (.int .i64 (checkC c)) ∧ Below w.heap.size w w' := by
  obtain ⟨vc, vs, rfl, h1, h2⟩ := h
  have hn := h1.1
  have hm := h2.1
  obtain ⟨a, cap, rfl, -⟩ := h1.len
  obtain ⟨a2, cap2, rfl, -⟩ := h2.len
  obtain ⟨W, hW⟩ : ∃ W, w.alloc (.cells #[.slice a c.caps.length cap, .slice a2 c.starts.length cap2, .int .i64 c.threads] 34) = W := ⟨_, rfl⟩
  have HB : Hid (Below w.heap.size w W) := hW ▸ below_new (Below.refl w.heap.size w) _
  have R0 : Hid (W.heap[w.heap.size]? = some (.cells #[.slice a c.caps.length cap, .slice a2 c.starts.length cap2, .int .i64 c.threads] 34 (0, 0))) := hW ▸ heap_alloc_new _ _
  have S1 := Lib.hid (h1.below HB.out)
  have S2 := Lib.hid (h2.below HB.out)
  have HW := Lib.hid hW
  clear h1 h2 hW
  have CM := Lib.hid (checkC_many (c := c))
  have CS := Lib.hid (checkC_shape (c := c))
  have CC := Lib.hid (checkC_caps (c := c))
  have CT := Lib.hid (checkC_starts (c := c))
  have CZ := Lib.hid (checkC_thr (c := c))
  generalize hcn : c.caps.length = n at *
  generalize hcm : c.starts.length = m at *
  have HN := Lib.hid hcn
  have HM := Lib.hid hcm
  clear hcn hcm
  generalize c.threads = thr at *
  go_enter Try.func56, Try.ntmps56
  go_upto_region 1 with fail
  rw [HW.out]
  clear HW
  obtain ⟨x0, x1, x2⟩ := rowc3 R0.out
  by_cases h8 : 8 < n
  · go_wp2
    go_ret
    exact ⟨ret_i64 (CM.out h8).symm, HB.out⟩
  by_cases hs : m = n
  case neg =>
    have hsb : ((m : Int) != (n : Int)) = true := by simp; omega
    have HS := Lib.hid hs
    clear hs
    go_wp2
    go_ret
    exact ⟨ret_i64 (CS.out h8 HS.out).symm, HB.out⟩
  case pos =>
  subst hs
  go_wp2_with fail
  go_loop [21] (fun i => ∃ j : Nat, j ≤ m ∧ i = .int .i64 j ∧ Hid ((c.caps.take j).all capB = true)) (fun i => 9 - (intOf i).toNat)
  case atStart => exact ⟨0, by omega, rfl, (by simp : (c.caps.take 0).all capB = true)⟩
  case round =>
    obtain ⟨j, hj, rfl, hall⟩ := hrel
    by_cases hlt : j < m
    · obtain ⟨b, off, rfl, hb, hc⟩ := S1.out.cellAt j (by rw [HN.out]; exact hlt)
      have BD := Lib.hid fun h => all_bad (l := c.caps) (p := capB) j (by rw [HN.out]; exact hlt) h
      have NX := Lib.hid fun h => all_next (l := c.caps) (p := capB) j (by rw [HN.out]; exact hlt) hall.out h
      generalize c.caps.getD j 0 = x at *
      by_cases h0 : 0 ≤ x ∧ x ≤ 16
      · obtain ⟨h0, h1⟩ := h0
        have hx := Lib.hid (NX.out (by simp [capB, h0, h1]))
        clear BD NX
        go_wp2
        go_round
        case rel => exact ⟨j + 1, by omega, by go_num, hx⟩
        case measure => simp [intOf]; omega
      · have hx := Lib.hid (CC.out h8 (by trivial) (BD.out (by simp [capB]; omega)))
        clear BD NX
        by_cases hx0 : x < 0
        · go_wp2
          go_ret
          exact ⟨ret_i64 hx.out.symm, HB.out⟩
        · have hx1 : 16 < x := by omega
          clear h0
          go_wp2
          go_ret
          exact ⟨ret_i64 hx.out.symm, HB.out⟩
    · obtain rfl : j = m := by omega
      have HA : Hid (c.caps.all capB = true) := by
        have := hall.out
        rw [List.take_of_length_le (by rw [HN.out]; exact Nat.le_refl _)] at this
        exact this
      clear hall
      go_wp2_with fail
      go_loop [35] (fun i => ∃ t : Nat, t ≤ j ∧ i = .int .i64 t ∧ Hid ((c.starts.take t).all startB = true)) (fun i => 9 - (intOf i).toNat)
      case atStart => exact ⟨0, by omega, rfl, (by simp : (c.starts.take 0).all startB = true)⟩
      case round =>
        obtain ⟨t, ht, rfl, hall⟩ := hrel
        by_cases htl : t < j
        · obtain ⟨b, off, rfl, hb, hc⟩ := S2.out.cellAt t (by rw [HM.out]; exact htl)
          have BD := Lib.hid fun h => all_bad (l := c.starts) (p := startB) t (by rw [HM.out]; exact htl) h
          have NX := Lib.hid fun h => all_next (l := c.starts) (p := startB) t (by rw [HM.out]; exact htl) hall.out h
          generalize c.starts.getD t 0 = x at *
          by_cases h0 : x < 9223372036854775808
          · have hx := Lib.hid (NX.out (by simp [startB, h0]))
            clear BD NX
            have hxd : decide (9223372036854775808 ≤ x) = false := decide_eq_false (by omega)
            clear h0
            go_wp2
            go_round
            case rel => exact ⟨t + 1, by omega, by go_num, hx⟩
            case measure => simp [intOf]; omega
          · have hx := Lib.hid (CT.out h8 (by trivial) (BD.out (by simp [startB]; omega)))
            clear BD NX
            have hxd : decide (9223372036854775808 ≤ x) = true := decide_eq_true (by omega)
            clear h0
            go_wp2
            go_ret
            exact ⟨ret_i64 hx.out.symm, HB.out⟩
        · obtain rfl : t = j := by omega
          have HA2 : Hid (c.starts.all startB = true) := by
            have := hall.out
            rw [List.take_of_length_le (by rw [HM.out]; exact Nat.le_refl _)] at this
            exact this
          have HZ := Lib.hid (CZ.out h8 (by trivial) HA.out HA2.out)
          clear hall HA HA2
          by_cases h1 : thr < 1
          · go_wp2
            go_ret
            exact ⟨ret_i64 (by rw [HZ.out, if_pos (.inl h1)]), HB.out⟩
          · by_cases h9 : 8 < thr
            · go_wp2
              go_ret
              exact ⟨ret_i64 (by rw [HZ.out, if_pos (.inr h9)]), HB.out⟩
            · go_wp2
              go_ret
              exact ⟨ret_i64 (by rw [HZ.out, if_neg (by omega)]), HB.out⟩
end Go.Proofs.Ytialclohhemkiaa
/- The memory with which a configuration begins: plainly, and what package layout makes. -/
namespace Go.Proofs.Ytialclohhemkiaa
open Go.ChangeShapes Go.WideShapes Go.ChangeAt Go.RowKit
set_option maxRecDepth 100000

theorem results_cell_tmp {fn : Func} {P : Program} {p u : Tmp} {t1 : TypeId} (h : fn.results = #[.cell p t1, .tmp u]) (tmps : Array Value) (w : World) (g1 : Nat) (u1 : TypeId) (c1 : Array Value) (f1 : Nat × Nat) (d1 : TypeDesc)
    (hp : tmps.getD p undef = .pointer (some ⟨g1, 0, none⟩)) (hg1 : w.heap[g1]? = some (.cells c1 u1 f1))
    (hu1 : P.underlying t1 = some d1) (hd1 : (match d1 with | .struct _ | .array _ _ => true | _ => false) = true) (hi1 : (P.info? t1).map (·.size) = some c1.size) (x : Value) (hx : tmps.getD u undef = x) :
    (results fn tmps).run P w = .ok (.tuple #[.agg c1, x]) w := by
  have hp' : tmps[p]?.getD undef = .pointer (some ⟨g1, 0, none⟩) := by simpa using hp
  have hx' : tmps[u]?.getD undef = x := by simpa using hx
  simp [results, h, hp', hx', asAddr, run_loadVar_row w g1 u1 t1 c1 f1 d1 hg1 hu1 hd1 hi1]
def zeroMem5 : Array Value := #[.slice none 0 0, .slice none 0 0, .int .i64 0]
/-- the start of channel k -/
def ConfM.st (c : ConfM) (k : Nat) : Int := c.starts.getD k 0
/-- the words behind the first j slots of channel k -/
def slotsE (c : ConfM) (k : Nat) (ws : List Int) : Nat → List Int
  | 0 => ws
  | j + 1 => (slotsE c k ws j).set (c.slotW k (nextI (c.st k) j)).toNat (nextI (c.st k) j)
/-- the words behind the first two of channel k -/
def headE (c : ConfM) (k : Nat) (ws : List Int) : List Int := (ws.set (c.base k).toNat (packI (c.st k) false)).set (c.base k + 1).toNat (c.st k)
/-- the words behind k channels -/
def chansE (c : ConfM) : Nat → List Int
  | 0 => List.replicate (c.thrW c.threads).toNat 0
  | k + 1 => slotsE c k (headE c k (chansE c k)) (c.size k).toNat
def newE (c : ConfM) : MemM := if checkC c = 0 then ⟨chansE c c.caps.length, List.replicate (2 * c.caps.length) [], 0⟩ else ⟨[], [], 0⟩
theorem slotsE_len (c : ConfM) (k : Nat) (ws : List Int) (j : Nat) : (slotsE c k ws j).length = ws.length := by
  induction j with
  | zero => rfl
  | succ j ih => show (List.set _ _ _).length = _; rw [List.length_set, ih]
theorem headE_len (c : ConfM) (k : Nat) (ws : List Int) : (headE c k ws).length = ws.length := by simp [headE]
theorem chansE_len (c : ConfM) (k : Nat) : (chansE c k).length = (c.thrW c.threads).toNat := by
  induction k with
  | zero => exact List.length_replicate
  | succ k ih => show (slotsE _ _ _ _).length = _; rw [slotsE_len, headE_len, ih]
def Wf (l : List Int) : Prop := ∀ x ∈ l, x = IntKind.u64.wrap x
theorem Wf.set {l : List Int} (h : Wf l) (i : Nat) (x : Int) (hx : x = IntKind.u64.wrap x) : Wf (l.set i x) := by
  intro y hy
  rcases List.mem_or_eq_of_mem_set hy with hy | rfl
  · exact h y hy
  · exact hx
theorem next_wf (a n : Int) : nextI a n = IntKind.u64.wrap (nextI a n) := by rw [IntKind.wrap_u64]; unfold nextI; omega
theorem next_lt (a n : Int) : 0 ≤ nextI a n ∧ nextI a n < 9223372036854775808 := by unfold nextI; omega
theorem ConfM.good.st {c : ConfM} (h : c.good) (k : Nat) (hk : k < c.caps.length) : 0 ≤ c.st k ∧ c.st k < 9223372036854775808 := by
  have hk2 : k < c.starts.length := by rw [h.same]; exact hk
  show 0 ≤ c.starts.getD k 0 ∧ c.starts.getD k 0 < 9223372036854775808
  rw [List.getD_eq_getElem?_getD, List.getElem?_eq_getElem hk2]
  exact h.starts _ (List.getElem_mem hk2)
theorem slotsE_wf (c : ConfM) (k : Nat) {ws : List Int} (h : Wf ws) (j : Nat) : Wf (slotsE c k ws j) := by
  induction j with
  | zero => exact h
  | succ j ih => exact Wf.set ih _ _ (next_wf _ _)
theorem headE_wf {c : ConfM} {k : Nat} (hs : 0 ≤ c.st k ∧ c.st k < 9223372036854775808) {ws : List Int} (h : Wf ws) : Wf (headE c k ws) := by
  refine Wf.set (Wf.set h _ _ ?_) _ _ ?_
  · rw [IntKind.wrap_u64]; unfold packI; simp <;> omega
  · rw [IntKind.wrap_u64]; omega
theorem chansE_wf {c : ConfM} (hg : c.good) (k : Nat) (hk : k ≤ c.caps.length) : Wf (chansE c k) := by
  induction k with
  | zero => intro x hx; rw [(List.mem_replicate.1 hx).2]; decide
  | succ k ih => exact slotsE_wf _ _ (headE_wf (hg.st k (by omega)) (ih (by omega))) _
/-- where the words end -/
theorem ConfM.good.mono {c : ConfM} (h : c.good) (k : Nat) (hk : k < c.caps.length) : c.base k + (5 + c.size k * 2) ≤ c.base c.caps.length := by
  have key : ∀ d, k + 1 + d ≤ c.caps.length → c.base (k + 1) ≤ c.base (k + 1 + d) := by
    intro d
    induction d with
    | zero => intro _; exact Int.le_refl _
    | succ d ih =>
      intro hd
      have h1 := ih (by omega)
      have h2 := h.size (k + 1 + d) (by omega)
      have e : c.base (k + 1 + (d + 1)) = c.base (k + 1 + d) + (5 + c.size (k + 1 + d) * 2) := rfl
      omega
  have h1 := key (c.caps.length - (k + 1)) (by omega)
  rw [show k + 1 + (c.caps.length - (k + 1)) = c.caps.length by omega] at h1
  exact h1
theorem ConfM.good.slot_in {c : ConfM} (h : c.good) (k : Nat) (s : Int) (hk : k < c.caps.length) (hs : 0 ≤ s) : 0 ≤ c.slotW k s ∧ c.slotW k s + 1 < c.thrW c.threads := by
  have h1 := h.mono k hk
  have h2 := h.base8 k (Nat.le_of_lt hk)
  have h3 := h.size k hk
  have h4 := slotI_lt s (c.size k) hs h3.1
  have h5 := h.thr
  show 0 ≤ c.base k + 5 + slotI s (c.size k) * 2 ∧ c.base k + 5 + slotI s (c.size k) * 2 + 1 < c.base c.caps.length + c.threads * 11
  omega
theorem ConfM.good.base_in {c : ConfM} (h : c.good) (k : Nat) (hk : k < c.caps.length) : 0 ≤ c.base k ∧ c.base k + 1 < c.thrW c.threads := by
  have h1 := h.mono k hk
  have h2 := h.base8 k (Nat.le_of_lt hk)
  have h3 := h.size k hk
  have h5 := h.thr
  show 0 ≤ c.base k ∧ c.base k + 1 < c.base c.caps.length + c.threads * 11
  omega
theorem Try.info_lists : (Try.prog.info? 31).map (fun i => (i.zero, i.size, i.bytes)) = some (some (.slice none 0 0), 1, 24) := by kernel_rfl
theorem wp_make_lists (w : World) {ops : Array Oper} {rest : List Oper} {o : Oper} {a : Act} {Q : Exit → Act → World → Prop}
    (hg : o.guard = none) (l c : Operand) (hop : o.op = Op.makeSlice 85 l c) (n : Nat) (L C : Int) (hl : a.eval l = .int .i64 L) (hc : a.eval c = .int .i64 C) (hL : L = n) (hC : C = n) (hn : n ≤ 1000000)
    (hK : ∀ w', w'.ownsRow w.heap.size 31 1 (.slice (some ⟨w.heap.size, 0, none⟩) n n) n (List.replicate n (.slice none 0 0)) → Below w.heap.size w w' → wpList Try.prog ops Q rest (a.put o.dst (.slice (some ⟨w.heap.size, 0, none⟩) n n)) w') :
    wpList Try.prog ops Q (o :: rest) a w := by
  obtain ⟨i0, hi, hz0, hz1, hz2⟩ := info_parts Try.info_lists
  refine wpList_make_full w hg l c _ hop w.heap.size 31 i0 (.slice none 0 0) 1 Try.underlying85 hi hz0 hz1 _ _ _ _ n hl hc hL hC (by rw [hz2]; omega) (by unfold maxLen; omega) (Nat.le_refl _) fun w' h1 h2 => ?_
  refine hK w' ?_ ((Below.refl _ _).grown h2 (Nat.le_refl _) (fun k hk => by cases hk))
  rw [show (Value.slice none 0 0).cells = #[.slice none 0 0] from rfl, toList_madeCells_one'] at h1
  simpa using h1
theorem nils_read {w : World} {base n : Nat} {v : Value} (h : w.ownsRow base 31 1 v n (List.replicate n (.slice none 0 0))) (hn : n ≤ 1000000) : SlL w v (List.replicate n (.slice none 0 0)) (List.replicate n []) := by
  have hl : (List.replicate n ([] : List Int)).length = n := List.length_replicate
  refine row_read (by rw [hl]; exact h) (fun t ht => ?_) (by rw [hl]; omega)
  rw [hl] at ht
  rw [show (List.replicate n (Value.slice none 0 0)).getD t (.slice none 0 0) = .slice none 0 0 by simp [List.getD_eq_getElem?_getD, ht], show (List.replicate n ([] : List Int)).getD t [] = [] by simp [List.getD_eq_getElem?_getD, ht]]
  exact SlI.nil _ _
/-- while the words are made: their row in block X, all else below it as it was -/
structure NewI (w0 wr : World) (X t : Nat) (ws : List Int) : Prop where
  row : OwnI wr X 23 .u64 (.slice (some ⟨X, 0, none⟩) t t) ws
  len : ws.length = t
  below : Below X w0 wr
theorem NewI.next {w0 wr w2 : World} {X t : Nat} {ws : List Int} (h : NewI w0 wr X t ws) (hb : Below wr.heap.size wr w2) : NewI w0 w2 X t ws := by
  have hX : X ≤ wr.heap.size := by
    rcases h.row.shape with ⟨h1, _⟩ | ⟨g, cap, h1, _, h2, _⟩
    · simp at h1
    · simp only [Value.slice.injEq, Option.some.injEq, Addr.mk.injEq] at h1; omega
  exact ⟨h.row.below hb, h.len, h.below.trans (hb.mono hX)⟩
theorem NewI.set {w0 wr : World} {X t : Nat} {ws : List Int} (h : NewI w0 wr X t ws) (i : Nat) (x : Int) : NewI w0 (wr.setCell ⟨X, i, none⟩ (.int .u64 x)) X t (ws.set i x) :=
  ⟨h.row.store i x h.len.symm, by rw [List.length_set]; exact h.len, h.below.setCell (p := ⟨X, i, none⟩) (Nat.le_refl _) _⟩
/-- a memory and an error are handed back -/
def NewR (w : World) (c : ConfM) (e : Ending) (w' : World) : Prop :=
  ∃ v', e = .returned (.tuple #[v', .int .i64 (checkC c)]) ∧ MemV w' v' (newE c) ∧ Below w.heap.size w w'
end Go.Proofs.Ytialclohhemkiaa
