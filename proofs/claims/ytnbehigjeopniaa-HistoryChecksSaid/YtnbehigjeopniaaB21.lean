import Derived.Test.YtnbehigjeopniaaRows
import Derived.Deep.QuietTactic
import Derived.BigQuiet
import Derived.Test.YtnbehigjeopniaaB05
import Derived.Test.YtnbehigjeopniaaB04
import Derived.Test.YtnbehigjeopniaaB01
set_option linter.unusedVariables false
set_option linter.unusedSimpArgs false
/- append of a list of words that reads, to one that the call owns. -/
namespace Go.Proofs.Ytnbehigjeopniaa
open Go.ChangeShapes Go.WideShapes Go.ChangeAt Go.RowKit
set_option maxRecDepth 100000

theorem run_app_u64 (w : World) (ty : TypeId) (base : Nat) (v : Value) (l : List Int) (hown : OwnI w base 30 .u64 v l) (xv : Value) (l2 : List Int) (hS : SlI w .u64 xv l2)
    (hl : l.length ≤ 1000000) (hl2 : l2.length ≤ 1000000) (hb : base ≤ w.heap.size) :
    ∃ v' w', (Builtin.append_ #[58, 58] ty #[v, xv]).run Try.prog w = .ok v' w' ∧ OwnI w' base 30 .u64 v' (l ++ l2) ∧ w.grownBy w' v.ownBlock := by
  obtain ⟨i0, hi, hz0, hz1, hz2⟩ := info_parts Try.info_u64
  by_cases hne : l2 = []
  · subst hne
    obtain ⟨B, c', rfl, -⟩ := hS.len
    have e : ∃ A c, v = .slice A l.length c ∧ l.length ≤ c := by
      rcases hown.shape with ⟨rfl, rfl⟩ | ⟨g, cap, rfl, _, _, h, _⟩
      · exact ⟨_, _, rfl, Nat.le_refl _⟩
      · exact ⟨_, _, rfl, h⟩
    obtain ⟨A, c, rfl, hc⟩ := e
    refine ⟨_, w, run_append_zero (by kernel_rfl) hi A B l.length c c' hc, by simpa using hown, grownBy_refl _ _⟩
  · obtain ⟨b, off, cap, rfl, hcap, hbk, hc⟩ := hS.open hne
    obtain ⟨v', w', hr, h2, h3, -⟩ := run_append_own (P := Try.prog) w base 58 ty 30 i0 (.int .u64 0) 1 _ (by kernel_rfl) hi hz0 hz1 rfl rfl (by decide) v l.length _ hown ⟨b, off, none⟩ l2.length cap (l2.map (Value.int .u64)) (by simp) (by
      intro j u hj
      rw [add_plain]
      simp only [List.getElem?_map, Option.map_eq_some_iff] at hj
      obtain ⟨y, hy, rfl⟩ := hj
      have hjl : j < l2.length := (List.getElem?_eq_some_iff.1 hy).1
      rw [hc j hjl, List.getD_eq_getElem?_getD, hy]; rfl) (by intro u hu; simp only [List.mem_map] at hu; obtain ⟨y, _, rfl⟩ := hu; rfl) (by unfold maxLen; omega) (by rw [hz2]; omega) hb
    refine ⟨v', w', hr, ?_, h3⟩
    unfold OwnI
    rw [List.length_append, List.map_append]
    exact h2
/-- append of a list that reads, to a list that the call owns -/
theorem wp_app_u64 (w : World) {ops : Array Oper} {rest : List Oper} {o : Oper} {a : Act} {Q : Exit → Act → World → Prop}
    (hg : o.guard = none) (s x : Operand) (hop : o.op = Op.call { callee := Callee.builtin Builtin.append, args := #[s, x], argTypes := #[58, 58] })
    (base : Nat) (v : Value) (l : List Int) (hs : a.eval s = v) (hown : OwnI w base 30 .u64 v l) (xv : Value) (l2 : List Int) (hx : a.eval x = xv) (hS : SlI w .u64 xv l2)
    (hl : l.length ≤ 1000000) (hl2 : l2.length ≤ 1000000) (hb : base ≤ w.heap.size)
    (hK : ∀ v' w', OwnI w' base 30 .u64 v' (l ++ l2) → w.grownBy w' v.ownBlock → wpList Try.prog ops Q rest (a.put o.dst v') w') :
    wpList Try.prog ops Q (o :: rest) a w := by
  obtain ⟨v', w', hr, h1, h2⟩ := run_app_u64 w o.type base v l hown xv l2 hS hl hl2 hb
  exact Lib.wpList_append_run w hg s x _ _ hop _ _ hs hx v' w' hr (hK v' w' h1 h2)
/-- the same inside a region that draws its order -/
theorem step_app_u64 {w : World} {ops : Array Oper} {o : Oper} {a : Act} {K : Act → World → Prop} {Q : Exit → Act → World → Prop} {E : Prop}
    (hgd : o.guard = none) (s x : Operand) (hop : o.op = Op.call { callee := Callee.builtin Builtin.append, args := #[s, x], argTypes := #[58, 58] })
    (base : Nat) (v : Value) (l : List Int) (hs : a.eval s = v) (hown : OwnI w base 30 .u64 v l) (xv : Value) (l2 : List Int) (hx : a.eval x = xv) (hS : SlI w .u64 xv l2)
    (hl : l.length ≤ 1000000) (hl2 : l2.length ≤ 1000000) (hb : base ≤ w.heap.size)
    (hK : ∀ v' w', OwnI w' base 30 .u64 v' (l ++ l2) → w.grownBy w' v.ownBlock → K (a.put o.dst v') w') :
    if Region.wanted o (yielded ops a.tmps) = true then Oper.wp Try.prog o a w K Q else E := by
  have hw : Region.wanted o (yielded ops a.tmps) = true := by simp [Region.wanted, hgd]
  rw [if_pos hw]
  obtain ⟨v', w', hr, h1, h2⟩ := run_app_u64 w o.type base v l hown xv l2 hS hl hl2 hb
  exact Lib.wp_append_run w s x _ _ hop _ _ hs hx v' w' hr (hK v' w' h1 h2)
end Go.Proofs.Ytnbehigjeopniaa
/- Layer 15: rows that read are appended to an owned list of structs; parts of lists. -/
namespace Go.Proofs.Ytnbehigjeopniaa
open Go.ChangeShapes Go.WideShapes Go.ChangeAt Go.RowKit
set_option maxRecDepth 100000

section
variable {e : TypeId} {s base : Nat} {w : World} {v v0 : Value} {rows rows0 : List (List Value)}
theorem run_app_ss (w : World) (st ty : TypeId) {bytes : Nat} {z : Value} (hu : Try.prog.underlying st = some (.slice e)) (hinfo : (Try.prog.info? e).map (fun i => (i.zero, i.size, i.bytes)) = some (some z, s, bytes)) (hzs : z.cells.size = s) (hsz : 0 < s) (hby : bytes ≤ 200)
    (hown : OwnS w base e s v0 rows0) (hS : SlS w s v rows) (hl : rows0.length + rows.length ≤ 1000000) (hb : base ≤ w.heap.size) :
    ∃ v' w', (Builtin.append_ #[st, st] ty #[v0, v]).run Try.prog w = .ok v' w' ∧ OwnS w' base e s v' (rows0 ++ rows) ∧ w.grownBy w' v0.ownBlock ∧ (v'.ownBlock = v0.ownBlock ∨ v'.ownBlock = some w.heap.size) := by
  obtain ⟨i0, hi, hz0, hz1, hz2⟩ := info_parts hinfo
  have hr1 := hS.2.1
  by_cases hne : rows = []
  · subst hne
    obtain ⟨B, c', rfl, -⟩ := hS.len
    have e : ∃ A c, v0 = .slice A rows0.length c ∧ rows0.length ≤ c := by
      rcases hown.shape with ⟨rfl, rfl⟩ | ⟨g, cap, rfl, -, -, h⟩
      · exact ⟨_, _, rfl, Nat.le_refl _⟩
      · exact ⟨_, _, rfl, h⟩
    obtain ⟨A, c, rfl, hc⟩ := e
    exact ⟨_, w, run_append_zero hu hi A B rows0.length c c' hc, by rw [List.append_nil]; exact hown, grownBy_refl _ _, .inl rfl⟩
  obtain ⟨b, off, cap, rfl, hbl, hr⟩ := hS.open (List.length_pos_iff.2 hne)
  obtain ⟨v', w', hrun, h2, h3, -, h4⟩ := run_append_own_at (P := Try.prog) w base st ty e i0 z s bytes hu hi hz0 hz1 hz2 hzs hsz v0 rows0.length _ hown.2 ⟨b, off, none⟩ rows.length cap rows.flatten (flatS_length rows hr1) (fun j u hj => by
      have hlt := (List.getElem?_eq_some_iff.1 hj).1
      rw [flatS_length rows hr1] at hlt
      have hq : j / s < rows.length := Nat.div_lt_of_lt_mul (by rw [Nat.mul_comm]; exact hlt)
      have hm : j % s < s := Nat.mod_lt _ hsz
      have hj2 : j = j / s * s + j % s := by rw [Nat.mul_comm]; exact (Nat.div_add_mod j s).symm
      have e2 : ((⟨b, off, none⟩ : Addr).add j) = ⟨b, off + (j / s) * s + j % s, none⟩ := by rw [Addr.add_mid, Nat.add_assoc, ← hj2]
      rw [e2]
      refine hr (j / s) hq (j % s) u ?_
      rw [List.getD_eq_getElem?_getD, List.getElem?_eq_getElem hq]
      have h9 := flatS_get rows hr1 (j / s) (j % s) hq hm
      rw [← hj2] at h9
      show rows[j / s][j % s]? = some u
      rw [← h9]
      exact hj) (fun u hu => by
      obtain ⟨r, hr, hur⟩ := List.mem_flatten.1 hu
      exact (hr1 r hr).2 u hur) (by unfold maxLen; omega) (by have : (rows0.length + rows.length) * bytes ≤ 1000000 * 200 := Nat.mul_le_mul (by omega) hby; omega) hb
  refine ⟨v', w', hrun, ⟨fun r hr2 => ?_, ?_⟩, h3, h4⟩
  · rcases List.mem_append.1 hr2 with h | h
    · exact hown.1 r h
    · exact hr1 r h
  · rw [List.length_append, List.flatten_append]
    exact h2
theorem step_app_ss (st : TypeId) {bytes : Nat} {z : Value} (hu : Try.prog.underlying st = some (.slice e)) (hinfo : (Try.prog.info? e).map (fun i => (i.zero, i.size, i.bytes)) = some (some z, s, bytes)) (hzs : z.cells.size = s) (hsz : 0 < s) (hby : bytes ≤ 200)
    {ops : Array Oper} {o : Oper} {a : Act} {K : Act → World → Prop} {Q : Exit → Act → World → Prop} {E : Prop}
    (hgd : o.guard = none) (sl x : Operand) (hop : o.op = Op.call { callee := Callee.builtin Builtin.append, args := #[sl, x], argTypes := #[st, st] })
    (hs : a.eval sl = v0) (hx : a.eval x = v) (hown : OwnS w base e s v0 rows0) (hS : SlS w s v rows) (hl : rows0.length + rows.length ≤ 1000000) (hb : base ≤ w.heap.size)
    (hK : ∀ v' w', OwnS w' base e s v' (rows0 ++ rows) → w.grownBy w' v0.ownBlock → (v'.ownBlock = v0.ownBlock ∨ v'.ownBlock = some w.heap.size) → K (a.put o.dst v') w') :
    if Region.wanted o (yielded ops a.tmps) = true then Oper.wp Try.prog o a w K Q else E := by
  rw [if_pos (by simp [Region.wanted, hgd])]
  obtain ⟨v', w', hrun, h2, h3, h4⟩ := run_app_ss w st o.type hu hinfo hzs hsz hby hown hS hl hb
  exact Lib.wp_append_run w sl x _ _ hop _ _ hs hx v' w' hrun (hK v' w' h2 h3 h4)
theorem wp_app_ss (st : TypeId) {bytes : Nat} {z : Value} (hu : Try.prog.underlying st = some (.slice e)) (hinfo : (Try.prog.info? e).map (fun i => (i.zero, i.size, i.bytes)) = some (some z, s, bytes)) (hzs : z.cells.size = s) (hsz : 0 < s) (hby : bytes ≤ 200)
    {ops : Array Oper} {rest : List Oper} {o : Oper} {a : Act} {Q : Exit → Act → World → Prop}
    (hgd : o.guard = none) (sl x : Operand) (hop : o.op = Op.call { callee := Callee.builtin Builtin.append, args := #[sl, x], argTypes := #[st, st] })
    (hs : a.eval sl = v0) (hx : a.eval x = v) (hown : OwnS w base e s v0 rows0) (hS : SlS w s v rows) (hl : rows0.length + rows.length ≤ 1000000) (hb : base ≤ w.heap.size)
    (hK : ∀ v' w', OwnS w' base e s v' (rows0 ++ rows) → w.grownBy w' v0.ownBlock → (v'.ownBlock = v0.ownBlock ∨ v'.ownBlock = some w.heap.size) → wpList Try.prog ops Q rest (a.put o.dst v') w') :
    wpList Try.prog ops Q (o :: rest) a w := by
  obtain ⟨v', w', hrun, h2, h3, h4⟩ := run_app_ss w st o.type hu hinfo hzs hsz hby hown hS hl hb
  exact Lib.wpList_append_run w hgd sl x _ _ hop _ _ hs hx v' w' hrun (hK v' w' h2 h3 h4)
/-- the first i rows -/
theorem SlS.take {a : Option Addr} {n c : Nat} (h : SlS w s (.slice a n c) rows) (i : Nat) (hi : i ≤ rows.length) : SlS w s (.slice a i c) (rows.take i) := by
  obtain ⟨h1, h2, a', cap, e, h3, h4⟩ := h
  simp only [Value.slice.injEq] at e
  obtain ⟨rfl, -, rfl⟩ := e
  have hl : (rows.take i).length = i := by simp; omega
  refine ⟨by rw [hl]; omega, fun r hr => h2 r (List.mem_of_mem_take hr), a, c, by rw [hl], by rw [hl]; omega, fun j hj => ?_⟩
  rw [hl] at hj
  obtain ⟨b, off, rfl, hb, hr⟩ := h4 j (by omega)
  refine ⟨b, off, rfl, hb, ?_⟩
  rw [List.getD_eq_getElem?_getD, List.getElem?_take, if_pos hj, ← List.getD_eq_getElem?_getD]
  exact hr
/-- the rows from i on; the pointer is turned unless nothing is left of the room -/
theorem SlS.drop {b off n c : Nat} (h : SlS w s (.slice (some ⟨b, off, none⟩) n c) rows) (i : Nat) (hi : i ≤ rows.length) {p : Option Addr} (hp : p = if c = i then some ⟨b, off, none⟩ else some ⟨b, off + i * s, none⟩) : SlS w s (.slice p (n - i) (c - i)) (rows.drop i) := by
  obtain ⟨h1, h2, a', cap, e, h3, h4⟩ := h
  simp only [Value.slice.injEq] at e
  obtain ⟨rfl, rfl, rfl⟩ := e
  have hl : (rows.drop i).length = rows.length - i := by simp
  refine ⟨by rw [hl]; omega, fun r hr => h2 r (List.mem_of_mem_drop hr), p, c - i, by rw [hl], by rw [hl]; omega, fun j hj => ?_⟩
  rw [hl] at hj
  rw [if_neg (by omega)] at hp
  obtain ⟨b2, off2, e2, hb, hr⟩ := h4 (i + j) (by omega)
  simp only [Option.some.injEq, Addr.mk.injEq] at e2
  obtain ⟨rfl, rfl, -⟩ := e2
  refine ⟨b, off + i * s, hp, hb, ?_⟩
  rw [List.getD_eq_getElem?_getD, List.getElem?_drop, ← List.getD_eq_getElem?_getD]
  rw [show off + i * s + j * s = off + (i + j) * s by rw [Nat.add_mul]; omega]
  exact hr
end
end Go.Proofs.Ytnbehigjeopniaa
/- What the functions that only read return (draws brought into range, searches, comparisons). -/
namespace Go.Proofs.Ytnbehigjeopniaa
open Go.ChangeShapes Go.WideShapes Go.ChangeAt Go.RowKit
set_option maxRecDepth 100000

def fdN (x : Int) (l : List Int) : Nat := if fd x l < l.length then fd x l else 0
def fdB (x : Int) (l : List Int) : Bool := decide (fd x l < l.length)
def fdI (x : Int) (l : List Int) : Int := if fd x l < l.length then (fd x l : Int) else -1
theorem fdN_hit {x : Int} {l : List Int} {k : Nat} {A B : Prop} (h : A → B → fd x l = k) (a : A) (b : B) (hlt : k < l.length) : fdN x l = k ∧ fdB x l = true ∧ fdI x l = k := by
  have e := h a b
  unfold fdN fdB fdI; rw [e]; simp [hlt]
theorem fdN_miss {x : Int} {l : List Int} (h : fd x l = l.length) : fdN x l = 0 ∧ fdB x l = false ∧ fdI x l = -1 := by
  unfold fdN fdB fdI; rw [h]; simp
theorem mod_any (x n : Int) (w : World) (h2 : 1 ≤ n) (h3 : n ≤ 1000000) :
    Calls Try.prog 12 #[.int .i64 x, .int .i64 n] w fun e w' => e = .returned (.int .i64 (x % n)) ∧ w = w' := by
  obtain ⟨m, hm⟩ : ∃ m : Nat, n = m + 1 := ⟨(n - 1).toNat, by omega⟩
  have b : -n < x.tmod n ∧ x.tmod n < n := by have := tmod_bd x m; rw [hm]; omega
  have M := Lib.hid (show x % n = if x.tmod n < 0 then x.tmod n + n else x.tmod n by have := tmod_mod x m; rw [hm]; exact this)
  clear hm
  go_enter Try.func12, Try.ntmps12
  go_wp2
  · have hh : x.tmod n < 0 := by assumption
    go_ret
    exact ⟨ret_i64 (by rw [M.out, if_pos hh]), rfl⟩
  · have hh : 0 ≤ x.tmod n := by assumption
    go_ret
    exact ⟨ret_i64 (by rw [M.out, if_neg (by omega)]), rfl⟩
end Go.Proofs.Ytnbehigjeopniaa
