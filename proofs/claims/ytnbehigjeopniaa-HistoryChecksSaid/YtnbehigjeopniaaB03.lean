import Derived.OrdersHeld
import Derived.RegionTactic
import Derived.Laws.Tables
import Derived.Laws.MakeOwn
import Derived.Test.YtnbehigjeopniaaRows
import Derived.Test.YtnbehigjeopniaaB02
import Derived.Test.YtnbehigjeopniaaB01
set_option linter.unusedVariables false
set_option linter.unusedSimpArgs false
/- A region that draws its order: what only looks at the world may be taken first where its cells stay until operation number k comes up; k waits for it. -/
namespace Go.Proofs.Ytnbehigjeopniaa
open Go.ChangeShapes Go.WideShapes Go.ChangeAt Go.RowKit
set_option maxRecDepth 100000
section
variable {P : Program} {ops : Array Oper} {Q : Exit → Act → World → Prop} {md : Region.Mode} {S : World → Prop} {k : Nat}

/-- whatever order is picked from here on, and S holds behind each operation that comes up before number k -/
def wpAnyU (P : Program) (md : Region.Mode) (ops : Array Oper) (Q : Exit → Act → World → Prop) (S : World → Prop) (k : Nat) : Nat → Array Bool → Act → World → Prop
  | 0, listed, a, w => Region.ready md ops listed = [] ∧ Q .normal a w
  | fuel + 1, listed, a, w =>
    (Region.ready md ops listed = [] → Q .normal a w) ∧
    ∀ i ∈ Region.ready md ops listed, wpOp P ops Q i (fun a' w' => ((listed.setIfInBounds i true).getD k true = false → S w') ∧ wpAnyU P md ops Q S k fuel (listed.setIfInBounds i true) a' w') a w

theorem wpAny_of_until : ∀ (fuel : Nat) (listed : Array Bool) (a : Act) (w : World), wpAnyU P md ops Q S k fuel listed a w → wpAny P md ops Q fuel listed a w
  | 0, _, _, _, h => h
  | fuel + 1, _, _, _, h => ⟨h.1, fun i hi => wpOp_mono (fun a' w' h' => wpAny_of_until fuel _ a' w' h'.2) (h.2 i hi)⟩

/-- operation k waits for operation i -/
def waitsFor (md : Region.Mode) (ops : Array Oper) (k i : Nat) : Bool := k != i && (match ops[k]? with | some o => o.after.any (fun e => Region.binds md e && e.on == i) | none => false)
theorem waitsFor_spec {i : Nat} (h : waitsFor md ops k i = true) : k ≠ i ∧ ∃ o e, ops[k]? = some o ∧ e ∈ o.after ∧ Region.binds md e = true ∧ e.on = i := by
  simp only [waitsFor, Bool.and_eq_true, bne_iff_ne, ne_eq] at h
  obtain ⟨h1, h2⟩ := h
  refine ⟨h1, ?_⟩
  cases ho : ops[k]? with
  | none => rw [ho] at h2; cases h2
  | some o =>
    rw [ho] at h2
    simp only [Array.any_eq_true] at h2
    obtain ⟨j, hj, hh⟩ := h2
    simp only [Bool.and_eq_true, beq_iff_eq] at hh
    exact ⟨o, _, rfl, Array.getElem_mem hj, hh.1, hh.2⟩

theorem wpAnyU_first {i : Nat} {oi : Oper} {v : Value} (hi : ops[i]? = some oi) (hsel : ∀ (j : Nat) (o : Oper) cs b, ops[j]? = some o → o.op ≠ .select cs b)
    (hQ : ∀ c a w, Q (.panic c) (a.put oi.dst v) w → Q (.panic c) a w) (hk : waitsFor md ops k i = true) :
    ∀ (fuel : Nat) (listed : Array Bool) (a : Act) (w : World),
      (∀ j oj, ops[j]? = some oj → j ≠ i → listed.getD j true = false → (∀ e ∈ oj.after, Region.binds md e = true → e.on ≠ i) → oi.apart ops oj = true) →
      i ∈ Region.ready md ops listed → listed.getD k true = false → YieldsIf P ops S oi v a → S w →
      wpAnyU P md ops Q S k fuel (listed.setIfInBounds i true) (a.put oi.dst v) w → wpAnyU P md ops Q S k (fuel + 1) listed a w := by
  obtain ⟨hki, ok, ek, hok, hek, hbk, honk⟩ := waitsFor_spec hk
  intro fuel
  induction fuel with
  | zero =>
    intro listed a w _ hr _ hy hS H
    refine ⟨fun h => (by rw [h] at hr; cases hr), fun j hj => ?_⟩
    by_cases hji : j = i
    · subst hji; exact hy.wpOp hi hS ⟨fun _ => hS, H⟩
    · have := ready_mono hj hji
      rw [H.1] at this
      cases this
  | succ fuel ih =>
    intro listed a w hfree hr hkl hy hS H
    refine ⟨fun h => (by rw [h] at hr; cases hr), fun j hj => ?_⟩
    by_cases hji : j = i
    · subst hji; exact hy.wpOp hi hS ⟨fun _ => hS, H⟩
    · have h1 := H.2 j (ready_mono hj hji)
      obtain ⟨hjun, oj, hoj, hall⟩ := mem_ready.1 hj
      have hnot : ∀ e ∈ oj.after, Region.binds md e = true → e.on ≠ i := fun e he hb heq => by
        have h1 := hall e he hb
        have h0 := (mem_ready.1 hr).1
        rw [heq] at h1
        rcases Nat.lt_or_ge i listed.size with h' | h'
        · simp [h'] at h0 h1; rw [h0] at h1; cases h1
        · simp [Array.getElem?_eq_none h'] at h1
      have hjk : j ≠ k := fun e => by
        subst e
        rw [hok] at hoj
        cases hoj
        exact hnot ek hek hbk honk
      have h2 := wpOp_putIf hoj (hfree j oj hoj hji hjun hnot) (fun cs b => hsel i oi cs b hi) (fun cs b => hsel j oj cs b hoj) hQ hy h1
      have hfree' : ∀ k ok, ops[k]? = some ok → k ≠ i → (listed.setIfInBounds j true).getD k true = false →
          (∀ e ∈ ok.after, Region.binds md e = true → e.on ≠ i) → oi.apart ops ok = true := fun k ok hk hki hun hno => by
        refine hfree k ok hk hki ?_ hno
        by_cases hjk : j = k
        · subst hjk; exact hjun
        · rw [getD_set_ne true hjk] at hun; exact hun
      have hkj : (listed.setIfInBounds j true).getD k true = false := by rw [getD_set_ne true hjk]; exact hkl
      have hkij : ((listed.setIfInBounds i true).setIfInBounds j true).getD k true = false := by rw [getD_set_ne true hjk, getD_set_ne true (Ne.symm hki)]; exact hkl
      refine wpOp_mono (fun a' w' h3 => ⟨fun _ => h3.2.1 hkij, ih (listed.setIfInBounds j true) a' w' hfree' (ready_mono hr (Ne.symm hji)) hkj h3.1 (h3.2.1 hkij) ?_⟩) h2
      rw [Array.setIfInBounds_comm _ _ hji]
      exact h3.2.2

/-- what yields in whatever world may be taken first -/
theorem wpAnyU_firstW {i : Nat} {oi : Oper} {v : Value} (hi : ops[i]? = some oi) (hsel : ∀ (j : Nat) (o : Oper) cs b, ops[j]? = some o → o.op ≠ .select cs b)
    (hQ : ∀ c a w, Q (.panic c) (a.put oi.dst v) w → Q (.panic c) a w) (hki : k ≠ i) :
    ∀ (fuel : Nat) (listed : Array Bool) (a : Act) (w : World),
      (∀ j oj, ops[j]? = some oj → j ≠ i → listed.getD j true = false → (∀ e ∈ oj.after, Region.binds md e = true → e.on ≠ i) → oi.apart ops oj = true) →
      i ∈ Region.ready md ops listed → YieldsIf P ops (fun _ => True) oi v a → (listed.getD k true = false → S w) →
      wpAnyU P md ops Q S k fuel (listed.setIfInBounds i true) (a.put oi.dst v) w → wpAnyU P md ops Q S k (fuel + 1) listed a w := by
  have hkk : ∀ l : Array Bool, (l.setIfInBounds i true).getD k true = l.getD k true := fun l => getD_set_ne true (Ne.symm hki)
  intro fuel
  induction fuel with
  | zero =>
    intro listed a w _ hr hy hS H
    refine ⟨fun h => (by rw [h] at hr; cases hr), fun j hj => ?_⟩
    by_cases hji : j = i
    · subst hji; exact hy.wpOp hi trivial ⟨by rw [hkk]; exact hS, H⟩
    · have := ready_mono hj hji
      rw [H.1] at this
      cases this
  | succ fuel ih =>
    intro listed a w hfree hr hy hS H
    refine ⟨fun h => (by rw [h] at hr; cases hr), fun j hj => ?_⟩
    by_cases hji : j = i
    · subst hji; exact hy.wpOp hi trivial ⟨by rw [hkk]; exact hS, H⟩
    · have h1 := H.2 j (ready_mono hj hji)
      obtain ⟨hjun, oj, hoj, hall⟩ := mem_ready.1 hj
      have hnot : ∀ e ∈ oj.after, Region.binds md e = true → e.on ≠ i := fun e he hb heq => by
        have h1 := hall e he hb
        have h0 := (mem_ready.1 hr).1
        rw [heq] at h1
        rcases Nat.lt_or_ge i listed.size with h' | h'
        · simp [h'] at h0 h1; rw [h0] at h1; cases h1
        · simp [Array.getElem?_eq_none h'] at h1
      have h2 := wpOp_putIf hoj (hfree j oj hoj hji hjun hnot) (fun cs b => hsel i oi cs b hi) (fun cs b => hsel j oj cs b hoj) hQ hy h1
      have hfree' : ∀ k ok, ops[k]? = some ok → k ≠ i → (listed.setIfInBounds j true).getD k true = false →
          (∀ e ∈ ok.after, Region.binds md e = true → e.on ≠ i) → oi.apart ops ok = true := fun k ok hk hki hun hno => by
        refine hfree k ok hk hki ?_ hno
        by_cases hjk : j = k
        · subst hjk; exact hjun
        · rw [getD_set_ne true hjk] at hun; exact hun
      have hc := Array.setIfInBounds_comm (xs := listed) true true hji
      refine wpOp_mono (fun a' w' h3 => ?_) h2
      have h4 : (listed.setIfInBounds j true).getD k true = false → S w' := fun h0 => h3.2.1 (by rw [← hc, hkk]; exact h0)
      refine ⟨h4, ih (listed.setIfInBounds j true) a' w' hfree' (ready_mono hr (Ne.symm hji)) h3.1 h4 ?_⟩
      rw [hc]
      exact h3.2.2

/-- a place in a list that is written out -/
inductive ListAt {α : Type} : List α → Nat → α → Prop
  | zero {x : α} {l : List α} : ListAt (x :: l) 0 x
  | succ {x y : α} {l : List α} {n : Nat} (h : ListAt l n x) : ListAt (y :: l) (n + 1) x
theorem ListAt.get {α : Type} {l : List α} {n : Nat} {x : α} (h : ListAt l n x) : l.toArray[n]? = some x := by
  induction h with
  | zero => simp
  | succ h ih => simpa using ih

/-- take number i first -/
theorem wpAnyU_take {l : List Oper} (i : Nat) {oi : Oper} {v : Value} {fuel : Nat} {listed : Array Bool} {a : Act} {w : World} (hi : ListAt l i oi)
    (hs : Region.noSelect l.toArray = true) (hf : Region.free md l.toArray listed i = true) (hr : (Region.ready md l.toArray listed).contains i = true) (hk : waitsFor md l.toArray k i = true) (hkl : listed.getD k true = false)
    (hQ : ∀ c a w, Q (.panic c) (a.put oi.dst v) w → Q (.panic c) a w) (hS : S w) (hg : oi.guard = none) (hy : ∀ w, S w → (execOp a.eval oi).run P w = .ok (.value v) w)
    (h : wpAnyU P md l.toArray Q S k fuel (listed.setIfInBounds i true) (a.put oi.dst v) w) : wpAnyU P md l.toArray Q S k (fuel + 1) listed a w :=
  wpAnyU_first hi.get (Region.noSelect_spec hs) hQ hk fuel listed a w (Region.free_spec hi.get hf) (by simpa using hr) hkl (.inl ⟨by simp [Region.wanted, hg], hy⟩) hS h

/-- take number i first: it yields in whatever world -/
theorem wpAnyU_takeW {l : List Oper} (i : Nat) {oi : Oper} {v : Value} {fuel : Nat} {listed : Array Bool} {a : Act} {w : World} (hi : ListAt l i oi)
    (hs : Region.noSelect l.toArray = true) (hf : Region.free md l.toArray listed i = true) (hr : (Region.ready md l.toArray listed).contains i = true) (hk : (k != i) = true)
    (hQ : ∀ c a w, Q (.panic c) (a.put oi.dst v) w → Q (.panic c) a w) (hS : listed.getD k true = false → S w) (hg : oi.guard = none) (hy : ∀ w, (execOp a.eval oi).run P w = .ok (.value v) w)
    (h : wpAnyU P md l.toArray Q S k fuel (listed.setIfInBounds i true) (a.put oi.dst v) w) : wpAnyU P md l.toArray Q S k (fuel + 1) listed a w :=
  wpAnyU_firstW hi.get (Region.noSelect_spec hs) hQ (by simpa using hk) fuel listed a w (Region.free_spec hi.get hf) (by simpa using hr) (.inl ⟨by simp [Region.wanted, hg], fun w _ => hy w⟩) hS h
/-- behind number k S is not asked -/
theorem past_k {S : Prop} {l : Array Bool} {k : Nat} (h : l.getD k true = true) : l.getD k true = false → S := fun h0 => by rw [h] at h0; cases h0

def AllReadyU (P : Program) (md : Region.Mode) (ops : Array Oper) (Q : Exit → Act → World → Prop) (S : World → Prop) (k fuel : Nat) (listed : Array Bool) (a : Act) (w : World) (rs : List Nat) : Prop :=
  ∀ i ∈ rs, wpOp P ops Q i (fun a' w' => ((listed.setIfInBounds i true).getD k true = false → S w') ∧ wpAnyU P md ops Q S k fuel (listed.setIfInBounds i true) a' w') a w
theorem AllReadyU.nil {fuel : Nat} {listed : Array Bool} {a : Act} {w : World} : AllReadyU P md ops Q S k fuel listed a w [] := fun _ h => by cases h

/-- a hypothesis that no tactic looks into -/
def ShutU (p : Prop) : Prop := p
theorem ShutU.out {p : Prop} (h : ShutU p) : p := h

/-- number i comes up; behind it S is shown -/
theorem AllReadyU.cons {l : List Oper} {fuel : Nat} {listed : Array Bool} {a : Act} {w : World} {i : Nat} {o : Oper} {rs : List Nat} (ho : ListAt l i o) (hg : o.guard = none)
    (h : ∀ K' : Act → World → Prop, ShutU (∀ a w, S w → (S w → wpAnyU P md l.toArray Q S k fuel (listed.setIfInBounds i true) a w) → K' a w) → if Region.wanted o (yielded l.toArray a.tmps) = true then Oper.wp P o a w K' Q else K' (a.put o.dst undef) w)
    (hs : AllReadyU P md l.toArray Q S k fuel listed a w rs) : AllReadyU P md l.toArray Q S k fuel listed a w (i :: rs) := fun j hj => by
  rcases List.mem_cons.1 hj with rfl | hj
  · exact wpOp_step ho.get (fun K' hK => h K' (fun a w hS hW => hK a w ⟨fun _ => hS, hW hS⟩))
  · exact hs j hj
/-- number i comes up, k itself or behind k: S is not asked any more -/
theorem AllReadyU.free {l : List Oper} {fuel : Nat} {listed : Array Bool} {a : Act} {w : World} {i : Nat} {o : Oper} {rs : List Nat} (ho : ListAt l i o) (hg : o.guard = none)
    (hk : (listed.setIfInBounds i true).getD k true = true)
    (h : ∀ K' : Act → World → Prop, ShutU (∀ a w, wpAnyU P md l.toArray Q S k fuel (listed.setIfInBounds i true) a w → K' a w) → if Region.wanted o (yielded l.toArray a.tmps) = true then Oper.wp P o a w K' Q else K' (a.put o.dst undef) w)
    (hs : AllReadyU P md l.toArray Q S k fuel listed a w rs) : AllReadyU P md l.toArray Q S k fuel listed a w (i :: rs) := fun j hj => by
  rcases List.mem_cons.1 hj with rfl | hj
  · exact wpOp_step ho.get (fun K' hK => h K' (fun a w hW => hK a w ⟨fun h0 => (by rw [hk] at h0; cases h0), hW⟩))
  · exact hs j hj

theorem wpAnyU_ready {rs : List Nat} {fuel : Nat} {listed : Array Bool} {a : Act} {w : World} (hr : Region.ready md ops listed = rs) (hne : rs.isEmpty = false)
    (h : AllReadyU P md ops Q S k fuel listed a w rs) : wpAnyU P md ops Q S k (fuel + 1) listed a w :=
  by
  refine ⟨fun h0 => ?_, ?_⟩
  · rw [hr] at h0
    subst h0
    cases hne
  · rw [hr]
    exact h
theorem wpAnyU_done {listed : Array Bool} {a : Act} {w : World} (hr : Region.ready md ops listed = []) (h : Q .normal a w) :
    ∀ fuel, wpAnyU P md ops Q S k fuel listed a w
  | 0 => ⟨hr, h⟩
  | _ + 1 => ⟨fun _ => h, by rw [hr]; simp⟩
/-- the beginning -/
theorem wp_region_until (S : World → Prop) (k : Nat) {l : List Oper} (n : Nat) {id : Nat} {a : Act} {w : World} (hm : P.follows .mixedOrders = true) (hn : l.toArray.size = n)
    (h : wpAnyU P .any l.toArray Q S k n (Array.replicate n false) a w.drew) : (Code.region id l.toArray true).wp P Q a w := by
  subst hn
  exact wp_region_any hm (wpAny_of_until _ _ _ _ h)
end
theorem la0 {α : Type} {x : α} {l : List α} : ListAt (x :: l) 0 x := .zero
theorem la1 {α : Type} {x y0 : α} {l : List α} : ListAt (y0 :: x :: l) 1 x := .succ la0
theorem la2 {α : Type} {x y0 y1 : α} {l : List α} : ListAt (y0 :: y1 :: x :: l) 2 x := .succ la1
theorem la3 {α : Type} {x y0 y1 y2 : α} {l : List α} : ListAt (y0 :: y1 :: y2 :: x :: l) 3 x := .succ la2
theorem la4 {α : Type} {x y0 y1 y2 y3 : α} {l : List α} : ListAt (y0 :: y1 :: y2 :: y3 :: x :: l) 4 x := .succ la3
theorem la5 {α : Type} {x y0 y1 y2 y3 y4 : α} {l : List α} : ListAt (y0 :: y1 :: y2 :: y3 :: y4 :: x :: l) 5 x := .succ la4
theorem la6 {α : Type} {x y0 y1 y2 y3 y4 y5 : α} {l : List α} : ListAt (y0 :: y1 :: y2 :: y3 :: y4 :: y5 :: x :: l) 6 x := .succ la5
theorem la7 {α : Type} {x y0 y1 y2 y3 y4 y5 y6 : α} {l : List α} : ListAt (y0 :: y1 :: y2 :: y3 :: y4 :: y5 :: y6 :: x :: l) 7 x := .succ la6
theorem la8 {α : Type} {x y0 y1 y2 y3 y4 y5 y6 y7 : α} {l : List α} : ListAt (y0 :: y1 :: y2 :: y3 :: y4 :: y5 :: y6 :: y7 :: x :: l) 8 x := .succ la7
theorem la9 {α : Type} {x y0 y1 y2 y3 y4 y5 y6 y7 y8 : α} {l : List α} : ListAt (y0 :: y1 :: y2 :: y3 :: y4 :: y5 :: y6 :: y7 :: y8 :: x :: l) 9 x := .succ la8
theorem la10 {α : Type} {x y0 y1 y2 y3 y4 y5 y6 y7 y8 y9 : α} {l : List α} : ListAt (y0 :: y1 :: y2 :: y3 :: y4 :: y5 :: y6 :: y7 :: y8 :: y9 :: x :: l) 10 x := .succ la9
theorem la11 {α : Type} {x y0 y1 y2 y3 y4 y5 y6 y7 y8 y9 y10 : α} {l : List α} : ListAt (y0 :: y1 :: y2 :: y3 :: y4 :: y5 :: y6 :: y7 :: y8 :: y9 :: y10 :: x :: l) 11 x := .succ la10
theorem la12 {α : Type} {x y0 y1 y2 y3 y4 y5 y6 y7 y8 y9 y10 y11 : α} {l : List α} : ListAt (y0 :: y1 :: y2 :: y3 :: y4 :: y5 :: y6 :: y7 :: y8 :: y9 :: y10 :: y11 :: x :: l) 12 x := .succ la11
theorem la13 {α : Type} {x y0 y1 y2 y3 y4 y5 y6 y7 y8 y9 y10 y11 y12 : α} {l : List α} : ListAt (y0 :: y1 :: y2 :: y3 :: y4 :: y5 :: y6 :: y7 :: y8 :: y9 :: y10 :: y11 :: y12 :: x :: l) 13 x := .succ la12
theorem la14 {α : Type} {x y0 y1 y2 y3 y4 y5 y6 y7 y8 y9 y10 y11 y12 y13 : α} {l : List α} : ListAt (y0 :: y1 :: y2 :: y3 :: y4 :: y5 :: y6 :: y7 :: y8 :: y9 :: y10 :: y11 :: y12 :: y13 :: x :: l) 14 x := .succ la13
theorem la15 {α : Type} {x y0 y1 y2 y3 y4 y5 y6 y7 y8 y9 y10 y11 y12 y13 y14 : α} {l : List α} : ListAt (y0 :: y1 :: y2 :: y3 :: y4 :: y5 :: y6 :: y7 :: y8 :: y9 :: y10 :: y11 :: y12 :: y13 :: y14 :: x :: l) 15 x := .succ la14
theorem la16 {α : Type} {x y0 y1 y2 y3 y4 y5 y6 y7 y8 y9 y10 y11 y12 y13 y14 y15 : α} {l : List α} : ListAt (y0 :: y1 :: y2 :: y3 :: y4 :: y5 :: y6 :: y7 :: y8 :: y9 :: y10 :: y11 :: y12 :: y13 :: y14 :: y15 :: x :: l) 16 x := .succ la15
theorem la17 {α : Type} {x y0 y1 y2 y3 y4 y5 y6 y7 y8 y9 y10 y11 y12 y13 y14 y15 y16 : α} {l : List α} : ListAt (y0 :: y1 :: y2 :: y3 :: y4 :: y5 :: y6 :: y7 :: y8 :: y9 :: y10 :: y11 :: y12 :: y13 :: y14 :: y15 :: y16 :: x :: l) 17 x := .succ la16
theorem la18 {α : Type} {x y0 y1 y2 y3 y4 y5 y6 y7 y8 y9 y10 y11 y12 y13 y14 y15 y16 y17 : α} {l : List α} : ListAt (y0 :: y1 :: y2 :: y3 :: y4 :: y5 :: y6 :: y7 :: y8 :: y9 :: y10 :: y11 :: y12 :: y13 :: y14 :: y15 :: y16 :: y17 :: x :: l) 18 x := .succ la17
theorem la19 {α : Type} {x y0 y1 y2 y3 y4 y5 y6 y7 y8 y9 y10 y11 y12 y13 y14 y15 y16 y17 y18 : α} {l : List α} : ListAt (y0 :: y1 :: y2 :: y3 :: y4 :: y5 :: y6 :: y7 :: y8 :: y9 :: y10 :: y11 :: y12 :: y13 :: y14 :: y15 :: y16 :: y17 :: y18 :: x :: l) 19 x := .succ la18
theorem la20 {α : Type} {x y0 y1 y2 y3 y4 y5 y6 y7 y8 y9 y10 y11 y12 y13 y14 y15 y16 y17 y18 y19 : α} {l : List α} : ListAt (y0 :: y1 :: y2 :: y3 :: y4 :: y5 :: y6 :: y7 :: y8 :: y9 :: y10 :: y11 :: y12 :: y13 :: y14 :: y15 :: y16 :: y17 :: y18 :: y19 :: x :: l) 20 x := .succ la19
theorem la21 {α : Type} {x y0 y1 y2 y3 y4 y5 y6 y7 y8 y9 y10 y11 y12 y13 y14 y15 y16 y17 y18 y19 y20 : α} {l : List α} : ListAt (y0 :: y1 :: y2 :: y3 :: y4 :: y5 :: y6 :: y7 :: y8 :: y9 :: y10 :: y11 :: y12 :: y13 :: y14 :: y15 :: y16 :: y17 :: y18 :: y19 :: y20 :: x :: l) 21 x := .succ la20
theorem la22 {α : Type} {x y0 y1 y2 y3 y4 y5 y6 y7 y8 y9 y10 y11 y12 y13 y14 y15 y16 y17 y18 y19 y20 y21 : α} {l : List α} : ListAt (y0 :: y1 :: y2 :: y3 :: y4 :: y5 :: y6 :: y7 :: y8 :: y9 :: y10 :: y11 :: y12 :: y13 :: y14 :: y15 :: y16 :: y17 :: y18 :: y19 :: y20 :: y21 :: x :: l) 22 x := .succ la21
theorem la23 {α : Type} {x y0 y1 y2 y3 y4 y5 y6 y7 y8 y9 y10 y11 y12 y13 y14 y15 y16 y17 y18 y19 y20 y21 y22 : α} {l : List α} : ListAt (y0 :: y1 :: y2 :: y3 :: y4 :: y5 :: y6 :: y7 :: y8 :: y9 :: y10 :: y11 :: y12 :: y13 :: y14 :: y15 :: y16 :: y17 :: y18 :: y19 :: y20 :: y21 :: y22 :: x :: l) 23 x := .succ la22
theorem la24 {α : Type} {x y0 y1 y2 y3 y4 y5 y6 y7 y8 y9 y10 y11 y12 y13 y14 y15 y16 y17 y18 y19 y20 y21 y22 y23 : α} {l : List α} : ListAt (y0 :: y1 :: y2 :: y3 :: y4 :: y5 :: y6 :: y7 :: y8 :: y9 :: y10 :: y11 :: y12 :: y13 :: y14 :: y15 :: y16 :: y17 :: y18 :: y19 :: y20 :: y21 :: y22 :: y23 :: x :: l) 24 x := .succ la23
theorem la25 {α : Type} {x y0 y1 y2 y3 y4 y5 y6 y7 y8 y9 y10 y11 y12 y13 y14 y15 y16 y17 y18 y19 y20 y21 y22 y23 y24 : α} {l : List α} : ListAt (y0 :: y1 :: y2 :: y3 :: y4 :: y5 :: y6 :: y7 :: y8 :: y9 :: y10 :: y11 :: y12 :: y13 :: y14 :: y15 :: y16 :: y17 :: y18 :: y19 :: y20 :: y21 :: y22 :: y23 :: y24 :: x :: l) 25 x := .succ la24
theorem la26 {α : Type} {x y0 y1 y2 y3 y4 y5 y6 y7 y8 y9 y10 y11 y12 y13 y14 y15 y16 y17 y18 y19 y20 y21 y22 y23 y24 y25 : α} {l : List α} : ListAt (y0 :: y1 :: y2 :: y3 :: y4 :: y5 :: y6 :: y7 :: y8 :: y9 :: y10 :: y11 :: y12 :: y13 :: y14 :: y15 :: y16 :: y17 :: y18 :: y19 :: y20 :: y21 :: y22 :: y23 :: y24 :: y25 :: x :: l) 26 x := .succ la25
theorem la27 {α : Type} {x y0 y1 y2 y3 y4 y5 y6 y7 y8 y9 y10 y11 y12 y13 y14 y15 y16 y17 y18 y19 y20 y21 y22 y23 y24 y25 y26 : α} {l : List α} : ListAt (y0 :: y1 :: y2 :: y3 :: y4 :: y5 :: y6 :: y7 :: y8 :: y9 :: y10 :: y11 :: y12 :: y13 :: y14 :: y15 :: y16 :: y17 :: y18 :: y19 :: y20 :: y21 :: y22 :: y23 :: y24 :: y25 :: y26 :: x :: l) 27 x := .succ la26
theorem la28 {α : Type} {x y0 y1 y2 y3 y4 y5 y6 y7 y8 y9 y10 y11 y12 y13 y14 y15 y16 y17 y18 y19 y20 y21 y22 y23 y24 y25 y26 y27 : α} {l : List α} : ListAt (y0 :: y1 :: y2 :: y3 :: y4 :: y5 :: y6 :: y7 :: y8 :: y9 :: y10 :: y11 :: y12 :: y13 :: y14 :: y15 :: y16 :: y17 :: y18 :: y19 :: y20 :: y21 :: y22 :: y23 :: y24 :: y25 :: y26 :: y27 :: x :: l) 28 x := .succ la27
theorem la29 {α : Type} {x y0 y1 y2 y3 y4 y5 y6 y7 y8 y9 y10 y11 y12 y13 y14 y15 y16 y17 y18 y19 y20 y21 y22 y23 y24 y25 y26 y27 y28 : α} {l : List α} : ListAt (y0 :: y1 :: y2 :: y3 :: y4 :: y5 :: y6 :: y7 :: y8 :: y9 :: y10 :: y11 :: y12 :: y13 :: y14 :: y15 :: y16 :: y17 :: y18 :: y19 :: y20 :: y21 :: y22 :: y23 :: y24 :: y25 :: y26 :: y27 :: y28 :: x :: l) 29 x := .succ la28
theorem la30 {α : Type} {x y0 y1 y2 y3 y4 y5 y6 y7 y8 y9 y10 y11 y12 y13 y14 y15 y16 y17 y18 y19 y20 y21 y22 y23 y24 y25 y26 y27 y28 y29 : α} {l : List α} : ListAt (y0 :: y1 :: y2 :: y3 :: y4 :: y5 :: y6 :: y7 :: y8 :: y9 :: y10 :: y11 :: y12 :: y13 :: y14 :: y15 :: y16 :: y17 :: y18 :: y19 :: y20 :: y21 :: y22 :: y23 :: y24 :: y25 :: y26 :: y27 :: y28 :: y29 :: x :: l) 30 x := .succ la29
/-- what a look needs of the order: decided in one -/
def looksOk (md : Region.Mode) (ops : Array Oper) (k i : Nat) (listed : Array Bool) : Bool := Region.noSelect ops && (Region.free md ops listed i && ((Region.ready md ops listed).contains i && (waitsFor md ops k i && !(listed.getD k true))))
theorem tkU {P : Program} {Q : Exit → Act → World → Prop} {md : Region.Mode} {S : World → Prop} {k : Nat} {l : List Oper} (i : Nat) {oi : Oper} {v : Value} {fuel : Nat} {listed : Array Bool} {a : Act} {w : World} (hi : ListAt l i oi) (hS : S w)
    (hc : looksOk md l.toArray k i listed = true) (hQ : ∀ c a w, Q (.panic c) (a.put oi.dst v) w → Q (.panic c) a w) (hg : oi.guard = none)
    (hy : ∀ w, S w → (execOp a.eval oi).run P w = .ok (.value v) w) (h : wpAnyU P md l.toArray Q S k fuel (listed.setIfInBounds i true) (a.put oi.dst v) w) : wpAnyU P md l.toArray Q S k (fuel + 1) listed a w := by
  unfold looksOk at hc
  simp only [Bool.and_eq_true, Bool.not_eq_true'] at hc
  exact wpAnyU_take i hi hc.1 hc.2.1 hc.2.2.1 hc.2.2.2.1 hc.2.2.2.2 hQ hS hg hy h
theorem untilK {P : Program} {Q : Exit → Act → World → Prop} {S : World → Prop} {W0 : World} (hK : Hid (∀ w', Below W0.heap.size W0 w' → S w')) (k n : Nat) {l : List Oper} {id : Nat} {a : Act} {w : World}
    (hm : P.follows .mixedOrders = true) (hn : l.toArray.size = n) (h : wpAnyU P .any l.toArray Q S k n (Array.replicate n false) a w.drew) : (Code.region id l.toArray true).wp P Q a w := wp_region_until S k n hm hn h
/-- a whole struct is stored, at a step of a region -/
theorem step_store_row {P : Program} {ops : Array Oper} {Q : Exit → Act → World → Prop} {o : Oper} {a : Act} {w : World} {K : Act → World → Prop} {E : Prop} (hgd : o.guard = none) (ty : TypeId) (x y : Operand) (ho : o.op = .store ty x y)
    (g : Nat) (cells : Array Value) (hx : a.eval x = .pointer (some ⟨g, 0, none⟩)) (hy : a.eval y = .agg cells)
    (t : TypeId) (old : Array Value) (hg : w.heap[g]? = some (.cells old t (0, 0))) (hi : (P.info? ty).map (·.size) = some cells.size)
    (hold : old.size = cells.size) (h1 : cells.all (·.oneCell') = true)
    (h : K (a.put o.dst undef) (w.setRow g cells)) : if Region.wanted o (yielded ops a.tmps) = true then Oper.wp P o a w K Q else E := by
  rw [if_pos (by simp [Region.wanted, hgd])]
  exact wp_store_row ty x y ho g cells hx hy t old hg hi hold h1 h
/-- a new block, by names -/
theorem alloc_pack (w : World) (o : Obj) : ∃ (w' : World) (b : Nat), w.alloc o = w' ∧ w.heap.size = b ∧ Hid (w'.heap[b]? = some o) ∧ Hid (Below w.heap.size w w') ∧ Hid (b < w'.heap.size) :=
  ⟨w.alloc o, w.heap.size, rfl, rfl, (by show (w.heap.push o)[w.heap.size]? = some o; exact Array.getElem?_push_size), below_new (Below.refl _ _) _, (by show w.heap.size < (w.heap.push o).size; rw [Array.size_push]; omega)⟩
theorem drew_pack (w : World) : ∃ u : World, w.drew = u ∧ Hid (Below w.heap.size w u) := ⟨_, rfl, below_drewN (Below.refl _ _) 1⟩
theorem OwnI.made {w : World} {base X n : Nat} {e : TypeId} {k : IntKind} (h : w.heap[X]? = some (.cells (madeCells #[.int k 0] n) e (0, 0))) (hb : base ≤ X) (hn : n ≤ 1000000) : OwnI w base e k (.slice (some ⟨X, 0, none⟩) n n) (List.replicate n 0) := by
  have hm : n ≤ maxLen := by unfold maxLen; omega
  refine ⟨by rw [List.length_map, Nat.mul_one], .inr ⟨X, n, _, by rw [List.length_replicate], hb, h, by rw [List.length_replicate]; exact Nat.le_refl _, hm, by rw [size_madeCells, Nat.mul_one], ?_⟩⟩
  rw [toList_madeCells_one, List.length_replicate, Nat.mul_one, List.map_replicate, List.take_of_length_le (by rw [List.length_replicate]; exact Nat.le_refl _)]
theorem ownsRow_made {w : World} {base X n : Nat} {e : TypeId} {z : Value} (h : w.heap[X]? = some (.cells (madeCells #[z] n) e (0, 0))) (hb : base ≤ X) (hn : n ≤ 1000000) : w.ownsRow base e 1 (.slice (some ⟨X, 0, none⟩) n n) n (List.replicate n z) := by
  have hm : n ≤ maxLen := by unfold maxLen; omega
  refine ⟨by rw [List.length_replicate, Nat.mul_one], .inr ⟨X, n, _, rfl, hb, h, Nat.le_refl _, hm, by rw [size_madeCells, Nat.mul_one], ?_⟩⟩
  rw [toList_madeCells_one, Nat.mul_one, List.take_of_length_le (by rw [List.length_replicate]; exact Nat.le_refl _)]
end Go.Proofs.Ytnbehigjeopniaa
/- The shared memory, plainly: what an access makes of it. And how a memory reads. -/
namespace Go.Proofs.Ytnbehigjeopniaa
open Go.ChangeShapes Go.WideShapes Go.ChangeAt Go.RowKit
set_option maxRecDepth 100000

theorem rowc3 {w : World} {g : Nat} {T : TypeId} {v0 v1 v2 : Value} (h : w.heap[g]? = some (.cells #[v0, v1, v2] T (0, 0))) :
    w.cell? ⟨g, 0, none⟩ = some v0 ∧ w.cell? ⟨g, 1, none⟩ = some v1 ∧ w.cell? ⟨g, 2, none⟩ = some v2 :=
  ⟨cell_of_row _ _ 0 _ _ _ h, cell_of_row _ _ 1 _ _ _ h, cell_of_row _ _ 2 _ _ _ h⟩
theorem rowc4 {w : World} {g : Nat} {T : TypeId} {v0 v1 v2 v3 : Value} (h : w.heap[g]? = some (.cells #[v0, v1, v2, v3] T (0, 0))) :
    w.cell? ⟨g, 0, none⟩ = some v0 ∧ w.cell? ⟨g, 1, none⟩ = some v1 ∧ w.cell? ⟨g, 2, none⟩ = some v2 ∧ w.cell? ⟨g, 3, none⟩ = some v3 :=
  ⟨cell_of_row _ _ 0 _ _ _ h, cell_of_row _ _ 1 _ _ _ h, cell_of_row _ _ 2 _ _ _ h, cell_of_row _ _ 3 _ _ _ h⟩
theorem rowc5 {w : World} {g : Nat} {T : TypeId} {v0 v1 v2 v3 v4 : Value} (h : w.heap[g]? = some (.cells #[v0, v1, v2, v3, v4] T (0, 0))) :
    w.cell? ⟨g, 0, none⟩ = some v0 ∧ w.cell? ⟨g, 1, none⟩ = some v1 ∧ w.cell? ⟨g, 2, none⟩ = some v2 ∧ w.cell? ⟨g, 3, none⟩ = some v3 ∧ w.cell? ⟨g, 4, none⟩ = some v4 :=
  ⟨cell_of_row _ _ 0 _ _ _ h, cell_of_row _ _ 1 _ _ _ h, cell_of_row _ _ 2 _ _ _ h, cell_of_row _ _ 3 _ _ _ h, cell_of_row _ _ 4 _ _ _ h⟩
theorem row_grown (w : World) (g : Nat) (cs : Array Value) : w.grownBy (w.setRow g cs) (some g) :=
  ⟨rfl, rfl, rfl, by simp [World.setRow], fun k _ hk => setRow_other w g k cs (fun e => hk (by rw [e]))⟩
theorem row_below {B g : Nat} {a w : World} (h : Below B a w) (hB : B ≤ g) (cs : Array Value) : Below B a (w.setRow g cs) :=
  ⟨h.os, h.tape, h.output, by simpa [World.setRow] using h.size, fun k hk => (setRow_other w g k cs (by omega)).trans (h.block k hk)⟩
theorem grown_below {a b : World} {row : Option Nat} (h : Below a.heap.size a b) : a.grownBy b row := ⟨h.os, h.tape, h.output, h.size, fun j hj _ => h.block j hj⟩
structure MemM where
  words : List Int
  lists : List (List Int)
  tick : Int
structure AccM where
  kind : Int
  addr : Int
  old : Int
  new : Int
  til : Int
structure AnsM where
  val : Int
  ok : Bool
  late : Bool
  list : List Int
def ansZ : AnsM := ⟨0, false, false, []⟩
def hasB (n : Nat) (a : Int) : Bool := decide (0 ≤ a) && decide (a < n)
def comeB (t til : Int) : Bool := decide (0 < til) && decide (til - 1 ≤ t)
def grantB (m : MemM) (a : AccM) : Bool :=
  if a.kind = 4 then !hasB m.words.length a.addr || m.words.getD a.addr.toNat 0 != a.old || comeB m.tick a.til
  else decide (1 ≤ a.kind) && decide (a.kind ≤ 9)
/-- the list that an Add or a Drop leaves -/
def nextL (k x : Int) (l : List Int) : List Int := if k = 8 then (if l.length < 1000 then l ++ [x] else l) else l.erase x
def listE (m : MemM) (a : AccM) : MemM × AnsM :=
  if hasB m.lists.length a.addr = false then (m, ansZ) else
  if a.kind = 7 then (m, ⟨0, false, false, m.lists.getD a.addr.toNat []⟩) else
  (⟨m.words, m.lists.set a.addr.toNat (nextL a.kind (IntKind.i64.wrap a.new) (m.lists.getD a.addr.toNat [])), m.tick⟩, ⟨(nextL a.kind (IntKind.i64.wrap a.new) (m.lists.getD a.addr.toNat [])).length, false, false, []⟩)
def wordE (m : MemM) (a : AccM) : MemM × AnsM :=
  if hasB m.words.length a.addr = false then (m, ansZ) else
  if a.kind = 2 ∨ a.kind = 6 then (⟨m.words.set a.addr.toNat a.new, m.lists, m.tick⟩, ansZ) else
  if a.kind = 3 then (if m.words.getD a.addr.toNat 0 = a.old then (⟨m.words.set a.addr.toNat a.new, m.lists, m.tick⟩, ⟨m.words.getD a.addr.toNat 0, true, false, []⟩) else (m, ⟨m.words.getD a.addr.toNat 0, false, false, []⟩)) else
  if a.kind = 4 then (m, ⟨m.words.getD a.addr.toNat 0, false, m.words.getD a.addr.toNat 0 == a.old, []⟩)
  else (m, ⟨m.words.getD a.addr.toNat 0, false, false, []⟩)
def applyE (m : MemM) (a : AccM) : MemM × AnsM × Bool :=
  if grantB m a = false then (m, ansZ, false) else
  if 7 ≤ a.kind then ((listE m a).1, (listE m a).2, true) else ((wordE m a).1, (wordE m a).2, true)
def tickE (m : MemM) (n : Int) : MemM := if n < 1 then m else ⟨m.words, m.lists, min (m.tick + n) 1099511627776⟩
/-- a memory of a modest size -/
structure MemM.fits (m : MemM) : Prop where
  words : m.words.length ≤ 100000
  lists : m.lists.length ≤ 100000
  each : ∀ t, (m.lists.getD t []).length ≤ 100000
  wf : ∀ x ∈ m.words, x = IntKind.u64.wrap x
  tick : m.tick = IntKind.i64.wrap m.tick
structure AccM.ok (a : AccM) : Prop where
  kind : a.kind = IntKind.i64.wrap a.kind
  addr : a.addr = IntKind.i64.wrap a.addr
  old : a.old = IntKind.u64.wrap a.old
  new : a.new = IntKind.u64.wrap a.new
  til : a.til = IntKind.i64.wrap a.til
theorem nextL_length (k x : Int) (l : List Int) (h : l.length ≤ 100000) : (nextL k x l).length ≤ 100000 := by
  unfold nextL
  split
  · split
    · simp; omega
    · exact h
  · exact Nat.le_trans (List.length_erase_le ..) h
theorem getD_setL {α : Type} (l : List α) (i t : Nat) (x d : α) : (l.set i x).getD t d = if i = t ∧ t < l.length then x else l.getD t d := by
  simp only [List.getD_eq_getElem?_getD, List.getElem?_set]
  by_cases h : i = t
  · subst h
    by_cases h2 : i < l.length
    · simp [h2]
    · simp [h2]
  · simp [h]
theorem fits_set {m : MemM} (h : m.fits) (i : Nat) (l : List Int) (hl : l.length ≤ 100000) : MemM.fits ⟨m.words, m.lists.set i l, m.tick⟩ := by
  refine ⟨h.words, by simpa using h.lists, fun t => ?_, h.wf, h.tick⟩
  show ((m.lists.set i l).getD t []).length ≤ _
  rw [getD_setL]
  split
  · exact hl
  · exact h.each t
theorem fits_put {m : MemM} (h : m.fits) (i : Nat) (x : Int) (hx : x = IntKind.u64.wrap x) : MemM.fits ⟨m.words.set i x, m.lists, m.tick⟩ := by
  refine ⟨by simpa using h.words, h.lists, h.each, fun y hy => ?_, h.tick⟩
  rcases List.mem_or_eq_of_mem_set hy with hy | rfl
  · exact h.wf y hy
  · exact hx
theorem fits_apply {m : MemM} {a : AccM} (h : m.fits) (ha : a.ok) : (applyE m a).1.fits := by
  unfold applyE
  split
  · exact h
  · split
    · unfold listE
      split
      · exact h
      · split
        · exact h
        · exact fits_set h _ _ (nextL_length _ _ _ (h.each _))
    · unfold wordE
      split
      · exact h
      · split
        · exact fits_put h _ _ ha.new
        · split
          · split
            · exact fits_put h _ _ ha.new
            · exact h
          · split <;> exact h
/-- The slice value v reads in w as the list us of slices, which read as the lists ll of numbers. -/
def SlL (w : World) (v : Value) (us : List Value) (ll : List (List Int)) : Prop :=
  ll.length ≤ 140737488351232 ∧ us.length = ll.length ∧ ∃ a cap, v = .slice a ll.length cap ∧ ll.length ≤ cap ∧
    ∀ t, t < ll.length → ∃ b off, a = some ⟨b, off, none⟩ ∧ b < w.heap.size ∧ w.cell? ⟨b, off + t, none⟩ = some (us.getD t (.slice none 0 0)) ∧ SlI w .i64 (us.getD t (.slice none 0 0)) (ll.getD t [])
theorem SlL.below {w w' : World} {v : Value} {us : List Value} {ll : List (List Int)} (h : SlL w v us ll) (hb : Below w.heap.size w w') : SlL w' v us ll := by
  obtain ⟨h1, h2, a, cap, h3, h4, h5⟩ := h
  refine ⟨h1, h2, a, cap, h3, h4, fun t ht => ?_⟩
  obtain ⟨b, off, e, hlt, hc, hu⟩ := h5 t ht
  exact ⟨b, off, e, Nat.lt_of_lt_of_le hlt hb.size, (hb.cell (p := ⟨b, off + t, none⟩) hlt).trans hc, hu.below hb⟩
theorem SlL.drew {w : World} {v : Value} {us : List Value} {ll : List (List Int)} (h : SlL w v us ll) (n : Nat) : SlL (w.drewN n) v us ll := h
theorem SlL.len {w : World} {v : Value} {us : List Value} {ll : List (List Int)} (h : SlL w v us ll) : ∃ a cap, v = .slice a ll.length cap ∧ ll.length ≤ cap := by
  obtain ⟨_, _, a, cap, rfl, h4, _⟩ := h
  exact ⟨a, cap, rfl, h4⟩
theorem SlL.nil (w : World) : SlL w (.slice none 0 0) [] [] := ⟨by simp, rfl, none, 0, rfl, Nat.le_refl _, fun t ht => by simp at ht⟩
/-- opened where it is not empty -/
theorem SlL.open {w : World} {v : Value} {us : List Value} {ll : List (List Int)} (h : SlL w v us ll) (hne : ll ≠ []) :
    ∃ b off cap, v = .slice (some ⟨b, off, none⟩) ll.length cap ∧ ll.length ≤ cap ∧ b < w.heap.size ∧ (∀ t, t < ll.length → w.cell? ⟨b, off + t, none⟩ = some (us.getD t (.slice none 0 0))) ∧ ∀ t, t < ll.length → SlI w .i64 (us.getD t (.slice none 0 0)) (ll.getD t []) := by
  obtain ⟨_, _, a, cap, rfl, h4, h5⟩ := h
  obtain ⟨b, off, rfl, hlt, _⟩ := h5 0 (List.length_pos_iff.2 hne)
  refine ⟨b, off, cap, rfl, h4, hlt, fun t ht => ?_, fun t ht => ?_⟩
  · obtain ⟨b', off', e, _, hc, hu⟩ := h5 t ht
    simp only [Option.some.injEq, Addr.mk.injEq] at e
    obtain ⟨rfl, rfl, _⟩ := e
    exact hc
  · obtain ⟨b', off', e, _, hc, hu⟩ := h5 t ht
    exact hu
/-- The struct value v reads in w as the memory m. -/
def MemV (w : World) (v : Value) (m : MemM) : Prop :=
  ∃ vw vl us, v = .agg #[vw, vl, .int .i64 m.tick] ∧ SlI w .u64 vw m.words ∧ SlL w vl us m.lists
theorem MemV.below {w w' : World} {v : Value} {m : MemM} (h : MemV w v m) (hb : Below w.heap.size w w') : MemV w' v m := by
  obtain ⟨vw, vl, us, e, h1, h2⟩ := h; exact ⟨vw, vl, us, e, h1.below hb, h2.below hb⟩
def accV (a : AccM) : Value := .agg #[.int .i64 a.kind, .int .i64 a.addr, .int .u64 a.old, .int .u64 a.new, .int .i64 a.til]
/-- w2 has what lay from w on in w' -/
structure NewPart (w w' w2 : World) : Prop where
  size : w'.heap.size ≤ w2.heap.size
  same : ∀ j, w.heap.size ≤ j → j < w'.heap.size → w2.heap[j]? = w'.heap[j]?
/-- a set of worlds that more memory does not leave -/
def Wide (G : World → Prop) : Prop := ∀ w1 w2, G w1 → Below w1.heap.size w1 w2 → G w2
/-- the worlds of G that have what a call made -/
def Nx (G : World → Prop) (w w' : World) : World → Prop := fun w2 => G w2 ∧ NewPart w w' w2
theorem Nx.wide {G : World → Prop} (h : Wide G) (w w' : World) : Wide (Nx G w w') := fun w1 w2 h1 hb =>
  ⟨h _ _ h1.1 hb, ⟨Nat.le_trans h1.2.size hb.size, fun j hj hj2 => (hb.block j (Nat.lt_of_lt_of_le hj2 h1.2.size)).trans (h1.2.same j hj hj2)⟩⟩
theorem Nx.at {G : World → Prop} {w w' : World} (hG : G w) (h : Wide G) (hb : Below w.heap.size w w') : Nx G w w' w' :=
  ⟨h _ _ hG hb, ⟨Nat.le_refl _, fun _ _ _ => rfl⟩⟩
theorem NewPart.sub {w W W' F w2 : World} (h : NewPart w F w2) (hw : w.heap.size ≤ W.heap.size) (hs : W'.heap.size ≤ F.heap.size) (he : ∀ j, W.heap.size ≤ j → j < W'.heap.size → F.heap[j]? = W'.heap[j]?) : NewPart W W' w2 :=
  ⟨Nat.le_trans hs h.size, fun j hj hj2 => (h.same j (Nat.le_trans hw hj) (Nat.lt_of_lt_of_le hj2 hs)).trans (he j hj hj2)⟩
theorem OwnI.newPart {w w' w2 : World} {base : Nat} {e : TypeId} {k : IntKind} {v : Value} {l : List Int} (h : OwnI w' base e k v l) (hw : w.heap.size ≤ base) (hn : NewPart w w' w2) : OwnI w2 base e k v l := by
  refine ⟨h.1, ?_⟩
  rcases h.2 with h1 | ⟨g, cap, cur, h1, h2, h3, h4⟩
  · exact .inl h1
  · exact .inr ⟨g, cap, cur, h1, h2, (hn.same g (Nat.le_trans hw h2) (Array.getElem?_eq_some_iff.1 h3).1).trans h3, h4⟩
theorem row_newPart {w w' w2 : World} {base n : Nat} {e : TypeId} {v : Value} {us : List Value} (h : w'.ownsRow base e 1 v n us) (hw : w.heap.size ≤ base) (hn : NewPart w w' w2) : w2.ownsRow base e 1 v n us := by
  refine ⟨h.1, ?_⟩
  rcases h.2 with h1 | ⟨g, cap, cur, h1, h2, h3, h4⟩
  · exact .inl h1
  · exact .inr ⟨g, cap, cur, h1, h2, (hn.same g (Nat.le_trans hw h2) (Array.getElem?_eq_some_iff.1 h3).1).trans h3, h4⟩
/-- In all worlds of G the struct value v reads as the memory m. -/
def StM (G : World → Prop) (v : Value) (m : MemM) : Prop :=
  ∃ vw vl us, v = .agg #[vw, vl, .int .i64 m.tick] ∧ ∀ w, G w → SlI w .u64 vw m.words ∧ SlL w vl us m.lists
theorem StM.at {G : World → Prop} {v : Value} {m : MemM} {w : World} (h : StM G v m) (hG : G w) : MemV w v m := by
  obtain ⟨vw, vl, us, e, h1⟩ := h; exact ⟨vw, vl, us, e, h1 w hG⟩
theorem StM.sub {G H : World → Prop} {v : Value} {m : MemM} (h : StM G v m) (hs : ∀ w, H w → G w) : StM H v m := by
  obtain ⟨vw, vl, us, e, h1⟩ := h; exact ⟨vw, vl, us, e, fun w hw => h1 w (hs w hw)⟩
/-- In all worlds of G the slice value v reads as l. -/
def StI (G : World → Prop) (k : IntKind) (v : Value) (l : List Int) : Prop := ∀ w, G w → SlI w k v l
/-- In all worlds of G the struct value v reads as the answer b. -/
def StA (G : World → Prop) (v : Value) (b : AnsM) : Prop :=
  ∃ vl, v = .agg #[.int .u64 b.val, .bool b.ok, .bool b.late, vl] ∧ ∀ w, G w → SlI w .i64 vl b.list
theorem StA.sub {G H : World → Prop} {v : Value} {b : AnsM} (h : StA G v b) (hs : ∀ w, H w → G w) : StA H v b := by
  obtain ⟨vl, e, h1⟩ := h; exact ⟨vl, e, fun w hw => h1 w (hs w hw)⟩
theorem StA.bare (G : World → Prop) (x : Int) (p q : Bool) : StA G (.agg #[.int .u64 x, .bool p, .bool q, .slice none 0 0]) ⟨x, p, q, []⟩ := ⟨_, rfl, fun w _ => SlI.nil _ _⟩
/-- the worlds that hold w's memory -/
def Over (w0 : World) : World → Prop := fun w => Below w0.heap.size w0 w
theorem Over.wide (w0 : World) : Wide (Over w0) := fun _ _ h hb => below_then h hb
theorem Over.self (w0 : World) : Over w0 w0 := Below.refl _ _
theorem MemV.over {w : World} {v : Value} {m : MemM} (h : MemV w v m) : StM (Over w) v m := by
  obtain ⟨vw, vl, us, e, h1, h2⟩ := h; exact ⟨vw, vl, us, e, fun w2 hb => ⟨h1.below hb, h2.below hb⟩⟩
end Go.Proofs.Ytnbehigjeopniaa
