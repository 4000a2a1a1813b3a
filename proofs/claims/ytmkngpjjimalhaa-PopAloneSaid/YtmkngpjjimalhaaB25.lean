import Derived.Scope
import Derived.WalkMore
import Derived.Lib.Hide
import Derived.Test.YtmkngpjjimalhaaB01
set_option linter.unusedVariables false
set_option linter.unusedSimpArgs false
/- A scope through which the run jumps a bounded number of times, to whatever labels: each jump is walked as it comes. -/
namespace Go.Proofs.Ytmkngpjjimalhaa
open Go.ChangeShapes Go.WideShapes Go.ChangeAt Go.RowKit
set_option maxRecDepth 100000

/-- n jumps may still come: a jump goes on at its label -/
def scopes (P : Program) : Nat → (Nat → Option Code) → (Exit → Act → World → Prop) → Exit → Act → World → Prop
  | 0, _, _, .goto _, _, _ => False
  | n + 1, f, Q, .goto l, a, w => ∃ rest, f l = some rest ∧ rest.wp P (scopes P n f Q) a w
  | _, _, Q, .normal, a, w => Q .normal a w
  | _, _, Q, .exit id, a, w => Q (.exit id) a w
  | _, _, Q, .ret, a, w => Q .ret a w
  | _, _, Q, .panic c, a, w => Q (.panic c) a w
  | _, _, Q, .outgrown, a, w => Q .outgrown a w
section
variable {P : Program} {a : Act} {w : World} {Q : Exit → Act → World → Prop} {n : Nat} {f : Nat → Option Code}
theorem scopes_ret : scopes P n f Q .ret a w = Q .ret a w := by cases n <;> rfl
theorem scopes_normal : scopes P n f Q .normal a w = Q .normal a w := by cases n <;> rfl
theorem scopes_exit (i : Nat) : scopes P n f Q (.exit i) a w = Q (.exit i) a w := by cases n <;> rfl
theorem scopes_goto {l : Nat} {rest : Code} (hf : f l = some rest) (h : rest.wp P (scopes P n f Q) a w) : scopes P (n + 1) f Q (.goto l) a w := ⟨rest, hf, h⟩
theorem wp_scopes {c : Code} (n : Nat) (h : ∀ f : Nat → Option Code, Hid (∀ l, f l = findLabel c l) → c.wp P (scopes P n f Q) a w) : (Code.scope c).wp P Q a w := by
  obtain ⟨f, hf⟩ : ∃ f : Nat → Option Code, ∀ l, f l = findLabel c l := ⟨_, fun _ => rfl⟩
  intro b k cs
  have hg : ∀ l rest, f l = some rest → gotoIn l (.inScope c :: k) = some (.code rest :: .inScope c :: k) := fun l rest h => by
    rw [hf] at h; simp [gotoIn, h]
  have key : ∀ (n : Nat) (d : Code) (a : Act) (w : World), d.wp P (scopes P n f Q) a w → ∃ e a' w', Q e a' w' ∧ Arrives P (lone (b.at a (.code d :: .inScope c :: k)) cs w) b k cs e a' w' := by
    intro n
    induction n with
    | zero =>
      intro d a w hd
      obtain ⟨e, a₁, w₁, hq, harr⟩ := hd b (.inScope c :: k) cs
      cases e with
      | normal => exact ⟨.normal, a₁, w₁, hq, Steps.trans harr (.one step_inScope)⟩
      | exit id => exact ⟨.exit id, a₁, w₁, hq, fun k' hk => harr k' (by simp [exitTo, hk])⟩
      | goto l' => exact False.elim hq
      | ret => exact ⟨_, a₁, w₁, hq, harr⟩
      | panic ch => exact ⟨_, a₁, w₁, hq, harr⟩
      | outgrown => exact ⟨_, a₁, w₁, hq, harr⟩
    | succ n ih =>
      intro d a w hd
      obtain ⟨e, a₁, w₁, hq, harr⟩ := hd b (.inScope c :: k) cs
      cases e with
      | normal => exact ⟨.normal, a₁, w₁, hq, Steps.trans harr (.one step_inScope)⟩
      | exit id => exact ⟨.exit id, a₁, w₁, hq, fun k' hk => harr k' (by simp [exitTo, hk])⟩
      | goto l' =>
        obtain ⟨rest, hr, hw⟩ := hq
        obtain ⟨e₂, a₂, w₂, hq₂, harr₂⟩ := ih rest a₁ w₁ hw
        exact ⟨e₂, a₂, w₂, hq₂, .of_steps (harr _ (hg _ _ hr)) harr₂⟩
      | ret => exact ⟨_, a₁, w₁, hq, harr⟩
      | panic ch => exact ⟨_, a₁, w₁, hq, harr⟩
      | outgrown => exact ⟨_, a₁, w₁, hq, harr⟩
  obtain ⟨e, a₁, w₁, hq, harr⟩ := key n c a w (h f hf)
  exact ⟨e, a₁, w₁, hq, .of_steps (.one step_scope) harr⟩
end
end Go.Proofs.Ytmkngpjjimalhaa
