/- The reader of choices: a drawn configuration is valid; it reads on while the reader goes on. -/
import Derived.Test.YtipjfcjdefdoeaaDrawE
import Derived.Test.YtipjfcjdefdoeaaDrawCfg
import Derived.Test.YtipjfcjdefdoeaaConf
namespace Go.Proofs.Ytipjfcjdefdoeaa
open Go.ChangeShapes Go.WideShapes Go.ChangeAt Go.RowKit
set_option maxRecDepth 100000

theorem CfgOk.good {caps starts : List Int} {t : Int} (h : CfgOk caps starts caps.length) (hl : caps.length ≤ 3) (ht : 1 ≤ t ∧ t ≤ 8) : ConfM.good ⟨caps, starts, t⟩ :=
  ⟨by show caps.length ≤ 8; omega, h.2.1, fun x hx => by have := h.2.2.1 x hx; omega, h.2.2.2, ht⟩
theorem configG (g : Nat) (w : World) (h : CodesE w g) :
    Calls Try.prog 20 #[.pointer (some ⟨g, 0, none⟩)] w fun e w' => ∃ (vc vs : Value) (c : ConfM), e = .returned (.agg #[vc, vs, .int .i64 c.threads]) ∧ SlI w' .i64 vc c.caps ∧ SlI w' .u64 vs c.starts ∧ offB g vc ∧ offB g vs ∧ c.good ∧ 1 ≤ c.caps.length ∧ c.caps.length ≤ 3 ∧ CodesE w' g ∧ w.grownBy w' (some g) := by
  obtain ⟨r, val, h⟩ := h
  refine (config_any g r val w h).mono ?_
  rintro e w' ⟨vc, vs, t, caps, starts, r', rfl, h1, h2, h3, h4, h5, h6, h7, h8, h9, h10, h11, h12⟩
  exact ⟨vc, vs, ⟨caps, starts, t⟩, rfl, h1, h2, h10, h11, h12.good h5 (by omega), h4, h5, ⟨_, _, h8⟩, h9⟩
end Go.Proofs.Ytipjfcjdefdoeaa
