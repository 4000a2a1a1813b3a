/- From the reading of an argument that is a configuration to the words of the walks. -/
import Derived.Test.YtkpnakomlfjndaaLawOp
import Derived.Test.YtkpnakomlfjndaaOp
namespace Go.Proofs.Ytkpnakomlfjndaa
open Go.ChangeShapes Go.WideShapes Go.ChangeAt Go.RowKit Go.Deep
set_option maxRecDepth 100000

/-- AN ARGUMENT THAT IS A CONFIGURATION. -/
theorem view_conf {H : Type} {enc : TypeId × Value → H} {W : World} {v : Value} {d : DataW H} {p : List MemPlace}
    (hsz : ∀ parts, d = .agg parts → (DataW.weightsEach Try.prog [36, 22, 3] parts).all (· ≤ reachBytes) = true)
    (hval : Value.okWide Try.prog W .any 0 46 v) (hd : DataW.Trod enc Try.prog W 0 (fun _ => true) true 46 v d p) : ∃ c, ConfV W v c ∧ c.threads = IntKind.i64.wrap c.threads := by
  obtain ⟨cs, rfl, hcz⟩ := okWide_struct Try.underlying46 hval
  rw [show Try.prog.cellsOf 46 = 3 by kernel_rfl] at hcz
  obtain ⟨l⟩ := cs
  match l, hcz with
  | [q0, q1, q2], _ =>
    obtain ⟨fuel, hf⟩ := hd
    obtain ⟨y0, y1, y2, n, hx, g0, g1, g2⟩ := open3 Try.underlying46 (by kernel_rfl) hf
    have hsz' := hsz _ hx
    obtain ⟨lc, hlc⟩ := view_cell (v := q0) (k := .i64) Try.underlying36 Try.underlying3 (by kernel_rfl) (fun elems sp hd => sized_slice hsz' (j := 0) (t := 36) (e := 3) rfl (by simp; exact hd) Try.underlying36) (of_decide_eq_true (by kernel_rfl)) g0
    obtain ⟨ls, hls⟩ := view_cell (v := q1) (k := .u64) Try.underlying22 Try.underlying26 (by kernel_rfl) (fun elems sp hd => sized_slice hsz' (j := 1) (t := 22) (e := 26) rfl (by simp; exact hd) Try.underlying22) (of_decide_eq_true (by kernel_rfl)) g1
    obtain ⟨z2, e2, -, w2⟩ := DataW.trod_int Try.underlying3 g2
    simp at e2
    subst e2
    exact ⟨⟨lc, ls, z2⟩, ⟨q0, q1, rfl, hlc, hls⟩, wrap_of_wf w2⟩
end Go.Proofs.Ytkpnakomlfjndaa
