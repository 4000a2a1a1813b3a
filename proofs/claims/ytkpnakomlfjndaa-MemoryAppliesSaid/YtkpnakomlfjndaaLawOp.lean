/- From the reading of an argument that is an operation to the words of the walks. -/
import Derived.Test.YtkpnakomlfjndaaLaw
import Derived.Test.YtkpnakomlfjndaaOpP
import Derived.Deep.Fields
import Derived.Deep.Slices
namespace Go.Proofs.Ytkpnakomlfjndaa
open Go.ChangeShapes Go.WideShapes Go.ChangeAt Go.RowKit Go.Deep
set_option maxRecDepth 100000

section
variable {H : Type} {enc : TypeId × Value → H} {W : World}
theorem sized_agg {ts : List TypeId} {ds parts : List (DataW H)} {j : Nat} {t : TypeId} {fs : Array Field} (h : (DataW.weightsEach Try.prog ts ds).all (· ≤ reachBytes) = true) (ht : ts[j]? = some t) (hd : ds[j]? = some (.agg parts)) (hu : Try.prog.underlying t = some (.struct fs)) :
    (DataW.weightsEach Try.prog (fs.toList.map (·.type)) parts).all (· ≤ reachBytes) = true := by
  rw [List.all_eq_true]
  intro n hn
  have := DataW.weights_mem_each (P := Try.prog) ht hd n (by simp only [DataW.weights, hu]; exact hn)
  exact List.all_eq_true.1 h n this
theorem open3 {t : TypeId} {f0 f1 f2 : Field} {q0 q1 q2 : Value} {fuel : Nat} {x : DataW H × List MemPlace} (hs : Try.prog.underlying t = some (.struct #[f0, f1, f2])) (hone : oneCellFields Try.prog #[f0, f1, f2] = true)
    (h : DataW.trod enc Try.prog W 0 (fun _ => true) true fuel t [q0, q1, q2] = some x) :
    ∃ (y0 y1 y2 : DataW H × List MemPlace) (n : Nat), x.1 = .agg [y0.1, y1.1, y2.1] ∧ DataW.trod enc Try.prog W 0 (fun _ => true) true n f0.type [q0] = some y0 ∧ DataW.trod enc Try.prog W 0 (fun _ => true) true n f1.type [q1] = some y1 ∧ DataW.trod enc Try.prog W 0 (fun _ => true) true n f2.type [q2] = some y2 := by
  obtain ⟨xs, n, _, hx, _, hlen, hg⟩ := DataW.trod_struct hs h
  obtain ⟨o0, k0⟩ := hone_of hone 0 f0 rfl
  obtain ⟨o1, k1⟩ := hone_of hone 1 f1 rfl
  obtain ⟨o2, k2⟩ := hone_of hone 2 f2 rfl
  match xs, hlen with
  | [y0, y1, y2], _ =>
    subst hx
    exact ⟨y0, y1, y2, n, rfl, by simpa [o0, k0] using hg 0 f0 rfl, by simpa [o1, k1] using hg 1 f1 rfl, by simpa [o2, k2] using hg 2 f2 rfl⟩
theorem open7 {t : TypeId} {f0 f1 f2 f3 f4 f5 f6 : Field} {q0 q1 q2 q3 q4 q5 q6 : Value} {fuel : Nat} {x : DataW H × List MemPlace} (hs : Try.prog.underlying t = some (.struct #[f0, f1, f2, f3, f4, f5, f6])) (hone : oneCellFields Try.prog #[f0, f1, f2, f3, f4, f5, f6] = true)
    (h : DataW.trod enc Try.prog W 0 (fun _ => true) true fuel t [q0, q1, q2, q3, q4, q5, q6] = some x) :
    ∃ (y0 y1 y2 y3 y4 y5 y6 : DataW H × List MemPlace) (n : Nat), x.1 = .agg [y0.1, y1.1, y2.1, y3.1, y4.1, y5.1, y6.1] ∧ DataW.trod enc Try.prog W 0 (fun _ => true) true n f0.type [q0] = some y0 ∧ DataW.trod enc Try.prog W 0 (fun _ => true) true n f1.type [q1] = some y1 ∧ DataW.trod enc Try.prog W 0 (fun _ => true) true n f2.type [q2] = some y2 ∧ DataW.trod enc Try.prog W 0 (fun _ => true) true n f3.type [q3] = some y3 ∧ DataW.trod enc Try.prog W 0 (fun _ => true) true n f4.type [q4] = some y4 ∧ DataW.trod enc Try.prog W 0 (fun _ => true) true n f5.type [q5] = some y5 ∧ DataW.trod enc Try.prog W 0 (fun _ => true) true n f6.type [q6] = some y6 := by
  obtain ⟨xs, n, _, hx, _, hlen, hg⟩ := DataW.trod_struct hs h
  obtain ⟨o0, k0⟩ := hone_of hone 0 f0 rfl
  obtain ⟨o1, k1⟩ := hone_of hone 1 f1 rfl
  obtain ⟨o2, k2⟩ := hone_of hone 2 f2 rfl
  obtain ⟨o3, k3⟩ := hone_of hone 3 f3 rfl
  obtain ⟨o4, k4⟩ := hone_of hone 4 f4 rfl
  obtain ⟨o5, k5⟩ := hone_of hone 5 f5 rfl
  obtain ⟨o6, k6⟩ := hone_of hone 6 f6 rfl
  match xs, hlen with
  | [y0, y1, y2, y3, y4, y5, y6], _ =>
    subst hx
    exact ⟨y0, y1, y2, y3, y4, y5, y6, n, rfl, by simpa [o0, k0] using hg 0 f0 rfl, by simpa [o1, k1] using hg 1 f1 rfl, by simpa [o2, k2] using hg 2 f2 rfl, by simpa [o3, k3] using hg 3 f3 rfl, by simpa [o4, k4] using hg 4 f4 rfl, by simpa [o5, k5] using hg 5 f5 rfl, by simpa [o6, k6] using hg 6 f6 rfl⟩
/-- a slice of whole numbers, from its cell -/
theorem view_cell {t e : TypeId} {k : IntKind} {v : Value} {n : Nat} {x : DataW H × List MemPlace} (ht : Try.prog.underlying t = some (.slice e)) (he : Try.prog.underlying e = some (.int k)) (hc : Try.prog.cellsOf e = 1)
    (hsz : ∀ elems sp, x.1 = .slice elems sp → (elems.length + sp.length) * Try.prog.bytesOf e ≤ reachBytes) (hby : 1 ≤ Try.prog.bytesOf e)
    (hf : DataW.trod enc Try.prog W 0 (fun _ => true) true n t [v] = some x) : ∃ l, SlI W k v l := by
  rcases open_ints ht he hc hf with ⟨hcs, hx⟩ | ⟨a, len', cap', zs, hcs, _, hl, hm, hz, hx, hcell, hwz⟩
  · simp at hcs
    subst hcs
    exact ⟨[], SlI.nil _ _⟩
  · simp at hcs
    subst hcs
    subst hx
    simp only [if_true] at hz
    have hle : len' ≤ 140737488351232 := by
      have h1 := hsz _ _ rfl
      simp only [lits, List.length_map, List.length_take, List.length_drop, reachBytes] at h1
      have h2 : (min len' zs.length + (zs.length - len')) * 1 ≤ (min len' zs.length + (zs.length - len')) * Try.prog.bytesOf e := Nat.mul_le_mul_left _ hby
      omega
    have hlen : (zs.take len').length = len' := by simp; omega
    refine ⟨zs.take len', by omega, fun x hx => wrap_of_wf (hwz x (List.mem_of_mem_take hx)), some a, cap', by rw [hlen], by omega, fun i hi => ?_⟩
    have hi' : i < len' := by omega
    have hc := hcell i (by omega)
    have h0 := hcell 0 (by omega)
    obtain ⟨b, off, sp⟩ := a
    have hsp : sp = none := by simpa [Addr.add] using World.cell?_spot h0
    subst hsp
    rw [add_plain] at hc
    refine ⟨b, off, rfl, by simpa using World.block_lt_of_cell? W _ hc, ?_⟩
    rw [hc]
    simp [List.getD_eq_getElem?_getD, hi']
end
end Go.Proofs.Ytkpnakomlfjndaa
