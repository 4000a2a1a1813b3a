/- Layer 3: what package cases returns for whole operations: the channels that are mentioned, the shape. -/
import Derived.Test.YtkciejealeinoaaL3Own
import Derived.Test.YtkciejealeinoaaBuilds
namespace Go.Proofs.Ytkciejealeinoaa
open Go.ChangeShapes Go.WideShapes Go.ChangeAt Go.RowKit
set_option maxRecDepth 100000

theorem caseChannels_own (B : Nat) (v : Value) (l : List CaseM) (w : World) (hl : SlC w v l) (hs : l.length ≤ 1000) (hB : B ≤ w.heap.size) :
    Calls Try.prog 67 #[v] w fun e w' => ∃ g, e = .returned (.slice (some ⟨g, 0, none⟩) l.length l.length) ∧ OwnI w' B 3 .i64 (.slice (some ⟨g, 0, none⟩) l.length l.length) (l.map (·.chan)) ∧ Below w.heap.size w w' :=
  (caseChannels_any v l w hl hs).mono fun _ _ ⟨he, ho, hb⟩ => ⟨_, he, ho.mono_base hB, hb⟩
set_option maxRecDepth 100000 in
set_option maxHeartbeats 1000000 in
theorem mentioned_any (v : Value) (op : OpM) (w : World) (h : OpV w v op) (hs : op.cases.length ≤ 1000) (hch : op.chan = IntKind.i64.wrap op.chan) :
    Calls Try.prog 62 #[v] w fun e w' => ∃ u, e = .returned u ∧ SlI w' .i64 u (op.cases.map (·.chan) ++ [op.chan]) ∧ Below w.heap.size w w' := by
  obtain ⟨kd, md, ch, vl, dl, cs, ds⟩ := op
  obtain ⟨vc, vd, rfl, hc, hd⟩ := h
  dsimp only at *
  have hcl := hc
  obtain ⟨hl, hok, a, cap, rfl, -, -⟩ := hc
  have hl2 := hd.1
  obtain ⟨ad, cd, rfl, -⟩ := hd.len
  have HC := Lib.hid hcl
  have HB := Lib.hid (below_new (Below.refl w.heap.size w) (.cells #[.int .i64 kd, .int .i64 md, .int .i64 ch, .int .u64 vl, .int .i64 dl, .slice a cs.length cap, .slice ad ds.length cd] 26))
  have HK := Lib.hid hok
  have HCH := Lib.hid hch
  clear hcl hok hd hch
  go_enter Try.func62, Try.ntmps62
  go_wp2_with fail
  have HC1 := Lib.hid (HC.out.below HB.out)
  have hsz : w.heap.size + 1 ≤ (w.alloc (.cells #[.int .i64 kd, .int .i64 md, .int .i64 ch, .int .u64 vl, .int .i64 dl, .slice a cs.length cap, .slice ad ds.length cd] 26)).heap.size := by simp
  go_region_law (first
    | (refine step_append_i64 (by rfl) _ _ (by rfl) (w.heap.size + 1) _ (cs.map (·.chan)) (by rfl) ?_ ch _ (by rfl) ?_ ?_ ?_ ?_; (first | exact HO.out | exact HO.out.alloc _); (first | exact hcx | exact World.cell?_alloc_at _ _ _ _ rfl); rw [List.length_map]; omega; (first | omega | (simp; omega)); intro v3 w3 ho3 hg3; have HX := Lib.hid (And.intro ho3 (by first | exact HB2.out.grown hg3 z2 HO.out.own_ge | exact (HB2.out.alloc z2 _).grown hg3 (by simp; omega) HO.out.own_ge)); clear ho3 hg3)
    | (go_simp; go_at_call 67; refine (caseChannels_own (w.heap.size + 1) _ cs _ (by exact HC1.out) (by omega) (by simp)).mono ?_; rintro e w2 ⟨gg, rfl, ho, hb⟩; obtain ⟨c0, c1, c2, c3, c4, c5, c6⟩ := box7 (undrewB hb); have HO := Lib.hid ho; have z2 : w.heap.size + 1 ≤ w2.heap.size := (by have := (undrewB hb).size; simp at this; omega); have HB2 := Lib.hid ((below_then (Below.refl _ _) (undrewB hb)).mono hsz); clear ho hb)
    | (go_simp; go_at_call 67; refine (caseChannels_own (w.heap.size + 1) _ cs _ (by exact SlC.drew1 (HC1.out.below (below_new (Below.refl _ _) _))) (by omega) (by simp)).mono ?_; rintro e w2 ⟨gg, rfl, ho, hb⟩; obtain ⟨c0, c1, c2, c3, c4, c5, c6⟩ := box7 (below_then (below_new (Below.refl _ _) _) (undrewB hb)); have hcx : w2.cell? ⟨w.heap.size + 1, 0, none⟩ = some (.int .i64 ch) := (by have h := (below_last (undrewB hb) 0).trans (World.cell?_alloc_at _ _ _ _ rfl); simpa using h); have HO := Lib.hid ho; have z2 : w.heap.size + 1 ≤ w2.heap.size := (by have := (undrewB hb).size; simp at this; omega); have HB2 := Lib.hid ((below_then (below_new (Below.refl _ _) _) (undrewB hb)).mono hsz); clear ho hb))
  all_goals
    clear c0 c1 c2 c3 c4 c5 c6
    go_wp2
    go_ret
    obtain ⟨ho3, hb3⟩ := HX.out
    refine ⟨v3, rfl, ho3.read (by simp; omega) (fun x hx => ?_), HB.out.trans (hb3.mono (Nat.le_succ _))⟩
    rw [List.mem_append] at hx
    rcases hx with hx | hx
    · obtain ⟨c, hc, rfl⟩ := List.mem_map.1 hx
      exact (HK.out c hc).1
    · rw [List.mem_singleton] at hx
      rw [hx]; exact HCH.out
end Go.Proofs.Ytkciejealeinoaa
