/- Layer 5: a configuration that is changed in a variable, beside the reader of choices. -/
import Derived.Test.YtkpnakomlfjndaaL5Awake
import Derived.Test.YtkpnakomlfjndaaOff
import Derived.Test.YtkpnakomlfjndaaCodes5
import Derived.Test.YtkpnakomlfjndaaApp
namespace Go.Proofs.Ytkpnakomlfjndaa
open Go.ChangeShapes Go.WideShapes Go.ChangeAt Go.RowKit
set_option maxRecDepth 100000

theorem SlI.offStay {w : World} {k : IntKind} {v : Value} {l : List Int} {g Y : Nat} (h : SlI w k v l) (ho : offB g v) (hY : w.heap.size ≤ Y) : StI (Off g Y w) k v l := by
  intro w2 h2
  by_cases hne : l = []
  · subst hne
    obtain ⟨a, cap, rfl, hc⟩ := h.len
    exact ⟨by simp, by simp, a, cap, rfl, hc, fun t ht => by simp at ht⟩
  · have hw := h.2.1
    have hl := h.1
    obtain ⟨b, off, cap, rfl, hc, hb, hcell⟩ := h.open hne
    have hg : b ≠ g := by
      rcases ho _ _ _ rfl with h0 | h0
      · exact absurd (List.length_eq_zero_iff.1 h0) hne
      · exact h0
    refine ⟨hl, hw, _, cap, rfl, hc, fun t ht => ⟨b, off, rfl, Nat.lt_of_lt_of_le hb h2.1, ?_⟩⟩
    rw [← hcell t ht]
    unfold World.cell?
    rw [h2.2 b hb hg (by omega)]
/-- In all worlds of G the struct value v reads as the configuration c. -/
def StC (G : World → Prop) (v : Value) (c : ConfM) : Prop := ∀ w, G w → ConfV w v c
theorem StC.sub {G H : World → Prop} {v : Value} {c : ConfM} (h : StC G v c) (hs : ∀ w, H w → G w) : StC H v c := fun w hw => h w (hs w hw)
theorem ConfX.stay {w : World} {g Y : Nat} {v : Value} {c : ConfM} (h : ConfX w g v c) (hY : w.heap.size ≤ Y) : StC (Off g Y w) v c := by
  obtain ⟨vc, vs, rfl, h1, h2, h3, h4⟩ := h
  exact fun w2 hw => ⟨vc, vs, rfl, h1.offStay h3 hY w2 hw, h2.offStay h4 hY w2 hw⟩
/-- while a configuration is changed: the reader in block g, the variable in block Y (its two lists as they are stored), its two lists of the call's own, from block D on -/
structure ChkS (w0 wD wr : World) (g Y : Nat) (rc rs yc ys : Value) (caps starts : List Int) (thr : Int) : Prop where
  g0 : w0.heap.size ≤ g
  gy : g < Y
  yd : Y < wD.heap.size
  codes : CodesE wr g
  row : wr.heap[Y]? = some (.cells #[rc, rs, .int .i64 thr] 46 (0, 0))
  oc : OwnI wr wD.heap.size 3 .i64 yc caps
  os : OwnI wr wD.heap.size 26 .u64 ys starts
  keep : Off g Y wD wr
  below : Below w0.heap.size w0 wr
theorem ChkS.size {w0 wD wr : World} {g Y : Nat} {rc rs yc ys : Value} {caps starts : List Int} {thr : Int} (h : ChkS w0 wD wr g Y rc rs yc ys caps starts thr) : wD.heap.size ≤ wr.heap.size := h.keep.1
theorem ChkS.next {w0 wD wr w2 : World} {g Y : Nat} {rc rs yc ys : Value} {caps starts : List Int} {thr : Int} (h : ChkS w0 wD wr g Y rc rs yc ys caps starts thr) (hc : CodesE w2 g) (hg : wr.grownBy w2 (some g)) : ChkS w0 wD w2 g Y rc rs yc ys caps starts thr := by
  have hs := h.size
  have hgy := h.gy
  have hyd := h.yd
  exact ⟨h.g0, h.gy, h.yd, hc, (hg.block Y (by omega) (by simp; omega)).trans h.row, h.oc.kept hg (h.oc.ne (by omega)), h.os.kept hg (h.os.ne (by omega)), h.keep.trans (Off.grown hg), h.below.grown hg h.below.size (fun k hk => by cases hk; exact h.g0)⟩
theorem ChkS.more {w0 wD wr w2 : World} {g Y : Nat} {rc rs yc ys : Value} {caps starts : List Int} {thr : Int} (h : ChkS w0 wD wr g Y rc rs yc ys caps starts thr) (hb : Below wr.heap.size wr w2) : ChkS w0 wD w2 g Y rc rs yc ys caps starts thr :=
  h.next (h.codes.kept h.codes.lt hb) (grown_below hb)
/-- a row of the call's own grew -/
theorem keep_own {g Y : Nat} {wD wr w2 : World} {row : Option Nat} (h : Off g Y wD wr) (hg : wr.grownBy w2 row) (hge : ∀ j, row = some j → wD.heap.size ≤ j) : Off g Y wD w2 :=
  ⟨Nat.le_trans h.1 hg.size, fun j hj h1 h2 => (hg.block j (Nat.lt_of_lt_of_le hj h.1) (fun e => by have := hge j e.symm; omega)).trans (h.2 j hj h1 h2)⟩
theorem ChkS.appC {w0 wD wr w2 : World} {g Y : Nat} {rc rs yc ys yc' : Value} {caps caps' starts : List Int} {thr : Int} (h : ChkS w0 wD wr g Y rc rs yc ys caps starts thr) (ho : OwnI w2 wD.heap.size 3 .i64 yc' caps') (hg : wr.grownBy w2 yc.ownBlock) : ChkS w0 wD w2 g Y rc rs yc' ys caps' starts thr := by
  have hs := h.size
  have hgy := h.gy
  have hyd := h.yd
  have hge := h.oc.own_ge
  have hg0 := h.g0
  have hb : Below wD.heap.size wr w2 := (Below.refl _ wr).grown hg hs hge
  exact ⟨h.g0, h.gy, h.yd, h.codes.kept (by omega) hb, (hb.block Y hyd).trans h.row, ho, h.os.kept hg (rows_apart h.os h.oc (by decide)), keep_own h.keep hg hge, h.below.grown hg h.below.size (fun k hk => by have := hge k hk; omega)⟩
theorem ChkS.appS {w0 wD wr w2 : World} {g Y : Nat} {rc rs yc ys ys' : Value} {caps starts starts' : List Int} {thr : Int} (h : ChkS w0 wD wr g Y rc rs yc ys caps starts thr) (ho : OwnI w2 wD.heap.size 26 .u64 ys' starts') (hg : wr.grownBy w2 ys.ownBlock) : ChkS w0 wD w2 g Y rc rs yc ys' caps starts' thr := by
  have hs := h.size
  have hgy := h.gy
  have hyd := h.yd
  have hge := h.os.own_ge
  have hg0 := h.g0
  have hb : Below wD.heap.size wr w2 := (Below.refl _ wr).grown hg hs hge
  exact ⟨h.g0, h.gy, h.yd, h.codes.kept (by omega) hb, (hb.block Y hyd).trans h.row, h.oc.kept hg (rows_apart h.oc h.os (by decide)), ho, keep_own h.keep hg hge, h.below.grown hg h.below.size (fun k hk => by have := hge k hk; omega)⟩
/-- one field of the variable is stored -/
theorem ChkS.set {w0 wD wr : World} {g Y o : Nat} {rc rs rc' rs' yc ys u : Value} {caps starts : List Int} {thr thr' : Int} (h : ChkS w0 wD wr g Y rc rs yc ys caps starts thr)
    (he : (#[rc, rs, .int .i64 thr] : Array Value).setIfInBounds o u = #[rc', rs', .int .i64 thr']) : ChkS w0 wD (wr.setCell ⟨Y, o, none⟩ u) g Y rc' rs' yc ys caps starts thr' := by
  have hs := h.size
  have hgy := h.gy
  have hyd := h.yd
  have hg0 := h.g0
  have hr := heap_setCell_same wr Y o _ _ u h.row
  rw [he] at hr
  have hb : Below Y wr (wr.setCell ⟨Y, o, none⟩ u) := (Below.refl Y wr).setCell (p := ⟨Y, o, none⟩) (Nat.le_refl _) u
  exact ⟨h.g0, h.gy, h.yd, h.codes.kept hgy hb, hr, h.oc.kept (grownBy_setCell wr ⟨Y, o, none⟩ u) (h.oc.ne hyd), h.os.kept (grownBy_setCell wr ⟨Y, o, none⟩ u) (h.os.ne hyd), h.keep.trans (Off.setCell wr o u), h.below.setCell (p := ⟨Y, o, none⟩) (by show w0.heap.size ≤ Y; omega) u⟩
theorem ChkS.setC {w0 wD wr : World} {g Y : Nat} {rc rs yc ys : Value} {caps starts : List Int} {thr : Int} (h : ChkS w0 wD wr g Y rc rs yc ys caps starts thr) : ChkS w0 wD (wr.setCell ⟨Y, 0, none⟩ yc) g Y yc rs yc ys caps starts thr := h.set (by simp)
theorem ChkS.setS {w0 wD wr : World} {g Y : Nat} {rc rs yc ys : Value} {caps starts : List Int} {thr : Int} (h : ChkS w0 wD wr g Y rc rs yc ys caps starts thr) : ChkS w0 wD (wr.setCell ⟨Y, 1, none⟩ ys) g Y rc ys yc ys caps starts thr := h.set (by simp)
theorem ChkS.setT {w0 wD wr : World} {g Y : Nat} {rc rs yc ys : Value} {caps starts : List Int} {thr : Int} (t : Int) (h : ChkS w0 wD wr g Y rc rs yc ys caps starts thr) : ChkS w0 wD (wr.setCell ⟨Y, 2, none⟩ (.int .i64 t)) g Y rc rs yc ys caps starts t := h.set (by simp)
/-- what is said once the variable is as it stays: it reads as a configuration, and all else is as it was -/
structure ChkE (w0 wD wr : World) (g Y : Nat) (rc rs : Value) (c : ConfM) : Prop where
  row : wr.heap[Y]? = some (.cells #[rc, rs, .int .i64 c.threads] 46 (0, 0))
  conf : ConfV wr (.agg #[rc, rs, .int .i64 c.threads]) c
  keep : Off g Y wD wr
  below : Below w0.heap.size w0 wr
theorem ChkS.fin {w0 wD wr : World} {g Y : Nat} {yc ys : Value} {caps starts : List Int} {thr : Int} (h : ChkS w0 wD wr g Y yc ys yc ys caps starts thr) (h1 : caps.length ≤ 1000) (h2 : starts.length ≤ 1000) (h3 : ∀ x ∈ caps, x = IntKind.i64.wrap x) (h4 : ∀ x ∈ starts, x = IntKind.u64.wrap x) :
    ChkE w0 wD wr g Y yc ys ⟨caps, starts, thr⟩ :=
  ⟨h.row, ⟨yc, ys, rfl, h.oc.read (by omega) h3, h.os.read (by omega) h4⟩, h.keep, h.below⟩
end Go.Proofs.Ytkpnakomlfjndaa
