/- Layer 13: the law's drawn records. -/
import Derived.Test.YtimgcehogalhcaaRt
import Derived.Test.YtimgcehogalhcaaDrawE
namespace Go.Proofs.Ytimgcehogalhcaa
open Go.ChangeShapes Go.WideShapes Go.ChangeAt Go.RowKit
set_option maxRecDepth 100000

def lenV : Value → Nat | .slice _ n _ => n | _ => 0
def Recs (l : List Int) : Prop := l.length ≤ 24 ∧ ∀ x ∈ l, -1 ≤ x ∧ x < 25
theorem Recs.snoc {l : List Int} {x : Int} (h : Recs l) (hl : l.length < 24) (hx : -1 ≤ x ∧ x < 25) : Recs (l ++ [x]) :=
  ⟨by rw [List.length_append]; show l.length + 1 ≤ 24; omega, fun y hy => by
    rw [List.mem_append, List.mem_singleton] at hy
    rcases hy with hy | rfl
    · exact h.2 y hy
    · exact hx⟩
theorem OwnI.lenS {w : World} {base : Nat} {e : TypeId} {k : IntKind} {v : Value} {l : List Int} (h : OwnI w base e k v l) : ∃ a cap, v = .slice a l.length cap := by
  rcases h.shape with ⟨rfl, rfl⟩ | ⟨g, cap, rfl, _⟩
  · exact ⟨_, _, rfl⟩
  · exact ⟨_, _, rfl⟩
theorem nextC (g : Nat) (r : List Int) (val n : Int) (w : World) (h : CodesAt w g r val) (h1 : 1 ≤ n) (h2 : n ≤ 256) :
    Calls Try.prog 28 #[.pointer (some ⟨g, 0, none⟩), .int .i64 n] w fun e w' => ∃ x : Int, e = .returned (.int .i64 x) ∧ 0 ≤ x ∧ x < n ∧ CodesAt w' g r.tail val ∧ w.grownBy w' (some g) := by
  refine (next_any g r val n w h h1 h2).mono ?_
  rintro e w' ⟨rfl, hc, hg⟩
  have := nxt_bd r n h1
  exact ⟨_, rfl, this.1, this.2, hc, hg⟩
set_option maxRecDepth 100000 in
set_option maxHeartbeats 4000000 in
theorem records_any (v : Value) (cs : List Int) (w : World) (hv : SlI w .u8 v cs) : Calls Try.prog 16 #[v] w fun e w' => ∃ u l, e = .returned u ∧ OwnI w' w.heap.size 3 .i64 u l ∧ Hid (Recs l) ∧ Below w.heap.size w w' := by
  go_enter Try.func16, Try.ntmps16
  go_wp2_with fail
  refine (new_any _ cs 24 _ hv (by omega)).mono ?_; rintro e wb ⟨rfl, hcb, hbb⟩
  have HC := Lib.hid hcb
  have HB := Lib.hid hbb
  have hgl : w.heap.size < wb.heap.size := hcb.lt
  have HL0 : Hid ((cs.take 24).length ≤ 24) := by show _ ≤ _; rw [List.length_take]; omega
  clear hcb hbb hv
  go_wp2_with fail
  go_loopw [4] (fun u4 wr => ∃ (u : Value) (l r : List Int), u = u4 ∧ Hid (OwnI wr (w.heap.size + 1) 3 .i64 u l) ∧ Hid (Recs l ∧ l.length + r.length ≤ 24) ∧ Hid (CodesAt wr w.heap.size r 0) ∧ Hid (Below w.heap.size w wr)) (fun u4 _ => 25 - lenV u4)
  case atStart => exact ⟨_, [], cs.take 24, rfl, OwnI.nil _ _ _ _, ⟨⟨Nat.zero_le _, fun x hx => by simp at hx⟩, by have := HL0.out; show 0 + _ ≤ 24; omega⟩, HC, HB⟩
  case round =>
    clear HC HB HL0 hgl
    obtain ⟨u, l, r, rfl, HO, HR, HC, HB⟩ := hrel
    obtain ⟨wo, rfl⟩ : ∃ wo : World, wo = wr := ⟨_, rfl⟩
    obtain ⟨ua, uc, hue⟩ := HO.out.lenS
    subst hue
    have TL := Lib.hid (left_any w.heap.size r 0 wo HC.out)
    cases r with
    | nil =>
      go_wp2_with fail
      refine TL.out.mono ?_; rintro e w2 ⟨n, rfl, rfl⟩
      have HB2 := Lib.hid (below_drewN HB.out n)
      have HO2 := Lib.hid (HO.out.below (below_drewN (Below.refl _ _) n))
      clear TL HC HB HO
      simp only [List.isEmpty_nil, Bool.not_true] at *
      go_wp2_with fail
      go_ret
      exact ⟨_, l, rfl, HO2.out.mono_base (by omega), HR.out.1, HB2.out⟩
    | cons c r =>
      go_wp2_with fail
      refine TL.out.mono ?_; rintro e w2 ⟨n, rfl, rfl⟩
      have hbd := below_drewN (Below.refl wo.heap.size wo) n
      have HB2 := Lib.hid (below_drewN HB.out n)
      have HO2 := Lib.hid (HO.out.below hbd)
      have HC2 := Lib.hid (HC.out.kept HC.out.lt hbd)
      generalize wo.drewN n = w2 at *
      clear TL HC HB HO hbd
      simp only [List.isEmpty_cons, Bool.not_false] at *
      go_wp2_with fail
      refine (nextC w.heap.size (c :: r) 0 26 _ HC2.out (by omega) (by omega)).mono ?_; rintro e w3 ⟨x, rfl, hx0, hx1, hc3, hg3⟩
      have HC3 : Hid (CodesAt w3 w.heap.size r 0) := hc3
      have HO3 := Lib.hid (HO2.out.kept hg3 (HO2.out.ne (by omega)))
      have HB3 : Hid (Below w.heap.size w w3) := HB2.out.grown hg3 HB2.out.size (fun j hj => by cases hj; omega)
      have hwx : IntKind.i64.wrap (x - 1) = x - 1 := by rw [IntKind.wrap_i64]; omega
      obtain ⟨hr1, hr2⟩ := HR.out
      have hlt : l.length < 24 := by simp at hr2; omega
      have HR3 : Hid (Recs (l ++ [x - 1]) ∧ (l ++ [x - 1]).length + r.length ≤ 24) := ⟨hr1.snoc hlt (by omega), by rw [List.length_append]; simp at hr2; show l.length + 1 + _ ≤ 24; omega⟩
      have hsz : w.heap.size + 1 ≤ w3.heap.size := HC3.out.lt
      have HW := Lib.hid hwx
      clear hc3 hg3 HC2 HO2 HB2 hx0 hx1 hr1 hr2 HR
      go_wp2_with (at_builtin; refine wp_append_i64 _ rfl _ _ rfl (w.heap.size + 1) _ l rfl (OwnI.alloc HO3.out _) (x - 1) _ rfl (World.cell?_alloc_at _ _ _ _ rfl) (by omega) (by simp; omega) ?_; intro v2 w4 h1 h2; have H1 := Lib.hid h1; have H2 := Lib.hid h2; clear h1 h2)
      have HB4 : Hid (Below w.heap.size w w4) := (below_new HB3.out _).grown H2.out (by have := HB3.out.size; simp; omega) (fun j hj => by have := HO3.out.own_ge j hj; omega)
      have HC4 := Lib.hid (HC3.out.kept (B := w.heap.size + 1) (by omega) (((Below.refl _ w3).alloc hsz _).grown H2.out (by simp; omega) HO3.out.own_ge))
      obtain ⟨va, vc, hve⟩ := H1.out.lenS
      subst hve
      go_roundw
      case rel => exact ⟨_, l ++ [x - 1], r, rfl, H1, HR3, HC4, HB4⟩
      case measure => simp [lenV]; omega
end Go.Proofs.Ytimgcehogalhcaa
