/- Proved: ModelApplies returns true for every list of codes and every result raw, and its arguments read afterwards as before; no condition. -/
import Derived.Deep.DeepCutAuto
import Derived.Deep.CutBlock
import Derived.LoopTactic
import Derived.WalkKit
import Derived.ProofKit
import Derived.OpenShut
import Derived.SizedLaws
import Derived.Test.YtckjdlphilpgfaaB01
import Derived.Test.YtckjdlphilpgfaaB24
import Derived.Test.YtckjdlphilpgfaaB17
import Derived.Test.YtckjdlphilpgfaaB20
import Derived.Test.YtckjdlphilpgfaaB21
import Derived.Test.YtckjdlphilpgfaaB25
import Derived.Test.YtckjdlphilpgfaaB15
import Derived.Test.YtckjdlphilpgfaaB26
namespace Go.Proofs.Ytckjdlphilpgfaa.modelApplies
open Go.ChangeShapes Go.WideShapes Go.ChangeAt Go.RowKit
set_option linter.unusedVariables false
set_option linter.unusedSimpArgs false
theorem below_poke {w a b : World} {g : Nat} (h : Below w.heap.size w a) (hg : a.grownBy b (some g)) (hw : w.heap.size ≤ g) : Below w.heap.size w b := below_grown h hg hw
theorem row_keep {a b : World} {g j : Nat} {ob : Obj} (hg : a.grownBy b (some g)) (h : a.heap[j]? = some ob) (hj : j ≠ g) : b.heap[j]? = some ob :=
  (hg.block j (Array.getElem?_eq_some_iff.1 h).1 (fun e => hj (by simpa using e))).trans h
theorem row_below2 {a b : World} {j : Nat} {ob : Obj} (hb : Below a.heap.size a b) (h : a.heap[j]? = some ob) : b.heap[j]? = some ob := (hb.block j (Array.getElem?_eq_some_iff.1 h).1).trans h
theorem SlH.nil (w : World) : SlH w (.slice none 0 0) [] := ⟨[], rfl, SlS.nil w 3, fun i hi => by simp at hi, fun c hc => by simp at hc, fineB.nil w⟩
/-- the law's world between two operations -/
structure ApI (w wr : World) (g X : Nat) (cv : Value) (crow rrow : Array Value) (c : ConfM) (v : Value) (l : List ChanM) (m : Nat) : Prop where
  sl : SlH wr v l
  len : l.length ≤ 3
  buf : ∀ x ∈ l, x.buf.length ≤ m
  code : CodesE wr g
  conf : ConfX wr g cv c
  cr : wr.heap[X]? = some (.cells crow 34 (0, 0))
  rr : wr.heap[w.heap.size]? = some (.cells rrow 25 (0, 0))
  below : Below w.heap.size w wr
  gX : g < X
  gw : w.heap.size < g
theorem ApI.draw {w wr w2 : World} {g X : Nat} {cv : Value} {crow rrow : Array Value} {c : ConfM} {v : Value} {l : List ChanM} {m : Nat} (h : ApI w wr g X cv crow rrow c v l m) (hg : wr.grownBy w2 (some g)) (hc : CodesE w2 g) : ApI w w2 g X cv crow rrow c v l m :=
  ⟨h.sl.grown hg (codes_is h.code), h.len, h.buf, hc, h.conf.grown hg, row_keep hg h.cr (by have := h.gX; omega), row_keep hg h.rr (by have := h.gw; omega), below_grown h.below hg (Nat.le_of_lt h.gw), h.gX, h.gw⟩
theorem ApI.over {w wr w2 : World} {g X : Nat} {cv : Value} {crow rrow : Array Value} {c : ConfM} {v : Value} {l : List ChanM} {m : Nat} (h : ApI w wr g X cv crow rrow c v l m) (hb : Below wr.heap.size wr w2) : ApI w w2 g X cv crow rrow c v l m :=
  ⟨h.sl.below hb, h.len, h.buf, h.code.kept h.code.lt hb, h.conf.below hb, row_below2 hb h.cr, row_below2 hb h.rr, below_then h.below hb, h.gX, h.gw⟩
theorem modR_keeps {l l' : List ChanM} {op : OpM} {r : ResM} {m : Nat} (h : ModR l op r l') (hb : ∀ x ∈ l, x.buf.length ≤ m) : l'.length = l.length ∧ ∀ x ∈ l', x.buf.length ≤ m + 1 := by
  have hg : ∀ i, i < l.length → (l.getD i noChan).buf.length ≤ m := fun i hi => by
    rw [List.getD_eq_getElem?_getD, List.getElem?_eq_getElem hi]
    exact hb _ (List.getElem_mem hi)
  cases h with
  | sent x i hk hc hx hi e =>
    subst e
    refine ⟨List.length_set, fun y hy => ?_⟩
    rcases List.mem_or_eq_of_mem_set hy with hy | rfl
    · have := hb y hy; omega
    · have := hg i hi
      show ((l.getD i noChan).buf ++ [x.val]).length ≤ _
      rw [List.length_append]
      show _ + 1 ≤ _
      omega
  | got x i y t hk ho hc hx hi hbb e =>
    subst e
    refine ⟨List.length_set, fun y hy => ?_⟩
    rcases List.mem_or_eq_of_mem_set hy with hy | rfl
    · have := hb y hy; omega
    · have := hg i hi
      rw [hbb] at this
      simp at this
      show t.length ≤ _
      omega
  | shut i hk hx hi e =>
    subst e
    refine ⟨List.length_set, fun y hy => ?_⟩
    rcases List.mem_or_eq_of_mem_set hy with hy | rfl
    · have := hb y hy; omega
    · have := hg i hi
      show (l.getD i noChan).buf.length ≤ _
      omega
  | same h1 h2 h6 e =>
    subst e
    exact ⟨rfl, fun y hy => by have := hb y hy; omega⟩
theorem ApI.mod {w wr : World} {g X : Nat} {cv : Value} {crow rrow : Array Value} {c : ConfM} {v v2 : Value} {l l2 : List ChanM} {op : OpM} {r : ResM} {m : Nat} (h : ApI w wr g X cv crow rrow c v l m) (hs : SlH wr v2 l2) (hm : ModR l op r l2) : ApI w wr g X cv crow rrow c v2 l2 (m + 1) :=
  ⟨hs, by rw [(modR_keeps hm h.buf).1]; exact h.len, (modR_keeps hm h.buf).2, h.code, h.conf, h.cr, h.rr, h.below, h.gX, h.gw⟩
theorem ApI.wide {w wr : World} {g X : Nat} {cv : Value} {crow rrow : Array Value} {c : ConfM} {v : Value} {l : List ChanM} {m m2 : Nat} (h : ApI w wr g X cv crow rrow c v l m) (hm : m ≤ m2) : ApI w wr g X cv crow rrow c v l m2 :=
  ⟨h.sl, h.len, fun x hx => Nat.le_trans (h.buf x hx) hm, h.code, h.conf, h.cr, h.rr, h.below, h.gX, h.gw⟩
set_option maxRecDepth 100000 in
set_option maxHeartbeats 16000000 in
theorem walk (w : World) (v0 : Value) (l0 : List Int) (s0 : SlI w .u8 v0 l0) (r1 : ResM) :
    Calls Try.prog 3 #[v0, resW r1] w fun e w' => e = .returned (.bool true) ∧ Below w.heap.size w w' := by
  have HS0 := Lib.hid s0
  obtain ⟨rk, rc, rv, rok, nm⟩ := r1
  unfold resW
  dsimp only
  clear s0
  obtain ⟨W, hW, HB, R0, hz⟩ := one_new w (.cells #[.int .i64 rk, .int .i64 rc, .int .u64 rv, .bool rok, .int .i64 nm] 25)
  have HW := Lib.hid hW
  have AW := Lib.hid (awake_any W)
  have hzz : w.heap.size < W.heap.size := by omega
  clear hW hz
  go_enter Try.func3, Try.ntmps3
  go_wp2_with fail
  rw [HW.out]
  clear HW
  refine AW.out.mono ?_; rintro e w1 ⟨rfl, hb1⟩
  have HB1 := Lib.hid (below_then HB.out hb1)
  have R01 := Lib.hid (row_below2 hb1 R0.out)
  have hz1 : w.heap.size < w1.heap.size := Nat.lt_of_lt_of_le hzz hb1.size
  clear hb1 AW R0 HB hzz
  go_wp2_with fail
  refine (new_any _ l0 200 _ (HS0.out.below HB1.out) (by omega)).mono ?_; rintro e w2 ⟨rfl, hc2, hb2⟩
  have hC2 : Hid (CodesE w2 w1.heap.size) := ⟨_, _, hc2⟩
  have HB2 := Lib.hid (below_then HB1.out hb2)
  have R02 := Lib.hid (row_below2 hb2 R01.out)
  obtain ⟨g, hg⟩ : ∃ g, w1.heap.size = g := ⟨_, rfl⟩
  rw [hg] at hC2 hz1
  rw [hg]
  clear hc2 hb2 hg HS0 HB1 R01
  go_wp2_with fail
  refine (chans_any g w2 hC2.out).mono ?_; rintro e w3 ⟨v, rfl, l, hsv, hcr, hc3, hg3⟩
  have HV3 := Lib.hid hsv
  have HC3 := Lib.hid hc3
  have HB3 := Lib.hid (below_poke HB2.out hg3 (Nat.le_of_lt hz1))
  have R03 := Lib.hid (row_keep hg3 R02.out (by omega))
  have HLL := Lib.hid hcr
  obtain ⟨av, cv, rfl, -⟩ := hsv.len
  clear hsv hcr hc3 hg3 HB2 R02 hC2
  go_wp2_with fail
  refine (configL_any _ l w3 HV3.out (by have := HLL.out.hi; omega)).mono ?_; rintro e w4 ⟨vc, vs, rfl, caps, hoc, hlc, hwc, starts, hos, hls, hws, hb4⟩
  obtain ⟨ac, nc, kc, rfl⟩ := own_slice hoc
  obtain ⟨ast, nst, kst, rfl⟩ := own_slice hos
  have hgl := HC3.out.lt
  have HCX : Hid (ConfX w4 g (.agg #[.slice ac nc kc, .slice ast nst kst, .int .i64 2]) ⟨caps, starts, 2⟩) := ⟨_, _, rfl, hoc.read (by have := HLL.out.hi; omega) hwc, hos.read (by have := HLL.out.hi; omega) hws, hoc.off (by omega), hos.off (by omega)⟩
  obtain ⟨c, hc⟩ : ∃ c : ConfM, (⟨caps, starts, 2⟩ : ConfM) = c := ⟨_, rfl⟩
  have HCL : Hid (c.caps.length ≤ 8) := by
    show _ ≤ _
    rw [← hc]
    have := HLL.out.hi
    show caps.length ≤ 8
    omega
  rw [hc] at HCX
  have HC4 := Lib.hid (HC3.out.kept hgl hb4)
  have HV4 := Lib.hid (HV3.out.below hb4)
  have HB4 := Lib.hid (below_then HB3.out hb4)
  have R04 := Lib.hid (row_below2 hb4 R03.out)
  have hg4 : g < w4.heap.size := Nat.lt_of_lt_of_le hgl hb4.size
  clear hoc hlc hwc hos hls hws hb4 hc HC3 HV3 HB3 R03 hgl
  obtain ⟨Wx, hWx⟩ : ∃ Wx, (w4.alloc (.cells #[.slice none 0 0, .slice none 0 0, .int .i64 0] 34)).setRow w4.heap.size #[.slice ac nc kc, .slice ast nst kst, .int .i64 2] = Wx := ⟨_, rfl⟩
  have Nx : Hid ((w4.alloc (.cells #[.slice none 0 0, .slice none 0 0, .int .i64 0] 34)).heap[w4.heap.size]? = some (.cells #[.slice none 0 0, .slice none 0 0, .int .i64 0] 34 (0, 0))) := heap_alloc_new _ _
  have HBx : Hid (Below w4.heap.size w4 Wx) := hWx ▸ row_below (below_new (Below.refl _ _) _) (Nat.le_refl _) _
  have Rx : Hid (Wx.heap[w4.heap.size]? = some (.cells #[.slice ac nc kc, .slice ast nst kst, .int .i64 2] 34 (0, 0))) := hWx ▸ setRow_heap _ _ _ _ _ (0, 0) Nx.out
  have HWx := Lib.hid hWx
  clear hWx
  go_upto_region 6 with (refine wpList_store_row rfl 34 _ _ rfl (w4.heap.size) _ rfl rfl 34 #[.slice none 0 0, .slice none 0 0, .int .i64 0] Nx.out (by kernel_rfl) rfl (by simp [Value.oneCell']) ?_)
  rw [HWx.out]
  try simp only [Act.put]
  clear HWx Nx
  obtain ⟨X, hX⟩ : ∃ X, w4.heap.size = X := ⟨_, rfl⟩
  rw [hX] at Rx
  rw [hX]
  have hgX : g < X := by omega
  clear hX
  have HI0 : Hid (ApI w Wx g X (.agg #[.slice ac nc kc, .slice ast nst kst, .int .i64 2]) #[.slice ac nc kc, .slice ast nst kst, .int .i64 2] #[.int .i64 rk, .int .i64 rc, .int .u64 rv, .bool rok, .int .i64 nm] c (.slice av l.length cv) l 16) := ⟨HV4.out.below HBx.out, HLL.out.hi, HLL.out.bufs, HC4.out.kept HC4.out.lt HBx.out, HCX.out.below HBx.out, Rx.out, row_below2 HBx.out R04.out, below_then HB4.out HBx.out, hgX, hz1⟩
  clear HV4 HLL HC4 HCX HBx Rx R04 HB4 hgX hz1 hg4
  obtain ⟨vl0, hvl0⟩ : ∃ z, (Value.slice av l.length cv) = z := ⟨_, rfl⟩
  rw [hvl0] at HI0 ⊢
  have HSH : Hid (∃ p n q, vl0 = .slice p n q) := ⟨_, _, _, hvl0.symm⟩
  clear hvl0
  go_wp2_with fail
  go_loopw [6, 8] (fun u6 u8 wr => ∃ (i : Nat) (v : Value) (l : List ChanM), v = u6 ∧ u8 = .int .i64 i ∧ i ≤ 10 ∧ Hid (ApI w wr g X (.agg #[.slice ac nc kc, .slice ast nst kst, .int .i64 2]) #[.slice ac nc kc, .slice ast nst kst, .int .i64 2] #[.int .i64 rk, .int .i64 rc, .int .u64 rv, .bool rok, .int .i64 nm] c v l (16 + 3 * i))) (fun _ u8 _ => 10 - (intOf u8).toNat)
  case atStart => exact ⟨0, _, l, rfl, rfl, by omega, HI0⟩
  case round =>
    clear HI0 HSH
    obtain ⟨i, v, l, rfl, rfl, hi, HI⟩ := hrel
    obtain ⟨wo, rfl⟩ : ∃ wo : World, wo = wr := ⟨_, rfl⟩
    by_cases hlt : i < 10
    · have hltI : (i : Int) < 10 := by omega
      obtain ⟨av, kv, hve, -⟩ := HI.out.sl.len
      subst hve
      obtain ⟨x0, x1, x2⟩ := rowc3 HI.out.cr
      go_wp2_with fail
      refine (opE g _ c wo HI.out.code HI.out.conf HCL.out).mono ?_; rintro e wA ⟨uo, op, rfl, hop, hgd, hcA, hgA⟩
      have HIA := Lib.hid (HI.out.draw hgA hcA)
      have HGD := Lib.hid hgd
      have HOA := Lib.hid (hop.opx HI.out.code.lt)
      obtain ⟨vo1, vo2, rfl, hoc, hod, -, -⟩ := hop
      obtain ⟨a3, cap3, rfl⟩ := hoc.len
      obtain ⟨a4, cap4, rfl, -⟩ := hod.len
      clear hoc hod hgd hcA hgA x0 x1 x2 HI
      obtain ⟨Wy, hWy⟩ : ∃ Wy, (wA.alloc (.cells #[.int .i64 0, .int .i64 0, .int .i64 0, .int .u64 0, .int .i64 0, .slice none 0 0, .slice none 0 0] 38)).setRow wA.heap.size #[.int .i64 op.kind, .int .i64 op.mode, .int .i64 op.chan, .int .u64 op.val, .int .i64 op.dl, .slice a3 op.cases.length cap3, .slice a4 op.draws.length cap4] = Wy := ⟨_, rfl⟩
      have Ny : Hid ((wA.alloc (.cells #[.int .i64 0, .int .i64 0, .int .i64 0, .int .u64 0, .int .i64 0, .slice none 0 0, .slice none 0 0] 38)).heap[wA.heap.size]? = some (.cells #[.int .i64 0, .int .i64 0, .int .i64 0, .int .u64 0, .int .i64 0, .slice none 0 0, .slice none 0 0] 38 (0, 0))) := heap_alloc_new _ _
      have HBy : Hid (Below wA.heap.size wA Wy) := hWy ▸ row_below (below_new (Below.refl _ _) _) (Nat.le_refl _) _
      have Ry : Hid (Wy.heap[wA.heap.size]? = some (.cells #[.int .i64 op.kind, .int .i64 op.mode, .int .i64 op.chan, .int .u64 op.val, .int .i64 op.dl, .slice a3 op.cases.length cap3, .slice a4 op.draws.length cap4] 38 (0, 0))) := hWy ▸ setRow_heap _ _ _ _ _ (0, 0) Ny.out
      have HWy := Lib.hid hWy
      clear hWy
      go_upto_region 10 with (refine wpList_store_row rfl 38 _ _ rfl (wA.heap.size) _ rfl rfl 38 #[.int .i64 0, .int .i64 0, .int .i64 0, .int .u64 0, .int .i64 0, .slice none 0 0, .slice none 0 0] Ny.out (by kernel_rfl) rfl (by simp [Value.oneCell']) ?_)
      rw [HWy.out]
      try simp only [Act.put]
      clear HWy Ny
      obtain ⟨Y, hY⟩ : ∃ Y, wA.heap.size = Y := ⟨_, rfl⟩
      rw [hY] at Ry
      rw [hY]
      have hYY : wA.heap.size = Y := hY
      clear hY
      have HIY := Lib.hid (HIA.out.over HBy.out)
      have HOY := Lib.hid (HOA.out.below HBy.out)
      have hgY : g < Y := by have := HIA.out.code.lt; omega
      clear HIA HOA HBy hYY
      go_cut [40, 41, 42] (fun s40 s41 s42 wx => ∃ (Z : Nat) (p q : ResM), s40 = .slice (some ⟨Z, 0, none⟩) 3 3 ∧ s41 = .int .i64 3 ∧ s42 = .int .i64 0 ∧ Hid (wx.heap[Z]? = some (.cells (resL p ++ resL q ++ resL ⟨rk, rc, rv, rok, nm⟩).toArray 25 (0, 0))) ∧ Hid (ApI w wx g X (.agg #[.slice ac nc kc, .slice ast nst kst, .int .i64 2]) #[.slice ac nc kc, .slice ast nst kst, .int .i64 2] #[.int .i64 rk, .int .i64 rc, .int .u64 rv, .bool rok, .int .i64 nm] c (.slice av l.length kv) l (16 + 3 * i)) ∧ Hid (OpX wx g (.agg #[.int .i64 op.kind, .int .i64 op.mode, .int .i64 op.chan, .int .u64 op.val, .int .i64 op.dl, .slice a3 op.cases.length cap3, .slice a4 op.draws.length cap4]) op) ∧ Hid (wx.heap[Y]? = some (.cells #[.int .i64 op.kind, .int .i64 op.mode, .int .i64 op.chan, .int .u64 op.val, .int .i64 op.dl, .slice a3 op.cases.length cap3, .slice a4 op.draws.length cap4] 38 (0, 0))) ∧ g < Z)
      case first =>
        have KS : Hid (∀ w', w'.heap[Y]? = some (.cells #[.int .i64 op.kind, .int .i64 op.mode, .int .i64 op.chan, .int .u64 op.val, .int .i64 op.dl, .slice a3 op.cases.length cap3, .slice a4 op.draws.length cap4] 38 (0, 0)) → w'.heap[w.heap.size]? = some (.cells #[.int .i64 rk, .int .i64 rc, .int .u64 rv, .bool rok, .int .i64 nm] 25 (0, 0)) → (fun w' : World => (w'.cell? ⟨Y, 0, none⟩ = some (.int .i64 op.kind) ∧ w'.cell? ⟨Y, 1, none⟩ = some (.int .i64 op.mode) ∧ w'.cell? ⟨Y, 2, none⟩ = some (.int .i64 op.chan) ∧ w'.cell? ⟨Y, 3, none⟩ = some (.int .u64 op.val) ∧ w'.cell? ⟨Y, 4, none⟩ = some (.int .i64 op.dl) ∧ w'.cell? ⟨Y, 5, none⟩ = some (.slice a3 op.cases.length cap3) ∧ w'.cell? ⟨Y, 6, none⟩ = some (.slice a4 op.draws.length cap4)) ∧ (w'.cell? ⟨w.heap.size, 0, none⟩ = some (.int .i64 rk) ∧ w'.cell? ⟨w.heap.size, 1, none⟩ = some (.int .i64 rc) ∧ w'.cell? ⟨w.heap.size, 2, none⟩ = some (.int .u64 rv) ∧ w'.cell? ⟨w.heap.size, 3, none⟩ = some (.bool rok) ∧ w'.cell? ⟨w.heap.size, 4, none⟩ = some (.int .i64 nm))) w') := fun w' h1 h2 => ⟨rowc7 h1, rowc5 h2⟩
        have HIU0 := Lib.hid (HIY.out.over (below_drewN (Below.refl _ _) 1))
        have HOU0 := Lib.hid (HOY.out.below (below_drewN (Below.refl _ _) 1))
        have RYU0 := Lib.hid (row_below2 (below_drewN (Below.refl _ _) 1) Ry.out)
        refine wp_region_until (fun w' : World => (w'.cell? ⟨Y, 0, none⟩ = some (.int .i64 op.kind) ∧ w'.cell? ⟨Y, 1, none⟩ = some (.int .i64 op.mode) ∧ w'.cell? ⟨Y, 2, none⟩ = some (.int .i64 op.chan) ∧ w'.cell? ⟨Y, 3, none⟩ = some (.int .u64 op.val) ∧ w'.cell? ⟨Y, 4, none⟩ = some (.int .i64 op.dl) ∧ w'.cell? ⟨Y, 5, none⟩ = some (.slice a3 op.cases.length cap3) ∧ w'.cell? ⟨Y, 6, none⟩ = some (.slice a4 op.draws.length cap4)) ∧ (w'.cell? ⟨w.heap.size, 0, none⟩ = some (.int .i64 rk) ∧ w'.cell? ⟨w.heap.size, 1, none⟩ = some (.int .i64 rc) ∧ w'.cell? ⟨w.heap.size, 2, none⟩ = some (.int .u64 rv) ∧ w'.cell? ⟨w.heap.size, 3, none⟩ = some (.bool rok) ∧ w'.cell? ⟨w.heap.size, 4, none⟩ = some (.int .i64 nm))) 9 12 (by kernel_rfl) rfl ?_
        obtain ⟨u0, hu0, HU0⟩ : ∃ u, (Wy.drewN 1) = u ∧ Hid True := ⟨_, rfl, trivial⟩
        rw [show Wy.drew = Wy.drewN 1 from rfl, hu0]
        rw [hu0] at HIU0 HOU0 RYU0
        clear hu0
        have hSU0 := KS.out _ RYU0.out HIU0.out.rr
        refine tkU (v := ?_) 8 la8 hSU0 (by kernel_rfl) (fun _ _ _ h => h) rfl ?_ ?_
        rotate_left
        · (intro w hSw; (try dsimp only at hSw); go_simp <;> with_reducible rfl)
        simp only [Act.put, List.setIfInBounds_toArray, List.set_cons_zero, List.set_cons_succ]
        refine wpAnyU_takeW (v := ?_) 0 la0 (by kernel_rfl) (by kernel_rfl) (by kernel_rfl) (by kernel_rfl) (fun _ _ _ h => h) (fun _ => hSU0) rfl ?_ ?_
        rotate_left
        · (intro w; go_simp <;> with_reducible rfl)
        simp only [Act.put, List.setIfInBounds_toArray, List.set_cons_zero, List.set_cons_succ]
        refine wpAnyU_takeW (v := ?_) 1 la1 (by kernel_rfl) (by kernel_rfl) (by kernel_rfl) (by kernel_rfl) (fun _ _ _ h => h) (fun _ => hSU0) rfl ?_ ?_
        rotate_left
        · (intro w; go_simp <;> with_reducible rfl)
        simp only [Act.put, List.setIfInBounds_toArray, List.set_cons_zero, List.set_cons_succ]
        refine wpAnyU_takeW (v := ?_) 4 la4 (by kernel_rfl) (by kernel_rfl) (by kernel_rfl) (by kernel_rfl) (fun _ _ _ h => h) (fun _ => hSU0) rfl ?_ ?_
        rotate_left
        · (intro w; go_simp <;> with_reducible rfl)
        simp only [Act.put, List.setIfInBounds_toArray, List.set_cons_zero, List.set_cons_succ]
        refine wpAnyU_takeW (v := ?_) 5 la5 (by kernel_rfl) (by kernel_rfl) (by kernel_rfl) (by kernel_rfl) (fun _ _ _ h => h) (fun _ => hSU0) rfl ?_ ?_
        rotate_left
        · (intro w; go_simp <;> with_reducible rfl)
        simp only [Act.put, List.setIfInBounds_toArray, List.set_cons_zero, List.set_cons_succ]
        refine wpAnyU_takeW (v := ?_) 11 la11 (by kernel_rfl) (by kernel_rfl) (by kernel_rfl) (by kernel_rfl) (fun _ _ _ h => h) (fun _ => hSU0) rfl ?_ ?_
        rotate_left
        · (intro w; go_simp <;> with_reducible rfl)
        simp only [Act.put, List.setIfInBounds_toArray, List.set_cons_zero, List.set_cons_succ]
        refine wpAnyU_ready (rs := [2, 6]) (by kernel_rfl) rfl ?_
        refine AllReadyU.cons la2 rfl (fun K hK => ?_) ?_
        · obtain ⟨⟨d0, d1, d2, d3, d4, d5, d6⟩, -⟩ := KS.out _ RYU0.out HIU0.out.rr
          go_simp
          clear d0 d1 d2 d3 d4 d5 d6
          refine hK.out _ _ ?_ (fun hSU1 => ?_)
          · exact hSU0
          clear hK K hSU0
          try simp only [Act.put, List.setIfInBounds_toArray, List.set_cons_zero, List.set_cons_succ]
          refine wpAnyU_ready (rs := [3, 6]) (by kernel_rfl) rfl ?_
          refine AllReadyU.cons la3 rfl (fun K hK => ?_) ?_
          · go_simp
            go_at_call 14
            refine (result_any g _ _ l op u0 HIU0.out.code HIU0.out.sl HOU0.out (by have := HGD.out.cases; omega)).mono ?_
            rintro e u1 ⟨⟨p10, p20, p30, p40, p50⟩, rfl, hcc, hgg⟩
            unfold resW
            dsimp only
            have HIU1 := Lib.hid (HIU0.out.draw hgg hcc)
            have HOU1 := Lib.hid (HOU0.out.grown hgg)
            have RYU1 := Lib.hid (row_keep hgg RYU0.out (by omega))
            clear hcc hgg
            refine hK.out _ _ ?_ (fun hSU2 => ?_)
            · exact KS.out _ RYU1.out HIU1.out.rr
            clear hK K hSU1
            try simp only [Act.put, List.setIfInBounds_toArray, List.set_cons_zero, List.set_cons_succ]
            refine wpAnyU_ready (rs := [6]) (by kernel_rfl) rfl ?_
            refine AllReadyU.cons la6 rfl (fun K hK => ?_) ?_
            · obtain ⟨⟨d0, d1, d2, d3, d4, d5, d6⟩, -⟩ := KS.out _ RYU1.out HIU1.out.rr
              go_simp
              clear d0 d1 d2 d3 d4 d5 d6
              refine hK.out _ _ ?_ (fun hSU3 => ?_)
              · exact hSU2
              clear hK K hSU2
              try simp only [Act.put, List.setIfInBounds_toArray, List.set_cons_zero, List.set_cons_succ]
              refine wpAnyU_ready (rs := [7]) (by kernel_rfl) rfl ?_
              refine AllReadyU.cons la7 rfl (fun K hK => ?_) ?_
              · go_simp
                go_at_call 14
                refine (result_any g _ _ l op u1 HIU1.out.code HIU1.out.sl HOU1.out (by have := HGD.out.cases; omega)).mono ?_
                rintro e u2 ⟨⟨p11, p21, p31, p41, p51⟩, rfl, hcc, hgg⟩
                unfold resW
                dsimp only
                have HIU2 := Lib.hid (HIU1.out.draw hgg hcc)
                have HOU2 := Lib.hid (HOU1.out.grown hgg)
                have RYU2 := Lib.hid (row_keep hgg RYU1.out (by omega))
                clear hcc hgg
                refine hK.out _ _ ?_ (fun hSU4 => ?_)
                · exact KS.out _ RYU2.out HIU2.out.rr
                clear hK K hSU3
                try simp only [Act.put, List.setIfInBounds_toArray, List.set_cons_zero, List.set_cons_succ]
                refine wpAnyU_ready (rs := [9]) (by kernel_rfl) rfl ?_
                refine AllReadyU.free la9 rfl (by kernel_rfl) (fun K hK => ?_) ?_
                · go_simp
                  refine hK.out _ _ ?_
                  clear hK K hSU4
                  try simp only [Act.put, List.setIfInBounds_toArray, List.set_cons_zero, List.set_cons_succ]
                  refine wpAnyU_ready (rs := [10]) (by kernel_rfl) rfl ?_
                  refine AllReadyU.free la10 rfl (by kernel_rfl) (fun K hK => ?_) ?_
                  · go_simp
                    refine hK.out _ _ ?_
                    clear hK K
                    try simp only [Act.put, List.setIfInBounds_toArray, List.set_cons_zero, List.set_cons_succ]
                    refine wpAnyU_done (by kernel_rfl) ?_ _
                    have HZ : Hid (∀ w9, w9 = u2.alloc (.cells #[.int .i64 p10, .int .i64 p20, .int .u64 p30, .bool p40, .int .i64 p50, .int .i64 p11, .int .i64 p21, .int .u64 p31, .bool p41, .int .i64 p51, .int .i64 rk, .int .i64 rc, .int .u64 rv, .bool rok, .int .i64 nm] 25) → Hid (w9.heap[u2.heap.size]? = some (.cells (resL ⟨p10, p20, p30, p40, p50⟩ ++ resL ⟨p11, p21, p31, p41, p51⟩ ++ resL ⟨rk, rc, rv, rok, nm⟩).toArray 25 (0, 0))) ∧ Hid (ApI w w9 g X (.agg #[.slice ac nc kc, .slice ast nst kst, .int .i64 2]) #[.slice ac nc kc, .slice ast nst kst, .int .i64 2] #[.int .i64 rk, .int .i64 rc, .int .u64 rv, .bool rok, .int .i64 nm] c (.slice av l.length kv) l (16 + 3 * i)) ∧ Hid (OpX w9 g (.agg #[.int .i64 op.kind, .int .i64 op.mode, .int .i64 op.chan, .int .u64 op.val, .int .i64 op.dl, .slice a3 op.cases.length cap3, .slice a4 op.draws.length cap4]) op) ∧ Hid (w9.heap[Y]? = some (.cells #[.int .i64 op.kind, .int .i64 op.mode, .int .i64 op.chan, .int .u64 op.val, .int .i64 op.dl, .slice a3 op.cases.length cap3, .slice a4 op.draws.length cap4] 38 (0, 0))) ∧ g < u2.heap.size) := fun w9 h9 => by
                      subst h9
                      have hb := below_new (Below.refl u2.heap.size u2) (.cells #[.int .i64 p10, .int .i64 p20, .int .u64 p30, .bool p40, .int .i64 p50, .int .i64 p11, .int .i64 p21, .int .u64 p31, .bool p41, .int .i64 p51, .int .i64 rk, .int .i64 rc, .int .u64 rv, .bool rok, .int .i64 nm] 25)
                      exact ⟨heap_alloc_new _ _, HIU2.out.over hb, HOU2.out.below hb, row_below2 hb RYU2.out, HIU2.out.code.lt⟩
                    go_wp2_with fail
                    go_meet
                    exact ⟨_, ⟨p10, p20, p30, p40, p50⟩, ⟨p11, p21, p31, p41, p51⟩, rfl, rfl, rfl, HZ.out _ rfl⟩
                  exact AllReadyU.nil
                exact AllReadyU.nil
              exact AllReadyU.nil
            exact AllReadyU.nil
          refine AllReadyU.cons la6 rfl (fun K hK => ?_) ?_
          · obtain ⟨⟨d0, d1, d2, d3, d4, d5, d6⟩, -⟩ := KS.out _ RYU0.out HIU0.out.rr
            go_simp
            clear d0 d1 d2 d3 d4 d5 d6
            refine hK.out _ _ ?_ (fun hSU5 => ?_)
            · exact hSU1
            clear hK K hSU1
            try simp only [Act.put, List.setIfInBounds_toArray, List.set_cons_zero, List.set_cons_succ]
            refine wpAnyU_ready (rs := [3]) (by kernel_rfl) rfl ?_
            refine AllReadyU.cons la3 rfl (fun K hK => ?_) ?_
            · go_simp
              go_at_call 14
              refine (result_any g _ _ l op u0 HIU0.out.code HIU0.out.sl HOU0.out (by have := HGD.out.cases; omega)).mono ?_
              rintro e u1 ⟨⟨p10, p20, p30, p40, p50⟩, rfl, hcc, hgg⟩
              unfold resW
              dsimp only
              have HIU1 := Lib.hid (HIU0.out.draw hgg hcc)
              have HOU1 := Lib.hid (HOU0.out.grown hgg)
              have RYU1 := Lib.hid (row_keep hgg RYU0.out (by omega))
              clear hcc hgg
              refine hK.out _ _ ?_ (fun hSU6 => ?_)
              · exact KS.out _ RYU1.out HIU1.out.rr
              clear hK K hSU5
              try simp only [Act.put, List.setIfInBounds_toArray, List.set_cons_zero, List.set_cons_succ]
              refine wpAnyU_ready (rs := [7]) (by kernel_rfl) rfl ?_
              refine AllReadyU.cons la7 rfl (fun K hK => ?_) ?_
              · go_simp
                go_at_call 14
                refine (result_any g _ _ l op u1 HIU1.out.code HIU1.out.sl HOU1.out (by have := HGD.out.cases; omega)).mono ?_
                rintro e u2 ⟨⟨p11, p21, p31, p41, p51⟩, rfl, hcc, hgg⟩
                unfold resW
                dsimp only
                have HIU2 := Lib.hid (HIU1.out.draw hgg hcc)
                have HOU2 := Lib.hid (HOU1.out.grown hgg)
                have RYU2 := Lib.hid (row_keep hgg RYU1.out (by omega))
                clear hcc hgg
                refine hK.out _ _ ?_ (fun hSU7 => ?_)
                · exact KS.out _ RYU2.out HIU2.out.rr
                clear hK K hSU6
                try simp only [Act.put, List.setIfInBounds_toArray, List.set_cons_zero, List.set_cons_succ]
                refine wpAnyU_ready (rs := [9]) (by kernel_rfl) rfl ?_
                refine AllReadyU.free la9 rfl (by kernel_rfl) (fun K hK => ?_) ?_
                · go_simp
                  refine hK.out _ _ ?_
                  clear hK K hSU7
                  try simp only [Act.put, List.setIfInBounds_toArray, List.set_cons_zero, List.set_cons_succ]
                  refine wpAnyU_ready (rs := [10]) (by kernel_rfl) rfl ?_
                  refine AllReadyU.free la10 rfl (by kernel_rfl) (fun K hK => ?_) ?_
                  · go_simp
                    refine hK.out _ _ ?_
                    clear hK K
                    try simp only [Act.put, List.setIfInBounds_toArray, List.set_cons_zero, List.set_cons_succ]
                    refine wpAnyU_done (by kernel_rfl) ?_ _
                    have HZ : Hid (∀ w9, w9 = u2.alloc (.cells #[.int .i64 p10, .int .i64 p20, .int .u64 p30, .bool p40, .int .i64 p50, .int .i64 p11, .int .i64 p21, .int .u64 p31, .bool p41, .int .i64 p51, .int .i64 rk, .int .i64 rc, .int .u64 rv, .bool rok, .int .i64 nm] 25) → Hid (w9.heap[u2.heap.size]? = some (.cells (resL ⟨p10, p20, p30, p40, p50⟩ ++ resL ⟨p11, p21, p31, p41, p51⟩ ++ resL ⟨rk, rc, rv, rok, nm⟩).toArray 25 (0, 0))) ∧ Hid (ApI w w9 g X (.agg #[.slice ac nc kc, .slice ast nst kst, .int .i64 2]) #[.slice ac nc kc, .slice ast nst kst, .int .i64 2] #[.int .i64 rk, .int .i64 rc, .int .u64 rv, .bool rok, .int .i64 nm] c (.slice av l.length kv) l (16 + 3 * i)) ∧ Hid (OpX w9 g (.agg #[.int .i64 op.kind, .int .i64 op.mode, .int .i64 op.chan, .int .u64 op.val, .int .i64 op.dl, .slice a3 op.cases.length cap3, .slice a4 op.draws.length cap4]) op) ∧ Hid (w9.heap[Y]? = some (.cells #[.int .i64 op.kind, .int .i64 op.mode, .int .i64 op.chan, .int .u64 op.val, .int .i64 op.dl, .slice a3 op.cases.length cap3, .slice a4 op.draws.length cap4] 38 (0, 0))) ∧ g < u2.heap.size) := fun w9 h9 => by
                      subst h9
                      have hb := below_new (Below.refl u2.heap.size u2) (.cells #[.int .i64 p10, .int .i64 p20, .int .u64 p30, .bool p40, .int .i64 p50, .int .i64 p11, .int .i64 p21, .int .u64 p31, .bool p41, .int .i64 p51, .int .i64 rk, .int .i64 rc, .int .u64 rv, .bool rok, .int .i64 nm] 25)
                      exact ⟨heap_alloc_new _ _, HIU2.out.over hb, HOU2.out.below hb, row_below2 hb RYU2.out, HIU2.out.code.lt⟩
                    go_wp2_with fail
                    go_meet
                    exact ⟨_, ⟨p10, p20, p30, p40, p50⟩, ⟨p11, p21, p31, p41, p51⟩, rfl, rfl, rfl, HZ.out _ rfl⟩
                  exact AllReadyU.nil
                exact AllReadyU.nil
              exact AllReadyU.nil
            exact AllReadyU.nil
          exact AllReadyU.nil
        refine AllReadyU.cons la6 rfl (fun K hK => ?_) ?_
        · obtain ⟨⟨d0, d1, d2, d3, d4, d5, d6⟩, -⟩ := KS.out _ RYU0.out HIU0.out.rr
          go_simp
          clear d0 d1 d2 d3 d4 d5 d6
          refine hK.out _ _ ?_ (fun hSU8 => ?_)
          · exact hSU0
          clear hK K hSU0
          try simp only [Act.put, List.setIfInBounds_toArray, List.set_cons_zero, List.set_cons_succ]
          refine wpAnyU_ready (rs := [2]) (by kernel_rfl) rfl ?_
          refine AllReadyU.cons la2 rfl (fun K hK => ?_) ?_
          · obtain ⟨⟨d0, d1, d2, d3, d4, d5, d6⟩, -⟩ := KS.out _ RYU0.out HIU0.out.rr
            go_simp
            clear d0 d1 d2 d3 d4 d5 d6
            refine hK.out _ _ ?_ (fun hSU9 => ?_)
            · exact hSU8
            clear hK K hSU8
            try simp only [Act.put, List.setIfInBounds_toArray, List.set_cons_zero, List.set_cons_succ]
            refine wpAnyU_ready (rs := [3]) (by kernel_rfl) rfl ?_
            refine AllReadyU.cons la3 rfl (fun K hK => ?_) ?_
            · go_simp
              go_at_call 14
              refine (result_any g _ _ l op u0 HIU0.out.code HIU0.out.sl HOU0.out (by have := HGD.out.cases; omega)).mono ?_
              rintro e u1 ⟨⟨p10, p20, p30, p40, p50⟩, rfl, hcc, hgg⟩
              unfold resW
              dsimp only
              have HIU1 := Lib.hid (HIU0.out.draw hgg hcc)
              have HOU1 := Lib.hid (HOU0.out.grown hgg)
              have RYU1 := Lib.hid (row_keep hgg RYU0.out (by omega))
              clear hcc hgg
              refine hK.out _ _ ?_ (fun hSU10 => ?_)
              · exact KS.out _ RYU1.out HIU1.out.rr
              clear hK K hSU9
              try simp only [Act.put, List.setIfInBounds_toArray, List.set_cons_zero, List.set_cons_succ]
              refine wpAnyU_ready (rs := [7]) (by kernel_rfl) rfl ?_
              refine AllReadyU.cons la7 rfl (fun K hK => ?_) ?_
              · go_simp
                go_at_call 14
                refine (result_any g _ _ l op u1 HIU1.out.code HIU1.out.sl HOU1.out (by have := HGD.out.cases; omega)).mono ?_
                rintro e u2 ⟨⟨p11, p21, p31, p41, p51⟩, rfl, hcc, hgg⟩
                unfold resW
                dsimp only
                have HIU2 := Lib.hid (HIU1.out.draw hgg hcc)
                have HOU2 := Lib.hid (HOU1.out.grown hgg)
                have RYU2 := Lib.hid (row_keep hgg RYU1.out (by omega))
                clear hcc hgg
                refine hK.out _ _ ?_ (fun hSU11 => ?_)
                · exact KS.out _ RYU2.out HIU2.out.rr
                clear hK K hSU10
                try simp only [Act.put, List.setIfInBounds_toArray, List.set_cons_zero, List.set_cons_succ]
                refine wpAnyU_ready (rs := [9]) (by kernel_rfl) rfl ?_
                refine AllReadyU.free la9 rfl (by kernel_rfl) (fun K hK => ?_) ?_
                · go_simp
                  refine hK.out _ _ ?_
                  clear hK K hSU11
                  try simp only [Act.put, List.setIfInBounds_toArray, List.set_cons_zero, List.set_cons_succ]
                  refine wpAnyU_ready (rs := [10]) (by kernel_rfl) rfl ?_
                  refine AllReadyU.free la10 rfl (by kernel_rfl) (fun K hK => ?_) ?_
                  · go_simp
                    refine hK.out _ _ ?_
                    clear hK K
                    try simp only [Act.put, List.setIfInBounds_toArray, List.set_cons_zero, List.set_cons_succ]
                    refine wpAnyU_done (by kernel_rfl) ?_ _
                    have HZ : Hid (∀ w9, w9 = u2.alloc (.cells #[.int .i64 p10, .int .i64 p20, .int .u64 p30, .bool p40, .int .i64 p50, .int .i64 p11, .int .i64 p21, .int .u64 p31, .bool p41, .int .i64 p51, .int .i64 rk, .int .i64 rc, .int .u64 rv, .bool rok, .int .i64 nm] 25) → Hid (w9.heap[u2.heap.size]? = some (.cells (resL ⟨p10, p20, p30, p40, p50⟩ ++ resL ⟨p11, p21, p31, p41, p51⟩ ++ resL ⟨rk, rc, rv, rok, nm⟩).toArray 25 (0, 0))) ∧ Hid (ApI w w9 g X (.agg #[.slice ac nc kc, .slice ast nst kst, .int .i64 2]) #[.slice ac nc kc, .slice ast nst kst, .int .i64 2] #[.int .i64 rk, .int .i64 rc, .int .u64 rv, .bool rok, .int .i64 nm] c (.slice av l.length kv) l (16 + 3 * i)) ∧ Hid (OpX w9 g (.agg #[.int .i64 op.kind, .int .i64 op.mode, .int .i64 op.chan, .int .u64 op.val, .int .i64 op.dl, .slice a3 op.cases.length cap3, .slice a4 op.draws.length cap4]) op) ∧ Hid (w9.heap[Y]? = some (.cells #[.int .i64 op.kind, .int .i64 op.mode, .int .i64 op.chan, .int .u64 op.val, .int .i64 op.dl, .slice a3 op.cases.length cap3, .slice a4 op.draws.length cap4] 38 (0, 0))) ∧ g < u2.heap.size) := fun w9 h9 => by
                      subst h9
                      have hb := below_new (Below.refl u2.heap.size u2) (.cells #[.int .i64 p10, .int .i64 p20, .int .u64 p30, .bool p40, .int .i64 p50, .int .i64 p11, .int .i64 p21, .int .u64 p31, .bool p41, .int .i64 p51, .int .i64 rk, .int .i64 rc, .int .u64 rv, .bool rok, .int .i64 nm] 25)
                      exact ⟨heap_alloc_new _ _, HIU2.out.over hb, HOU2.out.below hb, row_below2 hb RYU2.out, HIU2.out.code.lt⟩
                    go_wp2_with fail
                    go_meet
                    exact ⟨_, ⟨p10, p20, p30, p40, p50⟩, ⟨p11, p21, p31, p41, p51⟩, rfl, rfl, rfl, HZ.out _ rfl⟩
                  exact AllReadyU.nil
                exact AllReadyU.nil
              exact AllReadyU.nil
            exact AllReadyU.nil
          exact AllReadyU.nil
        exact AllReadyU.nil
      case rest =>
        obtain ⟨Z, p, q, rfl, rfl, rfl, RZ, HIZ, HOZ, RY, hgZ⟩ := hcut
        obtain ⟨wz, rfl⟩ : ∃ wz : World, wz = wc := ⟨_, rfl⟩
        have HLK : Hid (∃ vv, vv = (Value.slice av l.length kv) ∧ ApI w wz g X (.agg #[.slice ac nc kc, .slice ast nst kst, .int .i64 2]) #[.slice ac nc kc, .slice ast nst kst, .int .i64 2] #[.int .i64 rk, .int .i64 rc, .int .u64 rv, .bool rok, .int .i64 nm] c vv l (16 + 3 * i)) := ⟨_, rfl, HIZ.out⟩
        clear HIY HOY Ry
        go_wp2_with fail
        go_loopw [6, 42] (fun u6 u42 wr => ∃ (k : Nat) (v : Value) (l : List ChanM), v = u6 ∧ u42 = .int .i64 k ∧ k ≤ 3 ∧ Hid (ApI w wr g X (.agg #[.slice ac nc kc, .slice ast nst kst, .int .i64 2]) #[.slice ac nc kc, .slice ast nst kst, .int .i64 2] #[.int .i64 rk, .int .i64 rc, .int .u64 rv, .bool rok, .int .i64 nm] c v l (16 + 3 * i + k)) ∧ Hid (OpX wr g (.agg #[.int .i64 op.kind, .int .i64 op.mode, .int .i64 op.chan, .int .u64 op.val, .int .i64 op.dl, .slice a3 op.cases.length cap3, .slice a4 op.draws.length cap4]) op) ∧ Hid (wr.heap[Y]? = some (.cells #[.int .i64 op.kind, .int .i64 op.mode, .int .i64 op.chan, .int .u64 op.val, .int .i64 op.dl, .slice a3 op.cases.length cap3, .slice a4 op.draws.length cap4] 38 (0, 0))) ∧ Hid (wr.heap[Z]? = some (.cells (resL p ++ resL q ++ resL ⟨rk, rc, rv, rok, nm⟩).toArray 25 (0, 0)))) (fun _ u42 _ => 3 - (intOf u42).toNat)
        case atStart => exact ⟨0, _, l, rfl, rfl, by omega, HIZ, HOZ, RY, RZ⟩
        case round =>
          clear HIZ HOZ RY RZ HLK
          obtain ⟨k, v, l, rfl, rfl, hk, HI, HO, RY, RZ⟩ := hrel
          obtain ⟨wp, rfl⟩ : ∃ wp : World, wp = wr := ⟨_, rfl⟩
          have hsd : ∀ kk : Nat, kk < 3 → ∃ r : ResM, wp.cell? ⟨Z, kk * 5, none⟩ = some (.int .i64 r.kind) ∧ wp.cell? ⟨Z, kk * 5 + 1, none⟩ = some (.int .i64 r.case) ∧ wp.cell? ⟨Z, kk * 5 + 2, none⟩ = some (.int .u64 r.val) ∧ wp.cell? ⟨Z, kk * 5 + 3, none⟩ = some (.bool r.ok) ∧ wp.cell? ⟨Z, kk * 5 + 4, none⟩ = some (.int .i64 r.num) := fun kk h => by
            have kc : ∀ j, wp.cell? ⟨Z, j, none⟩ = (resL p ++ resL q ++ resL ⟨rk, rc, rv, rok, nm⟩).toArray[j]? := fun j => cell_of_row _ _ j _ _ _ RZ.out
            obtain rfl | rfl | rfl : kk = 0 ∨ kk = 1 ∨ kk = 2 := by omega
            · exact ⟨p, kc 0, kc 1, kc 2, kc 3, kc 4⟩
            · exact ⟨q, kc 5, kc 6, kc 7, kc 8, kc 9⟩
            · exact ⟨⟨rk, rc, rv, rok, nm⟩, kc 10, kc 11, kc 12, kc 13, kc 14⟩
          by_cases hk3 : k < 3
          · have hkI : (k : Int) < 3 := by omega
            obtain ⟨⟨t1, t2, t3, t4, t5⟩, c0, c1, c2, c3, c4⟩ := hsd k hk3
            dsimp only at c0 c1 c2 c3 c4
            clear hsd
            obtain ⟨av, kv, hve, -⟩ := HI.out.sl.len
            subst hve
            obtain ⟨Wt, hWt⟩ : ∃ Wt, (wp.alloc (.cells #[.int .i64 0, .int .i64 0, .int .u64 0, .bool false, .int .i64 0] 25)).setRow wp.heap.size #[.int .i64 t1, .int .i64 t2, .int .u64 t3, .bool t4, .int .i64 t5] = Wt := ⟨_, rfl⟩
            have Nt : Hid ((wp.alloc (.cells #[.int .i64 0, .int .i64 0, .int .u64 0, .bool false, .int .i64 0] 25)).heap[wp.heap.size]? = some (.cells #[.int .i64 0, .int .i64 0, .int .u64 0, .bool false, .int .i64 0] 25 (0, 0))) := heap_alloc_new _ _
            have HBt : Hid (Below wp.heap.size wp Wt) := hWt ▸ row_below (below_new (Below.refl _ _) _) (Nat.le_refl _) _
            have Rt : Hid (Wt.heap[wp.heap.size]? = some (.cells #[.int .i64 t1, .int .i64 t2, .int .u64 t3, .bool t4, .int .i64 t5] 25 (0, 0))) := hWt ▸ setRow_heap _ _ _ _ _ (0, 0) Nt.out
            have HWt := Lib.hid hWt
            clear hWt
            go_upto_region 13 with (refine wpList_store_row rfl 25 _ _ rfl (wp.heap.size) _ rfl rfl 25 #[.int .i64 0, .int .i64 0, .int .u64 0, .bool false, .int .i64 0] Nt.out (by kernel_rfl) rfl (by simp [Value.oneCell']) ?_)
            rw [HWt.out]
            try simp only [Act.put]
            clear HWt Nt
            obtain ⟨T, hT⟩ : ∃ T, wp.heap.size = T := ⟨_, rfl⟩
            rw [hT] at Rt
            rw [hT]
            clear hT
            have HIT := Lib.hid (HI.out.over HBt.out)
            have HOT := Lib.hid (HO.out.below HBt.out)
            have RYT := Lib.hid (row_below2 HBt.out RY.out)
            have RZT := Lib.hid (row_below2 HBt.out RZ.out)
            clear c0 c1 c2 c3 c4 HI HO RY RZ HBt
            have HF := Lib.hid HGD.out.fine
            have HL3 : Hid (l.length ≤ 1000000) := by have := HIT.out.len; show _ ≤ _; omega
            have HBF : Hid (∀ c ∈ l, c.buf.length ≤ 999999) := fun c hc => by have := HIT.out.buf c hc; omega
            have TP := Lib.hid (qApplyN_any _ _ l op ⟨t1, t2, t3, t4, t5⟩ Wt HIT.out.sl HL3.out HBF.out HOT.out.opv HF.out.ok HF.out.cok HF.out.len (allowB_eq l op _ (good_mode HGD.out)))
            have TM := Lib.hid fun w' (hb : Below Wt.heap.size Wt w') => mApplyN_any _ _ l op ⟨t1, t2, t3, t4, t5⟩ w' (HIT.out.sl.below hb) HL3.out HBF.out (HOT.out.opv.below hb) HF.out.ok
            have HMR := Lib.hid fun l' (h : modE l op ⟨t1, t2, t3, t4, t5⟩ = some l') => modE_modR h
            obtain ⟨mo, hmo⟩ : ∃ o, modE l op ⟨t1, t2, t3, t4, t5⟩ = o := ⟨_, rfl⟩
            rw [hmo] at TP TM HMR
            unfold resW at TP TM
            dsimp only at TP TM
            clear hmo HF HL3 HBF
            obtain ⟨y0, y1, y2, y3, y4, y5, y6⟩ := rowc7 RYT.out
            obtain ⟨z0, z1, z2, z3, z4⟩ := rowc5 Rt.out
            go_wp2_with fail
            refine TP.out.mono ?_; rintro e wB ⟨va, oka, rfl, hqa, hbB⟩
            have HQA := Lib.hid hqa
            have HBB := Lib.hid hbB
            have RYB := Lib.hid (row_below2 hbB RYT.out)
            have RTB := Lib.hid (row_below2 hbB Rt.out)
            clear y0 y1 y2 y3 y4 y5 y6 z0 z1 z2 z3 z4 hqa hbB TP
            obtain ⟨y0, y1, y2, y3, y4, y5, y6⟩ := rowc7 RYB.out
            obtain ⟨z0, z1, z2, z3, z4⟩ := rowc5 RTB.out
            go_wp2_with fail
            refine (TM.out _ HBB.out).mono ?_; rintro e wC ⟨vb, okb, rfl, hqb, hbC⟩
            have HQB := Lib.hid hqb
            have HBC := Lib.hid (below_then HBB.out hbC)
            have HQA2 : Hid ((∃ l', mo = some l' ∧ oka = true ∧ SlH wC va l') ∨ (mo = none ∧ oka = false ∧ va = .slice none 0 0)) := by
              rcases HQA.out with ⟨l', h1, h2, h3⟩ | h
              · exact .inl ⟨l', h1, h2, h3.below hbC⟩
              · exact .inr h
            have HIC := Lib.hid (HIT.out.over HBC.out)
            have HOC := Lib.hid (HOT.out.below HBC.out)
            have RYC := Lib.hid (row_below2 HBC.out RYT.out)
            have RZC := Lib.hid (row_below2 HBC.out RZT.out)
            clear y0 y1 y2 y3 y4 y5 y6 z0 z1 z2 z3 z4 hqb hbC TM HQA HBB HBC RYB RTB RYT RZT HIT HOT Rt
            cases mo with
            | none =>
              have ha : oka = false ∧ va = .slice none 0 0 := by
                rcases HQA2.out with ⟨l', h, -⟩ | ⟨-, h⟩
                · cases h
                · exact h
              have hb : okb = false ∧ vb = .slice none 0 0 := by
                rcases HQB.out with ⟨l', h, -⟩ | ⟨-, h⟩
                · cases h
                · exact h
              obtain ⟨rfl, rfl⟩ := ha
              obtain ⟨rfl, rfl⟩ := hb
              have TS := Lib.hid (rSame_any _ _ [] [] wC (SlH.nil wC) (SlH.nil wC))
              rw [sameB_refl] at TS
              go_wp2_with fail
              refine TS.out.mono ?_; rintro e wD ⟨rfl, hbD⟩
              have HID := Lib.hid ((HIC.out.over hbD).wide (Nat.le_succ _))
              have HOD := Lib.hid (HOC.out.below hbD)
              have RYD := Lib.hid (row_below2 hbD RYC.out)
              have RZD := Lib.hid (row_below2 hbD RZC.out)
              clear hbD TS HQA2 HQB HMR HIC HOC RYC RZC
              go_wp2_with fail
              go_roundw
              case rel => exact ⟨k + 1, _, l, rfl, by go_num, by omega, HID, HOD, RYD, RZD⟩
              case measure => simp [intOf]; omega
            | some l2 =>
              have HM := Lib.hid (HMR.out _ rfl)
              have ha : oka = true ∧ SlH wC va l2 := by
                rcases HQA2.out with ⟨l', h, h2, h3⟩ | ⟨h, -⟩
                · cases h; exact ⟨h2, h3⟩
                · cases h
              have hb : okb = true ∧ SlH wC vb l2 := by
                rcases HQB.out with ⟨l', h, h2, h3⟩ | ⟨h, -⟩
                · cases h; exact ⟨h2, h3⟩
                · cases h
              obtain ⟨rfl, hsa⟩ := ha
              obtain ⟨rfl, hsb⟩ := hb
              have TS := Lib.hid (rSame_any _ _ l2 l2 wC hsa hsb)
              rw [sameB_refl] at TS
              obtain ⟨aa, ka, hve, -⟩ := hsa.len
              subst hve
              obtain ⟨ab, kb, hve, -⟩ := hsb.len
              subst hve
              have HSB := Lib.hid hsb
              clear hsa hsb
              go_wp2_with fail
              refine TS.out.mono ?_; rintro e wD ⟨rfl, hbD⟩
              have HID := Lib.hid ((HIC.out.over hbD).mod (HSB.out.below hbD) HM.out)
              have HOD := Lib.hid (HOC.out.below hbD)
              have RYD := Lib.hid (row_below2 hbD RYC.out)
              have RZD := Lib.hid (row_below2 hbD RZC.out)
              clear hbD TS HQA2 HQB HMR HIC HOC RYC RZC HM HSB
              go_wp2_with fail
              go_roundw
              case rel => exact ⟨k + 1, _, l2, rfl, by go_num, by omega, HID, HOD, RYD, RZD⟩
              case measure => simp [intOf]; omega
          · have hge : ¬ (k : Int) < 3 := by omega
            have HIE := Lib.hid (HI.out.wide (m2 := 16 + 3 * (i + 1)) (by omega))
            clear hsd
            go_wp2_with fail
            go_roundw
            case rel => exact ⟨i + 1, v, l, rfl, by go_num, by omega, HIE⟩
            case measure => simp [intOf]; omega
    · have hge : ¬ (i : Int) < 10 := by omega
      go_wp2
      go_ret
      exact ⟨rfl, HI.out.below⟩
set_option maxRecDepth 100000 in
theorem lifted (os : Os) (started : os.Started) (H : Type) (enc : TypeId × Value → H) :
    ReturnsInHanded {} Try.checked os 3 .any (Rows.modelAppliesSpec.pre6 enc Try.prog Try.f3 Rows.modelAppliesRow.domain false) (Rows.modelAppliesSpec.post enc Try.prog Try.f3 false true false false) := by
  refine returnsInHanded_of_change_sized (C := Try.checked) own started (by kernel_rfl) Try.func3
    (ChangeSpec.witness6 (enc := enc) (C := Try.checked) false ⟨#[], #[.slice none 0 0, .agg #[.int .i64 0, .int .i64 0, .int .u64 0, .bool false, .int .i64 0]], []⟩ 8 (by kernel_rfl) (by kernel_rfl) (by kernel_rfl) (by kernel_rfl)) ?_
  intro W base args ds gs before hval0 hW _ hsz0 _
  have hsz : (DataW.weightsEach Try.prog (Try.f3.params.toList ++ Rows.modelAppliesSpec.plain.varTypes Try.prog) (ds ++ gs)).all (· ≤ reachBytes) = true := hsz0
  clear hsz0
  have hval : ∀ (j : Nat) t v, Try.f3.params[j]? = some t → args[j]? = some v → Value.okWide Try.prog W .any base t v := hval0
  have hW' := hW
  obtain ⟨p, q, hA0, hV, rfl, _, _⟩ := hW
  have hA : DataW.TrodAll enc Try.prog W 0 (fun _ => true) true Try.f3.params.toList args.toList ds p := hA0
  rw [Try.params3] at hA hval hsz
  obtain ⟨v0, vs0, d0, ds0, p0, q0, hargs, rfl, rfl, h0, r0⟩ := trodAll_cons hA
  obtain ⟨v1, vs1, d1, ds1, p1, q1, rfl, rfl, rfl, h1, r1⟩ := trodAll_cons r0
  obtain ⟨rfl, rfl, rfl⟩ := trodAll_nil r1
  obtain rfl : args = #[v0, v1] := by cases args; simp_all
  obtain ⟨rfl, rfl⟩ := trodVars_none hV
  have k0 := h0
  have k1 := h1
  obtain ⟨l0, s0⟩ := view_sl (k := .u8) Try.underlying22 Try.underlying5 (by kernel_rfl) (fun elems sp hd => sized_slice hsz (j := 0) (t := 22) (e := 5) rfl (by rw [hd]; rfl) Try.underlying22) (of_decide_eq_true (by kernel_rfl)) (hval 0 22 v0 rfl rfl) h0
  obtain ⟨r1, rfl⟩ := view_res (hval 1 25 v1 rfl rfl) h1
  clear hA0 hval0
  simp only [List.append_nil] at hW'
  have hlt := hW'.lt
  refine (walk W v0 l0 s0 r1).mono fun e W' ⟨he, hb⟩ => ?_
  subst he
  exact ⟨_, rfl, _, _, _, [], _, [], hW', trodAll_cons_mk (shut_bool Try.underlying4 _) trodAll_mk0, (trodAll_cons_mk (Below.trod Try.laidOut (by kernel_rfl) (of_decide_eq_true (by kernel_rfl)) k0 hb (fun x hx => by simpa using hlt x (by simp [hx]))) (trodAll_cons_mk (Below.trod Try.laidOut (by kernel_rfl) (of_decide_eq_true (by kernel_rfl)) k1 hb (fun x hx => by simpa using hlt x (by simp [hx]))) trodAll_mk0)), rfl, hb.frame _, fun h => by cases h⟩
theorem over : Rows.modelAppliesRow.holds Try.pinned (OpenSpec.ofChange Rows.modelAppliesSpec) :=
  OpenClaim.holds_of_wide 3 Try.f3 rfl rfl rfl rfl rfl rfl rfl ⟨rfl, rfl, rfl, rfl, rfl⟩ rfl rfl rfl rfl rfl (by kernel_rfl) Try.func3 (by kernel_rfl)
    (of_decide_eq_true (by kernel_rfl)) (by unfold Func.isWrapper; first | (rw [if_pos (by decide +kernel)]; kernel_rfl) | (rw [if_neg (by decide +kernel)]; exact ⟨rfl, rfl⟩))
    (fun os started H enc _ => lifted os started H enc)
/-- THE STATEMENT -/
theorem proved : Rows.ModelAppliesSaid :=
  over
end Go.Proofs.Ytckjdlphilpgfaa.modelApplies
