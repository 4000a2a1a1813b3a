/- Proved: ModelCoulds returns true for every list of codes, and its arguments read afterwards as before; no condition. -/
import Derived.Deep.DeepCutAuto
import Derived.Deep.CutBlock
import Derived.LoopTactic
import Derived.WalkKit
import Derived.ProofKit
import Derived.OpenShut
import Derived.SizedLaws
import Derived.Test.YtckjdlphilpgfaaB01
import Derived.Test.YtckjdlphilpgfaaB17
import Derived.Test.YtckjdlphilpgfaaB20
import Derived.Test.YtckjdlphilpgfaaB24
import Derived.Test.YtckjdlphilpgfaaB28
import Derived.Test.YtckjdlphilpgfaaB29
import Derived.Test.YtckjdlphilpgfaaB26
namespace Go.Proofs.Ytckjdlphilpgfaa.modelCoulds
open Go.ChangeShapes Go.WideShapes Go.ChangeAt Go.RowKit
set_option linter.unusedVariables false
set_option linter.unusedSimpArgs false
theorem below_poke {w a b : World} {g : Nat} (h : Below w.heap.size w a) (hg : a.grownBy b (some g)) (hw : w.heap.size ≤ g) : Below w.heap.size w b := below_grown h hg hw
theorem row_keep {a b : World} {g j : Nat} {ob : Obj} (hg : a.grownBy b (some g)) (h : a.heap[j]? = some ob) (hj : j ≠ g) : b.heap[j]? = some ob :=
  (hg.block j (Array.getElem?_eq_some_iff.1 h).1 (fun e => hj (by simpa using e))).trans h
theorem row_below2 {a b : World} {j : Nat} {ob : Obj} (hb : Below a.heap.size a b) (h : a.heap[j]? = some ob) : b.heap[j]? = some ob := (hb.block j (Array.getElem?_eq_some_iff.1 h).1).trans h
theorem SlH.nil (w : World) : SlH w (.slice none 0 0) [] := ⟨[], rfl, SlS.nil w 3, fun i hi => by simp at hi, fun c hc => by simp at hc, fineB.nil w⟩
/-- the law's world between two operations -/
structure ApJ (w wr : World) (g X : Nat) (cv : Value) (crow : Array Value) (c : ConfM) (v : Value) (l : List ChanM) (m : Nat) : Prop where
  sl : SlH wr v l
  len : l.length ≤ 3
  buf : ∀ x ∈ l, x.buf.length ≤ m
  code : CodesE wr g
  conf : ConfX wr g cv c
  cr : wr.heap[X]? = some (.cells crow 34 (0, 0))
  below : Below w.heap.size w wr
  gX : g < X
  gw : w.heap.size ≤ g
theorem ApJ.draw {w wr w2 : World} {g X : Nat} {cv : Value} {crow : Array Value} {c : ConfM} {v : Value} {l : List ChanM} {m : Nat} (h : ApJ w wr g X cv crow c v l m) (hg : wr.grownBy w2 (some g)) (hc : CodesE w2 g) : ApJ w w2 g X cv crow c v l m :=
  ⟨h.sl.grown hg (codes_is h.code), h.len, h.buf, hc, h.conf.grown hg, row_keep hg h.cr (by have := h.gX; omega), below_grown h.below hg h.gw, h.gX, h.gw⟩
theorem ApJ.over {w wr w2 : World} {g X : Nat} {cv : Value} {crow : Array Value} {c : ConfM} {v : Value} {l : List ChanM} {m : Nat} (h : ApJ w wr g X cv crow c v l m) (hb : Below wr.heap.size wr w2) : ApJ w w2 g X cv crow c v l m :=
  ⟨h.sl.below hb, h.len, h.buf, h.code.kept h.code.lt hb, h.conf.below hb, row_below2 hb h.cr, below_then h.below hb, h.gX, h.gw⟩
theorem modR_keeps {l l' : List ChanM} {op : OpM} {r : ResM} {m : Nat} (h : ModR l op r l') (hb : ∀ x ∈ l, x.buf.length ≤ m) : l'.length = l.length ∧ ∀ x ∈ l', x.buf.length ≤ m + 1 := by
  have hg : ∀ i, i < l.length → (l.getD i noChan).buf.length ≤ m := fun i hi => by
    rw [List.getD_eq_getElem?_getD, List.getElem?_eq_getElem hi]
    exact hb _ (List.getElem_mem hi)
  cases h with
  | sent x i hk hc hx hi e =>
    subst e
    refine ⟨List.length_set, fun y hy => ?_⟩
    rcases List.mem_or_eq_of_mem_set hy with hy | rfl
    · have := hb y hy; omega
    · have := hg i hi
      show ((l.getD i noChan).buf ++ [x.val]).length ≤ _
      rw [List.length_append]
      show _ + 1 ≤ _
      omega
  | got x i y t hk ho hc hx hi hbb e =>
    subst e
    refine ⟨List.length_set, fun y hy => ?_⟩
    rcases List.mem_or_eq_of_mem_set hy with hy | rfl
    · have := hb y hy; omega
    · have := hg i hi
      rw [hbb] at this
      simp at this
      show t.length ≤ _
      omega
  | shut i hk hx hi e =>
    subst e
    refine ⟨List.length_set, fun y hy => ?_⟩
    rcases List.mem_or_eq_of_mem_set hy with hy | rfl
    · have := hb y hy; omega
    · have := hg i hi
      show (l.getD i noChan).buf.length ≤ _
      omega
  | same h1 h2 h6 e =>
    subst e
    exact ⟨rfl, fun y hy => by have := hb y hy; omega⟩
theorem ApJ.mod {w wr : World} {g X : Nat} {cv : Value} {crow : Array Value} {c : ConfM} {v v2 : Value} {l l2 : List ChanM} {op : OpM} {r : ResM} {m : Nat} (h : ApJ w wr g X cv crow c v l m) (hs : SlH wr v2 l2) (hm : ModR l op r l2) : ApJ w wr g X cv crow c v2 l2 (m + 1) :=
  ⟨hs, by rw [(modR_keeps hm h.buf).1]; exact h.len, (modR_keeps hm h.buf).2, h.code, h.conf, h.cr, h.below, h.gX, h.gw⟩
theorem ApJ.wide {w wr : World} {g X : Nat} {cv : Value} {crow : Array Value} {c : ConfM} {v : Value} {l : List ChanM} {m m2 : Nat} (h : ApJ w wr g X cv crow c v l m) (hm : m ≤ m2) : ApJ w wr g X cv crow c v l m2 :=
  ⟨h.sl, h.len, fun x hx => Nat.le_trans (h.buf x hx) hm, h.code, h.conf, h.cr, h.below, h.gX, h.gw⟩
theorem run_neq_res (a b : ResM) (w : World) : (binOp .neq 25 (resW a) (resW b)).run Try.prog w = .ok (.bool (!resEqB a b)) w := by
  obtain ⟨a1, a2, a3, a4, a5⟩ := a
  obtain ⟨b1, b2, b3, b4, b5⟩ := b
  unfold resW resEqB
  dsimp only
  have hu := Try.underlying25
  simp [go_sem]
  repeat' split
  all_goals simp_all
set_option maxRecDepth 100000 in
set_option maxHeartbeats 16000000 in
theorem walk (w : World) (v0 : Value) (l0 : List Int) (s0 : SlI w .u8 v0 l0) :
    Calls Try.prog 5 #[v0] w fun e w' => e = .returned (.bool true) ∧ Below w.heap.size w w' := by
  have AW := Lib.hid (awake_any w)
  have HS0 := Lib.hid s0
  clear s0
  go_enter Try.func5, Try.ntmps5
  go_wp2_with fail
  refine AW.out.mono ?_; rintro e w1 ⟨rfl, hb1⟩
  have HB1 := Lib.hid hb1
  clear hb1 AW
  go_wp2_with fail
  refine (new_any _ l0 200 _ (HS0.out.below HB1.out) (by omega)).mono ?_; rintro e w2 ⟨rfl, hc2, hb2⟩
  have hC2 : Hid (CodesE w2 w1.heap.size) := ⟨_, _, hc2⟩
  have HB2 := Lib.hid (below_then HB1.out hb2)
  obtain ⟨g, hg⟩ : ∃ g, w1.heap.size = g := ⟨_, rfl⟩
  have hwg : w.heap.size ≤ g := by have := HB1.out.size; omega
  rw [hg] at hC2
  rw [hg]
  clear hc2 hb2 hg HS0 HB1
  go_wp2_with fail
  refine (chans_any g w2 hC2.out).mono ?_; rintro e w3 ⟨v, rfl, l, hsv, hcr, hc3, hg3⟩
  have HV3 := Lib.hid hsv
  have HC3 := Lib.hid hc3
  have HB3 := Lib.hid (below_poke HB2.out hg3 hwg)
  have HLL := Lib.hid hcr
  obtain ⟨av, cv, rfl, -⟩ := hsv.len
  clear hsv hcr hc3 hg3 HB2 hC2
  go_wp2_with fail
  refine (configL_any _ l w3 HV3.out (by have := HLL.out.hi; omega)).mono ?_; rintro e w4 ⟨vc, vs, rfl, caps, hoc, hlc, hwc, starts, hos, hls, hws, hb4⟩
  obtain ⟨ac, nc, kc, rfl⟩ := own_slice hoc
  obtain ⟨ast, nst, kst, rfl⟩ := own_slice hos
  have hgl := HC3.out.lt
  have HCX : Hid (ConfX w4 g (.agg #[.slice ac nc kc, .slice ast nst kst, .int .i64 2]) ⟨caps, starts, 2⟩) := ⟨_, _, rfl, hoc.read (by have := HLL.out.hi; omega) hwc, hos.read (by have := HLL.out.hi; omega) hws, hoc.off (by omega), hos.off (by omega)⟩
  obtain ⟨c, hc⟩ : ∃ c : ConfM, (⟨caps, starts, 2⟩ : ConfM) = c := ⟨_, rfl⟩
  have HCL : Hid (c.caps.length ≤ 8) := by
    show _ ≤ _
    rw [← hc]
    have := HLL.out.hi
    show caps.length ≤ 8
    omega
  rw [hc] at HCX
  have HC4 := Lib.hid (HC3.out.kept hgl hb4)
  have HV4 := Lib.hid (HV3.out.below hb4)
  have HB4 := Lib.hid (below_then HB3.out hb4)
  have hg4 : g < w4.heap.size := Nat.lt_of_lt_of_le hgl hb4.size
  clear hoc hlc hwc hos hls hws hb4 hc HC3 HV3 HB3 hgl
  obtain ⟨Wx, hWx⟩ : ∃ Wx, (w4.alloc (.cells #[.slice none 0 0, .slice none 0 0, .int .i64 0] 34)).setRow w4.heap.size #[.slice ac nc kc, .slice ast nst kst, .int .i64 2] = Wx := ⟨_, rfl⟩
  have Nx : Hid ((w4.alloc (.cells #[.slice none 0 0, .slice none 0 0, .int .i64 0] 34)).heap[w4.heap.size]? = some (.cells #[.slice none 0 0, .slice none 0 0, .int .i64 0] 34 (0, 0))) := heap_alloc_new _ _
  have HBx : Hid (Below w4.heap.size w4 Wx) := hWx ▸ row_below (below_new (Below.refl _ _) _) (Nat.le_refl _) _
  have Rx : Hid (Wx.heap[w4.heap.size]? = some (.cells #[.slice ac nc kc, .slice ast nst kst, .int .i64 2] 34 (0, 0))) := hWx ▸ setRow_heap _ _ _ _ _ (0, 0) Nx.out
  have HWx := Lib.hid hWx
  clear hWx
  go_upto_region 6 with (refine wpList_store_row rfl 34 _ _ rfl (w4.heap.size) _ rfl rfl 34 #[.slice none 0 0, .slice none 0 0, .int .i64 0] Nx.out (by kernel_rfl) rfl (by simp [Value.oneCell']) ?_)
  rw [HWx.out]
  try simp only [Act.put]
  clear HWx Nx
  obtain ⟨X, hX⟩ : ∃ X, w4.heap.size = X := ⟨_, rfl⟩
  rw [hX] at Rx
  rw [hX]
  have hgX : g < X := by omega
  clear hX
  have HI0 : Hid (ApJ w Wx g X (.agg #[.slice ac nc kc, .slice ast nst kst, .int .i64 2]) #[.slice ac nc kc, .slice ast nst kst, .int .i64 2] c (.slice av l.length cv) l 16) := ⟨HV4.out.below HBx.out, HLL.out.hi, HLL.out.bufs, HC4.out.kept HC4.out.lt HBx.out, HCX.out.below HBx.out, Rx.out, below_then HB4.out HBx.out, hgX, hwg⟩
  have hll := HLL.out.hi
  clear HV4 HLL HC4 HCX HBx Rx HB4 hgX hg4
  go_wp2_with fail
  go_loopw [6] (fun u6 wr => ∃ (i : Nat), u6 = .int .i64 i ∧ i ≤ 10 ∧ Hid (ApJ w wr g X (.agg #[.slice ac nc kc, .slice ast nst kst, .int .i64 2]) #[.slice ac nc kc, .slice ast nst kst, .int .i64 2] c (.slice av l.length cv) l 16)) (fun u6 _ => 10 - (intOf u6).toNat)
  case atStart => exact ⟨0, rfl, by omega, HI0⟩
  case round =>
    clear HI0
    obtain ⟨i, rfl, hi, HI⟩ := hrel
    obtain ⟨wo, rfl⟩ : ∃ wo : World, wo = wr := ⟨_, rfl⟩
    by_cases hlt : i < 10
    · have hltI : (i : Int) < 10 := by omega
      obtain ⟨x0, x1, x2⟩ := rowc3 HI.out.cr
      go_wp2_with fail
      refine (opE g _ c wo HI.out.code HI.out.conf HCL.out).mono ?_; rintro e wA ⟨uo, op, rfl, hop, hgd, hcA, hgA⟩
      have HIA := Lib.hid (HI.out.draw hgA hcA)
      have HGD := Lib.hid hgd
      have HOA := Lib.hid (hop.opx HI.out.code.lt).opv
      obtain ⟨vo1, vo2, rfl, hoc, hod, -, -⟩ := hop
      obtain ⟨a3, cap3, rfl⟩ := hoc.len
      obtain ⟨a4, cap4, rfl, -⟩ := hod.len
      clear hoc hod hgd hcA hgA x0 x1 x2 HI
      obtain ⟨Wy, hWy⟩ : ∃ Wy, (wA.alloc (.cells #[.int .i64 0, .int .i64 0, .int .i64 0, .int .u64 0, .int .i64 0, .slice none 0 0, .slice none 0 0] 38)).setRow wA.heap.size #[.int .i64 op.kind, .int .i64 op.mode, .int .i64 op.chan, .int .u64 op.val, .int .i64 op.dl, .slice a3 op.cases.length cap3, .slice a4 op.draws.length cap4] = Wy := ⟨_, rfl⟩
      have Ny : Hid ((wA.alloc (.cells #[.int .i64 0, .int .i64 0, .int .i64 0, .int .u64 0, .int .i64 0, .slice none 0 0, .slice none 0 0] 38)).heap[wA.heap.size]? = some (.cells #[.int .i64 0, .int .i64 0, .int .i64 0, .int .u64 0, .int .i64 0, .slice none 0 0, .slice none 0 0] 38 (0, 0))) := heap_alloc_new _ _
      have HBy : Hid (Below wA.heap.size wA Wy) := hWy ▸ row_below (below_new (Below.refl _ _) _) (Nat.le_refl _) _
      have Ry : Hid (Wy.heap[wA.heap.size]? = some (.cells #[.int .i64 op.kind, .int .i64 op.mode, .int .i64 op.chan, .int .u64 op.val, .int .i64 op.dl, .slice a3 op.cases.length cap3, .slice a4 op.draws.length cap4] 38 (0, 0))) := hWy ▸ setRow_heap _ _ _ _ _ (0, 0) Ny.out
      have HWy := Lib.hid hWy
      clear hWy
      go_upto_region 10 with (refine wpList_store_row rfl 38 _ _ rfl (wA.heap.size) _ rfl rfl 38 #[.int .i64 0, .int .i64 0, .int .i64 0, .int .u64 0, .int .i64 0, .slice none 0 0, .slice none 0 0] Ny.out (by kernel_rfl) rfl (by simp [Value.oneCell']) ?_)
      rw [HWy.out]
      try simp only [Act.put]
      clear HWy Ny
      obtain ⟨Y, hY⟩ : ∃ Y, wA.heap.size = Y := ⟨_, rfl⟩
      rw [hY] at Ry
      rw [hY]
      clear hY
      have HIY := Lib.hid (HIA.out.over HBy.out)
      have HOY := Lib.hid (HOA.out.below HBy.out)
      clear HIA HOA HBy
      have HF := Lib.hid HGD.out.fine
      have HL3 : Hid (l.length ≤ 1000000) := by show _ ≤ _; omega
      have HBF : Hid (∀ c ∈ l, c.buf.length ≤ 999999) := fun c hc => by have := HIY.out.buf c hc; omega
      have TP := Lib.hid fun w' (hb : Below Wy.heap.size Wy w') => qcould_any _ _ l op w' (HIY.out.sl.below hb) (HOY.out.below hb) HF.out.ok HF.out.len
      have TM := Lib.hid fun w' (hb : Below Wy.heap.size Wy w') => rcould_any _ _ l op w' (HIY.out.sl.below hb) HL3.out HBF.out (HOY.out.below hb) HF.out.ok HF.out.len
      have HSM := Lib.hid fun r (hr : r ∈ couldE l op) => couldE_some hr
      have HLE : Hid ((couldP l op).length ≤ 100000) := by
        show _ ≤ _
        have h1 := HF.out.len
        unfold couldP
        split
        · simp
        · have := couldAt_le l op (casesE op).length; omega
      rw [couldP_eq] at TP HLE
      obtain ⟨C, hC⟩ : ∃ C, couldE l op = C := ⟨_, rfl⟩
      rw [hC] at TP TM HSM HLE
      obtain ⟨n, hn⟩ : ∃ n, C.length = n := ⟨_, rfl⟩
      have HN := Lib.hid hn
      have hnb : n ≤ 100000 := by have := HLE.out; omega
      clear hC hn HLE
      go_cut [8, 9] (fun s8 s9 wx => ∃ (b8 b9 : Option Addr) (k8 k9 : Nat), s8 = .slice b8 n k8 ∧ s9 = .slice b9 n k9 ∧ Hid (SlS wx 5 (.slice b8 n k8) (resRows C)) ∧ Hid (SlS wx 5 (.slice b9 n k9) (resRows C)) ∧ Hid (Below Wy.heap.size Wy wx))
      case first =>
        have KS1 : Hid (∀ w', Below Wy.heap.size Wy w' → (fun w' : World => w'.cell? ⟨Y, 0, none⟩ = some (.int .i64 op.kind) ∧ w'.cell? ⟨Y, 1, none⟩ = some (.int .i64 op.mode) ∧ w'.cell? ⟨Y, 2, none⟩ = some (.int .i64 op.chan) ∧ w'.cell? ⟨Y, 3, none⟩ = some (.int .u64 op.val) ∧ w'.cell? ⟨Y, 4, none⟩ = some (.int .i64 op.dl) ∧ w'.cell? ⟨Y, 5, none⟩ = some (.slice a3 op.cases.length cap3) ∧ w'.cell? ⟨Y, 6, none⟩ = some (.slice a4 op.draws.length cap4)) w') := fun w' hbb => rowc7 (row_below2 hbb Ry.out)
        refine untilK KS1 6 8 (by kernel_rfl) rfl ?_
        obtain ⟨u0, hu0, HU0⟩ := drew_pack Wy
        rw [hu0]
        clear hu0
        have hSU0 := KS1.out _ HU0.out
        refine tkU (v := ?_) 0 la0 hSU0 (by kernel_rfl) (fun _ _ _ h => h) rfl ?_ ?_
        rotate_left
        · (intro w hSw; (try dsimp only at hSw); go_simp <;> with_reducible rfl)
        simp only [Act.put, List.setIfInBounds_toArray, List.set_cons_zero, List.set_cons_succ]
        refine tkU (v := ?_) 1 la1 hSU0 (by kernel_rfl) (fun _ _ _ h => h) rfl ?_ ?_
        rotate_left
        · (intro w hSw; (try dsimp only at hSw); go_simp <;> with_reducible rfl)
        simp only [Act.put, List.setIfInBounds_toArray, List.set_cons_zero, List.set_cons_succ]
        refine wpAnyU_takeW (v := ?_) 3 la3 (by kernel_rfl) (by kernel_rfl) (by kernel_rfl) (by kernel_rfl) (fun _ _ _ h => h) (fun _ => hSU0) rfl ?_ ?_
        rotate_left
        · (intro w; go_simp <;> with_reducible rfl)
        simp only [Act.put, List.setIfInBounds_toArray, List.set_cons_zero, List.set_cons_succ]
        refine wpAnyU_ready (rs := [2, 4]) (by kernel_rfl) rfl ?_
        refine AllReadyU.cons la2 rfl (fun K hK => ?_) ?_
        · go_simp
          go_at_call 21
          refine (TP.out _ HU0.out).mono ?_
          rintro e u1 ⟨va, rfl, hsa, hb⟩
          obtain ⟨e8, f8, rfl, -⟩ := hsa.lenR
          rw [HN.out] at hsa ⊢
          have HSA := Lib.hid hsa
          have HU1 := Lib.hid (below_then HU0.out hb)
          clear hsa hb
          refine hK.out _ _ ?_ (fun hSU1 => ?_)
          · exact KS1.out _ HU1.out
          clear hK K hSU0
          try simp only [Act.put, List.setIfInBounds_toArray, List.set_cons_zero, List.set_cons_succ]
          refine wpAnyU_ready (rs := [4]) (by kernel_rfl) rfl ?_
          refine AllReadyU.cons la4 rfl (fun K hK => ?_) ?_
          · obtain ⟨d0, d1, d2, d3, d4, d5, d6⟩ := KS1.out _ HU1.out
            go_simp
            clear d0 d1 d2 d3 d4 d5 d6
            refine hK.out _ _ ?_ (fun hSU2 => ?_)
            · exact hSU1
            clear hK K hSU1
            try simp only [Act.put, List.setIfInBounds_toArray, List.set_cons_zero, List.set_cons_succ]
            refine wpAnyU_ready (rs := [5]) (by kernel_rfl) rfl ?_
            refine AllReadyU.cons la5 rfl (fun K hK => ?_) ?_
            · go_simp
              go_at_call 22
              refine (TM.out _ HU1.out).mono ?_
              rintro e u2 ⟨vb, rfl, hsb, hb⟩
              obtain ⟨e9, f9, rfl, -⟩ := hsb.lenR
              rw [HN.out] at hsb ⊢
              have HSB := Lib.hid hsb
              have HU2 := Lib.hid (below_then HU1.out hb)
              have HSA := Lib.hid (HSA.out.below hb)
              clear hsb hb
              refine hK.out _ _ ?_ (fun hSU3 => ?_)
              · exact KS1.out _ HU2.out
              clear hK K hSU2
              try simp only [Act.put, List.setIfInBounds_toArray, List.set_cons_zero, List.set_cons_succ]
              refine wpAnyU_ready (rs := [6]) (by kernel_rfl) rfl ?_
              refine AllReadyU.free la6 rfl (by kernel_rfl) (fun K hK => ?_) ?_
              · go_simp
                refine hK.out _ _ ?_
                clear hK K hSU3
                try simp only [Act.put, List.setIfInBounds_toArray, List.set_cons_zero, List.set_cons_succ]
                refine wpAnyU_takeW (v := ?_) 7 la7 (by kernel_rfl) (by kernel_rfl) (by kernel_rfl) (by kernel_rfl) (fun _ _ _ h => h) (past_k (by kernel_rfl)) rfl ?_ ?_
                rotate_left
                · (intro w; go_simp <;> with_reducible rfl)
                simp only [Act.put, List.setIfInBounds_toArray, List.set_cons_zero, List.set_cons_succ]
                refine wpAnyU_done (by kernel_rfl) ?_ _
                go_wp2_with fail
                go_meet
                exact ⟨_, _, _, _, rfl, rfl, HSA, HSB, HU2⟩
              exact AllReadyU.nil
            exact AllReadyU.nil
          exact AllReadyU.nil
        refine AllReadyU.cons la4 rfl (fun K hK => ?_) ?_
        · obtain ⟨d0, d1, d2, d3, d4, d5, d6⟩ := KS1.out _ HU0.out
          go_simp
          clear d0 d1 d2 d3 d4 d5 d6
          refine hK.out _ _ ?_ (fun hSU4 => ?_)
          · exact hSU0
          clear hK K hSU0
          try simp only [Act.put, List.setIfInBounds_toArray, List.set_cons_zero, List.set_cons_succ]
          refine wpAnyU_ready (rs := [2]) (by kernel_rfl) rfl ?_
          refine AllReadyU.cons la2 rfl (fun K hK => ?_) ?_
          · go_simp
            go_at_call 21
            refine (TP.out _ HU0.out).mono ?_
            rintro e u1 ⟨va, rfl, hsa, hb⟩
            obtain ⟨e8, f8, rfl, -⟩ := hsa.lenR
            rw [HN.out] at hsa ⊢
            have HSA := Lib.hid hsa
            have HU1 := Lib.hid (below_then HU0.out hb)
            clear hsa hb
            refine hK.out _ _ ?_ (fun hSU5 => ?_)
            · exact KS1.out _ HU1.out
            clear hK K hSU4
            try simp only [Act.put, List.setIfInBounds_toArray, List.set_cons_zero, List.set_cons_succ]
            refine wpAnyU_ready (rs := [5]) (by kernel_rfl) rfl ?_
            refine AllReadyU.cons la5 rfl (fun K hK => ?_) ?_
            · go_simp
              go_at_call 22
              refine (TM.out _ HU1.out).mono ?_
              rintro e u2 ⟨vb, rfl, hsb, hb⟩
              obtain ⟨e9, f9, rfl, -⟩ := hsb.lenR
              rw [HN.out] at hsb ⊢
              have HSB := Lib.hid hsb
              have HU2 := Lib.hid (below_then HU1.out hb)
              have HSA := Lib.hid (HSA.out.below hb)
              clear hsb hb
              refine hK.out _ _ ?_ (fun hSU6 => ?_)
              · exact KS1.out _ HU2.out
              clear hK K hSU5
              try simp only [Act.put, List.setIfInBounds_toArray, List.set_cons_zero, List.set_cons_succ]
              refine wpAnyU_ready (rs := [6]) (by kernel_rfl) rfl ?_
              refine AllReadyU.free la6 rfl (by kernel_rfl) (fun K hK => ?_) ?_
              · go_simp
                refine hK.out _ _ ?_
                clear hK K hSU6
                try simp only [Act.put, List.setIfInBounds_toArray, List.set_cons_zero, List.set_cons_succ]
                refine wpAnyU_takeW (v := ?_) 7 la7 (by kernel_rfl) (by kernel_rfl) (by kernel_rfl) (by kernel_rfl) (fun _ _ _ h => h) (past_k (by kernel_rfl)) rfl ?_ ?_
                rotate_left
                · (intro w; go_simp <;> with_reducible rfl)
                simp only [Act.put, List.setIfInBounds_toArray, List.set_cons_zero, List.set_cons_succ]
                refine wpAnyU_done (by kernel_rfl) ?_ _
                go_wp2_with fail
                go_meet
                exact ⟨_, _, _, _, rfl, rfl, HSA, HSB, HU2⟩
              exact AllReadyU.nil
            exact AllReadyU.nil
          exact AllReadyU.nil
        exact AllReadyU.nil
      case rest =>
        obtain ⟨b8, b9, k8, k9, rfl, rfl, HS8, HS9, HBC⟩ := hcut
        obtain ⟨wz, rfl⟩ : ∃ wz : World, wz = wc := ⟨_, rfl⟩
        have hnn : ((n : Int) != (n : Int)) = false := by simp
        have HIZ := Lib.hid (HIY.out.over HBC.out)
        have HOZ := Lib.hid (HOY.out.below HBC.out)
        have RYZ := Lib.hid (row_below2 HBC.out Ry.out)
        clear HIY HOY Ry HBC TP TM
        go_wp2_with fail
        go_loopw [41] (fun u41 wr => ∃ k : Nat, u41 = .int .i64 k ∧ k ≤ n ∧ Hid (Below wz.heap.size wz wr)) (fun u41 _ => n - (intOf u41).toNat)
        case atStart => exact ⟨0, rfl, by omega, Below.refl _ _⟩
        case round =>
          obtain ⟨k, rfl, hk, HBk⟩ := hrel
          obtain ⟨wp, rfl⟩ : ∃ wp : World, wp = wr := ⟨_, rfl⟩
          by_cases hkn : k < n
          · have hkI : (k : Int) < (n : Int) := by omega
            have hkc : k < C.length := by rw [HN.out]; exact hkn
            obtain ⟨⟨t1, t2, t3, t4, t5⟩, ht⟩ : ∃ r, C.getD k ⟨0, 0, 0, false, 0⟩ = r := ⟨_, rfl⟩
            obtain ⟨p8, o8, q8, hve, hb8, c0, c1, c2, c3, c4⟩ := (HS8.out.below HBk.out).res k hkc ht
            simp only [Value.slice.injEq] at hve
            obtain ⟨rfl, -, rfl⟩ := hve
            obtain ⟨p9, o9, q9, hve, hb9, d0, d1, d2, d3, d4⟩ := (HS9.out.below HBk.out).res k hkc ht
            simp only [Value.slice.injEq] at hve
            obtain ⟨rfl, -, rfl⟩ := hve
            dsimp only at c0 c1 c2 c3 c4 d0 d1 d2 d3 d4
            have hmem : (⟨t1, t2, t3, t4, t5⟩ : ResM) ∈ C := by
              rw [← ht, List.getD_eq_getElem?_getD, List.getElem?_eq_getElem hkc]
              exact List.getElem_mem hkc
            have HSO := Lib.hid (HSM.out _ hmem)
            have q0 := run_neq_res ⟨t1, t2, t3, t4, t5⟩ ⟨t1, t2, t3, t4, t5⟩
            rw [show resEqB ⟨t1, t2, t3, t4, t5⟩ ⟨t1, t2, t3, t4, t5⟩ = true from (resEqB_iff _ _).2 rfl] at q0
            unfold resW at q0
            dsimp only [Bool.not_true] at q0
            have HCC : Hid (∀ w', Below wp.heap.size wp w' → w'.cell? ⟨p8, o8 + k * 5, none⟩ = some (.int .i64 t1) ∧ w'.cell? ⟨p8, o8 + k * 5 + 1, none⟩ = some (.int .i64 t2) ∧ w'.cell? ⟨p8, o8 + k * 5 + 2, none⟩ = some (.int .u64 t3) ∧ w'.cell? ⟨p8, o8 + k * 5 + 3, none⟩ = some (.bool t4) ∧ w'.cell? ⟨p8, o8 + k * 5 + 4, none⟩ = some (.int .i64 t5)) := fun w' hbb => ⟨(hbb.cell (p := ⟨p8, o8 + k * 5, none⟩) hb8).trans c0, (hbb.cell (p := ⟨p8, o8 + k * 5 + 1, none⟩) hb8).trans c1, (hbb.cell (p := ⟨p8, o8 + k * 5 + 2, none⟩) hb8).trans c2, (hbb.cell (p := ⟨p8, o8 + k * 5 + 3, none⟩) hb8).trans c3, (hbb.cell (p := ⟨p8, o8 + k * 5 + 4, none⟩) hb8).trans c4⟩
            clear ht hkc hmem
            go_upto_region 16 with fail
            have Xc0 := ext_cell _ _ (hb8) _ c0
            have Xc1 := ext_cell _ _ (hb8) _ c1
            have Xc2 := ext_cell _ _ (hb8) _ c2
            have Xc3 := ext_cell _ _ (hb8) _ c3
            have Xc4 := ext_cell _ _ (hb8) _ c4
            have Xd0 := ext_cell _ _ (hb9) _ d0
            have Xd1 := ext_cell _ _ (hb9) _ d1
            have Xd2 := ext_cell _ _ (hb9) _ d2
            have Xd3 := ext_cell _ _ (hb9) _ d3
            have Xd4 := ext_cell _ _ (hb9) _ d4
            clear c0 c1 c2 c3 c4 d0 d1 d2 d3 d4
            refine wp_region_ext wp (by kernel_rfl) (by kernel_rfl) (Below.refl _ _) ?_
            repeat (go_big_quiet_step (fail))
            refine wpQuiet_nil ?_
            intro _ hw'
            obtain ⟨n9, rfl⟩ := hw'
            have HBE := Lib.hid n9.below
            have HIE := Lib.hid (HIZ.out.over (below_then HBk.out n9.below))
            have HOE := Lib.hid (HOZ.out.below (below_then HBk.out n9.below))
            have RYE := Lib.hid (row_below2 (below_then HBk.out n9.below) RYZ.out)
            have HB9 := Lib.hid (below_then HBk.out n9.below)
            generalize n9.wd = w9 at *
            clear Xc0 Xc1 Xc2 Xc3 Xc4 Xd0 Xd1 Xd2 Xd3 Xd4 q0
            have TA := Lib.hid fun w' (hb : Below w9.heap.size w9 w') => qApplyN_any _ _ l op ⟨t1, t2, t3, t4, t5⟩ w' (HIE.out.sl.below hb) HL3.out HBF.out (HOE.out.below hb) HF.out.ok HF.out.cok HF.out.len (allowB_eq l op _ (good_mode HGD.out))
            unfold resW at TA
            dsimp only at TA
            have KS : Hid (∀ w', Below w9.heap.size w9 w' → (fun w' : World => (w'.cell? ⟨Y, 0, none⟩ = some (.int .i64 op.kind) ∧ w'.cell? ⟨Y, 1, none⟩ = some (.int .i64 op.mode) ∧ w'.cell? ⟨Y, 2, none⟩ = some (.int .i64 op.chan) ∧ w'.cell? ⟨Y, 3, none⟩ = some (.int .u64 op.val) ∧ w'.cell? ⟨Y, 4, none⟩ = some (.int .i64 op.dl) ∧ w'.cell? ⟨Y, 5, none⟩ = some (.slice a3 op.cases.length cap3) ∧ w'.cell? ⟨Y, 6, none⟩ = some (.slice a4 op.draws.length cap4)) ∧ w'.cell? ⟨p8, o8 + k * 5, none⟩ = some (.int .i64 t1) ∧ w'.cell? ⟨p8, o8 + k * 5 + 1, none⟩ = some (.int .i64 t2) ∧ w'.cell? ⟨p8, o8 + k * 5 + 2, none⟩ = some (.int .u64 t3) ∧ w'.cell? ⟨p8, o8 + k * 5 + 3, none⟩ = some (.bool t4) ∧ w'.cell? ⟨p8, o8 + k * 5 + 4, none⟩ = some (.int .i64 t5)) w') := fun w' hbb => ⟨rowc7 (row_below2 hbb RYE.out), HCC.out _ (below_then HBE.out hbb)⟩
            go_upto_region 18 with fail
            refine untilK KS 6 12 (by kernel_rfl) rfl ?_
            obtain ⟨u0, hu0, HU0⟩ := drew_pack w9
            rw [hu0]
            clear hu0
            have hSU0 := KS.out _ HU0.out
            refine tkU (v := ?_) 0 la0 hSU0 (by kernel_rfl) (fun _ _ _ h => h) rfl ?_ ?_
            rotate_left
            · (intro w hSw; (try dsimp only at hSw); go_simp <;> with_reducible rfl)
            simp only [Act.put, List.setIfInBounds_toArray, List.set_cons_zero, List.set_cons_succ]
            refine tkU (v := ?_) 1 la1 hSU0 (by kernel_rfl) (fun _ _ _ h => h) rfl ?_ ?_
            rotate_left
            · (intro w hSw; (try dsimp only at hSw); go_simp <;> with_reducible rfl)
            simp only [Act.put, List.setIfInBounds_toArray, List.set_cons_zero, List.set_cons_succ]
            refine wpAnyU_takeW (v := ?_) 2 la2 (by kernel_rfl) (by kernel_rfl) (by kernel_rfl) (by kernel_rfl) (fun _ _ _ h => h) (fun _ => hSU0) rfl ?_ ?_
            rotate_left
            · (intro w; go_simp <;> with_reducible rfl)
            simp only [Act.put, List.setIfInBounds_toArray, List.set_cons_zero, List.set_cons_succ]
            refine wpAnyU_takeW (v := ?_) 3 la3 (by kernel_rfl) (by kernel_rfl) (by kernel_rfl) (by kernel_rfl) (fun _ _ _ h => h) (fun _ => hSU0) rfl ?_ ?_
            rotate_left
            · (intro w; go_simp <;> with_reducible rfl)
            simp only [Act.put, List.setIfInBounds_toArray, List.set_cons_zero, List.set_cons_succ]
            refine wpAnyU_takeW (v := ?_) 4 la4 (by kernel_rfl) (by kernel_rfl) (by kernel_rfl) (by kernel_rfl) (fun _ _ _ h => h) (fun _ => hSU0) rfl ?_ ?_
            rotate_left
            · (intro w; go_simp <;> with_reducible rfl)
            simp only [Act.put, List.setIfInBounds_toArray, List.set_cons_zero, List.set_cons_succ]
            refine tkU (v := ?_) 5 la5 hSU0 (by kernel_rfl) (fun _ _ _ h => h) rfl ?_ ?_
            rotate_left
            · (intro w hSw; (try dsimp only at hSw); go_simp <;> with_reducible rfl)
            simp only [Act.put, List.setIfInBounds_toArray, List.set_cons_zero, List.set_cons_succ]
            refine wpAnyU_ready (rs := [6]) (by kernel_rfl) rfl ?_
            refine AllReadyU.free la6 rfl (by kernel_rfl) (fun K hK => ?_) ?_
            · go_simp
              go_at_call 15
              refine (TA.out _ HU0.out).mono ?_
              rintro e u1 ⟨va, ok, rfl, hq, hbq⟩
              have hok : ok = true := by
                rcases hq with ⟨l', -, h, -⟩ | ⟨h, -⟩
                · exact h
                · have := HSO.out; rw [h] at this; cases this
              subst hok
              have HU1 := Lib.hid (below_then HU0.out hbq)
              clear hq hbq
              refine hK.out _ _ ?_
              clear hK K hSU0
              try simp only [Act.put, List.setIfInBounds_toArray, List.set_cons_zero, List.set_cons_succ]
              refine wpAnyU_takeW (v := ?_) 7 la7 (by kernel_rfl) (by kernel_rfl) (by kernel_rfl) (by kernel_rfl) (fun _ _ _ h => h) (past_k (by kernel_rfl)) rfl ?_ ?_
              rotate_left
              · (intro w; go_simp <;> with_reducible rfl)
              simp only [Act.put, List.setIfInBounds_toArray, List.set_cons_zero, List.set_cons_succ]
              refine wpAnyU_takeW (v := ?_) 8 la8 (by kernel_rfl) (by kernel_rfl) (by kernel_rfl) (by kernel_rfl) (fun _ _ _ h => h) (past_k (by kernel_rfl)) rfl ?_ ?_
              rotate_left
              · (intro w; go_simp <;> with_reducible rfl)
              simp only [Act.put, List.setIfInBounds_toArray, List.set_cons_zero, List.set_cons_succ]
              refine wpAnyU_takeW (v := ?_) 9 la9 (by kernel_rfl) (by kernel_rfl) (by kernel_rfl) (by kernel_rfl) (fun _ _ _ h => h) (past_k (by kernel_rfl)) rfl ?_ ?_
              rotate_left
              · (intro w; go_simp <;> with_reducible rfl)
              simp only [Act.put, List.setIfInBounds_toArray, List.set_cons_zero, List.set_cons_succ]
              refine wpAnyU_takeW (v := ?_) 10 la10 (by kernel_rfl) (by kernel_rfl) (by kernel_rfl) (by kernel_rfl) (fun _ _ _ h => h) (past_k (by kernel_rfl)) rfl ?_ ?_
              rotate_left
              · (intro w; go_simp <;> with_reducible rfl)
              simp only [Act.put, List.setIfInBounds_toArray, List.set_cons_zero, List.set_cons_succ]
              refine wpAnyU_takeW (v := ?_) 11 la11 (by kernel_rfl) (by kernel_rfl) (by kernel_rfl) (by kernel_rfl) (fun _ _ _ h => h) (past_k (by kernel_rfl)) rfl ?_ ?_
              rotate_left
              · (intro w; go_simp <;> with_reducible rfl)
              simp only [Act.put, List.setIfInBounds_toArray, List.set_cons_zero, List.set_cons_succ]
              refine wpAnyU_done (by kernel_rfl) ?_ _
              have HBF2 := Lib.hid (below_then HB9.out HU1.out)
              go_wp2_with fail
              go_roundw
              case rel => exact ⟨k + 1, by go_num, by omega, HBF2⟩
              case measure => simp [intOf]; omega
            exact AllReadyU.nil
          · have hge : ¬ (k : Int) < (n : Int) := by omega
            have HIE := Lib.hid (HIZ.out.over HBk.out)
            go_wp2_with fail
            go_roundw
            case rel => exact ⟨i + 1, by go_num, by omega, HIE⟩
            case measure => simp [intOf]; omega
    · have hge : ¬ (i : Int) < 10 := by omega
      go_wp2
      go_ret
      exact ⟨rfl, HI.out.below⟩
set_option maxRecDepth 100000 in
theorem lifted (os : Os) (started : os.Started) (H : Type) (enc : TypeId × Value → H) :
    ReturnsInHanded {} Try.checked os 5 .any (Rows.modelCouldsSpec.pre6 enc Try.prog Try.f5 Rows.modelCouldsRow.domain false) (Rows.modelCouldsSpec.post enc Try.prog Try.f5 false true false false) := by
  refine returnsInHanded_of_change_sized (C := Try.checked) own started (by kernel_rfl) Try.func5
    (ChangeSpec.witness6 (enc := enc) (C := Try.checked) false ⟨#[], #[.slice none 0 0], []⟩ 8 (by kernel_rfl) (by kernel_rfl) (by kernel_rfl) (by kernel_rfl)) ?_
  intro W base args ds gs before hval0 hW _ hsz0 _
  have hsz : (DataW.weightsEach Try.prog (Try.f5.params.toList ++ Rows.modelCouldsSpec.plain.varTypes Try.prog) (ds ++ gs)).all (· ≤ reachBytes) = true := hsz0
  clear hsz0
  have hval : ∀ (j : Nat) t v, Try.f5.params[j]? = some t → args[j]? = some v → Value.okWide Try.prog W .any base t v := hval0
  have hW' := hW
  obtain ⟨p, q, hA0, hV, rfl, _, _⟩ := hW
  have hA : DataW.TrodAll enc Try.prog W 0 (fun _ => true) true Try.f5.params.toList args.toList ds p := hA0
  rw [Try.params5] at hA hval hsz
  obtain ⟨v0, vs0, d0, ds0, p0, q0, hargs, rfl, rfl, h0, r0⟩ := trodAll_cons hA
  obtain ⟨rfl, rfl, rfl⟩ := trodAll_nil r0
  obtain rfl : args = #[v0] := by cases args; simp_all
  obtain ⟨rfl, rfl⟩ := trodVars_none hV
  have k0 := h0
  obtain ⟨l0, s0⟩ := view_sl (k := .u8) Try.underlying22 Try.underlying5 (by kernel_rfl) (fun elems sp hd => sized_slice hsz (j := 0) (t := 22) (e := 5) rfl (by rw [hd]; rfl) Try.underlying22) (of_decide_eq_true (by kernel_rfl)) (hval 0 22 v0 rfl rfl) h0
  clear hA0 hval0
  simp only [List.append_nil] at hW'
  have hlt := hW'.lt
  refine (walk W v0 l0 s0).mono fun e W' ⟨he, hb⟩ => ?_
  subst he
  exact ⟨_, rfl, _, _, _, [], _, [], hW', trodAll_cons_mk (shut_bool Try.underlying4 _) trodAll_mk0, (trodAll_cons_mk (Below.trod Try.laidOut (by kernel_rfl) (of_decide_eq_true (by kernel_rfl)) k0 hb (fun x hx => by simpa using hlt x (by simp [hx]))) trodAll_mk0), rfl, hb.frame _, fun h => by cases h⟩
theorem over : Rows.modelCouldsRow.holds Try.pinned (OpenSpec.ofChange Rows.modelCouldsSpec) :=
  OpenClaim.holds_of_wide 5 Try.f5 rfl rfl rfl rfl rfl rfl rfl ⟨rfl, rfl, rfl, rfl, rfl⟩ rfl rfl rfl rfl rfl (by kernel_rfl) Try.func5 (by kernel_rfl)
    (of_decide_eq_true (by kernel_rfl)) (by unfold Func.isWrapper; first | (rw [if_pos (by decide +kernel)]; kernel_rfl) | (rw [if_neg (by decide +kernel)]; exact ⟨rfl, rfl⟩))
    (fun os started H enc _ => lifted os started H enc)
/-- THE STATEMENT -/
theorem proved : Rows.ModelCouldsSaid :=
  over
end Go.Proofs.Ytckjdlphilpgfaa.modelCoulds
