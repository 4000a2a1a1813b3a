/- Proved: ModelEnabled returns true for every list of codes, and its arguments read afterwards as before; no condition. -/
import Derived.Deep.DeepCutAuto
import Derived.Deep.CutBlock
import Derived.LoopTactic
import Derived.WalkKit
import Derived.ProofKit
import Derived.OpenShut
import Derived.SizedLaws
import Derived.Test.YtckjdlphilpgfaaB01
import Derived.Test.YtckjdlphilpgfaaB17
import Derived.Test.YtckjdlphilpgfaaB20
import Derived.Test.YtckjdlphilpgfaaB24
import Derived.Test.YtckjdlphilpgfaaB32
import Derived.Test.YtckjdlphilpgfaaB26
namespace Go.Proofs.Ytckjdlphilpgfaa.modelEnabled
open Go.ChangeShapes Go.WideShapes Go.ChangeAt Go.RowKit
set_option linter.unusedVariables false
set_option linter.unusedSimpArgs false
theorem below_poke {w a b : World} {g : Nat} (h : Below w.heap.size w a) (hg : a.grownBy b (some g)) (hw : w.heap.size ≤ g) : Below w.heap.size w b := below_grown h hg hw
theorem row_keep {a b : World} {g j : Nat} {ob : Obj} (hg : a.grownBy b (some g)) (h : a.heap[j]? = some ob) (hj : j ≠ g) : b.heap[j]? = some ob :=
  (hg.block j (Array.getElem?_eq_some_iff.1 h).1 (fun e => hj (by simpa using e))).trans h
theorem row_below2 {a b : World} {j : Nat} {ob : Obj} (hb : Below a.heap.size a b) (h : a.heap[j]? = some ob) : b.heap[j]? = some ob := (hb.block j (Array.getElem?_eq_some_iff.1 h).1).trans h
theorem SlH.nil (w : World) : SlH w (.slice none 0 0) [] := ⟨[], rfl, SlS.nil w 3, fun i hi => by simp at hi, fun c hc => by simp at hc, fineB.nil w⟩
/-- the law's world between two operations -/
structure ApJ (w wr : World) (g X : Nat) (cv : Value) (crow : Array Value) (c : ConfM) (v : Value) (l : List ChanM) (m : Nat) : Prop where
  sl : SlH wr v l
  len : l.length ≤ 3
  buf : ∀ x ∈ l, x.buf.length ≤ m
  code : CodesE wr g
  conf : ConfX wr g cv c
  cr : wr.heap[X]? = some (.cells crow 34 (0, 0))
  below : Below w.heap.size w wr
  gX : g < X
  gw : w.heap.size ≤ g
theorem ApJ.draw {w wr w2 : World} {g X : Nat} {cv : Value} {crow : Array Value} {c : ConfM} {v : Value} {l : List ChanM} {m : Nat} (h : ApJ w wr g X cv crow c v l m) (hg : wr.grownBy w2 (some g)) (hc : CodesE w2 g) : ApJ w w2 g X cv crow c v l m :=
  ⟨h.sl.grown hg (codes_is h.code), h.len, h.buf, hc, h.conf.grown hg, row_keep hg h.cr (by have := h.gX; omega), below_grown h.below hg h.gw, h.gX, h.gw⟩
theorem ApJ.over {w wr w2 : World} {g X : Nat} {cv : Value} {crow : Array Value} {c : ConfM} {v : Value} {l : List ChanM} {m : Nat} (h : ApJ w wr g X cv crow c v l m) (hb : Below wr.heap.size wr w2) : ApJ w w2 g X cv crow c v l m :=
  ⟨h.sl.below hb, h.len, h.buf, h.code.kept h.code.lt hb, h.conf.below hb, row_below2 hb h.cr, below_then h.below hb, h.gX, h.gw⟩
theorem modR_keeps {l l' : List ChanM} {op : OpM} {r : ResM} {m : Nat} (h : ModR l op r l') (hb : ∀ x ∈ l, x.buf.length ≤ m) : l'.length = l.length ∧ ∀ x ∈ l', x.buf.length ≤ m + 1 := by
  have hg : ∀ i, i < l.length → (l.getD i noChan).buf.length ≤ m := fun i hi => by
    rw [List.getD_eq_getElem?_getD, List.getElem?_eq_getElem hi]
    exact hb _ (List.getElem_mem hi)
  cases h with
  | sent x i hk hc hx hi e =>
    subst e
    refine ⟨List.length_set, fun y hy => ?_⟩
    rcases List.mem_or_eq_of_mem_set hy with hy | rfl
    · have := hb y hy; omega
    · have := hg i hi
      show ((l.getD i noChan).buf ++ [x.val]).length ≤ _
      rw [List.length_append]
      show _ + 1 ≤ _
      omega
  | got x i y t hk ho hc hx hi hbb e =>
    subst e
    refine ⟨List.length_set, fun y hy => ?_⟩
    rcases List.mem_or_eq_of_mem_set hy with hy | rfl
    · have := hb y hy; omega
    · have := hg i hi
      rw [hbb] at this
      simp at this
      show t.length ≤ _
      omega
  | shut i hk hx hi e =>
    subst e
    refine ⟨List.length_set, fun y hy => ?_⟩
    rcases List.mem_or_eq_of_mem_set hy with hy | rfl
    · have := hb y hy; omega
    · have := hg i hi
      show (l.getD i noChan).buf.length ≤ _
      omega
  | same h1 h2 h6 e =>
    subst e
    exact ⟨rfl, fun y hy => by have := hb y hy; omega⟩
theorem ApJ.mod {w wr : World} {g X : Nat} {cv : Value} {crow : Array Value} {c : ConfM} {v v2 : Value} {l l2 : List ChanM} {op : OpM} {r : ResM} {m : Nat} (h : ApJ w wr g X cv crow c v l m) (hs : SlH wr v2 l2) (hm : ModR l op r l2) : ApJ w wr g X cv crow c v2 l2 (m + 1) :=
  ⟨hs, by rw [(modR_keeps hm h.buf).1]; exact h.len, (modR_keeps hm h.buf).2, h.code, h.conf, h.cr, h.below, h.gX, h.gw⟩
theorem ApJ.wide {w wr : World} {g X : Nat} {cv : Value} {crow : Array Value} {c : ConfM} {v : Value} {l : List ChanM} {m m2 : Nat} (h : ApJ w wr g X cv crow c v l m) (hm : m ≤ m2) : ApJ w wr g X cv crow c v l m2 :=
  ⟨h.sl, h.len, fun x hx => Nat.le_trans (h.buf x hx) hm, h.code, h.conf, h.cr, h.below, h.gX, h.gw⟩
theorem run_neq_res (a b : ResM) (w : World) : (binOp .neq 25 (resW a) (resW b)).run Try.prog w = .ok (.bool (!resEqB a b)) w := by
  obtain ⟨a1, a2, a3, a4, a5⟩ := a
  obtain ⟨b1, b2, b3, b4, b5⟩ := b
  unfold resW resEqB
  dsimp only
  have hu := Try.underlying25
  simp [go_sem]
  repeat' split
  all_goals simp_all
set_option maxRecDepth 100000 in
set_option maxHeartbeats 16000000 in
theorem walk (w : World) (v0 : Value) (l0 : List Int) (s0 : SlI w .u8 v0 l0) :
    Calls Try.prog 6 #[v0] w fun e w' => e = .returned (.bool true) ∧ Below w.heap.size w w' := by
  have AW := Lib.hid (awake_any w)
  have HS0 := Lib.hid s0
  clear s0
  go_enter Try.func6, Try.ntmps6
  go_wp2_with fail
  refine AW.out.mono ?_; rintro e w1 ⟨rfl, hb1⟩
  have HB1 := Lib.hid hb1
  clear hb1 AW
  go_wp2_with fail
  refine (new_any _ l0 200 _ (HS0.out.below HB1.out) (by omega)).mono ?_; rintro e w2 ⟨rfl, hc2, hb2⟩
  have hC2 : Hid (CodesE w2 w1.heap.size) := ⟨_, _, hc2⟩
  have HB2 := Lib.hid (below_then HB1.out hb2)
  obtain ⟨g, hg⟩ : ∃ g, w1.heap.size = g := ⟨_, rfl⟩
  have hwg : w.heap.size ≤ g := by have := HB1.out.size; omega
  rw [hg] at hC2
  rw [hg]
  clear hc2 hb2 hg HS0 HB1
  go_wp2_with fail
  refine (chans_any g w2 hC2.out).mono ?_; rintro e w3 ⟨v, rfl, l, hsv, hcr, hc3, hg3⟩
  have HV3 := Lib.hid hsv
  have HC3 := Lib.hid hc3
  have HB3 := Lib.hid (below_poke HB2.out hg3 hwg)
  have HLL := Lib.hid hcr
  obtain ⟨av, cv, rfl, -⟩ := hsv.len
  clear hsv hcr hc3 hg3 HB2 hC2
  go_wp2_with fail
  refine (configL_any _ l w3 HV3.out (by have := HLL.out.hi; omega)).mono ?_; rintro e w4 ⟨vc, vs, rfl, caps, hoc, hlc, hwc, starts, hos, hls, hws, hb4⟩
  obtain ⟨ac, nc, kc, rfl⟩ := own_slice hoc
  obtain ⟨ast, nst, kst, rfl⟩ := own_slice hos
  have hgl := HC3.out.lt
  have HCX : Hid (ConfX w4 g (.agg #[.slice ac nc kc, .slice ast nst kst, .int .i64 2]) ⟨caps, starts, 2⟩) := ⟨_, _, rfl, hoc.read (by have := HLL.out.hi; omega) hwc, hos.read (by have := HLL.out.hi; omega) hws, hoc.off (by omega), hos.off (by omega)⟩
  obtain ⟨c, hc⟩ : ∃ c : ConfM, (⟨caps, starts, 2⟩ : ConfM) = c := ⟨_, rfl⟩
  have HCL : Hid (c.caps.length ≤ 8) := by
    show _ ≤ _
    rw [← hc]
    have := HLL.out.hi
    show caps.length ≤ 8
    omega
  rw [hc] at HCX
  have HC4 := Lib.hid (HC3.out.kept hgl hb4)
  have HV4 := Lib.hid (HV3.out.below hb4)
  have HB4 := Lib.hid (below_then HB3.out hb4)
  have hg4 : g < w4.heap.size := Nat.lt_of_lt_of_le hgl hb4.size
  clear hoc hlc hwc hos hls hws hb4 hc HC3 HV3 HB3 hgl
  obtain ⟨Wx, hWx⟩ : ∃ Wx, (w4.alloc (.cells #[.slice none 0 0, .slice none 0 0, .int .i64 0] 34)).setRow w4.heap.size #[.slice ac nc kc, .slice ast nst kst, .int .i64 2] = Wx := ⟨_, rfl⟩
  have Nx : Hid ((w4.alloc (.cells #[.slice none 0 0, .slice none 0 0, .int .i64 0] 34)).heap[w4.heap.size]? = some (.cells #[.slice none 0 0, .slice none 0 0, .int .i64 0] 34 (0, 0))) := heap_alloc_new _ _
  have HBx : Hid (Below w4.heap.size w4 Wx) := hWx ▸ row_below (below_new (Below.refl _ _) _) (Nat.le_refl _) _
  have Rx : Hid (Wx.heap[w4.heap.size]? = some (.cells #[.slice ac nc kc, .slice ast nst kst, .int .i64 2] 34 (0, 0))) := hWx ▸ setRow_heap _ _ _ _ _ (0, 0) Nx.out
  have HWx := Lib.hid hWx
  clear hWx
  go_upto_region 6 with (refine wpList_store_row rfl 34 _ _ rfl (w4.heap.size) _ rfl rfl 34 #[.slice none 0 0, .slice none 0 0, .int .i64 0] Nx.out (by kernel_rfl) rfl (by simp [Value.oneCell']) ?_)
  rw [HWx.out]
  try simp only [Act.put]
  clear HWx Nx
  obtain ⟨X, hX⟩ : ∃ X, w4.heap.size = X := ⟨_, rfl⟩
  rw [hX] at Rx
  rw [hX]
  have hgX : g < X := by omega
  clear hX
  have HI0 : Hid (ApJ w Wx g X (.agg #[.slice ac nc kc, .slice ast nst kst, .int .i64 2]) #[.slice ac nc kc, .slice ast nst kst, .int .i64 2] c (.slice av l.length cv) l 16) := ⟨HV4.out.below HBx.out, HLL.out.hi, HLL.out.bufs, HC4.out.kept HC4.out.lt HBx.out, HCX.out.below HBx.out, Rx.out, below_then HB4.out HBx.out, hgX, hwg⟩
  have hll := HLL.out.hi
  clear HV4 HLL HC4 HCX HBx Rx HB4 hgX hg4
  have HIX := HI0
  have HCX0 := Lib.hid HI0.out.code
  obtain ⟨BB, hBBe⟩ : ∃ b, Wx.heap.size = b := ⟨_, rfl⟩
  have HBB := Lib.hid hBBe
  have HW0 : Hid (WtI Wx g BB (.slice none 0 0) [] []) := ⟨rfl, OwnS.nil _ _ _ _, fun i hi => by simp at hi, fun i hi => by simp at hi, by have := HI0.out.code.lt; omega, by omega⟩
  have HG0 : Hid (Wx.grownBy Wx (some g)) := grownBy_refl _ _
  clear hBBe HI0
  go_wp2_with fail
  go_loopw [6, 7] (fun u6 u7 wr => ∃ (i : Nat) (v : Value) (wl : List WaitM) (rows : List (List Value)), v = u6 ∧ u7 = .int .i64 i ∧ i ≤ 5 ∧ Hid (wl.length = i) ∧ Hid (WtI wr g BB v wl rows) ∧ Hid (Wx.grownBy wr (some g)) ∧ Hid (CodesE wr g)) (fun _ u7 _ => 5 - (intOf u7).toNat)
  case atStart => exact ⟨0, _, [], [], rfl, rfl, by omega, rfl, HW0, HG0, HCX0⟩
  case round =>
    clear HW0 HG0 HCX0
    obtain ⟨i, v, wl, rows, rfl, rfl, hi, HLW, HW, HG, HCo⟩ := hrel
    obtain ⟨wo, rfl⟩ : ∃ wo : World, wo = wr := ⟨_, rfl⟩
    have HI := Lib.hid (HIX.out.draw HG.out HCo.out)
    by_cases hlt : i < 5
    · have hltI : (i : Int) < 5 := by omega
      have KS : Hid (∀ w', w'.heap[X]? = some (.cells #[.slice ac nc kc, .slice ast nst kst, .int .i64 2] 34 (0, 0)) → (fun w' : World => w'.cell? ⟨X, 0, none⟩ = some (.slice ac nc kc) ∧ w'.cell? ⟨X, 1, none⟩ = some (.slice ast nst kst) ∧ w'.cell? ⟨X, 2, none⟩ = some (.int .i64 2)) w') := fun w' h => rowc3 h
      go_upto_region 10 with fail
      go_cut [6] (fun s6 wx => ∃ (v2 : Value) (x : WaitM) (rows2 : List (List Value)), s6 = v2 ∧ Hid (WtI wx g BB v2 (wl ++ [x]) rows2) ∧ Hid (Wx.grownBy wx (some g)) ∧ Hid (CodesE wx g))
      case first =>
        have HI0 : Hid (ApJ w (wo.drewN 1) g X (.agg #[.slice ac nc kc, .slice ast nst kst, .int .i64 2]) #[.slice ac nc kc, .slice ast nst kst, .int .i64 2] c (.slice av l.length cv) l 16) := HI.out.over (below_drewN (Below.refl _ _) 1)
        have HW0 : Hid (WtI (wo.drewN 1) g BB v wl rows) := HW.out.below (below_drewN (Below.refl _ _) 1)
        have HG0 : Hid (Wx.grownBy (wo.drewN 1) (some g)) := grownBy_of_below HG.out ((below_drewN (Below.refl wo.heap.size wo) 1).mono HG.out.size)
        refine wp_region_until (fun w' : World => w'.cell? ⟨X, 0, none⟩ = some (.slice ac nc kc) ∧ w'.cell? ⟨X, 1, none⟩ = some (.slice ast nst kst) ∧ w'.cell? ⟨X, 2, none⟩ = some (.int .i64 2)) 5 10 (by kernel_rfl) rfl ?_
        obtain ⟨u0, hu0⟩ : ∃ u, (wo.drewN 1) = u := ⟨_, rfl⟩
        rw [show wo.drew = wo.drewN 1 from rfl, hu0]
        rw [hu0] at HI0 HW0 HG0
        clear hu0
        have hSU0 := KS.out _ HI0.out.cr
        refine tkU (v := ?_) 3 la3 hSU0 (by kernel_rfl) (fun _ _ _ h => h) rfl ?_ ?_
        rotate_left
        · (intro w hSw; (try dsimp only at hSw); go_simp <;> with_reducible rfl)
        simp only [Act.put, List.setIfInBounds_toArray, List.set_cons_zero, List.set_cons_succ]
        refine tkU (v := ?_) 4 la4 hSU0 (by kernel_rfl) (fun _ _ _ h => h) rfl ?_ ?_
        rotate_left
        · (intro w hSw; (try dsimp only at hSw); go_simp <;> with_reducible rfl)
        simp only [Act.put, List.setIfInBounds_toArray, List.set_cons_zero, List.set_cons_succ]
        refine wpAnyU_takeW (v := ?_) 0 la0 (by kernel_rfl) (by kernel_rfl) (by kernel_rfl) (by kernel_rfl) (fun _ _ _ h => h) (fun _ => hSU0) rfl ?_ ?_
        rotate_left
        · (intro w; go_simp <;> with_reducible rfl)
        simp only [Act.put, List.setIfInBounds_toArray, List.set_cons_zero, List.set_cons_succ]
        refine wpAnyU_takeW (v := ?_) 1 la1 (by kernel_rfl) (by kernel_rfl) (by kernel_rfl) (by kernel_rfl) (fun _ _ _ h => h) (fun _ => hSU0) rfl ?_ ?_
        rotate_left
        · (intro w; go_simp <;> with_reducible rfl)
        simp only [Act.put, List.setIfInBounds_toArray, List.set_cons_zero, List.set_cons_succ]
        refine wpAnyU_ready (rs := [2]) (by kernel_rfl) rfl ?_
        refine AllReadyU.cons la2 rfl (fun K hK => ?_) ?_
        · go_simp
          go_at_call 23
          refine (nextE g 3 u0 HI0.out.code (by omega) (by omega)).mono ?_
          rintro e u1 ⟨th, rfl, ht0, ht1, hcc, hgg⟩
          have HI1 := Lib.hid (HI0.out.draw hgg hcc)
          have HW1 := Lib.hid (HW0.out.draw hgg)
          have HG1 := Lib.hid (grownBy_trans HG0.out hgg)
          clear hcc hgg
          refine hK.out _ _ ?_ (fun hSU1 => ?_)
          · exact KS.out _ HI1.out.cr
          clear hK K hSU0
          try simp only [Act.put, List.setIfInBounds_toArray, List.set_cons_zero, List.set_cons_succ]
          refine wpAnyU_ready (rs := [5]) (by kernel_rfl) rfl ?_
          refine AllReadyU.free la5 rfl (by kernel_rfl) (fun K hK => ?_) ?_
          · go_simp
            go_at_call 13
            refine (opE g _ c u1 HI1.out.code HI1.out.conf HCL.out).mono ?_
            rintro e u2 ⟨uo, op, rfl, hop, hgd, hcA, hgA⟩
            have HI3 := Lib.hid (HI1.out.draw hgA hcA)
            have HW3 := Lib.hid (HW1.out.draw hgA)
            have HG3 := Lib.hid (grownBy_trans HG1.out hgA)
            have HGD := Lib.hid hgd
            have hgu1 := HI1.out.code.lt
            obtain ⟨vo1, vo2, rfl, hoc, hod, hn1, hn2⟩ := hop
            obtain ⟨a3, cap3, rfl⟩ := hoc.len
            obtain ⟨a4, cap4, rfl, -⟩ := hod.len
            have HOC := Lib.hid hoc
            have HOD := Lib.hid hod
            have HO3 := Lib.hid (hn1.off hgu1)
            have HO4 := Lib.hid (hn2.off hgu1)
            have HO5 : Hid (∀ j, v.ownBlock = some j → offB j (.slice a3 op.cases.length cap3) ∧ offB j (.slice a4 op.draws.length cap4)) := fun j hj => ⟨hn1.off (HW1.out.own.lt j hj).2, hn2.off (HW1.out.own.lt j hj).2⟩
            clear hoc hod hn1 hn2 hgd hcA hgA
            refine hK.out _ _ ?_
            clear hK K hSU1
            try simp only [Act.put, List.setIfInBounds_toArray, List.set_cons_zero, List.set_cons_succ]
            refine wpAnyU_takeW (v := ?_) 6 la6 (by kernel_rfl) (by kernel_rfl) (by kernel_rfl) (by kernel_rfl) (fun _ _ _ h => h) (past_k (by kernel_rfl)) rfl ?_ ?_
            rotate_left
            · (intro w; go_simp <;> with_reducible rfl)
            simp only [Act.put, List.setIfInBounds_toArray, List.set_cons_zero, List.set_cons_succ]
            refine wpAnyU_ready (rs := [7]) (by kernel_rfl) rfl ?_
            refine AllReadyU.free la7 rfl (by kernel_rfl) (fun K hK => ?_) ?_
            · go_simp
              obtain ⟨u3, nb, hv1, hX1, RN, hbn, ltn⟩ := alloc_pack u2 (.cells #[.int .i64 th, .int .i64 op.kind, .int .i64 op.mode, .int .i64 op.chan, .int .u64 op.val, .int .i64 op.dl, .slice a3 op.cases.length cap3, .slice a4 op.draws.length cap4] 56)
              rw [hv1, hX1]
              have HI4 := Lib.hid (HI3.out.over hbn.out)
              have HG4 := Lib.hid (grownBy_of_below HG3.out (hbn.out.mono HG3.out.size))
              have HW4 := Lib.hid (HW3.out.below hbn.out)
              have HOC2 := Lib.hid (HOC.out.below hbn.out)
              have HOD2 := Lib.hid (HOD.out.below hbn.out)
              clear hv1 hX1 hbn ltn
              refine hK.out _ _ ?_
              clear hK K
              try simp only [Act.put, List.setIfInBounds_toArray, List.set_cons_zero, List.set_cons_succ]
              refine wpAnyU_ready (rs := [8]) (by kernel_rfl) rfl ?_
              refine AllReadyU.free la8 rfl (by kernel_rfl) (fun K hK => ?_) ?_
              · refine step_append_sn (w := u3) 53 (by kernel_rfl) Try.info_wait rfl (by decide) (by decide) (by rfl) _ _ (by rfl) (by rfl) HW4.out.own (wtL ⟨th, op⟩ (.slice a3 op.cases.length cap3) (.slice a4 op.draws.length cap4)) rfl (by intro u hu; simp only [wtL, List.mem_cons, List.not_mem_nil, or_false] at hu; rcases hu with rfl | rfl | rfl | rfl | rfl | rfl | rfl | rfl <;> rfl) nb (by rfl) RN.out (by rw [HW4.out.len, HLW.out]; omega) HW4.out.Bw ?_
                intro v6 u4 ho6 hg6 hn6
                have HW5 := Lib.hid (HW4.out.push (x := ⟨th, op⟩) hg6 ho6 hn6 HGD.out HOC2.out HOD2.out HO3.out HO4.out HO5.out)
                have HG5 := Lib.hid (grownBy_of_new HG4.out hg6 (fun j hj => by rw [HBB.out]; exact (HW4.out.own.lt j hj).1))
                have HC5 := Lib.hid (codes_grown HI4.out.code hg6 (fun j hj => (HW4.out.own.lt j hj).1) HW4.out.gB)
                clear ho6 hg6 hn6
                refine hK.out _ _ ?_
                clear hK K
                try simp only [Act.put, List.setIfInBounds_toArray, List.set_cons_zero, List.set_cons_succ]
                refine wpAnyU_takeW (v := ?_) 9 la9 (by kernel_rfl) (by kernel_rfl) (by kernel_rfl) (by kernel_rfl) (fun _ _ _ h => h) (past_k (by kernel_rfl)) rfl ?_ ?_
                rotate_left
                · (intro w; go_simp <;> with_reducible rfl)
                simp only [Act.put, List.setIfInBounds_toArray, List.set_cons_zero, List.set_cons_succ]
                refine wpAnyU_done (by kernel_rfl) ?_ _
                go_wp2_with fail
                go_meet
                exact ⟨_, ⟨th, op⟩, _, rfl, HW5, HG5, HC5⟩
              exact AllReadyU.nil
            exact AllReadyU.nil
          exact AllReadyU.nil
        exact AllReadyU.nil
      case rest =>
        obtain ⟨v2, x, rows2, rfl, HW2, HG2, HCo2⟩ := hcut
        obtain ⟨wz, rfl⟩ : ∃ wz : World, wz = wc := ⟨_, rfl⟩
        have HI2 := Lib.hid (HIX.out.draw HG2.out HCo2.out)
        obtain ⟨wl2, hwl2⟩ : ∃ z, wl ++ [x] = z := ⟨_, rfl⟩
        have hlen : wl2.length = i + 1 := by rw [← hwl2, List.length_append, HLW.out]; rfl
        rw [hwl2] at HW2
        have HLN := Lib.hid hlen
        have HSW := Lib.hid (HW2.out.slW (by rw [hlen]; omega))
        have HL3 : Hid (l.length ≤ 1000000) := by show _ ≤ _; omega
        have HBF : Hid (∀ c ∈ l, c.buf.length ≤ 999999) := fun c hc => by have := HI2.out.buf c hc; omega
        obtain ⟨aw, kw, hve, -⟩ := HSW.out.len
        rw [hlen] at hve
        subst hve
        have T1 := Lib.hid fun w' (hb : Below wz.heap.size wz w') => qEnabled_any _ _ l wl2 w' (HI2.out.sl.below hb) (HSW.out.below hb) (fun j hj => (HW2.out.good j hj).fine)
        have T2 := Lib.hid fun w' (hb : Below wz.heap.size wz w') => renabled_any _ _ l wl2 w' (HI2.out.sl.below hb) HL3.out HBF.out (HSW.out.below hb) (fun j hj => HW2.out.good j hj)
        obtain ⟨q, hq⟩ : ∃ q, enabP l wl2 = q := ⟨_, rfl⟩
        rw [hq] at T1 T2
        clear hq hwl2 hlen HW HI HG HCo
        go_wp2_with fail
        refine (T1.out _ (Below.refl _ _)).mono ?_; rintro e wa ⟨rfl, hba⟩
        have HBA := Lib.hid hba
        clear hba T1
        go_wp2_with fail
        refine (T2.out _ HBA.out).mono ?_; rintro e wb ⟨rfl, hbb⟩
        have HBB := Lib.hid (below_then HBA.out hbb)
        clear hbb T2 HBA
        have hqq : (q != q) = false := by simp
        go_wp2_with fail
        go_loopw [39] (fun u39 wr => ∃ k : Nat, u39 = .int .i64 k ∧ k ≤ i + 1 ∧ Hid (Below wz.heap.size wz wr)) (fun u39 _ => i + 1 - (intOf u39).toNat)
        case atStart => exact ⟨0, rfl, by omega, HBB⟩
        case round =>
          clear HBB
          obtain ⟨k, rfl, hk, HBk⟩ := hrel
          obtain ⟨wp, rfl⟩ : ∃ wp : World, wp = wr := ⟨_, rfl⟩
          by_cases hkn : k < i + 1
          · have hkI : (k : Int) < (i : Int) + 1 := by omega
            have hiI2 : (i : Int) < (i : Int) + 1 := by omega
            have hiw : i < wl2.length := by rw [HLN.out]; omega
            have hkw : k < wl2.length := by rw [HLN.out]; omega
            obtain ⟨b7, off7, cap7, vc7, vd7, hve, hbb7, c0, c1, c2, c3, c4, c5, c6, c7, hc7, hd7⟩ := (HSW.out.below HBk.out).at i hiw
            rw [HLN.out] at hve
            simp only [Value.slice.injEq] at hve
            obtain ⟨rfl, -, rfl⟩ := hve
            obtain ⟨b8, off8, cap8, vc8, vd8, hve, hbb8, d0, d1, d2, d3, d4, d5, d6, d7, hc8, hd8⟩ := (HSW.out.below HBk.out).at k hkw
            rw [HLN.out] at hve
            simp only [Value.slice.injEq, Option.some.injEq, Addr.mk.injEq, and_true, true_and] at hve
            obtain ⟨⟨rfl, rfl⟩, rfl⟩ := hve
            have HGI := Lib.hid (HW2.out.good i hiw)
            have HGK := Lib.hid (HW2.out.good k hkw)
            obtain ⟨⟨tha, opa⟩, hxa⟩ : ∃ x, wat wl2 i = x := ⟨_, rfl⟩
            obtain ⟨⟨thb, opb⟩, hxb⟩ : ∃ x, wat wl2 k = x := ⟨_, rfl⟩
            rw [hxa] at c0 c1 c2 c3 c4 c5 hc7 hd7 HGI
            rw [hxb] at d0 d1 d2 d3 d4 d5 hc8 hd8 HGK
            dsimp only at c0 c1 c2 c3 c4 c5 hc7 hd7 HGI d0 d1 d2 d3 d4 d5 hc8 hd8 HGK
            have HOA : Hid (OpV wp (.agg #[.int .i64 opa.kind, .int .i64 opa.mode, .int .i64 opa.chan, .int .u64 opa.val, .int .i64 opa.dl, vc7, vd7]) opa) := ⟨_, _, rfl, hc7, hd7⟩
            have HOB : Hid (OpV wp (.agg #[.int .i64 opb.kind, .int .i64 opb.mode, .int .i64 opb.chan, .int .u64 opb.val, .int .i64 opb.dl, vc8, vd8]) opb) := ⟨_, _, rfl, hc8, hd8⟩
            have HCS : ∀ op : OpM, op.good → (casesE op).length ≤ 100 := fun op h => by
              unfold casesE
              have := h.cases
              split
              · omega
              · split <;> simp
            have T1 := Lib.hid fun w' (hb : Below wp.heap.size wp w') => qMeets_any _ _ _ l opa opb w' (HI2.out.sl.below (below_then HBk.out hb)) (HOA.out.below hb) (HOB.out.below hb) HGI.out.fine.ok HGK.out.fine.ok
            have T2 := Lib.hid fun w' (hb : Below wp.heap.size wp w') => rmeets_any _ _ _ l opa opb w' (HI2.out.sl.below (below_then HBk.out hb)) (HOA.out.below hb) (HOB.out.below hb) HGI.out.fine HGK.out.fine (HCS _ HGI.out) (HCS _ HGK.out)
            obtain ⟨q2, hq2⟩ : ∃ q, meetP l opa opb = q := ⟨_, rfl⟩
            rw [hq2] at T1 T2
            obtain ⟨aa3, ca3, rfl⟩ := hc7.len
            obtain ⟨aa4, ca4, rfl, -⟩ := hd7.len
            obtain ⟨ab3, cb3, rfl⟩ := hc8.len
            obtain ⟨ab4, cb4, rfl, -⟩ := hd8.len
            clear hq2 hxa hxb hc7 hd7 hc8 hd8 HCS hiw hkw
            go_upto_region 16 with fail
            have Xc0 := ext_cell _ _ (hbb7) _ c0
            have Xc1 := ext_cell _ _ (hbb7) _ c1
            have Xc2 := ext_cell _ _ (hbb7) _ c2
            have Xc3 := ext_cell _ _ (hbb7) _ c3
            have Xc4 := ext_cell _ _ (hbb7) _ c4
            have Xc5 := ext_cell _ _ (hbb7) _ c5
            have Xc6 := ext_cell _ _ (hbb7) _ c6
            have Xc7 := ext_cell _ _ (hbb7) _ c7
            have Xd0 := ext_cell _ _ (hbb7) _ d0
            have Xd1 := ext_cell _ _ (hbb7) _ d1
            have Xd2 := ext_cell _ _ (hbb7) _ d2
            have Xd3 := ext_cell _ _ (hbb7) _ d3
            have Xd4 := ext_cell _ _ (hbb7) _ d4
            have Xd5 := ext_cell _ _ (hbb7) _ d5
            have Xd6 := ext_cell _ _ (hbb7) _ d6
            have Xd7 := ext_cell _ _ (hbb7) _ d7
            clear c0 c1 c2 c3 c4 c5 c6 c7 d0 d1 d2 d3 d4 d5 d6 d7
            refine wp_region_ext wp (by kernel_rfl) (by kernel_rfl) (Below.refl _ _) ?_
            repeat (go_big_quiet_step (first | (go_at_call 26; with_reducible exact calls_ext (T1.out _ (Ext.below _))) | (go_at_call 27; with_reducible exact calls_ext (T2.out _ (Ext.below _)))))
            refine wpQuiet_nil ?_
            intro _ hw'
            obtain ⟨n9, rfl⟩ := hw'
            have HB9 := Lib.hid (below_then HBk.out n9.below)
            generalize n9.wd = w9 at *
            clear Xc0 Xc1 Xc2 Xc3 Xc4 Xc5 Xc6 Xc7 Xd0 Xd1 Xd2 Xd3 Xd4 Xd5 Xd6 Xd7 T1 T2
            go_wp2_with fail
            go_roundw
            case rel => exact ⟨k + 1, by go_num, by omega, HB9⟩
            case measure => simp [intOf]; omega
          · have hge : ¬ (k : Int) < (i : Int) + 1 := by omega
            have HGE := Lib.hid (grownBy_of_below HG2.out (HBk.out.mono HG2.out.size))
            have HCE := Lib.hid (HCo2.out.kept HCo2.out.lt HBk.out)
            have HWE := Lib.hid (HW2.out.below HBk.out)
            go_wp2_with fail
            go_roundw
            case rel => exact ⟨i + 1, _, wl2, rows2, rfl, by go_num, by omega, HLN, HWE, HGE, HCE⟩
            case measure => simp [intOf]; omega
    · have hge : ¬ (i : Int) < 5 := by omega
      go_wp2
      go_ret
      exact ⟨rfl, HI.out.below⟩
set_option maxRecDepth 100000 in
theorem lifted (os : Os) (started : os.Started) (H : Type) (enc : TypeId × Value → H) :
    ReturnsInHanded {} Try.checked os 6 .any (Rows.modelEnabledSpec.pre6 enc Try.prog Try.f6 Rows.modelEnabledRow.domain false) (Rows.modelEnabledSpec.post enc Try.prog Try.f6 false true false false) := by
  refine returnsInHanded_of_change_sized (C := Try.checked) own started (by kernel_rfl) Try.func6
    (ChangeSpec.witness6 (enc := enc) (C := Try.checked) false ⟨#[], #[.slice none 0 0], []⟩ 8 (by kernel_rfl) (by kernel_rfl) (by kernel_rfl) (by kernel_rfl)) ?_
  intro W base args ds gs before hval0 hW _ hsz0 _
  have hsz : (DataW.weightsEach Try.prog (Try.f6.params.toList ++ Rows.modelEnabledSpec.plain.varTypes Try.prog) (ds ++ gs)).all (· ≤ reachBytes) = true := hsz0
  clear hsz0
  have hval : ∀ (j : Nat) t v, Try.f6.params[j]? = some t → args[j]? = some v → Value.okWide Try.prog W .any base t v := hval0
  have hW' := hW
  obtain ⟨p, q, hA0, hV, rfl, _, _⟩ := hW
  have hA : DataW.TrodAll enc Try.prog W 0 (fun _ => true) true Try.f6.params.toList args.toList ds p := hA0
  rw [Try.params6] at hA hval hsz
  obtain ⟨v0, vs0, d0, ds0, p0, q0, hargs, rfl, rfl, h0, r0⟩ := trodAll_cons hA
  obtain ⟨rfl, rfl, rfl⟩ := trodAll_nil r0
  obtain rfl : args = #[v0] := by cases args; simp_all
  obtain ⟨rfl, rfl⟩ := trodVars_none hV
  have k0 := h0
  obtain ⟨l0, s0⟩ := view_sl (k := .u8) Try.underlying22 Try.underlying5 (by kernel_rfl) (fun elems sp hd => sized_slice hsz (j := 0) (t := 22) (e := 5) rfl (by rw [hd]; rfl) Try.underlying22) (of_decide_eq_true (by kernel_rfl)) (hval 0 22 v0 rfl rfl) h0
  clear hA0 hval0
  simp only [List.append_nil] at hW'
  have hlt := hW'.lt
  refine (walk W v0 l0 s0).mono fun e W' ⟨he, hb⟩ => ?_
  subst he
  exact ⟨_, rfl, _, _, _, [], _, [], hW', trodAll_cons_mk (shut_bool Try.underlying4 _) trodAll_mk0, (trodAll_cons_mk (Below.trod Try.laidOut (by kernel_rfl) (of_decide_eq_true (by kernel_rfl)) k0 hb (fun x hx => by simpa using hlt x (by simp [hx]))) trodAll_mk0), rfl, hb.frame _, fun h => by cases h⟩
theorem over : Rows.modelEnabledRow.holds Try.pinned (OpenSpec.ofChange Rows.modelEnabledSpec) :=
  OpenClaim.holds_of_wide 6 Try.f6 rfl rfl rfl rfl rfl rfl rfl ⟨rfl, rfl, rfl, rfl, rfl⟩ rfl rfl rfl rfl rfl (by kernel_rfl) Try.func6 (by kernel_rfl)
    (of_decide_eq_true (by kernel_rfl)) (by unfold Func.isWrapper; first | (rw [if_pos (by decide +kernel)]; kernel_rfl) | (rw [if_neg (by decide +kernel)]; exact ⟨rfl, rfl⟩))
    (fun os started H enc _ => lifted os started H enc)
/-- THE STATEMENT -/
theorem proved : Rows.ModelEnabledSaid :=
  over
end Go.Proofs.Ytckjdlphilpgfaa.modelEnabled
