import Derived.Deep.DeepCutAuto
import Derived.Deep.CutBlock
import Derived.Test.YtialclohhemkiaaB06
set_option linter.unusedVariables false
set_option linter.unusedSimpArgs false
/- Layer 14: a case takes effect. -/
namespace Go.Proofs.Ytialclohhemkiaa
open Go.ChangeShapes Go.WideShapes Go.ChangeAt Go.RowKit
set_option maxRecDepth 100000

def DoQ (o : Option (List ChanM)) (w : World) (e : Ending) (w' : World) : Prop := ∃ (v' : Value) (ok : Bool), e = .returned (.tuple #[v', .bool ok]) ∧ ((∃ l', o = some l' ∧ ok = true ∧ SlH w' v' l') ∨ (o = none ∧ ok = false)) ∧ Below w.heap.size w w'
/-- a case takes effect on its channel -/
def doB (l : List ChanM) (x : CaseM) (c : ChanM) (r : ResM) : Option (List ChanM) :=
  if r.kind = 1 ∧ x.send = true then
    (if onlyB r false false = true ∧ c.closed = false ∧ (c.buf.length : Int) < c.cap then some (setE l x.chan { c with buf := c.buf ++ [x.val] }) else none)
  else if r.kind = 5 ∧ x.send = true then (if onlyB r false false = true ∧ c.closed = true then some l else none)
  else if r.kind = 2 ∧ x.send = false ∧ r.ok = true then
    (if onlyB r true false = true ∧ c.buf.head? = some r.val then some (setE l x.chan { c with buf := c.buf.tail }) else none)
  else if r.kind = 2 ∧ x.send = false then (if onlyB r true false = true ∧ r.val = 0 ∧ c.closed = true ∧ c.buf = [] then some l else none)
  else none
theorem doE_in {l : List ChanM} {x : CaseM} {r : ResM} (h : exB l x.chan = true) : doE l x r = doB l x (chE l x.chan) r := by
  unfold doE
  rw [if_neg (by simp [h])]
  rfl
theorem doE_out {l : List ChanM} {x : CaseM} {r : ResM} (h : exB l x.chan = false) : doE l x r = none := by
  unfold doE
  rw [if_pos h]
theorem SlI.tail1 {w : World} {k : IntKind} {b off cap : Nat} {y : Int} {l : List Int} (h : SlI w k (.slice (some ⟨b, off, none⟩) (l.length + 1) cap) (y :: l)) : SlI w k (.slice (some ⟨b, off + 1, none⟩) l.length (cap - 1)) l := by
  obtain ⟨h1, h2, a, cap', e, h4, h5⟩ := h
  simp only [Value.slice.injEq] at e
  obtain ⟨rfl, -, rfl⟩ := e
  refine ⟨by simp at h1; omega, fun x hx => h2 x (List.mem_cons_of_mem _ hx), _, _, rfl, by simp at h4; omega, fun t ht => ?_⟩
  obtain ⟨b', off', e, hb, hc⟩ := h5 (t + 1) (by simp; omega)
  simp only [Option.some.injEq, Addr.mk.injEq] at e
  obtain ⟨rfl, rfl, -⟩ := e
  exact ⟨b, off + 1, rfl, hb, by rw [show off + 1 + t = off + (t + 1) by omega]; simpa using hc⟩
theorem own_ge {w : World} {base : Nat} {e : TypeId} {k : IntKind} {v : Value} {l : List Int} (h : OwnI w base e k v l) : ∀ j, v.ownBlock = some j → base ≤ j := fun j hj => by
  rcases h.shape with ⟨rfl, -⟩ | ⟨g, cap, rfl, h1, -⟩
  · cases hj
  · cases hj; exact h1
set_option maxRecDepth 100000 in
set_option maxHeartbeats 16000000 in
theorem mdo_any (v : Value) (l : List ChanM) (x : CaseM) (r : ResM) (w : World) (hv : SlH w v l) (hl : l.length ≤ 1000000) (hbf : ∀ c ∈ l, c.buf.length ≤ 999999) (hxv : x.val = IntKind.u64.wrap x.val) : Calls Try.prog 128 #[v, caseW x, resW r] w fun e w' => DoQ (doE l x r) w e w' := by
  have HV := Lib.hid hv
  have TE := Lib.hid fun w' (hb : Below w.heap.size w w') => mexists_any v l x.chan w' (hv.below hb)
  have TO := Lib.hid fun b1 b2 w' => monly_any r b1 b2 w'
  obtain ⟨lo, hlo⟩ : ∃ o, doE l x r = o := ⟨_, rfl⟩
  rw [hlo]
  obtain ⟨sd, ch, vl⟩ := x
  obtain ⟨kd, cs, rv, rok, nm⟩ := r
  dsimp only at hxv TE
  unfold caseW
  unfold resW at TO ⊢
  dsimp only at TO ⊢
  have HLO := Lib.hid hlo
  have HXV := Lib.hid hxv
  obtain ⟨ex, hex⟩ : ∃ b, exB l ch = b := ⟨_, rfl⟩
  rw [hex] at TE
  have HEX := Lib.hid hex
  have HL := Lib.hid hl
  have HBF := Lib.hid hbf
  obtain ⟨a, cap, hve, -⟩ := hv.len
  subst hve
  clear hv hlo hex hxv hl hbf
  obtain ⟨W, hW, HB, R0, R1, hz⟩ := two_new w (.cells #[.bool sd, .int .i64 ch, .int .u64 vl] 74) (.cells #[.int .i64 kd, .int .i64 cs, .int .u64 rv, .bool rok, .int .i64 nm] 25)
  have HW := Lib.hid hW
  clear hW
  go_enter Try.func128, Try.ntmps128
  go_upto_region 1 with fail
  rw [HW.out]
  clear HW
  obtain ⟨x0_0, x0_1, x0_2⟩ := rowc3 R0.out
  obtain ⟨x1_0, x1_1, x1_2, x1_3, x1_4⟩ := rowc5 R1.out
  go_wp2_with fail
  refine (TE.out _ HB.out).mono ?_; rintro e w' ⟨rfl, rfl⟩
  cases ex with
  | false =>
    have hr : lo = none := by rw [← HLO.out]; exact doE_out HEX.out
    subst hr
    go_wp2
    refine bodyPost_ret (v := .tuple #[.slice none 0 0, .bool false]) (by simp [results, Try.results128, go_sem]) rfl ?_
    exact ⟨_, _, rfl, .inr ⟨rfl, rfl⟩, HB.out⟩
  | true =>
    have hx := HEX.out
    unfold exB at hx
    simp only [Bool.and_eq_true, decide_eq_true_eq] at hx
    obtain ⟨i, hi⟩ : ∃ i : Nat, ch = (i : Int) := ⟨ch.toNat, by omega⟩
    subst hi
    have hil : i < l.length := by omega
    have HIL := Lib.hid hil
    have hiI : (i : Int) < (l.length : Int) := by omega
    obtain ⟨⟨cc, bf, cl⟩, hcc⟩ : ∃ c, l.getD i noChan = c := ⟨_, rfl⟩
    have HDO : Hid (doB l ⟨sd, i, vl⟩ ⟨cc, bf, cl⟩ ⟨kd, cs, rv, rok, nm⟩ = lo) := by
      show _ = _
      rw [← HLO.out, doE_in (by exact HEX.out)]
      show _ = doB l _ (l.getD (Int.toNat (i : Int)) noChan) _
      rw [Int.toNat_natCast, hcc]
    have hmem : (⟨cc, bf, cl⟩ : ChanM) ∈ l := by
      rw [← hcc, List.getD_eq_getElem?_getD, List.getElem?_eq_getElem hil]
      exact List.getElem_mem hil
    have hbl : bf.length ≤ 999999 := HBF.out _ hmem
    have HCW : Hid (cc = IntKind.i64.wrap cc) := by
      obtain ⟨us, -, -, -, h4, -⟩ := HV.out
      exact h4 _ hmem
    have TS := Lib.hid fun c u w' (hb : Below w.heap.size w w') hu hcw => mset_any _ l i HIL.out c u w' (HV.out.below hb) hu hcw HL.out
    have HV2 := HV.out.below HB.out
    obtain ⟨b, off, cap', u, hve, hb, c0, c1, c2, hu, hfu⟩ := HV2.at2 i hil
    simp only [Value.slice.injEq] at hve
    obtain ⟨rfl, -, rfl⟩ := hve
    rw [hcc] at c0 c2 hu
    dsimp only at c0 c2 hu
    obtain ⟨ua, uc, rfl, -⟩ := hu.len
    have HU := Lib.hid hu
    have HFU := Lib.hid hfu
    clear hfu hx hcc HEX HV2 TE hmem HBF HLO hu
    obtain ⟨Wx, hWx⟩ : ∃ Wx, (W.alloc (.cells #[.int .i64 0, .slice none 0 0, .bool false] 79)).setRow W.heap.size #[.int .i64 cc, .slice ua bf.length uc, .bool cl] = Wx := ⟨_, rfl⟩
    have Nx : Hid ((W.alloc (.cells #[.int .i64 0, .slice none 0 0, .bool false] 79)).heap[W.heap.size]? = some (.cells #[.int .i64 0, .slice none 0 0, .bool false] 79 (0, 0))) := heap_alloc_new _ _
    have HBx : Hid (Below W.heap.size W Wx) := hWx ▸ row_below (below_new (Below.refl _ _) _) (Nat.le_refl _) _
    have Rx : Hid (Wx.heap[W.heap.size]? = some (.cells #[.int .i64 cc, .slice ua bf.length uc, .bool cl] 79 (0, 0))) := hWx ▸ setRow_heap _ _ _ _ _ (0, 0) Nx.out
    have HWx := Lib.hid hWx
    clear hWx
    go_upto_region 4 with (refine wpList_store_row rfl 79 _ _ rfl (W.heap.size) _ rfl rfl 79 #[.int .i64 0, .slice none 0 0, .bool false] Nx.out (by kernel_rfl) rfl (by simp [Value.oneCell']) ?_)
    rw [HWx.out]
    try simp only [Act.put]
    clear HWx Nx
    obtain ⟨X, hX⟩ : ∃ X, W.heap.size = X := ⟨_, rfl⟩
    rw [hX] at Rx
    rw [hX]
    have hXX : w.heap.size + 2 ≤ X := by omega
    have HUb : Hid (bf ≠ [] → ∃ b2 off2, ua = some ⟨b2, off2, none⟩ ∧ b2 < X) := fun hne => by
      obtain ⟨b2, off2, c2, e2, -, hb2, -⟩ := HU.out.open hne
      simp only [Value.slice.injEq] at e2
      exact ⟨b2, off2, e2.1, hX ▸ hb2⟩
    clear hX
    have HBX := Lib.hid (below_then HB.out HBx.out)
    have R0x := Lib.hid ((HBx.out.block w.heap.size (Array.getElem?_eq_some_iff.1 R0.out).1).trans R0.out)
    have R1x := Lib.hid ((HBx.out.block (w.heap.size + 1) (Array.getElem?_eq_some_iff.1 R1.out).1).trans R1.out)
    have HUx := Lib.hid (HU.out.below HBx.out)
    have HBx9 := Lib.hid HBx.out
    clear c0 c1 c2 x0_0 x0_1 x0_2 x1_0 x1_1 x1_2 x1_3 x1_4 hb HU HB HBx R0 R1
    obtain ⟨x0, x1, x2⟩ := rowc3 R0x.out
    obtain ⟨r0, r1, r2, r3, r4⟩ := rowc5 R1x.out
    obtain ⟨y0, y1, y2⟩ := rowc3 Rx.out
    have hnone : lo = none → ∀ w' e v', Below Wx.heap.size Wx w' → e = .returned (.tuple #[v', .bool false]) → DoQ lo w e w' := fun h w' e v' hb he => ⟨v', false, he, .inr ⟨h, rfl⟩, below_then HBX.out hb⟩
    have HNONE := Lib.hid hnone
    have hsame : lo = some l → ∀ w' e, Below Wx.heap.size Wx w' → e = .returned (.tuple #[.slice (some ⟨b, off, none⟩) l.length cap, .bool true]) → DoQ lo w e w' := fun h w' e hb he => ⟨_, true, he, .inl ⟨l, h, rfl, HV.out.below (below_then HBX.out hb)⟩, below_then HBX.out hb⟩
    have HSAME := Lib.hid hsame
    clear hnone hsame
    unfold doB at HDO
    dsimp only at HDO
    by_cases k1 : kd = 1
    · subst k1
      cases sd with
      | false =>
        have hr : Hid (lo = none) := by show _ = _; rw [← HDO.out]; simp
        go_wp2
        refine bodyPost_ret (v := .tuple #[.slice none 0 0, .bool false]) (by simp [results, Try.results128, go_sem]) rfl ?_
        exact HNONE.out hr.out _ _ _ (Below.refl _ _) rfl
      | true =>
        obtain ⟨o1, ho1⟩ : ∃ b, onlyB ⟨1, cs, rv, rok, nm⟩ false false = b := ⟨_, rfl⟩
        have T := Lib.hid (TO.out false false)
        rw [ho1] at HDO T
        go_wp2_with fail
        refine (T.out _).mono ?_; rintro e w1 ⟨rfl, hb1⟩
        have HB1 := Lib.hid hb1
        have R0y := Lib.hid ((hb1.block w.heap.size (Array.getElem?_eq_some_iff.1 R0x.out).1).trans R0x.out)
        have Rxy := Lib.hid ((hb1.block X (Array.getElem?_eq_some_iff.1 Rx.out).1).trans Rx.out)
        have HUy := Lib.hid (HUx.out.below hb1)
        clear x0 x1 x2 r0 r1 r2 r3 r4 y0 y1 y2 T hb1 R0x R1x Rx HUx
        obtain ⟨x0, x1, x2⟩ := rowc3 R0y.out
        obtain ⟨y0, y1, y2⟩ := rowc3 Rxy.out
        cases o1 with
        | false =>
          have hr : Hid (lo = none) := by show _ = _; rw [← HDO.out]; simp
          go_wp2
          refine bodyPost_ret (v := .tuple #[.slice none 0 0, .bool false]) (by simp [results, Try.results128, go_sem]) rfl ?_
          exact HNONE.out hr.out _ _ _ HB1.out rfl
        | true =>
          cases cl with
          | true =>
            have hr : Hid (lo = none) := by show _ = _; rw [← HDO.out]; simp
            go_wp2
            refine bodyPost_ret (v := .tuple #[.slice none 0 0, .bool false]) (by simp [results, Try.results128, go_sem]) rfl ?_
            exact HNONE.out hr.out _ _ _ HB1.out rfl
          | false =>
            by_cases hge : (bf.length : Int) ≥ cc
            · have hnl : ¬ (bf.length : Int) < cc := by omega
              have hr : Hid (lo = none) := by show _ = _; rw [← HDO.out]; simp [hnl]
              go_wp2
              refine bodyPost_ret (v := .tuple #[.slice none 0 0, .bool false]) (by simp [results, Try.results128, go_sem]) rfl ?_
              exact HNONE.out hr.out _ _ _ HB1.out rfl
            have hr : Hid (lo = some (l.set i ⟨cc, bf ++ [vl], false⟩)) := by
              show _ = _
              rw [← HDO.out]
              simp [setE, show (bf.length : Int) < cc by omega]
            have hXl : X < w1.heap.size := (Array.getElem?_eq_some_iff.1 Rxy.out).1
            have KS7 : Hid (∀ w', Below w1.heap.size w1 w' → (fun w' : World => w'.cell? ⟨X, 1, none⟩ = some (.slice ua bf.length uc) ∧ w'.cell? ⟨w.heap.size, 2, none⟩ = some (.int .u64 vl)) w') := fun w' hb => ⟨(rowc3 ((hb.block X (Array.getElem?_eq_some_iff.1 Rxy.out).1).trans Rxy.out)).2.1, (rowc3 ((hb.block w.heap.size (Array.getElem?_eq_some_iff.1 R0y.out).1).trans R0y.out)).2.2⟩
            go_upto_region 7 with fail
            clear x0 x1 x2 y0 y1 y2 HDO
            refine untilK KS7 8 9 (by kernel_rfl) rfl ?_
            obtain ⟨u0, hu0, HU0⟩ := drew_pack w1
            rw [hu0]
            clear hu0
            have hSU0 := KS7.out _ HU0.out
            refine tkU (v := ?_) 0 la0 hSU0 (by kernel_rfl) (fun _ _ _ h => h) rfl ?_ ?_
            rotate_left
            · (intro w hSw; (try dsimp only at hSw); go_simp <;> with_reducible rfl)
            simp only [Act.put, List.setIfInBounds_toArray, List.set_cons_zero, List.set_cons_succ]
            refine tkU (v := ?_) 1 la1 hSU0 (by kernel_rfl) (fun _ _ _ h => h) rfl ?_ ?_
            rotate_left
            · (intro w hSw; (try dsimp only at hSw); go_simp <;> with_reducible rfl)
            simp only [Act.put, List.setIfInBounds_toArray, List.set_cons_zero, List.set_cons_succ]
            refine tkU (v := ?_) 3 la3 hSU0 (by kernel_rfl) (fun _ _ _ h => h) rfl ?_ ?_
            rotate_left
            · (intro w hSw; (try dsimp only at hSw); go_simp <;> with_reducible rfl)
            simp only [Act.put, List.setIfInBounds_toArray, List.set_cons_zero, List.set_cons_succ]
            refine tkU (v := ?_) 4 la4 hSU0 (by kernel_rfl) (fun _ _ _ h => h) rfl ?_ ?_
            rotate_left
            · (intro w hSw; (try dsimp only at hSw); go_simp <;> with_reducible rfl)
            simp only [Act.put, List.setIfInBounds_toArray, List.set_cons_zero, List.set_cons_succ]
            refine wpAnyU_ready (rs := [2, 5]) (by kernel_rfl) rfl ?_
            refine AllReadyU.cons la2 rfl (fun K hK => ?_) ?_
            · refine step_app_u64 (w := u0) (by rfl) _ _ (by rfl) w1.heap.size (.slice none 0 0) [] (by rfl) (World.ownsRow_nil _ _ _ _) (.slice ua bf.length uc) bf (by rfl) (HUy.out.below HU0.out) (by simp) (by omega) HU0.out.size ?_
              intro v2 u1 ho2 hg2
              have HO2 : Hid (OwnI u1 w1.heap.size 23 .u64 v2 bf) := ho2
              have HU1 := Lib.hid (HU0.out.grown hg2 HU0.out.size (fun j hj => by cases hj))
              clear ho2 hg2
              refine hK.out _ _ ?_ (fun hSU1 => ?_)
              · exact KS7.out _ HU1.out
              clear hK K hSU0
              try simp only [Act.put, List.setIfInBounds_toArray, List.set_cons_zero, List.set_cons_succ]
              refine wpAnyU_ready (rs := [5]) (by kernel_rfl) rfl ?_
              refine AllReadyU.cons la5 rfl (fun K hK => ?_) ?_
              · go_simp
                obtain ⟨u2, nb, hv1, hX, RN, hbn, ltn⟩ := alloc_pack u1 (.cells #[.int .u64 vl] 23)
                have HO3 : Hid (OwnI u2 w1.heap.size 23 .u64 v2 bf) := HO2.out.below hbn.out
                rw [hv1, hX]
                have HU2 := Lib.hid (below_then HU1.out hbn.out)
                clear hv1 hX hbn ltn
                refine hK.out _ _ ?_ (fun hSU2 => ?_)
                · exact KS7.out _ HU2.out
                clear hK K hSU1
                try simp only [Act.put, List.setIfInBounds_toArray, List.set_cons_zero, List.set_cons_succ]
                refine wpAnyU_ready (rs := [6]) (by kernel_rfl) rfl ?_
                refine AllReadyU.cons la6 rfl (fun K hK => ?_) ?_
                · refine step_append_u64 (w := u2) (by rfl) _ _ (by rfl) w1.heap.size v2 bf (by rfl) HO3.out vl nb (by rfl) (by exact cell_of_row _ _ 0 _ _ _ RN.out) (by omega) HU2.out.size ?_
                  intro v6 u3 ho6 hg6
                  obtain ⟨p6, n6, q6, rfl⟩ : ∃ p n q, v6 = .slice p n q := by
                    rcases ho6.shape with ⟨rfl, -⟩ | ⟨g, c, rfl, -⟩
                    · exact ⟨_, _, _, rfl⟩
                    · exact ⟨_, _, _, rfl⟩
                  have HO6 : Hid (OwnI u3 w1.heap.size 23 .u64 (.slice p6 n6 q6) (bf ++ [vl])) := ho6
                  have HU3 := Lib.hid (HU2.out.grown hg6 HU2.out.size (fun j hj => HO3.out.own_ge j hj))
                  clear ho6 hg6
                  refine hK.out _ _ ?_ (fun hSU3 => ?_)
                  · exact KS7.out _ HU3.out
                  clear hK K hSU2
                  try simp only [Act.put, List.setIfInBounds_toArray, List.set_cons_zero, List.set_cons_succ]
                  refine tkU (v := ?_) 7 la7 hSU3 (by kernel_rfl) (fun _ _ _ h => h) rfl ?_ ?_
                  rotate_left
                  · (intro w hSw; (try dsimp only at hSw); go_simp <;> with_reducible rfl)
                  simp only [Act.put, List.setIfInBounds_toArray, List.set_cons_zero, List.set_cons_succ]
                  refine wpAnyU_ready (rs := [8]) (by kernel_rfl) rfl ?_
                  refine AllReadyU.free la8 rfl (by kernel_rfl) (fun K hK => ?_) ?_
                  · have rr := (HU3.out.block X (Array.getElem?_eq_some_iff.1 Rxy.out).1).trans Rxy.out
                    have RR := Lib.hid rr
                    have ff := frozen_of_row u3 X 1 _ _ rr
                    obtain ⟨z0, z1, z2⟩ := rowc3 rr
                    clear rr
                    go_simp
                    clear z0 z1 z2 ff
                    refine hK.out _ _ ?_
                    clear hK K hSU3
                    try simp only [Act.put, List.setIfInBounds_toArray, List.set_cons_zero, List.set_cons_succ]
                    refine wpAnyU_done (by kernel_rfl) ?_ _
                    obtain ⟨u4, hu4⟩ : ∃ u4, u3.setCell ⟨X, 1, none⟩ (.slice p6 n6 q6) = u4 := ⟨_, rfl⟩
                    have HR4 : Hid (u4.heap[X]? = some (.cells #[.int .i64 cc, .slice p6 n6 q6, .bool false] 79 (0, 0))) := by
                      rw [← hu4]
                      have r1 := heap_setCell_same u3 X 1 _ _ (.slice p6 n6 q6) RR.out
                      simp at r1
                      exact r1
                    have HC4 : Hid (u4.heap[w.heap.size]? = some (.cells #[.bool true, .int .i64 i, .int .u64 vl] 74 (0, 0))) := by
                      rw [← hu4]
                      exact (heap_setCell_other u3 ⟨X, 1, none⟩ w.heap.size (.slice p6 n6 q6) (by show w.heap.size ≠ X; omega)).trans ((HU3.out.block w.heap.size (Array.getElem?_eq_some_iff.1 R0y.out).1).trans R0y.out)
                    have HB4 : Hid (Below w.heap.size w u4) := by
                      rw [← hu4]
                      exact (below_then HBX.out (below_then HB1.out HU3.out)).setCell (p := ⟨X, 1, none⟩) (by show w.heap.size ≤ X; omega) (.slice p6 n6 q6)
                    have HS4 : Hid (SlU u4 (.slice p6 n6 q6) (bf ++ [vl])) := by
                      rw [← hu4]
                      exact (HO6.out.kept (grownBy_setCell u3 ⟨X, 1, none⟩ (.slice p6 n6 q6)) (HO6.out.ne hXl)).slU (by simp; omega) (fun x hx => by rcases List.mem_append.1 hx with h | h; exact HUy.out.2.1 x h; rw [List.mem_singleton.1 h]; exact HXV.out)
                    rw [hu4]
                    clear hu4
                    obtain ⟨z0, z1, z2⟩ := rowc3 HR4.out
                    obtain ⟨x0, x1, x2⟩ := rowc3 HC4.out
                    have T5 := TS.out ⟨cc, bf ++ [vl], false⟩ (.slice p6 n6 q6) u4 HB4.out HS4.out HCW.out
                    dsimp only at T5
                    have T5' := Lib.hid T5
                    clear T5
                    go_wp2_with fail
                    refine T5'.out.mono ?_; rintro e u5 ⟨v5, rfl, hs5, hb5⟩
                    have HB5 := Lib.hid (below_then HB4.out hb5)
                    have HS5 := Lib.hid hs5
                    clear z0 z1 z2 x0 x1 x2 hb5 hs5 T5'
                    go_wp2_with fail
                    refine bodyPost_ret (v := .tuple #[v5, .bool true]) (by simp [results, Try.results128, go_sem]) rfl ?_
                    exact ⟨v5, true, rfl, .inl ⟨_, hr.out, rfl, HS5.out⟩, HB5.out⟩
                  exact AllReadyU.nil
                exact AllReadyU.nil
              exact AllReadyU.nil
            refine AllReadyU.cons la5 rfl (fun K hK => ?_) ?_
            · go_simp
              obtain ⟨u1, nb, hv1, hX, RN, hbn, ltn⟩ := alloc_pack u0 (.cells #[.int .u64 vl] 23)
              rw [hv1, hX]
              have HU1 := Lib.hid (below_then HU0.out hbn.out)
              clear hv1 hX hbn ltn
              refine hK.out _ _ ?_ (fun hSU4 => ?_)
              · exact KS7.out _ HU1.out
              clear hK K hSU0
              try simp only [Act.put, List.setIfInBounds_toArray, List.set_cons_zero, List.set_cons_succ]
              refine wpAnyU_ready (rs := [2]) (by kernel_rfl) rfl ?_
              refine AllReadyU.cons la2 rfl (fun K hK => ?_) ?_
              · refine step_app_u64 (w := u1) (by rfl) _ _ (by rfl) w1.heap.size (.slice none 0 0) [] (by rfl) (World.ownsRow_nil _ _ _ _) (.slice ua bf.length uc) bf (by rfl) (HUy.out.below HU1.out) (by simp) (by omega) HU1.out.size ?_
                intro v2 u2 ho2 hg2
                have HO2 : Hid (OwnI u2 w1.heap.size 23 .u64 v2 bf) := ho2
                have HU2 := Lib.hid (HU1.out.grown hg2 HU1.out.size (fun j hj => by cases hj))
                have RN2 := Lib.hid ((((Below.refl u1.heap.size u1).grown hg2 (Nat.le_refl _) (fun j hj => by cases hj)).block nb (Array.getElem?_eq_some_iff.1 RN.out).1).trans RN.out)
                clear ho2 hg2
                refine hK.out _ _ ?_ (fun hSU5 => ?_)
                · exact KS7.out _ HU2.out
                clear hK K hSU4
                try simp only [Act.put, List.setIfInBounds_toArray, List.set_cons_zero, List.set_cons_succ]
                refine wpAnyU_ready (rs := [6]) (by kernel_rfl) rfl ?_
                refine AllReadyU.cons la6 rfl (fun K hK => ?_) ?_
                · refine step_append_u64 (w := u2) (by rfl) _ _ (by rfl) w1.heap.size v2 bf (by rfl) HO2.out vl nb (by rfl) (by exact cell_of_row _ _ 0 _ _ _ RN2.out) (by omega) HU2.out.size ?_
                  intro v6 u3 ho6 hg6
                  obtain ⟨p6, n6, q6, rfl⟩ : ∃ p n q, v6 = .slice p n q := by
                    rcases ho6.shape with ⟨rfl, -⟩ | ⟨g, c, rfl, -⟩
                    · exact ⟨_, _, _, rfl⟩
                    · exact ⟨_, _, _, rfl⟩
                  have HO6 : Hid (OwnI u3 w1.heap.size 23 .u64 (.slice p6 n6 q6) (bf ++ [vl])) := ho6
                  have HU3 := Lib.hid (HU2.out.grown hg6 HU2.out.size (fun j hj => HO2.out.own_ge j hj))
                  clear ho6 hg6
                  refine hK.out _ _ ?_ (fun hSU6 => ?_)
                  · exact KS7.out _ HU3.out
                  clear hK K hSU5
                  try simp only [Act.put, List.setIfInBounds_toArray, List.set_cons_zero, List.set_cons_succ]
                  refine tkU (v := ?_) 7 la7 hSU6 (by kernel_rfl) (fun _ _ _ h => h) rfl ?_ ?_
                  rotate_left
                  · (intro w hSw; (try dsimp only at hSw); go_simp <;> with_reducible rfl)
                  simp only [Act.put, List.setIfInBounds_toArray, List.set_cons_zero, List.set_cons_succ]
                  refine wpAnyU_ready (rs := [8]) (by kernel_rfl) rfl ?_
                  refine AllReadyU.free la8 rfl (by kernel_rfl) (fun K hK => ?_) ?_
                  · have rr := (HU3.out.block X (Array.getElem?_eq_some_iff.1 Rxy.out).1).trans Rxy.out
                    have RR := Lib.hid rr
                    have ff := frozen_of_row u3 X 1 _ _ rr
                    obtain ⟨z0, z1, z2⟩ := rowc3 rr
                    clear rr
                    go_simp
                    clear z0 z1 z2 ff
                    refine hK.out _ _ ?_
                    clear hK K hSU6
                    try simp only [Act.put, List.setIfInBounds_toArray, List.set_cons_zero, List.set_cons_succ]
                    refine wpAnyU_done (by kernel_rfl) ?_ _
                    obtain ⟨u4, hu4⟩ : ∃ u4, u3.setCell ⟨X, 1, none⟩ (.slice p6 n6 q6) = u4 := ⟨_, rfl⟩
                    have HR4 : Hid (u4.heap[X]? = some (.cells #[.int .i64 cc, .slice p6 n6 q6, .bool false] 79 (0, 0))) := by
                      rw [← hu4]
                      have r1 := heap_setCell_same u3 X 1 _ _ (.slice p6 n6 q6) RR.out
                      simp at r1
                      exact r1
                    have HC4 : Hid (u4.heap[w.heap.size]? = some (.cells #[.bool true, .int .i64 i, .int .u64 vl] 74 (0, 0))) := by
                      rw [← hu4]
                      exact (heap_setCell_other u3 ⟨X, 1, none⟩ w.heap.size (.slice p6 n6 q6) (by show w.heap.size ≠ X; omega)).trans ((HU3.out.block w.heap.size (Array.getElem?_eq_some_iff.1 R0y.out).1).trans R0y.out)
                    have HB4 : Hid (Below w.heap.size w u4) := by
                      rw [← hu4]
                      exact (below_then HBX.out (below_then HB1.out HU3.out)).setCell (p := ⟨X, 1, none⟩) (by show w.heap.size ≤ X; omega) (.slice p6 n6 q6)
                    have HS4 : Hid (SlU u4 (.slice p6 n6 q6) (bf ++ [vl])) := by
                      rw [← hu4]
                      exact (HO6.out.kept (grownBy_setCell u3 ⟨X, 1, none⟩ (.slice p6 n6 q6)) (HO6.out.ne hXl)).slU (by simp; omega) (fun x hx => by rcases List.mem_append.1 hx with h | h; exact HUy.out.2.1 x h; rw [List.mem_singleton.1 h]; exact HXV.out)
                    rw [hu4]
                    clear hu4
                    obtain ⟨z0, z1, z2⟩ := rowc3 HR4.out
                    obtain ⟨x0, x1, x2⟩ := rowc3 HC4.out
                    have T5 := TS.out ⟨cc, bf ++ [vl], false⟩ (.slice p6 n6 q6) u4 HB4.out HS4.out HCW.out
                    dsimp only at T5
                    have T5' := Lib.hid T5
                    clear T5
                    go_wp2_with fail
                    refine T5'.out.mono ?_; rintro e u5 ⟨v5, rfl, hs5, hb5⟩
                    have HB5 := Lib.hid (below_then HB4.out hb5)
                    have HS5 := Lib.hid hs5
                    clear z0 z1 z2 x0 x1 x2 hb5 hs5 T5'
                    go_wp2_with fail
                    refine bodyPost_ret (v := .tuple #[v5, .bool true]) (by simp [results, Try.results128, go_sem]) rfl ?_
                    exact ⟨v5, true, rfl, .inl ⟨_, hr.out, rfl, HS5.out⟩, HB5.out⟩
                  exact AllReadyU.nil
                exact AllReadyU.nil
              exact AllReadyU.nil
            exact AllReadyU.nil
    have k1b : (kd == 1) = false := by simpa using k1
    by_cases k5 : kd = 5
    · subst k5
      cases sd with
      | false =>
        have hr : Hid (lo = none) := by show _ = _; rw [← HDO.out]; simp
        go_wp2
        refine bodyPost_ret (v := .tuple #[.slice none 0 0, .bool false]) (by simp [results, Try.results128, go_sem]) rfl ?_
        exact HNONE.out hr.out _ _ _ (Below.refl _ _) rfl
      | true =>
        obtain ⟨o1, ho1⟩ : ∃ b, onlyB ⟨5, cs, rv, rok, nm⟩ false false = b := ⟨_, rfl⟩
        have T := Lib.hid (TO.out false false)
        rw [ho1] at HDO T
        by_cases hq : o1 = true ∧ cl = true
        · obtain ⟨rfl, rfl⟩ := hq
          have hr : Hid (lo = some l) := by show _ = _; rw [← HDO.out]; simp
          go_upto_region 10 with fail
          have Xx0 := ext_cell _ _ ((Array.getElem?_eq_some_iff.1 R0x.out).1) _ x0
          have Xx1 := ext_cell _ _ ((Array.getElem?_eq_some_iff.1 R0x.out).1) _ x1
          have Xx2 := ext_cell _ _ ((Array.getElem?_eq_some_iff.1 R0x.out).1) _ x2
          have Xr0 := ext_cell _ _ ((Array.getElem?_eq_some_iff.1 R1x.out).1) _ r0
          have Xr1 := ext_cell _ _ ((Array.getElem?_eq_some_iff.1 R1x.out).1) _ r1
          have Xr2 := ext_cell _ _ ((Array.getElem?_eq_some_iff.1 R1x.out).1) _ r2
          have Xr3 := ext_cell _ _ ((Array.getElem?_eq_some_iff.1 R1x.out).1) _ r3
          have Xr4 := ext_cell _ _ ((Array.getElem?_eq_some_iff.1 R1x.out).1) _ r4
          have Xy0 := ext_cell _ _ ((Array.getElem?_eq_some_iff.1 Rx.out).1) _ y0
          have Xy1 := ext_cell _ _ ((Array.getElem?_eq_some_iff.1 Rx.out).1) _ y1
          have Xy2 := ext_cell _ _ ((Array.getElem?_eq_some_iff.1 Rx.out).1) _ y2
          clear x0 x1 x2 r0 r1 r2 r3 r4 y0 y1 y2
          refine wp_region_ext Wx (by kernel_rfl) (by kernel_rfl) (Below.refl _ _) ?_
          repeat (go_big_quiet_step (first | (go_at_call 85; with_reducible exact calls_ext (T.out _))))
          refine wpQuiet_nil ?_
          intro _ hw'
          obtain ⟨n9, rfl⟩ := hw'
          have HB9 := Lib.hid n9.below
          generalize n9.wd = w9 at *
          clear Xx0 Xx1 Xx2 Xr0 Xr1 Xr2 Xr3 Xr4 Xy0 Xy1 Xy2
          go_wp2_with fail
          refine bodyPost_ret (v := .tuple #[.slice (some ⟨b, off, none⟩) l.length cap, .bool true]) (by simp [results, Try.results128, go_sem]) rfl ?_
          exact HSAME.out hr.out _ _ HB9.out rfl
        have hr : Hid (lo = none) := by show _ = _; rw [← HDO.out]; simp [hq]
        cases o1 <;> cases cl <;> first | exact absurd ⟨rfl, rfl⟩ hq | skip
        all_goals (
          go_upto_region 10 with fail
          have Xx0 := ext_cell _ _ ((Array.getElem?_eq_some_iff.1 R0x.out).1) _ x0
          have Xx1 := ext_cell _ _ ((Array.getElem?_eq_some_iff.1 R0x.out).1) _ x1
          have Xx2 := ext_cell _ _ ((Array.getElem?_eq_some_iff.1 R0x.out).1) _ x2
          have Xr0 := ext_cell _ _ ((Array.getElem?_eq_some_iff.1 R1x.out).1) _ r0
          have Xr1 := ext_cell _ _ ((Array.getElem?_eq_some_iff.1 R1x.out).1) _ r1
          have Xr2 := ext_cell _ _ ((Array.getElem?_eq_some_iff.1 R1x.out).1) _ r2
          have Xr3 := ext_cell _ _ ((Array.getElem?_eq_some_iff.1 R1x.out).1) _ r3
          have Xr4 := ext_cell _ _ ((Array.getElem?_eq_some_iff.1 R1x.out).1) _ r4
          have Xy0 := ext_cell _ _ ((Array.getElem?_eq_some_iff.1 Rx.out).1) _ y0
          have Xy1 := ext_cell _ _ ((Array.getElem?_eq_some_iff.1 Rx.out).1) _ y1
          have Xy2 := ext_cell _ _ ((Array.getElem?_eq_some_iff.1 Rx.out).1) _ y2
          clear x0 x1 x2 r0 r1 r2 r3 r4 y0 y1 y2
          refine wp_region_ext Wx (by kernel_rfl) (by kernel_rfl) (Below.refl _ _) ?_
          repeat (go_big_quiet_step (first | (go_at_call 85; with_reducible exact calls_ext (T.out _))))
          refine wpQuiet_nil ?_
          intro _ hw'
          obtain ⟨n9, rfl⟩ := hw'
          have HB9 := Lib.hid n9.below
          generalize n9.wd = w9 at *
          clear Xx0 Xx1 Xx2 Xr0 Xr1 Xr2 Xr3 Xr4 Xy0 Xy1 Xy2
          go_wp2_with fail
          refine bodyPost_ret (v := .tuple #[.slice (some ⟨b, off, none⟩) l.length cap, .bool false]) (by simp [results, Try.results128, go_sem]) rfl ?_
          exact HNONE.out hr.out _ _ _ HB9.out rfl)
    have k5b : (kd == 5) = false := by simpa using k5
    by_cases k2 : kd = 2
    · subst k2
      cases sd with
      | true =>
        have hr : Hid (lo = none) := by show _ = _; rw [← HDO.out]; simp
        go_wp2
        refine bodyPost_ret (v := .tuple #[.slice none 0 0, .bool false]) (by simp [results, Try.results128, go_sem]) rfl ?_
        exact HNONE.out hr.out _ _ _ (Below.refl _ _) rfl
      | false =>
        cases rok with
        | true =>
          obtain ⟨o1, ho1⟩ : ∃ b, onlyB ⟨2, cs, rv, true, nm⟩ true false = b := ⟨_, rfl⟩
          have T := Lib.hid (TO.out true false)
          rw [ho1] at HDO T
          cases bf with
          | nil =>
            have hr : Hid (lo = none) := by show _ = _; rw [← HDO.out]; simp
            simp only [List.length_nil] at y1
            cases o1
            all_goals (
              go_upto_region 12 with fail
              have Xx0 := ext_cell _ _ ((Array.getElem?_eq_some_iff.1 R0x.out).1) _ x0
              have Xx1 := ext_cell _ _ ((Array.getElem?_eq_some_iff.1 R0x.out).1) _ x1
              have Xx2 := ext_cell _ _ ((Array.getElem?_eq_some_iff.1 R0x.out).1) _ x2
              have Xr0 := ext_cell _ _ ((Array.getElem?_eq_some_iff.1 R1x.out).1) _ r0
              have Xr1 := ext_cell _ _ ((Array.getElem?_eq_some_iff.1 R1x.out).1) _ r1
              have Xr2 := ext_cell _ _ ((Array.getElem?_eq_some_iff.1 R1x.out).1) _ r2
              have Xr3 := ext_cell _ _ ((Array.getElem?_eq_some_iff.1 R1x.out).1) _ r3
              have Xr4 := ext_cell _ _ ((Array.getElem?_eq_some_iff.1 R1x.out).1) _ r4
              have Xy0 := ext_cell _ _ ((Array.getElem?_eq_some_iff.1 Rx.out).1) _ y0
              have Xy1 := ext_cell _ _ ((Array.getElem?_eq_some_iff.1 Rx.out).1) _ y1
              have Xy2 := ext_cell _ _ ((Array.getElem?_eq_some_iff.1 Rx.out).1) _ y2
              clear x0 x1 x2 r0 r1 r2 r3 r4 y0 y1 y2
              refine wp_region_ext Wx (by kernel_rfl) (by kernel_rfl) (Below.refl _ _) ?_
              repeat (go_big_quiet_step (first | (go_at_call 85; with_reducible exact calls_ext (T.out _))))
              refine wpQuiet_nil ?_
              intro _ hw'
              obtain ⟨n9, rfl⟩ := hw'
              have HB9 := Lib.hid n9.below
              generalize n9.wd = w9 at *
              clear Xx0 Xx1 Xx2 Xr0 Xr1 Xr2 Xr3 Xr4 Xy0 Xy1 Xy2
              go_wp2_with fail
              refine bodyPost_ret (v := .tuple #[.slice none 0 0, .bool false]) (by simp [results, Try.results128, go_sem]) rfl ?_
              exact HNONE.out hr.out _ _ _ HB9.out rfl)
          | cons yb bt =>
            obtain ⟨b2, off2, cap2, e2, hcp, hb2, hcc2⟩ := HUx.out.open (by simp)
            simp only [Value.slice.injEq] at e2
            obtain ⟨rfl, -, rfl⟩ := e2
            have q0 := hcc2 0 (by simp)
            simp only [Nat.add_zero, List.getD_cons_zero] at q0
            simp only [List.length_cons] at y1
            have hbl2 : bt.length + 1 ≤ 999999 := by simpa using hbl
            have h01 : (((bt.length + 1 : Nat) : Int) == 0) = false := by simp; omega
            have h02 : ((bt.length : Int) + 1 == 0) = false := by simp; omega
            have h03 : (0 : Int) < (bt.length : Int) + 1 := by omega
            obtain ⟨b3, off3, e3, hb3⟩ := HUb.out (by simp)
            simp only [Option.some.injEq, Addr.mk.injEq] at e3
            obtain ⟨rfl, rfl, -⟩ := e3
            have hbX : b2 ≠ X := by omega
            clear hcc2 hb3 HUb
            cases o1 with
            | false =>
              have hr : Hid (lo = none) := by show _ = _; rw [← HDO.out]; simp
              go_upto_region 12 with fail
              have Xx0 := ext_cell _ _ ((Array.getElem?_eq_some_iff.1 R0x.out).1) _ x0
              have Xx1 := ext_cell _ _ ((Array.getElem?_eq_some_iff.1 R0x.out).1) _ x1
              have Xx2 := ext_cell _ _ ((Array.getElem?_eq_some_iff.1 R0x.out).1) _ x2
              have Xr0 := ext_cell _ _ ((Array.getElem?_eq_some_iff.1 R1x.out).1) _ r0
              have Xr1 := ext_cell _ _ ((Array.getElem?_eq_some_iff.1 R1x.out).1) _ r1
              have Xr2 := ext_cell _ _ ((Array.getElem?_eq_some_iff.1 R1x.out).1) _ r2
              have Xr3 := ext_cell _ _ ((Array.getElem?_eq_some_iff.1 R1x.out).1) _ r3
              have Xr4 := ext_cell _ _ ((Array.getElem?_eq_some_iff.1 R1x.out).1) _ r4
              have Xy0 := ext_cell _ _ ((Array.getElem?_eq_some_iff.1 Rx.out).1) _ y0
              have Xy1 := ext_cell _ _ ((Array.getElem?_eq_some_iff.1 Rx.out).1) _ y1
              have Xy2 := ext_cell _ _ ((Array.getElem?_eq_some_iff.1 Rx.out).1) _ y2
              have Xq0 := ext_cell _ _ (hb2) _ q0
              clear x0 x1 x2 r0 r1 r2 r3 r4 y0 y1 y2 q0
              refine wp_region_ext Wx (by kernel_rfl) (by kernel_rfl) (Below.refl _ _) ?_
              repeat (go_big_quiet_step (first | (go_at_call 85; with_reducible exact calls_ext (T.out _))))
              refine wpQuiet_nil ?_
              intro _ hw'
              obtain ⟨n9, rfl⟩ := hw'
              have HB9 := Lib.hid n9.below
              generalize n9.wd = w9 at *
              clear Xx0 Xx1 Xx2 Xr0 Xr1 Xr2 Xr3 Xr4 Xy0 Xy1 Xy2 Xq0
              go_wp2_with fail
              refine bodyPost_ret (v := .tuple #[.slice none 0 0, .bool false]) (by simp [results, Try.results128, go_sem]) rfl ?_
              exact HNONE.out hr.out _ _ _ HB9.out rfl
            | true =>
              by_cases hyr : yb = rv
              · subst hyr
                have hr : Hid (lo = some (l.set i ⟨cc, bt, cl⟩)) := by
                  show _ = _
                  rw [← HDO.out]
                  simp [setE]
                go_upto_region 12 with fail
                have Xx0 := ext_cell _ _ ((Array.getElem?_eq_some_iff.1 R0x.out).1) _ x0
                have Xx1 := ext_cell _ _ ((Array.getElem?_eq_some_iff.1 R0x.out).1) _ x1
                have Xx2 := ext_cell _ _ ((Array.getElem?_eq_some_iff.1 R0x.out).1) _ x2
                have Xr0 := ext_cell _ _ ((Array.getElem?_eq_some_iff.1 R1x.out).1) _ r0
                have Xr1 := ext_cell _ _ ((Array.getElem?_eq_some_iff.1 R1x.out).1) _ r1
                have Xr2 := ext_cell _ _ ((Array.getElem?_eq_some_iff.1 R1x.out).1) _ r2
                have Xr3 := ext_cell _ _ ((Array.getElem?_eq_some_iff.1 R1x.out).1) _ r3
                have Xr4 := ext_cell _ _ ((Array.getElem?_eq_some_iff.1 R1x.out).1) _ r4
                have Xy0 := ext_cell _ _ ((Array.getElem?_eq_some_iff.1 Rx.out).1) _ y0
                have Xy1 := ext_cell _ _ ((Array.getElem?_eq_some_iff.1 Rx.out).1) _ y1
                have Xy2 := ext_cell _ _ ((Array.getElem?_eq_some_iff.1 Rx.out).1) _ y2
                have Xq0 := ext_cell _ _ (hb2) _ q0
                clear x0 x1 x2 r0 r1 r2 r3 r4 y0 y1 y2 q0
                refine wp_region_ext Wx (by kernel_rfl) (by kernel_rfl) (Below.refl _ _) ?_
                repeat (go_big_quiet_step (first | (go_at_call 85; with_reducible exact calls_ext (T.out _))))
                refine wpQuiet_nil ?_
                intro _ hw'
                obtain ⟨n9, rfl⟩ := hw'
                have HB9 := Lib.hid n9.below
                generalize n9.wd = w9 at *
                clear Xx0 Xx1 Xx2 Xr0 Xr1 Xr2 Xr3 Xr4 Xy0 Xy1 Xy2 Xq0
                have R9 := Lib.hid ((HB9.out.block X (Array.getElem?_eq_some_iff.1 Rx.out).1).trans Rx.out)
                have C9 := Lib.hid ((HB9.out.block w.heap.size (Array.getElem?_eq_some_iff.1 R0x.out).1).trans R0x.out)
                have U9 := Lib.hid (HUx.out.below HB9.out)
                have ff := frozen_of_row w9 X 1 _ _ R9.out
                obtain ⟨z0, z1, z2⟩ := rowc3 R9.out
                simp only [List.length_cons] at z1
                obtain ⟨pa, hpa⟩ : ∃ pa, (if uc = 1 then some (⟨b2, off2, none⟩ : Addr) else some ⟨b2, off2 + 1, none⟩) = pa := ⟨_, rfl⟩
                have HS9 : Hid (SlI w9 .u64 (.slice pa bt.length (uc - 1)) bt) := by
                  show SlI _ _ _ _
                  rw [← hpa]
                  split
                  · have hbt : bt = [] := List.length_eq_zero_iff.1 (by simp at hcp; omega)
                    subst hbt
                    exact ⟨by simp, by simp, _, _, rfl, Nat.zero_le _, fun t ht => by simp at ht⟩
                  · exact U9.out.tail1
                have HF9 : Hid (fineB w9 (.slice pa bt.length (uc - 1))) := by
                  have hf := HFU.out.below (below_then HBx9.out HB9.out)
                  intro a n c e
                  rw [← hpa] at e
                  rcases hf _ _ _ rfl with h0 | h0
                  · simp at h0
                  · split at e <;> (cases e; exact .inr h0)
                have HO9 : Hid (offB X (.slice pa bt.length (uc - 1))) := by
                  intro a n c e
                  rw [← hpa] at e
                  refine .inr ?_
                  split at e
                  · cases e; exact hbX
                  · cases e; exact hbX
                have HPA := Lib.hid hpa
                clear hpa
                go_upto_region 15 with fail
                rw [HPA.out]
                clear z0 z1 z2 ff
                obtain ⟨u4, hu4⟩ : ∃ u4, w9.setCell ⟨X, 1, none⟩ (.slice pa bt.length (uc - 1)) = u4 := ⟨_, rfl⟩
                have HR4 : Hid (u4.heap[X]? = some (.cells #[.int .i64 cc, .slice pa bt.length (uc - 1), .bool cl] 79 (0, 0))) := by
                  rw [← hu4]
                  have r1 := heap_setCell_same w9 X 1 _ _ (.slice pa bt.length (uc - 1)) R9.out
                  simp at r1
                  exact r1
                have HC4 : Hid (u4.heap[w.heap.size]? = some (.cells #[.bool false, .int .i64 i, .int .u64 vl] 74 (0, 0))) := by
                  rw [← hu4]
                  exact (heap_setCell_other w9 ⟨X, 1, none⟩ w.heap.size (.slice pa bt.length (uc - 1)) (by show w.heap.size ≠ X; omega)).trans C9.out
                have HB4 : Hid (Below w.heap.size w u4) := by
                  rw [← hu4]
                  exact (below_then HBX.out HB9.out).setCell (p := ⟨X, 1, none⟩) (by show w.heap.size ≤ X; omega) (.slice pa bt.length (uc - 1))
                have HS4 : Hid (SlU u4 (.slice pa bt.length (uc - 1)) (bt)) := by
                  rw [← hu4]
                  exact ⟨HS9.out.grown (grownBy_setCell w9 ⟨X, 1, none⟩ (.slice pa bt.length (uc - 1))) HO9.out, HF9.out.setCell _ _⟩
                rw [hu4]
                clear hu4
                obtain ⟨z0, z1, z2⟩ := rowc3 HR4.out
                obtain ⟨x0, x1, x2⟩ := rowc3 HC4.out
                have T5 := TS.out ⟨cc, bt, cl⟩ (.slice pa bt.length (uc - 1)) u4 HB4.out HS4.out HCW.out
                dsimp only at T5
                have T5' := Lib.hid T5
                clear T5
                go_wp2_with fail
                refine T5'.out.mono ?_; rintro e u5 ⟨v5, rfl, hs5, hb5⟩
                have HB5 := Lib.hid (below_then HB4.out hb5)
                have HS5 := Lib.hid hs5
                clear z0 z1 z2 x0 x1 x2 hb5 hs5 T5'
                go_wp2_with fail
                refine bodyPost_ret (v := .tuple #[v5, .bool true]) (by simp [results, Try.results128, go_sem]) rfl ?_
                exact ⟨v5, true, rfl, .inl ⟨_, hr.out, rfl, HS5.out⟩, HB5.out⟩
              · have hyb : (yb == rv) = false := by simpa using hyr
                have hyn : (yb != rv) = true := by simpa using hyr
                have hr : Hid (lo = none) := by show _ = _; rw [← HDO.out]; simp [hyr]
                go_upto_region 12 with fail
                have Xx0 := ext_cell _ _ ((Array.getElem?_eq_some_iff.1 R0x.out).1) _ x0
                have Xx1 := ext_cell _ _ ((Array.getElem?_eq_some_iff.1 R0x.out).1) _ x1
                have Xx2 := ext_cell _ _ ((Array.getElem?_eq_some_iff.1 R0x.out).1) _ x2
                have Xr0 := ext_cell _ _ ((Array.getElem?_eq_some_iff.1 R1x.out).1) _ r0
                have Xr1 := ext_cell _ _ ((Array.getElem?_eq_some_iff.1 R1x.out).1) _ r1
                have Xr2 := ext_cell _ _ ((Array.getElem?_eq_some_iff.1 R1x.out).1) _ r2
                have Xr3 := ext_cell _ _ ((Array.getElem?_eq_some_iff.1 R1x.out).1) _ r3
                have Xr4 := ext_cell _ _ ((Array.getElem?_eq_some_iff.1 R1x.out).1) _ r4
                have Xy0 := ext_cell _ _ ((Array.getElem?_eq_some_iff.1 Rx.out).1) _ y0
                have Xy1 := ext_cell _ _ ((Array.getElem?_eq_some_iff.1 Rx.out).1) _ y1
                have Xy2 := ext_cell _ _ ((Array.getElem?_eq_some_iff.1 Rx.out).1) _ y2
                have Xq0 := ext_cell _ _ (hb2) _ q0
                clear x0 x1 x2 r0 r1 r2 r3 r4 y0 y1 y2 q0
                refine wp_region_ext Wx (by kernel_rfl) (by kernel_rfl) (Below.refl _ _) ?_
                repeat (go_big_quiet_step (first | (go_at_call 85; with_reducible exact calls_ext (T.out _))))
                refine wpQuiet_nil ?_
                intro _ hw'
                obtain ⟨n9, rfl⟩ := hw'
                have HB9 := Lib.hid n9.below
                generalize n9.wd = w9 at *
                clear Xx0 Xx1 Xx2 Xr0 Xr1 Xr2 Xr3 Xr4 Xy0 Xy1 Xy2 Xq0
                go_wp2_with fail
                refine bodyPost_ret (v := .tuple #[.slice none 0 0, .bool false]) (by simp [results, Try.results128, go_sem]) rfl ?_
                exact HNONE.out hr.out _ _ _ HB9.out rfl
        | false =>
          obtain ⟨o1, ho1⟩ : ∃ b, onlyB ⟨2, cs, rv, false, nm⟩ true false = b := ⟨_, rfl⟩
          have T := Lib.hid (TO.out true false)
          rw [ho1] at HDO T
          obtain ⟨z1, hz1⟩ : ∃ b, (rv == 0) = b := ⟨_, rfl⟩
          obtain ⟨z2, hz2⟩ : ∃ b, ((bf.length : Int) == 0) = b := ⟨_, rfl⟩
          have hzz : lo = if o1 = true ∧ z1 = true ∧ cl = true ∧ z2 = true then some l else none := by
            rw [← HDO.out, ← hz1, ← hz2]
            simp
          have HZZ := Lib.hid hzz
          clear hzz HDO
          cases o1 <;> cases z1 <;> cases cl <;> cases z2
          all_goals (
            go_upto_region 17 with fail
            have Xx0 := ext_cell _ _ ((Array.getElem?_eq_some_iff.1 R0x.out).1) _ x0
            have Xx1 := ext_cell _ _ ((Array.getElem?_eq_some_iff.1 R0x.out).1) _ x1
            have Xx2 := ext_cell _ _ ((Array.getElem?_eq_some_iff.1 R0x.out).1) _ x2
            have Xr0 := ext_cell _ _ ((Array.getElem?_eq_some_iff.1 R1x.out).1) _ r0
            have Xr1 := ext_cell _ _ ((Array.getElem?_eq_some_iff.1 R1x.out).1) _ r1
            have Xr2 := ext_cell _ _ ((Array.getElem?_eq_some_iff.1 R1x.out).1) _ r2
            have Xr3 := ext_cell _ _ ((Array.getElem?_eq_some_iff.1 R1x.out).1) _ r3
            have Xr4 := ext_cell _ _ ((Array.getElem?_eq_some_iff.1 R1x.out).1) _ r4
            have Xy0 := ext_cell _ _ ((Array.getElem?_eq_some_iff.1 Rx.out).1) _ y0
            have Xy1 := ext_cell _ _ ((Array.getElem?_eq_some_iff.1 Rx.out).1) _ y1
            have Xy2 := ext_cell _ _ ((Array.getElem?_eq_some_iff.1 Rx.out).1) _ y2
            clear x0 x1 x2 r0 r1 r2 r3 r4 y0 y1 y2
            refine wp_region_ext Wx (by kernel_rfl) (by kernel_rfl) (Below.refl _ _) ?_
            repeat (go_big_quiet_step (first | (go_at_call 85; with_reducible exact calls_ext (T.out _))))
            refine wpQuiet_nil ?_
            intro _ hw'
            obtain ⟨n9, rfl⟩ := hw'
            have HB9 := Lib.hid n9.below
            generalize n9.wd = w9 at *
            clear Xx0 Xx1 Xx2 Xr0 Xr1 Xr2 Xr3 Xr4 Xy0 Xy1 Xy2
            go_wp2_with fail
            first
              | (refine bodyPost_ret (v := .tuple #[.slice (some ⟨b, off, none⟩) l.length cap, .bool true]) (by simp [results, Try.results128, go_sem]) rfl ?_; exact HSAME.out HZZ.out _ _ HB9.out rfl)
              | (refine bodyPost_ret (v := .tuple #[.slice (some ⟨b, off, none⟩) l.length cap, .bool false]) (by simp [results, Try.results128, go_sem]) rfl ?_; exact HNONE.out HZZ.out _ _ _ HB9.out rfl))
    have k2b : (kd == 2) = false := by simpa using k2
    have hr : Hid (lo = none) := by show _ = _; rw [← HDO.out]; simp [k1, k5, k2]
    go_wp2
    refine bodyPost_ret (v := .tuple #[.slice none 0 0, .bool false]) (by simp [results, Try.results128, go_sem]) rfl ?_
    exact HNONE.out hr.out _ _ _ (Below.refl _ _) rfl
end Go.Proofs.Ytialclohhemkiaa
