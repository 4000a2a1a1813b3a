/- Layer 3: the channels that an operation locks, by package cases. -/
import Derived.Test.YtkciejealeinoaaL3LocksP
import Derived.Test.YtkciejealeinoaaL3Own2
import Derived.Deep.LoopGhost
import Derived.WalkMore
namespace Go.Proofs.Ytkciejealeinoaa
open Go.ChangeShapes Go.WideShapes Go.ChangeAt Go.RowKit
set_option maxRecDepth 100000

def exB (n : Nat) (x : Int) : Bool := decide (0 ≤ x) && decide (x < n)
theorem exists_any (v : Value) (c : ConfM) (x : Int) (w : World) (h : ConfV w v c) :
    Calls Try.prog 21 #[v, .int .i64 x] w fun e w' => e = .returned (.bool (exB c.caps.length x)) ∧ Below w.heap.size w w' := by
  obtain ⟨vc, vs, rfl, h1, h2⟩ := h
  have hl := h1.1
  obtain ⟨a, cap, rfl, -⟩ := h1.len
  obtain ⟨a2, cap2, rfl, -⟩ := h2.len
  clear h1 h2
  by_cases h : 0 ≤ x
  · go_enter Try.func21, Try.ntmps21
    go_wp2
    go_ret
    exact ⟨ret_bool (by simp [exB, h]), below_new (Below.refl _ _) _⟩
  · go_enter Try.func21, Try.ntmps21
    go_wp2
    go_ret
    exact ⟨ret_bool (by simp [exB]; omega), below_new (Below.refl _ _) _⟩
theorem alloc2_new (w : World) (o1 o2 : Obj) : ((w.alloc o1).alloc o2).heap[w.heap.size + 1]? = some o2 := by
  have h := heap_alloc_new (w.alloc o1) o2
  simpa using h
/-- the channels of an operation: its own, or those of its cases -/
def concL (op : OpM) : List Int := if op.kind = 4 then op.cases.map (·.chan) else [op.chan]
theorem concerned_any (v : Value) (op : OpM) (w : World) (h : OpV w v op) (hs : op.cases.length ≤ 1000) :
    Calls Try.prog 47 #[v] w fun e w' => ∃ g cap, e = .returned (.slice (some ⟨g, 0, none⟩) (concL op).length cap) ∧ OwnI w' w.heap.size 3 .i64 (.slice (some ⟨g, 0, none⟩) (concL op).length cap) (concL op) ∧ Below w.heap.size w w' ∧ w.heap.size ≤ g := by
  have HCL : Hid (concL op = if op.kind = 4 then op.cases.map (·.chan) else [op.chan]) := rfl
  generalize concL op = cl at *
  obtain ⟨kd, md, ch, vl, dl, cs, ds⟩ := op
  obtain ⟨vc, vd, rfl, hc, hd⟩ := h
  dsimp only at *
  have hcl := hc
  obtain ⟨hl, -, a, cap, rfl, -, -⟩ := hc
  have hl2 := hd.1
  obtain ⟨ad, cd, rfl, -⟩ := hd.len
  have HC := Lib.hid hcl
  have HB := Lib.hid (below_new (Below.refl w.heap.size w) (.cells #[.int .i64 kd, .int .i64 md, .int .i64 ch, .int .u64 vl, .int .i64 dl, .slice a cs.length cap, .slice ad ds.length cd] 26))
  have HC1 := Lib.hid (HC.out.below HB.out)
  clear hcl hd
  by_cases h4 : kd = 4
  · subst h4
    rw [if_pos rfl] at HCL
    go_enter Try.func47, Try.ntmps47
    go_wp2_with (go_at_call 67; refine (caseChannels_own (w.heap.size + 1) _ cs _ HC1.out (by omega) (by simp)).mono ?_; rintro e w1 ⟨g, rfl, ho, hb⟩)
    have hcl : cl = cs.map (·.chan) := HCL.out
    go_ret
    have hg := ho.own_ge g rfl
    have hlen : cl.length = cs.length := by rw [hcl]; simp
    exact ⟨g, cs.length, by rw [hlen]; rfl, by rw [hlen, hcl]; exact ho.mono_base (Nat.le_succ _), below_then HB.out hb, by omega⟩
  · have hb4 : (kd == 4) = false := by simpa using h4
    rw [if_neg h4] at HCL
    clear h4
    go_enter Try.func47, Try.ntmps47
    go_wp2
    go_ret
    have hcl : cl = [ch] := HCL.out
    subst hcl
    refine ⟨_, _, rfl, ?_, below_new HB.out _, ?_⟩
    · refine ⟨rfl, .inr ⟨_, 1, #[.int .i64 ch], rfl, ?_, alloc2_new _ _ _, Nat.le_refl _, by decide, rfl, rfl⟩⟩
      simp
    · simp
theorem pv_eq (s : List Int) (k : Nat) (x y : Int) (hk : 0 < k) (hy : s.getD (k - 1) 0 = y) : (prevO s k = some x) = (x = y) := by
  simp only [prevO, if_neg (Nat.ne_of_gt hk), hy, Option.some.injEq, eq_comm]
theorem pv_zero (s : List Int) (x : Int) : (prevO s 0 = some x) = False := by simp [prevO]
set_option maxRecDepth 100000 in
set_option maxHeartbeats 2000000 in
theorem locks_any (v u : Value) (c : ConfM) (op : OpM) (w : World) (hv : ConfV w v c) (h : OpV w u op) (hs : op.cases.length ≤ 1000) (hn : c.caps.length ≤ 1000000) :
    Calls Try.prog 17 #[v, u] w fun e w' => ∃ r, e = .returned r ∧ SlI w' .i64 r (lockL c.caps.length (concL op)) ∧ Below w.heap.size w w' := by
  have CA := Lib.hid fun w' h => concerned_any u op w' h hs
  have EX := Lib.hid fun x w' h => exists_any v c x w' h
  have HV := Lib.hid hv
  have HU := Lib.hid h
  have hcl : (concL op).length ≤ 1000 := by
    unfold concL
    split
    · simpa using hs
    · simp
  have HLL := lockL_length c.caps.length (concL op)
  have HLM : Hid (∀ x ∈ lockL c.caps.length (concL op), 0 ≤ x ∧ x < 1000000) := fun x hx => by
    have := (lockL_mem _ _ x).1 hx; omega
  have HLS := Lib.hid (lk_sorted c.caps.length (concL op))
  have HSL := sorted_length (concL op)
  obtain ⟨cp, st, th⟩ := c
  dsimp only at *
  generalize concL op = cl at *
  obtain ⟨n, hcp⟩ : ∃ n, cp.length = n := ⟨_, rfl⟩
  rw [hcp] at HLL HLM HLS EX hn ⊢
  generalize hll : lockL n cl = ll at *
  generalize hso : sorted cl = so at *
  have HSO := Lib.hid hso
  have HCL := Lib.hid HSL
  have hso2 : so.length ≤ 1000 := by omega
  obtain ⟨kd, md, ch, vl, dl, cs, ds⟩ := op
  obtain ⟨vc, vd, rfl, hc, hd⟩ := h
  obtain ⟨vp, vs, rfl, hp, hst⟩ := hv
  dsimp only at *
  obtain ⟨a, cap, rfl, -⟩ := hp.len
  obtain ⟨a2, cap2, rfl, -⟩ := hst.len
  obtain ⟨a3, cap3, rfl⟩ := hc.len
  obtain ⟨a4, cap4, rfl, -⟩ := hd.len
  clear hp hst hc hd hll hso hcp HSL
  have HB := Lib.hid (below_new (below_new (Below.refl w.heap.size w) (.cells #[.slice a cp.length cap, .slice a2 st.length cap2, .int .i64 th] 34)) (.cells #[.int .i64 kd, .int .i64 md, .int .i64 ch, .int .u64 vl, .int .i64 dl, .slice a3 cs.length cap3, .slice a4 ds.length cap4] 26))
  go_enter Try.func17, Try.ntmps17
  go_wp2_with fail
  go_wp2
  go_step3
  go_wp2_with fail
  refine (CA.out _ (HU.out.below HB.out)).mono ?_; rintro e w1 ⟨g, cg, rfl, ho, hb1, hg⟩
  go_wp2_with fail
  refine (sort_own _ g cg cl w1 ho (by omega)).mono ?_; rintro e w2 ⟨rfl, ho2, hg2⟩
  rw [HSO.out, ← HCL.out] at ho2
  have HO := Lib.hid ho2
  have hz1 : w.heap.size + 2 ≤ w1.heap.size := by have := hb1.size; simp at this; omega
  have hg' : w.heap.size + 2 ≤ g := by simpa using hg
  have hgR : g < w2.heap.size := by
    rcases ho2.shape with ⟨h, _⟩ | ⟨_, _, h, _, h2, _⟩
    · cases h
    · cases h; exact h2
  have HB2 := Lib.hid ((below_then HB.out hb1).grown hg2 (by omega) (fun j hj => by cases hj; omega))
  have HBX : Hid (w2.heap[w.heap.size]? = some (.cells #[.slice a cp.length cap, .slice a2 st.length cap2, .int .i64 th] 34 (0, 0))) := by
    show _ = _
    rw [hg2.block w.heap.size (by omega) (by simp; omega), hb1.block w.heap.size (by simp; omega), Below.heap_alloc _ _ _ (by simp)]
    exact heap_alloc_new _ _
  clear ho ho2 hb1 hg2 hz1 hg
  have HLS0 : Hid (ll = [] ++ lk n (prevO so 0) (so.drop 0)) := HLS.out.symm
  go_wp2
  go_step3
  go_wp2
  rw [← HCL.out]
  go_loopg [6, 7, 8, 15] so.length (fun gg s6 _ _ s15 wr => ∃ k : Nat, ∃ r acc, r = s6 ∧ k + gg = so.length ∧ s15 = .int .i64 k ∧ Hid (ll = acc ++ lk n (prevO so k) (so.drop k)) ∧ Hid (OwnI wr w2.heap.size 3 .i64 r acc) ∧ Hid (Below w2.heap.size w2 wr) ∧ w2.heap.size ≤ wr.heap.size)
  case atStart => exact ⟨0, _, [], rfl, by omega, rfl, HLS0, OwnI.nil _ _ _ _, Below.refl _ _, Nat.le_refl _⟩
  case round =>
    clear HLS0 HLS
    obtain ⟨k, r, acc, rfl, hkg, rfl, hacc, ho, hb, hz⟩ := hrel
    obtain ⟨wo, rfl⟩ : ∃ wo : World, wo = wr := ⟨_, rfl⟩
    cases gk with
    | zero =>
      obtain rfl : k = so.length := by omega
      have E := Lib.hid (lk_end n so acc ll _ hacc.out)
      go_wp2
      rw [Exit.noGoto_ret]
      go_ret
      refine ⟨_, rfl, ?_, below_then HB2.out (hb.out.mono (Nat.le_refl _))⟩
      have hE : ll = acc := E.out
      rw [hE]
      exact ho.out.read (by rw [← hE]; omega) fun y hy => i64_ok y (by have := HLM.out y (by rw [hE]; exact hy); omega) (by have := HLM.out y (by rw [hE]; exact hy); omega)
    | succ gk =>
      have hlt : k < so.length := by omega
      obtain ⟨x, hx⟩ : ∃ x, so.getD k 0 = x := ⟨_, rfl⟩
      have D1 := Lib.hid fun h => lk_double n so acc ll k hlt x hx h hacc.out
      have D2 := Lib.hid fun h h0 h1 => lk_take n so acc ll k hlt x hx h h0 h1 hacc.out
      have D3 := Lib.hid fun h h0 h1 => lk_stop n so acc ll k hlt x hx h h0 h1 hacc.out
      have D4 := Lib.hid fun h h0 => lk_skip n so acc ll k hlt x hx h h0 hacc.out
      have d0 := (hb.out.cell (p := ⟨g, k, none⟩) hgR).trans (HO.out.cell k hlt).1
      rw [hx] at d0
      have bx := (hb.out.block w.heap.size (by omega)).trans HBX.out
      have c0 := cell_of_row _ _ 0 _ _ _ bx
      have c1 := cell_of_row _ _ 1 _ _ _ bx
      have c2 := cell_of_row _ _ 2 _ _ _ bx
      simp at c0 c1 c2
      clear hx bx
      by_cases hdb : prevO so k = some x
      · have hk0 : 0 < k := by
          rcases Nat.eq_zero_or_pos k with rfl | h
          · simp [prevO] at hdb
          · exact h
        have HD := Lib.hid (D1.out hdb)
        have e0 := (hb.out.cell (p := ⟨g, k - 1, none⟩) hgR).trans (HO.out.cell (k - 1) (by omega)).1
        rw [prevO, if_neg (by omega), Option.some.injEq] at hdb
        rw [hdb] at e0
        clear hdb
        go_wp2
        go_roundg gk
        case rel => exact ⟨k + 1, r, acc, rfl, by omega, by go_num, HD.out, ho, hb, hz⟩
        case measure => omega
      · have HBw := Lib.hid (below_then HB2.out hb.out)
        have HNE := Lib.hid hdb
        obtain ⟨y, hy⟩ : ∃ y, so.getD (k - 1) 0 = y := ⟨_, rfl⟩
        rcases Nat.eq_zero_or_pos k with hk0 | hk0
        all_goals
          first
          | (subst hk0; clear hdb hy)
          | (have e0 := (hb.out.cell (p := ⟨g, k - 1, none⟩) hgR).trans (HO.out.cell (k - 1) (by omega)).1
             rw [pv_eq so k x y hk0 hy] at hdb
             rw [hy] at e0
             have hxy : (x == y) = false := by simpa using hdb
             clear hdb hy)
          go_wp2_with fail
          refine (EX.out x _ (HV.out.below HBw.out)).mono ?_; rintro e w3 ⟨rfl, hb3⟩
          have HB3 := Lib.hid (hb.out.trans (hb3.mono hz))
          have hz3 : w2.heap.size ≤ w3.heap.size := Nat.le_trans hz hb3.size
          have HO3 := Lib.hid (ho.out.below hb3)
          clear hb3
          by_cases hx0 : 0 ≤ x
          · by_cases hx1 : x < n
            · have hxb : exB n x = true := by simp [exB, hx0, hx1]
              have HD := Lib.hid (D2.out HNE.out hx0 hx1)
              have hal : acc.length ≤ 1000000 := by
                have := congrArg List.length hacc.out
                simp at this
                omega
              rw [hxb]
              go_wp2_with (at_builtin; refine wp_append_i64 _ rfl _ _ rfl w2.heap.size r acc rfl (HO3.out.alloc _) x _ rfl ?_ ?_ ?_ ?_; exact World.cell?_alloc_at _ _ _ _ rfl; exact hal; (simp; omega); intro r2 w4 ho4 hg4)
              have SS := Lib.hid (And.intro ho4 (And.intro ((HB3.out.alloc hz3 _).grown hg4 (by simp; omega) HO3.out.own_ge) (show w2.heap.size ≤ w4.heap.size from Nat.le_trans hz3 (Nat.le_trans (by simp) hg4.size))))
              clear ho4 hg4
              go_wp2
              go_roundg gk
              case rel => exact ⟨_, r2, acc ++ [x], rfl, by omega, by go_num, HD.out, SS.out.1, SS.out.2.1, SS.out.2.2⟩
              case measure => omega
            · have hxb : exB n x = false := by simp [exB, hx1]
              have HD := Lib.hid (D3.out HNE.out hx0 (by omega))
              rw [hxb]
              go_wp2
              rw [Exit.noGoto_ret]
              go_ret
              refine ⟨_, rfl, ?_, below_then HB2.out HB3.out⟩
              have hE : ll = acc := HD.out
              rw [hE]
              exact HO3.out.read (by rw [← hE]; omega) fun y hy => i64_ok y (by have := HLM.out y (by rw [hE]; exact hy); omega) (by have := HLM.out y (by rw [hE]; exact hy); omega)
          · have hxb : exB n x = false := by simp [exB, hx0]
            have HD := Lib.hid (D4.out HNE.out (by omega))
            rw [hxb]
            go_wp2
            go_roundg gk
            case rel => exact ⟨_, r, acc, rfl, by omega, by go_num, HD.out, HO3, HB3, hz3⟩
            case measure => omega
end Go.Proofs.Ytkciejealeinoaa
