/- What the program makes of a memory by an access to a list. -/
import Derived.Test.YtipjfcjdefdoeaaMmA
import Derived.Deep.RegionLaw
namespace Go.Proofs.Ytipjfcjdefdoeaa
open Go.ChangeShapes Go.WideShapes Go.ChangeAt Go.RowKit
set_option maxRecDepth 100000

theorem list_none {m : MemM} {a : AccM} (h : hasB m.lists.length a.addr = false) : listE m a = (m, ansZ) := by simp [listE, h]
theorem list_read {m : MemM} {i : Nat} {old nw til : Int} (h : hasB m.lists.length i = true) : listE m ⟨7, i, old, nw, til⟩ = (m, ⟨0, false, false, m.lists.getD i []⟩) := by simp [listE, h]
theorem set_self {α : Type} (l : List α) (i : Nat) (d : α) : l.set i (l.getD i d) = l := by
  apply List.ext_getElem?
  intro j
  rw [List.getElem?_set]
  by_cases e : i = j
  · subst e
    by_cases h : i < l.length
    · simp [h, List.getD_eq_getElem?_getD]
    · simp [h]
  · simp [e]
theorem list_next {m : MemM} {k : Int} {i : Nat} {old nw til : Int} (h : hasB m.lists.length i = true) (hk : k ≠ 7) (l' : List Int) (hl : nextL k (IntKind.i64.wrap nw) (m.lists.getD i []) = l') : listE m ⟨k, i, old, nw, til⟩ = (⟨m.words, m.lists.set i l', m.tick⟩, ⟨l'.length, false, false, []⟩) := by
  unfold listE; simp only [h]; simp only [Bool.true_eq_false, if_false, hk, Int.toNat_natCast, hl]
theorem list_same {m : MemM} {k : Int} {i : Nat} {old nw til : Int} (h : hasB m.lists.length i = true) (hk : k ≠ 7) (hl : nextL k (IntKind.i64.wrap nw) (m.lists.getD i []) = m.lists.getD i []) : listE m ⟨k, i, old, nw, til⟩ = (m, ⟨(m.lists.getD i []).length, false, false, []⟩) := by
  rw [list_next h hk _ hl, set_self]
theorem SlI.empty (w : World) (k : IntKind) (A : Option Addr) (c : Nat) : SlI w k (.slice A 0 c) [] := ⟨by simp, by simp, A, c, rfl, Nat.zero_le _, fun t ht => by simp at ht⟩
theorem SlI.take {w : World} {k : IntKind} {b off n cap : Nat} {l : List Int} (h : SlI w k (.slice (some ⟨b, off, none⟩) n cap) l) (i : Nat) (hi : i ≤ l.length) : SlI w k (.slice (some ⟨b, off, none⟩) i cap) (l.take i) := by
  obtain ⟨h1, h2, a, cap', e, h4, h5⟩ := h
  simp only [Value.slice.injEq] at e
  obtain ⟨rfl, rfl, rfl⟩ := e
  have hl : (l.take i).length = i := by simp; omega
  refine ⟨by omega, fun x hx => h2 x (List.mem_of_mem_take hx), _, cap, by rw [hl], by omega, fun t ht => ?_⟩
  obtain ⟨b', off', e, h6, h7⟩ := h5 t (by omega)
  refine ⟨b', off', e, h6, ?_⟩
  rw [h7]
  simp [List.getD_eq_getElem?_getD, show t < i by omega]
theorem SlI.drop {w : World} {k : IntKind} {b off n cap : Nat} {l : List Int} (h : SlI w k (.slice (some ⟨b, off, none⟩) n cap) l) (i : Nat) (hi : i ≤ l.length) : SlI w k (.slice (some ⟨b, off + i, none⟩) (l.length - i) (cap - i)) (l.drop i) := by
  obtain ⟨h1, h2, a, cap', e, h4, h5⟩ := h
  simp only [Value.slice.injEq] at e
  obtain ⟨rfl, rfl, rfl⟩ := e
  refine ⟨by simp; omega, fun x hx => h2 x (List.mem_of_mem_drop hx), _, cap - i, by rw [List.length_drop], by rw [List.length_drop]; omega, fun t ht => ?_⟩
  rw [List.length_drop] at ht
  obtain ⟨b', off', e, h6, h7⟩ := h5 (i + t) (by omega)
  simp only [Option.some.injEq, Addr.mk.injEq, and_true] at e
  obtain ⟨rfl, rfl⟩ := e
  refine ⟨b, off + i, rfl, h6, ?_⟩
  rw [Nat.add_assoc, h7]
  simp [List.getD_eq_getElem?_getD]
theorem two_lists {w : World} {u0 u1 : Value} {l0 l1 : List Int} (h0 : SlI w .i64 u0 l0) (h1 : SlI w .i64 u1 l1) : SlL (w.alloc (.cells #[u0, u1] 36)) (.slice (some ⟨w.heap.size, 0, none⟩) 2 2) [u0, u1] [l0, l1] := by
  have hb := below_new (Below.refl w.heap.size w) (.cells #[u0, u1] 36)
  refine ⟨by simp, rfl, _, 2, rfl, Nat.le_refl _, fun t ht => ⟨_, 0, rfl, by simp, ?_, ?_⟩⟩
  · rw [Nat.zero_add, World.cell?_alloc_at _ _ _ _ rfl]
    obtain rfl | rfl : t = 0 ∨ t = 1 := by simp at ht; omega
    · rfl
    · rfl
  · obtain rfl | rfl : t = 0 ∨ t = 1 := by simp at ht; omega
    · exact h0.below hb
    · exact h1.below hb
theorem wrap_wrap (x : Int) : IntKind.i64.wrap x = IntKind.i64.wrap (IntKind.i64.wrap x) := by rw [IntKind.wrap_i64, IntKind.wrap_i64]; omega
theorem wrap64_eq (x : Int) : wrap64 x = IntKind.i64.wrap x := by rw [IntKind.wrap_i64]; unfold wrap64; omega
set_option maxHeartbeats 4000000 in
theorem applyList_any (G : World → Prop) (v : Value) (m : MemM) (a : AccM) (w : World) (hG : G w) (hcl : Wide G) (h : StM G v m) (hm : m.fits) (ha : a.ok) (hk : a.kind = 7 ∨ a.kind = 8 ∨ a.kind = 9) :
    Calls Try.prog 52 #[v, accV a] w (PairR G w (listE m a)) := by
  obtain ⟨a1, cap, a2, cap2, rfl⟩ := h.open w hG
  have HM := Lib.hid hm
  have HSM := Lib.hid h
  have HG := Lib.hid hG
  have HCL := Lib.hid hcl
  obtain ⟨k, ad, old, nw, til⟩ := a
  have HA := Lib.hid ha
  dsimp only at hk
  obtain ⟨hr0, hr1, hr2, hr3, hrs, hrb⟩ := heap_alloc4 w (.cells #[.slice a1 m.words.length cap, .slice a2 m.lists.length cap2, .int .i64 m.tick] 29) (.cells #[.int .i64 k, .int .i64 ad, .int .u64 old, .int .u64 nw, .int .i64 til] 34) (.cells zeroMem 29) (.cells zeroAns 38)
  obtain ⟨W, hW⟩ : ∃ W, (((w.alloc (.cells #[.slice a1 m.words.length cap, .slice a2 m.lists.length cap2, .int .i64 m.tick] 29)).alloc (.cells #[.int .i64 k, .int .i64 ad, .int .u64 old, .int .u64 nw, .int .i64 til] 34)).alloc (.cells zeroMem 29)).alloc (.cells zeroAns 38) = W := ⟨_, rfl⟩
  rw [hW] at hr0 hr1 hr2 hr3 hrs hrb
  have R0 := Lib.hid hr0
  have R1 := Lib.hid hr1
  have R2 := Lib.hid hr2
  have R3 := Lib.hid hr3
  have HB := Lib.hid hrb
  have HGW : Hid (G W) := hcl _ _ hG hrb
  have HW := Lib.hid hW
  have hsz : w.heap.size + 4 ≤ W.heap.size := by omega
  clear hr0 hr1 hr2 hr3 hrs hrb hW h hG hcl hm ha
  obtain ⟨x0, x1, x2⟩ := rowc3 R0.out
  obtain ⟨y0, y1, y2, y3, y4⟩ := rowc5 R1.out
  have HHW := Lib.hid fun v w' h => hasList_any v m ad w' h
  unfold accV
  dsimp only
  go_enter Try.func52, Try.ntmps52
  go_upto_region 1 with fail
  rw [show (#[.slice none 0 0, .slice none 0 0, .int .i64 0] : Array Value) = zeroMem from rfl, show (#[.int .u64 0, .bool false, .bool false, .slice none 0 0] : Array Value) = zeroAns from rfl, HW.out]
  clear HW
  go_wp2_with fail
  refine (HHW.out _ _ (HSM.out.at HGW.out)).mono ?_; rintro e w1 ⟨rfl, hb1⟩
  have HB1 := Lib.hid (HB.out.trans (hb1.mono (by omega)))
  have Q0 := Lib.hid ((hb1.block w.heap.size (by omega)).trans R0.out)
  have Q1 := Lib.hid ((hb1.block (w.heap.size + 1) (by omega)).trans R1.out)
  have Q2 := Lib.hid ((hb1.block (w.heap.size + 2) (by omega)).trans R2.out)
  have Q3 := Lib.hid ((hb1.block (w.heap.size + 3) (by omega)).trans R3.out)
  have HG1 : Hid (G w1) := HCL.out _ _ HGW.out hb1
  have hs1 := hb1.size
  clear hb1 R0 R1 R2 R3 HB HGW x0 x1 x2 y0 y1 y2 y3 y4
  generalize hWW : W.heap.size = WS at *
  clear hWW HHW
  obtain ⟨W, rfl⟩ : ∃ W : World, W = w1 := ⟨_, rfl⟩
  have R2 := Q2
  have R3 := Q3
  obtain ⟨x0, x1, x2⟩ := rowc3 Q0.out
  obtain ⟨y0, y1, y2, y3, y4⟩ := rowc5 Q1.out
  cases hb : hasB m.lists.length ad with
  | false =>
    have HE := Lib.hid (list_none (m := m) (a := ⟨k, ad, old, nw, til⟩) hb)
    clear hb
    have T2 := R2
    have T3 : Hid (∀ cs, ((W).setRow (w.heap.size + 2) cs).heap[w.heap.size + 3]? = some (.cells zeroAns 38 (0, 0))) := fun cs => (setRow_other _ _ _ _ (by omega)).trans R3.out
    go_wp2_with (first
            | (refine wpList_store_row rfl 29 _ _ rfl (w.heap.size + 2) _ rfl rfl 29 zeroMem T2.out (by kernel_rfl) rfl (by simp [Value.oneCell']) ?_)
            | (refine wpList_store_row rfl 38 _ _ rfl (w.heap.size + 3) _ rfl rfl 38 zeroAns (T3.out _) (by kernel_rfl) rfl (by simp [Value.oneCell']) ?_))
    refine bodyPost_ret (v := .tuple #[.agg #[.slice a1 m.words.length cap, .slice a2 m.lists.length cap2, .int .i64 m.tick], .agg zeroAns]) (results_cells2 Try.results52 _ _ (w.heap.size + 2) (w.heap.size + 3) 29 38 _ _ (0, 0) (0, 0) _ _ rfl rfl ((setRow_other _ _ _ _ (by omega)).trans (setRow_heap _ _ _ _ 29 (0, 0) T2.out)) (setRow_heap _ _ _ _ 38 (0, 0) (T3.out _)) Try.underlying29 rfl (by kernel_rfl) Try.underlying38 rfl (by kernel_rfl)) rfl ?_
    have hbe := row_below (row_below HB1.out (show w.heap.size ≤ w.heap.size + 2 by omega) #[.slice a1 m.words.length cap, .slice a2 m.lists.length cap2, .int .i64 m.tick]) (show w.heap.size ≤ w.heap.size + 3 by omega) zeroAns
    unfold PairR
    rw [HE.out]
    exact ⟨_, _, rfl, HSM.out.sub fun _ (h : Nx G w _ _) => h.1, StA.bare _ _ _ _, hbe⟩

  | true =>
    obtain ⟨i, rfl, hi⟩ := hasB_true hb
    obtain ⟨us, hls⟩ := HSM.out.listsOf
    obtain ⟨b, off, cap', e, hcap, hblt, hcells, -⟩ := (hls W HG1.out).open (by rintro h0; rw [h0] at hi; simp at hi)
    have hck := hcells i hi
    simp only [Value.slice.injEq] at e
    obtain ⟨rfl, -, rfl⟩ := e
    have HUL : Hid (StI G .i64 (us.getD i (.slice none 0 0)) (m.lists.getD i [])) := fun w2 h2 => (hls w2 h2).each i hi
    have hln := HM.out.each i
    have hiI : (i : Int) < m.lists.length := by omega
    have hi0 : (0 : Int) ≤ i := by omega
    generalize us.getD i (.slice none 0 0) = u at *
    obtain ⟨l, hl⟩ : ∃ l, m.lists.getD i [] = l := ⟨_, rfl⟩
    rw [hl] at HUL hln
    have HLE := Lib.hid hl
    obtain ⟨ua, uc, rfl, huc⟩ := (HUL.out W HG1.out).len
    clear hcells hl hls
    rcases hk with rfl | rfl | rfl
    · have HE := Lib.hid (list_read (m := m) (old := old) (nw := nw) (til := til) hb)
      rw [HLE.out] at HE
      clear hb
      generalize hn : l.length = n at *
      have HN := Lib.hid hn
      clear hn
      have T2 := R2
      have T3 : Hid (∀ cs, ((W).setRow (w.heap.size + 2) cs).heap[w.heap.size + 3]? = some (.cells zeroAns 38 (0, 0))) := fun cs => (setRow_other _ _ _ _ (by omega)).trans R3.out
      go_wp2_with (first
              | (refine wpList_store_row rfl 29 _ _ rfl (w.heap.size + 2) _ rfl rfl 29 zeroMem T2.out (by kernel_rfl) rfl (by simp [Value.oneCell']) ?_)
              | (refine wpList_store_row rfl 38 _ _ rfl (w.heap.size + 3) _ rfl rfl 38 zeroAns (T3.out _) (by kernel_rfl) rfl (by simp [Value.oneCell']) ?_))
      refine bodyPost_ret (v := .tuple #[.agg #[.slice a1 m.words.length cap, .slice (some ⟨b, off, none⟩) m.lists.length cap2, .int .i64 m.tick], .agg #[.int .u64 0, .bool false, .bool false, .slice ua n uc]]) (results_cells2 Try.results52 _ _ (w.heap.size + 2) (w.heap.size + 3) 29 38 _ _ (0, 0) (0, 0) _ _ rfl rfl ((setRow_other _ _ _ _ (by omega)).trans (setRow_heap _ _ _ _ 29 (0, 0) T2.out)) (setRow_heap _ _ _ _ 38 (0, 0) (T3.out _)) Try.underlying29 rfl (by kernel_rfl) Try.underlying38 rfl (by kernel_rfl)) rfl ?_
      have hbe := row_below (row_below HB1.out (show w.heap.size ≤ w.heap.size + 2 by omega) #[.slice a1 m.words.length cap, .slice (some ⟨b, off, none⟩) m.lists.length cap2, .int .i64 m.tick]) (show w.heap.size ≤ w.heap.size + 3 by omega) #[.int .u64 0, .bool false, .bool false, .slice ua n uc]
      unfold PairR
      rw [HE.out]
      exact ⟨_, _, rfl, HSM.out.sub fun _ (h : Nx G w _ _) => h.1, ⟨_, rfl, fun w2 h2 => HUL.out w2 h2.1⟩, hbe⟩

    · by_cases hlt : l.length < 1000
      · have hltI : (l.length : Int) < 1000 := by omega
        have hwf : ∀ y ∈ l ++ [IntKind.i64.wrap nw], y = IntKind.i64.wrap y := by
          intro y hy
          rw [List.mem_append, List.mem_singleton] at hy
          rcases hy with hy | rfl
          · exact (HUL.out W HG1.out).2.1 y hy
          · exact wrap_wrap nw
        have HWF := Lib.hid hwf
        have HE := Lib.hid (list_next (m := m) (k := 8) (old := old) (nw := nw) (til := til) hb (by omega) (l ++ [IntKind.i64.wrap nw]) (by rw [HLE.out]; simp [nextL, hlt]))
        clear hb hlt hwf
        go_wp2_with fail
        rw [wrap64_eq]
        have h1 : SlI (W.alloc (.cells #[.int .i64 (IntKind.i64.wrap nw)] 3)) .i64 (.slice (some ⟨W.heap.size, 0, none⟩) 1 1) [IntKind.i64.wrap nw] := SlI.lit W .i64 _ [IntKind.i64.wrap nw] (by intro y hy; simp at hy; subst hy; exact wrap_wrap nw) (by simp)
        have h0 := (HUL.out W HG1.out).below (below_new (Below.refl _ _) (.cells #[.int .i64 (IntKind.i64.wrap nw)] 3))
        have h2 := two_lists h0 h1
        rw [show (W.alloc (.cells #[.int .i64 (IntKind.i64.wrap nw)] 3)).heap.size = W.heap.size + 1 by simp] at h2
        obtain ⟨WX, hWX⟩ : ∃ WX, (W.alloc (.cells #[.int .i64 (IntKind.i64.wrap nw)] 3)).alloc (.cells #[.slice ua l.length uc, .slice (some ⟨W.heap.size, 0, none⟩) 1 1] 36) = WX := ⟨_, rfl⟩
        have hbW : Below W.heap.size W WX := hWX ▸ below_new (below_new (Below.refl _ _) _) _
        have hzW : W.heap.size ≤ WX.heap.size := hbW.size
        rw [hWX] at h2 ⊢
        have HGX : Hid (G WX) := HCL.out _ _ HG1.out hbW
        have H2 := Lib.hid h2
        clear h0 h1 h2 hWX
        refine (concat_any _ _ _ _ H2.out (by simp) (by simp; omega)).mono ?_; rintro e w3 ⟨v', rfl, ho, hb3⟩
        rw [show [l, [IntKind.i64.wrap nw]].flatten = l ++ [IntKind.i64.wrap nw] by simp] at ho
        have hwf := HWF.out
        have hlen : (l ++ [IntKind.i64.wrap nw]).length ≤ 100001 := by simp; omega
        generalize l ++ [IntKind.i64.wrap nw] = l' at *
        clear HWF H2
        have HO := Lib.hid ho
        have hst : StI (Nx G WX w3) .i64 v' l' := fun w2 h2 => (OwnI.newPart HO.out (Nat.le_refl _) h2.2).read (by omega) hwf
        obtain ⟨A', c', rfl, -⟩ := (HO.out.read (by omega) hwf).len
        have hG3 := Nx.at HGX.out HCL.out hb3
        have P0 := Lib.hid ((hb3.block w.heap.size (by omega)).trans ((hbW.block w.heap.size (by omega)).trans Q0.out))
        have P1 := Lib.hid ((hb3.block (w.heap.size + 1) (by omega)).trans ((hbW.block (w.heap.size + 1) (by omega)).trans Q1.out))
        have P2 := Lib.hid ((hb3.block (w.heap.size + 2) (by omega)).trans ((hbW.block (w.heap.size + 2) (by omega)).trans R2.out))
        have P3 := Lib.hid ((hb3.block (w.heap.size + 3) (by omega)).trans ((hbW.block (w.heap.size + 3) (by omega)).trans R3.out))
        have hs3 := hb3.size
        have HB3 := Lib.hid (HB1.out.trans ((below_then hbW hb3).mono (by omega)))
        have HSM3 := Lib.hid (HSM.out.sub (H := Nx G WX w3) fun _ h => h.1)
        have HCL3 := Lib.hid (Nx.wide HCL.out WX w3)
        have WL := Lib.hid (withList_any (Nx G WX w3) _ m i _ l' w3 hG3 HCL3.out HSM3.out hi HM.out hst)
        have HG3 := Lib.hid hG3
        have HB3X := Lib.hid hb3
        clear hst hG3 hb3 x0 x1 x2 y0 y1 y2 y3 y4 ho hwf hbW HO
        obtain ⟨x0, x1, x2⟩ := rowc3 P0.out
        obtain ⟨y0, y1, y2, y3, y4⟩ := rowc5 P1.out
        go_wp2_with fail
        refine WL.out.mono ?_; rintro e w4 ⟨v4, rfl, hs4, hb4⟩
        obtain ⟨a5, cap5, a6, cap6, rfl⟩ := hs4.open w4 (Nx.at HG3.out HCL3.out hb4)
        rw [List.length_set] at hs4
        have HS4 := Lib.hid hs4
        have HB4X := Lib.hid hb4
        have HB4 := Lib.hid (HB3.out.trans (hb4.mono (by omega)))
        have S0 := Lib.hid ((hb4.block w.heap.size (by omega)).trans P0.out)
        have S1 := Lib.hid ((hb4.block (w.heap.size + 1) (by omega)).trans P1.out)
        have S2 := Lib.hid ((hb4.block (w.heap.size + 2) (by omega)).trans P2.out)
        have S3 := Lib.hid ((hb4.block (w.heap.size + 3) (by omega)).trans P3.out)
        have hs4z := hb4.size
        clear hs4 hb4 x0 x1 x2 y0 y1 y2 y3 y4 WL R2 R3
        have R2 := Lib.hid ((setRow_other w4 w.heap.size (w.heap.size + 2) #[.slice a5 m.words.length cap5, .slice a6 m.lists.length cap6, .int .i64 m.tick] (by omega)).trans S2.out)
        have R3 := Lib.hid ((setRow_other w4 w.heap.size (w.heap.size + 3) #[.slice a5 m.words.length cap5, .slice a6 m.lists.length cap6, .int .i64 m.tick] (by omega)).trans S3.out)
        obtain ⟨x0, x1, x2⟩ := rowc3 S0.out
        obtain ⟨y0, y1, y2, y3, y4⟩ := rowc5 S1.out
        have SB := Lib.hid (setRow_heap w4 w.heap.size _ #[.slice a5 m.words.length cap5, .slice a6 m.lists.length cap6, .int .i64 m.tick] 29 (0, 0) S0.out)
        obtain ⟨e0, e1, e2⟩ := rowc3 SB.out
        have XB := Lib.hid (row_below HB4.out (Nat.le_refl _) #[.slice a5 m.words.length cap5, .slice a6 m.lists.length cap6, .int .i64 m.tick])
        have T2 := R2
        have T3 : Hid (∀ cs, (((w4.setRow w.heap.size #[.slice a5 m.words.length cap5, .slice a6 m.lists.length cap6, .int .i64 m.tick])).setRow (w.heap.size + 2) cs).heap[w.heap.size + 3]? = some (.cells zeroAns 38 (0, 0))) := fun cs => (setRow_other _ _ _ _ (by omega)).trans R3.out
        go_wp2_with (first
                | (refine wpList_store_row rfl 29 _ _ rfl (w.heap.size + 2) _ rfl rfl 29 zeroMem T2.out (by kernel_rfl) rfl (by simp [Value.oneCell']) ?_)
                | (refine wpList_store_row rfl 38 _ _ rfl (w.heap.size + 3) _ rfl rfl 38 zeroAns (T3.out _) (by kernel_rfl) rfl (by simp [Value.oneCell']) ?_)
                | (refine wpList_store_row rfl 29 _ _ rfl (w.heap.size) _ rfl rfl 29 _ S0.out (by kernel_rfl) rfl (by simp [Value.oneCell']) ?_))
        refine bodyPost_ret (v := .tuple #[.agg #[.slice a5 m.words.length cap5, .slice a6 m.lists.length cap6, .int .i64 m.tick], .agg #[.int .u64 l'.length, .bool false, .bool false, .slice none 0 0]]) (results_cells2 Try.results52 _ _ (w.heap.size + 2) (w.heap.size + 3) 29 38 _ _ (0, 0) (0, 0) _ _ rfl rfl ((setRow_other _ _ _ _ (by omega)).trans (setRow_heap _ _ _ _ 29 (0, 0) T2.out)) (setRow_heap _ _ _ _ 38 (0, 0) (T3.out _)) Try.underlying29 rfl (by kernel_rfl) Try.underlying38 rfl (by kernel_rfl)) rfl ?_
        have hbe := row_below (row_below XB.out (show w.heap.size ≤ w.heap.size + 2 by omega) #[.slice a5 m.words.length cap5, .slice a6 m.lists.length cap6, .int .i64 m.tick]) (show w.heap.size ≤ w.heap.size + 3 by omega) #[.int .u64 l'.length, .bool false, .bool false, .slice none 0 0]
        unfold PairR
        rw [HE.out]
        refine ⟨_, _, rfl, HS4.out.sub fun w5 (h : Nx G w _ _) => ⟨⟨h.1, h.2.sub (by omega) (by simp; omega) fun j hj hj2 => ?_⟩, h.2.sub (by omega) (by simp) fun j hj hj2 => ?_⟩, StA.bare _ _ _ _, hbe⟩
        · rw [setRow_other _ _ _ _ (by omega), setRow_other _ _ _ _ (by omega), setRow_other _ _ _ _ (by omega)]
          exact HB4X.out.block j hj2
        · rw [setRow_other _ _ _ _ (by omega), setRow_other _ _ _ _ (by omega), setRow_other _ _ _ _ (by omega)]
      · have HE := Lib.hid (list_same (m := m) (k := 8) (old := old) (nw := nw) (til := til) hb (by omega) (by rw [HLE.out]; simp [nextL, hlt]))
        rw [HLE.out] at HE
        clear hb
        generalize hn : l.length = n at *
        have HN := Lib.hid hn
        have hltI : ¬ (n : Int) < 1000 := by omega
        clear hn hlt
        have T2 := R2
        have T3 : Hid (∀ cs, ((W).setRow (w.heap.size + 2) cs).heap[w.heap.size + 3]? = some (.cells zeroAns 38 (0, 0))) := fun cs => (setRow_other _ _ _ _ (by omega)).trans R3.out
        go_wp2_with (first
                | (refine wpList_store_row rfl 29 _ _ rfl (w.heap.size + 2) _ rfl rfl 29 zeroMem T2.out (by kernel_rfl) rfl (by simp [Value.oneCell']) ?_)
                | (refine wpList_store_row rfl 38 _ _ rfl (w.heap.size + 3) _ rfl rfl 38 zeroAns (T3.out _) (by kernel_rfl) rfl (by simp [Value.oneCell']) ?_))
        refine bodyPost_ret (v := .tuple #[.agg #[.slice a1 m.words.length cap, .slice (some ⟨b, off, none⟩) m.lists.length cap2, .int .i64 m.tick], .agg #[.int .u64 n, .bool false, .bool false, .slice none 0 0]]) (results_cells2 Try.results52 _ _ (w.heap.size + 2) (w.heap.size + 3) 29 38 _ _ (0, 0) (0, 0) _ _ rfl rfl ((setRow_other _ _ _ _ (by omega)).trans (setRow_heap _ _ _ _ 29 (0, 0) T2.out)) (setRow_heap _ _ _ _ 38 (0, 0) (T3.out _)) Try.underlying29 rfl (by kernel_rfl) Try.underlying38 rfl (by kernel_rfl)) rfl ?_
        have hbe := row_below (row_below HB1.out (show w.heap.size ≤ w.heap.size + 2 by omega) #[.slice a1 m.words.length cap, .slice (some ⟨b, off, none⟩) m.lists.length cap2, .int .i64 m.tick]) (show w.heap.size ≤ w.heap.size + 3 by omega) #[.int .u64 n, .bool false, .bool false, .slice none 0 0]
        unfold PairR
        rw [HE.out]
        exact ⟨_, _, rfl, HSM.out.sub fun _ (h : Nx G w _ _) => h.1, StA.bare _ _ _ _, hbe⟩

    · have hlb : l.length ≤ 1000000 := by omega
      go_wp2_with fail
      rw [wrap64_eq]
      obtain ⟨x, hx⟩ : ∃ x, IntKind.i64.wrap nw = x := ⟨_, rfl⟩
      rw [hx]
      have HX := Lib.hid hx
      clear hx
      refine (sindex_any _ l x _ (HUL.out W HG1.out) hlb).mono ?_; rintro e w2 ⟨r, rfl, hr, rfl⟩
      rcases hr with ⟨rfl, hmiss⟩ | ⟨j, rfl, hj⟩
      · have HE := Lib.hid (list_same (m := m) (k := 9) (old := old) (nw := nw) (til := til) hb (by omega) (by rw [HLE.out, HX.out]; simp [nextL, erase_none l x hmiss]))
        rw [HLE.out] at HE
        clear hb hmiss hlb
        generalize hn : l.length = n at *
        have HN := Lib.hid hn
        clear hn
        have T2 := R2
        have T3 : Hid (∀ cs, ((W).setRow (w.heap.size + 2) cs).heap[w.heap.size + 3]? = some (.cells zeroAns 38 (0, 0))) := fun cs => (setRow_other _ _ _ _ (by omega)).trans R3.out
        go_wp2_with (first
                | (refine wpList_store_row rfl 29 _ _ rfl (w.heap.size + 2) _ rfl rfl 29 zeroMem T2.out (by kernel_rfl) rfl (by simp [Value.oneCell']) ?_)
                | (refine wpList_store_row rfl 38 _ _ rfl (w.heap.size + 3) _ rfl rfl 38 zeroAns (T3.out _) (by kernel_rfl) rfl (by simp [Value.oneCell']) ?_))
        refine bodyPost_ret (v := .tuple #[.agg #[.slice a1 m.words.length cap, .slice (some ⟨b, off, none⟩) m.lists.length cap2, .int .i64 m.tick], .agg #[.int .u64 n, .bool false, .bool false, .slice none 0 0]]) (results_cells2 Try.results52 _ _ (w.heap.size + 2) (w.heap.size + 3) 29 38 _ _ (0, 0) (0, 0) _ _ rfl rfl ((setRow_other _ _ _ _ (by omega)).trans (setRow_heap _ _ _ _ 29 (0, 0) T2.out)) (setRow_heap _ _ _ _ 38 (0, 0) (T3.out _)) Try.underlying29 rfl (by kernel_rfl) Try.underlying38 rfl (by kernel_rfl)) rfl ?_
        have hbe := row_below (row_below HB1.out (show w.heap.size ≤ w.heap.size + 2 by omega) #[.slice a1 m.words.length cap, .slice (some ⟨b, off, none⟩) m.lists.length cap2, .int .i64 m.tick]) (show w.heap.size ≤ w.heap.size + 3 by omega) #[.int .u64 n, .bool false, .bool false, .slice none 0 0]
        unfold PairR
        rw [HE.out]
        exact ⟨_, _, rfl, HSM.out.sub fun _ (h : Nx G w _ _) => h.1, StA.bare _ _ _ _, hbe⟩
      · have HE := Lib.hid (list_next (m := m) (k := 9) (old := old) (nw := nw) (til := til) hb (by omega) (l.take j ++ l.drop (j + 1)) (by rw [HLE.out, HX.out]; simp [nextL, hj.erase]))
        have hjl := hj.lt
        obtain ⟨bu, ou, cu, e, -⟩ := (HUL.out W HG1.out).open (by rintro h0; rw [h0] at hjl; simp at hjl)
        simp only [Value.slice.injEq] at e
        obtain ⟨rfl, -, rfl⟩ := e
        have HJ := Lib.hid hj
        have hj0 : (0 : Int) ≤ j := by omega
        have hju : (j : Int) ≤ uc := by omega
        have hj1 : (j : Int) + 1 ≤ l.length := by omega
        have hwi : IntKind.i64.wrap ((j : Int) + 1) = (j : Int) + 1 := by rw [IntKind.wrap_i64]; omega
        have hj2 : (0 : Int) ≤ (j : Int) + 1 := by omega
        have hj3 : (j : Int) ≤ (j : Int) + 1 := by omega
        clear hb hj
        go_upto_region 13 with fail
        have hflat : [l.take j, l.drop (j + 1)].flatten = l.take j ++ l.drop (j + 1) := by simp
        have hflen : (l.take j ++ l.drop (j + 1)).length ≤ 100001 := by simp; omega
        have hwf : ∀ y ∈ l.take j ++ l.drop (j + 1), y = IntKind.i64.wrap y := by
          intro y hy
          rw [List.mem_append] at hy
          rcases hy with hy | hy
          · exact (HUL.out W HG1.out).2.1 y (List.mem_of_mem_take hy)
          · exact (HUL.out W HG1.out).2.1 y (List.mem_of_mem_drop hy)
        have HFL := Lib.hid hflat
        have HFN := Lib.hid hflen
        have HWF := Lib.hid hwf
        clear hflat hflen hwf
        by_cases hcu : uc = j + 1
        · subst hcu
          have h2 := (two_lists ((HUL.out W HG1.out).take j (by omega)) (show SlI W .i64 (.slice (some ⟨bu, ou, none⟩) 0 0) (l.drop (j + 1)) from (by rw [show l.drop (j + 1) = [] by rw [List.drop_eq_nil_iff]; have := (HUL.out W HG1.out).len; obtain ⟨_, _, e, h⟩ := this; simp only [Value.slice.injEq] at e; omega]; exact SlI.empty _ _ _ _))).drew 1
          have hbW : Below W.heap.size W (W.alloc (.cells #[.slice (some ⟨bu, ou, none⟩) j (j + 1), .slice (some ⟨bu, ou, none⟩) 0 0] 36)).drew := below_drewN (below_new (Below.refl _ _) _) 1
          have H2 := Lib.hid h2
          have HBW := Lib.hid hbW
          clear h2 hbW
          go_region_law (first | (go_simp; go_at_call 69; refine (concat_any _ _ _ _ (by exact H2.out) (by simp) (by rw [HFL.out]; have := HFN.out; omega)).mono ?_; rintro e w3 ⟨v', rfl, ho, hb3⟩))
          have hbW := HBW.out
          have hb3' : Below (W.alloc (.cells #[.slice (some ⟨bu, ou, none⟩) j (j + 1), .slice (some ⟨bu, ou, none⟩) 0 0] 36)).drew.heap.size (W.alloc (.cells #[.slice (some ⟨bu, ou, none⟩) j (j + 1), .slice (some ⟨bu, ou, none⟩) 0 0] 36)).drew w3 := hb3
          have ho' : OwnI w3 (W.alloc (.cells #[.slice (some ⟨bu, ou, none⟩) j (j + 1), .slice (some ⟨bu, ou, none⟩) 0 0] 36)).drew.heap.size 3 .i64 v' (l.take j ++ l.drop (j + 1)) := HFL.out ▸ ho
          clear ho hb3 H2 HBW
          generalize (W.alloc (.cells #[.slice (some ⟨bu, ou, none⟩) j (j + 1), .slice (some ⟨bu, ou, none⟩) 0 0] 36)).drew = WX at *
          have hb3 := hb3'
          have ho := ho'
          clear ho' hb3'
          have hzW : W.heap.size ≤ WX.heap.size := hbW.size
          have HGX : Hid (G WX) := HCL.out _ _ HG1.out hbW
          have hwf := HWF.out
          have hlen := HFN.out
          clear HWF HFN HFL
          generalize l.take j ++ l.drop (j + 1) = l' at *
          have HO := Lib.hid ho
          have hst : StI (Nx G WX w3) .i64 v' l' := fun w2 h2 => (OwnI.newPart HO.out (Nat.le_refl _) h2.2).read (by omega) hwf
          obtain ⟨A', c', rfl, -⟩ := (HO.out.read (by omega) hwf).len
          have hG3 := Nx.at HGX.out HCL.out hb3
          have P0 := Lib.hid ((hb3.block w.heap.size (by omega)).trans ((hbW.block w.heap.size (by omega)).trans Q0.out))
          have P1 := Lib.hid ((hb3.block (w.heap.size + 1) (by omega)).trans ((hbW.block (w.heap.size + 1) (by omega)).trans Q1.out))
          have P2 := Lib.hid ((hb3.block (w.heap.size + 2) (by omega)).trans ((hbW.block (w.heap.size + 2) (by omega)).trans R2.out))
          have P3 := Lib.hid ((hb3.block (w.heap.size + 3) (by omega)).trans ((hbW.block (w.heap.size + 3) (by omega)).trans R3.out))
          have hs3 := hb3.size
          have HB3 := Lib.hid (HB1.out.trans ((below_then hbW hb3).mono (by omega)))
          have HSM3 := Lib.hid (HSM.out.sub (H := Nx G WX w3) fun _ h => h.1)
          have HCL3 := Lib.hid (Nx.wide HCL.out WX w3)
          have WL := Lib.hid (withList_any (Nx G WX w3) _ m i _ l' w3 hG3 HCL3.out HSM3.out hi HM.out hst)
          have HG3 := Lib.hid hG3
          have HB3X := Lib.hid hb3
          clear hst hG3 hb3 x0 x1 x2 y0 y1 y2 y3 y4 ho hwf hbW HO
          obtain ⟨x0, x1, x2⟩ := rowc3 P0.out
          obtain ⟨y0, y1, y2, y3, y4⟩ := rowc5 P1.out
          go_wp2_with fail
          refine WL.out.mono ?_; rintro e w4 ⟨v4, rfl, hs4, hb4⟩
          obtain ⟨a5, cap5, a6, cap6, rfl⟩ := hs4.open w4 (Nx.at HG3.out HCL3.out hb4)
          rw [List.length_set] at hs4
          have HS4 := Lib.hid hs4
          have HB4X := Lib.hid hb4
          have HB4 := Lib.hid (HB3.out.trans (hb4.mono (by omega)))
          have S0 := Lib.hid ((hb4.block w.heap.size (by omega)).trans P0.out)
          have S1 := Lib.hid ((hb4.block (w.heap.size + 1) (by omega)).trans P1.out)
          have S2 := Lib.hid ((hb4.block (w.heap.size + 2) (by omega)).trans P2.out)
          have S3 := Lib.hid ((hb4.block (w.heap.size + 3) (by omega)).trans P3.out)
          have hs4z := hb4.size
          clear hs4 hb4 x0 x1 x2 y0 y1 y2 y3 y4 WL R2 R3
          have R2 := Lib.hid ((setRow_other w4 w.heap.size (w.heap.size + 2) #[.slice a5 m.words.length cap5, .slice a6 m.lists.length cap6, .int .i64 m.tick] (by omega)).trans S2.out)
          have R3 := Lib.hid ((setRow_other w4 w.heap.size (w.heap.size + 3) #[.slice a5 m.words.length cap5, .slice a6 m.lists.length cap6, .int .i64 m.tick] (by omega)).trans S3.out)
          obtain ⟨x0, x1, x2⟩ := rowc3 S0.out
          obtain ⟨y0, y1, y2, y3, y4⟩ := rowc5 S1.out
          have SB := Lib.hid (setRow_heap w4 w.heap.size _ #[.slice a5 m.words.length cap5, .slice a6 m.lists.length cap6, .int .i64 m.tick] 29 (0, 0) S0.out)
          obtain ⟨e0, e1, e2⟩ := rowc3 SB.out
          have XB := Lib.hid (row_below HB4.out (Nat.le_refl _) #[.slice a5 m.words.length cap5, .slice a6 m.lists.length cap6, .int .i64 m.tick])
          have T2 := R2
          have T3 : Hid (∀ cs, (((w4.setRow w.heap.size #[.slice a5 m.words.length cap5, .slice a6 m.lists.length cap6, .int .i64 m.tick])).setRow (w.heap.size + 2) cs).heap[w.heap.size + 3]? = some (.cells zeroAns 38 (0, 0))) := fun cs => (setRow_other _ _ _ _ (by omega)).trans R3.out
          go_wp2_with (first
                  | (refine wpList_store_row rfl 29 _ _ rfl (w.heap.size + 2) _ rfl rfl 29 zeroMem T2.out (by kernel_rfl) rfl (by simp [Value.oneCell']) ?_)
                  | (refine wpList_store_row rfl 38 _ _ rfl (w.heap.size + 3) _ rfl rfl 38 zeroAns (T3.out _) (by kernel_rfl) rfl (by simp [Value.oneCell']) ?_)
                  | (refine wpList_store_row rfl 29 _ _ rfl (w.heap.size) _ rfl rfl 29 _ S0.out (by kernel_rfl) rfl (by simp [Value.oneCell']) ?_))
          refine bodyPost_ret (v := .tuple #[.agg #[.slice a5 m.words.length cap5, .slice a6 m.lists.length cap6, .int .i64 m.tick], .agg #[.int .u64 l'.length, .bool false, .bool false, .slice none 0 0]]) (results_cells2 Try.results52 _ _ (w.heap.size + 2) (w.heap.size + 3) 29 38 _ _ (0, 0) (0, 0) _ _ rfl rfl ((setRow_other _ _ _ _ (by omega)).trans (setRow_heap _ _ _ _ 29 (0, 0) T2.out)) (setRow_heap _ _ _ _ 38 (0, 0) (T3.out _)) Try.underlying29 rfl (by kernel_rfl) Try.underlying38 rfl (by kernel_rfl)) rfl ?_
          have hbe := row_below (row_below XB.out (show w.heap.size ≤ w.heap.size + 2 by omega) #[.slice a5 m.words.length cap5, .slice a6 m.lists.length cap6, .int .i64 m.tick]) (show w.heap.size ≤ w.heap.size + 3 by omega) #[.int .u64 l'.length, .bool false, .bool false, .slice none 0 0]
          unfold PairR
          rw [HE.out]
          refine ⟨_, _, rfl, HS4.out.sub fun w5 (h : Nx G w _ _) => ⟨⟨h.1, h.2.sub (by omega) (by simp; omega) fun j hj hj2 => ?_⟩, h.2.sub (by omega) (by simp) fun j hj hj2 => ?_⟩, StA.bare _ _ _ _, hbe⟩
          · rw [setRow_other _ _ _ _ (by omega), setRow_other _ _ _ _ (by omega), setRow_other _ _ _ _ (by omega)]
            exact HB4X.out.block j hj2
          · rw [setRow_other _ _ _ _ (by omega), setRow_other _ _ _ _ (by omega), setRow_other _ _ _ _ (by omega)]
        · have h2 := (two_lists ((HUL.out W HG1.out).take j (by omega)) (show SlI W .i64 (.slice (some ⟨bu, ou + (j + 1), none⟩) (l.length - (j + 1)) (uc - (j + 1))) (l.drop (j + 1)) from ((HUL.out W HG1.out).drop (j + 1) (by omega)))).drew 1
          have hbW : Below W.heap.size W (W.alloc (.cells #[.slice (some ⟨bu, ou, none⟩) j uc, .slice (some ⟨bu, ou + (j + 1), none⟩) (l.length - (j + 1)) (uc - (j + 1))] 36)).drew := below_drewN (below_new (Below.refl _ _) _) 1
          have H2 := Lib.hid h2
          have HBW := Lib.hid hbW
          clear h2 hbW
          go_region_law (first | (go_simp; go_at_call 69; refine (concat_any _ _ _ _ (by exact H2.out) (by simp) (by rw [HFL.out]; have := HFN.out; omega)).mono ?_; rintro e w3 ⟨v', rfl, ho, hb3⟩))
          have hbW := HBW.out
          have hb3' : Below (W.alloc (.cells #[.slice (some ⟨bu, ou, none⟩) j uc, .slice (some ⟨bu, ou + (j + 1), none⟩) (l.length - (j + 1)) (uc - (j + 1))] 36)).drew.heap.size (W.alloc (.cells #[.slice (some ⟨bu, ou, none⟩) j uc, .slice (some ⟨bu, ou + (j + 1), none⟩) (l.length - (j + 1)) (uc - (j + 1))] 36)).drew w3 := hb3
          have ho' : OwnI w3 (W.alloc (.cells #[.slice (some ⟨bu, ou, none⟩) j uc, .slice (some ⟨bu, ou + (j + 1), none⟩) (l.length - (j + 1)) (uc - (j + 1))] 36)).drew.heap.size 3 .i64 v' (l.take j ++ l.drop (j + 1)) := HFL.out ▸ ho
          clear ho hb3 H2 HBW
          generalize (W.alloc (.cells #[.slice (some ⟨bu, ou, none⟩) j uc, .slice (some ⟨bu, ou + (j + 1), none⟩) (l.length - (j + 1)) (uc - (j + 1))] 36)).drew = WX at *
          have hb3 := hb3'
          have ho := ho'
          clear ho' hb3'
          have hzW : W.heap.size ≤ WX.heap.size := hbW.size
          have HGX : Hid (G WX) := HCL.out _ _ HG1.out hbW
          have hwf := HWF.out
          have hlen := HFN.out
          clear HWF HFN HFL
          generalize l.take j ++ l.drop (j + 1) = l' at *
          have HO := Lib.hid ho
          have hst : StI (Nx G WX w3) .i64 v' l' := fun w2 h2 => (OwnI.newPart HO.out (Nat.le_refl _) h2.2).read (by omega) hwf
          obtain ⟨A', c', rfl, -⟩ := (HO.out.read (by omega) hwf).len
          have hG3 := Nx.at HGX.out HCL.out hb3
          have P0 := Lib.hid ((hb3.block w.heap.size (by omega)).trans ((hbW.block w.heap.size (by omega)).trans Q0.out))
          have P1 := Lib.hid ((hb3.block (w.heap.size + 1) (by omega)).trans ((hbW.block (w.heap.size + 1) (by omega)).trans Q1.out))
          have P2 := Lib.hid ((hb3.block (w.heap.size + 2) (by omega)).trans ((hbW.block (w.heap.size + 2) (by omega)).trans R2.out))
          have P3 := Lib.hid ((hb3.block (w.heap.size + 3) (by omega)).trans ((hbW.block (w.heap.size + 3) (by omega)).trans R3.out))
          have hs3 := hb3.size
          have HB3 := Lib.hid (HB1.out.trans ((below_then hbW hb3).mono (by omega)))
          have HSM3 := Lib.hid (HSM.out.sub (H := Nx G WX w3) fun _ h => h.1)
          have HCL3 := Lib.hid (Nx.wide HCL.out WX w3)
          have WL := Lib.hid (withList_any (Nx G WX w3) _ m i _ l' w3 hG3 HCL3.out HSM3.out hi HM.out hst)
          have HG3 := Lib.hid hG3
          have HB3X := Lib.hid hb3
          clear hst hG3 hb3 x0 x1 x2 y0 y1 y2 y3 y4 ho hwf hbW HO
          obtain ⟨x0, x1, x2⟩ := rowc3 P0.out
          obtain ⟨y0, y1, y2, y3, y4⟩ := rowc5 P1.out
          go_wp2_with fail
          refine WL.out.mono ?_; rintro e w4 ⟨v4, rfl, hs4, hb4⟩
          obtain ⟨a5, cap5, a6, cap6, rfl⟩ := hs4.open w4 (Nx.at HG3.out HCL3.out hb4)
          rw [List.length_set] at hs4
          have HS4 := Lib.hid hs4
          have HB4X := Lib.hid hb4
          have HB4 := Lib.hid (HB3.out.trans (hb4.mono (by omega)))
          have S0 := Lib.hid ((hb4.block w.heap.size (by omega)).trans P0.out)
          have S1 := Lib.hid ((hb4.block (w.heap.size + 1) (by omega)).trans P1.out)
          have S2 := Lib.hid ((hb4.block (w.heap.size + 2) (by omega)).trans P2.out)
          have S3 := Lib.hid ((hb4.block (w.heap.size + 3) (by omega)).trans P3.out)
          have hs4z := hb4.size
          clear hs4 hb4 x0 x1 x2 y0 y1 y2 y3 y4 WL R2 R3
          have R2 := Lib.hid ((setRow_other w4 w.heap.size (w.heap.size + 2) #[.slice a5 m.words.length cap5, .slice a6 m.lists.length cap6, .int .i64 m.tick] (by omega)).trans S2.out)
          have R3 := Lib.hid ((setRow_other w4 w.heap.size (w.heap.size + 3) #[.slice a5 m.words.length cap5, .slice a6 m.lists.length cap6, .int .i64 m.tick] (by omega)).trans S3.out)
          obtain ⟨x0, x1, x2⟩ := rowc3 S0.out
          obtain ⟨y0, y1, y2, y3, y4⟩ := rowc5 S1.out
          have SB := Lib.hid (setRow_heap w4 w.heap.size _ #[.slice a5 m.words.length cap5, .slice a6 m.lists.length cap6, .int .i64 m.tick] 29 (0, 0) S0.out)
          obtain ⟨e0, e1, e2⟩ := rowc3 SB.out
          have XB := Lib.hid (row_below HB4.out (Nat.le_refl _) #[.slice a5 m.words.length cap5, .slice a6 m.lists.length cap6, .int .i64 m.tick])
          have T2 := R2
          have T3 : Hid (∀ cs, (((w4.setRow w.heap.size #[.slice a5 m.words.length cap5, .slice a6 m.lists.length cap6, .int .i64 m.tick])).setRow (w.heap.size + 2) cs).heap[w.heap.size + 3]? = some (.cells zeroAns 38 (0, 0))) := fun cs => (setRow_other _ _ _ _ (by omega)).trans R3.out
          go_wp2_with (first
                  | (refine wpList_store_row rfl 29 _ _ rfl (w.heap.size + 2) _ rfl rfl 29 zeroMem T2.out (by kernel_rfl) rfl (by simp [Value.oneCell']) ?_)
                  | (refine wpList_store_row rfl 38 _ _ rfl (w.heap.size + 3) _ rfl rfl 38 zeroAns (T3.out _) (by kernel_rfl) rfl (by simp [Value.oneCell']) ?_)
                  | (refine wpList_store_row rfl 29 _ _ rfl (w.heap.size) _ rfl rfl 29 _ S0.out (by kernel_rfl) rfl (by simp [Value.oneCell']) ?_))
          refine bodyPost_ret (v := .tuple #[.agg #[.slice a5 m.words.length cap5, .slice a6 m.lists.length cap6, .int .i64 m.tick], .agg #[.int .u64 l'.length, .bool false, .bool false, .slice none 0 0]]) (results_cells2 Try.results52 _ _ (w.heap.size + 2) (w.heap.size + 3) 29 38 _ _ (0, 0) (0, 0) _ _ rfl rfl ((setRow_other _ _ _ _ (by omega)).trans (setRow_heap _ _ _ _ 29 (0, 0) T2.out)) (setRow_heap _ _ _ _ 38 (0, 0) (T3.out _)) Try.underlying29 rfl (by kernel_rfl) Try.underlying38 rfl (by kernel_rfl)) rfl ?_
          have hbe := row_below (row_below XB.out (show w.heap.size ≤ w.heap.size + 2 by omega) #[.slice a5 m.words.length cap5, .slice a6 m.lists.length cap6, .int .i64 m.tick]) (show w.heap.size ≤ w.heap.size + 3 by omega) #[.int .u64 l'.length, .bool false, .bool false, .slice none 0 0]
          unfold PairR
          rw [HE.out]
          refine ⟨_, _, rfl, HS4.out.sub fun w5 (h : Nx G w _ _) => ⟨⟨h.1, h.2.sub (by omega) (by simp; omega) fun j hj hj2 => ?_⟩, h.2.sub (by omega) (by simp) fun j hj hj2 => ?_⟩, StA.bare _ _ _ _, hbe⟩
          · rw [setRow_other _ _ _ _ (by omega), setRow_other _ _ _ _ (by omega), setRow_other _ _ _ _ (by omega)]
            exact HB4X.out.block j hj2
          · rw [setRow_other _ _ _ _ (by omega), setRow_other _ _ _ _ (by omega), setRow_other _ _ _ _ (by omega)]
end Go.Proofs.Ytipjfcjdefdoeaa
