/- The program's Replay where one more block may change: what it hands back reads on. -/
import Derived.Test.YtipjfcjdefdoeaaRp
namespace Go.Proofs.Ytipjfcjdefdoeaa
open Go.ChangeShapes Go.WideShapes Go.ChangeAt Go.RowKit
set_option maxRecDepth 100000

/-- the worlds that hold w0's memory but for three blocks -/
def Of3 (X a b : Nat) (w0 : World) : World → Prop := fun w => w0.heap.size ≤ w.heap.size ∧ ∀ j, j < w0.heap.size → j ≠ X → j ≠ a → j ≠ b → w.heap[j]? = w0.heap[j]?
theorem Of3.self (X a b : Nat) (w : World) : Of3 X a b w w := ⟨Nat.le_refl _, fun _ _ _ _ _ => rfl⟩
theorem Of3.trans {X a b : Nat} {w0 w1 w2 : World} (h : Of3 X a b w0 w1) (h2 : Of3 X a b w1 w2) : Of3 X a b w0 w2 :=
  ⟨Nat.le_trans h.1 h2.1, fun j hj hx ha hb => (h2.2 j (Nat.lt_of_lt_of_le hj h.1) hx ha hb).trans (h.2 j hj hx ha hb)⟩
theorem Of3.below {X a b : Nat} {w w' : World} (h : Below w.heap.size w w') : Of3 X a b w w' := ⟨h.size, fun j hj _ _ _ => h.block j hj⟩
theorem Of3.wide (X a b : Nat) (w0 : World) : Wide (Of3 X a b w0) := fun _ _ h hb => h.trans (Of3.below hb)
theorem Of3.setRow (X : Nat) (w : World) (cs : Array Value) : Of3 X X X w (w.setRow X cs) := ⟨by simp [World.setRow], fun j _ hb _ _ => setRow_other w X j cs hb⟩
theorem Of3.nx {X a b : Nat} {w0 w w' : World} (h : Of3 X a b w0 w) (hb : Below w.heap.size w w') (hx : X < w.heap.size) (h1 : a < w.heap.size) (h2 : b < w.heap.size) : ∀ w2, Of3 X a b w' w2 → Nx (Of3 X a b w0) w w' w2 := fun w2 h3 =>
  ⟨h.trans ((Of3.below hb).trans h3), ⟨h3.1, fun j hj hj2 => h3.2 j hj2 (by omega) (by omega) (by omega)⟩⟩
/-- what reads goes on reading while a new block changes -/
theorem MemV.ofNew {w W : World} {v : Value} {m : MemM} {X : Nat} (h : MemV w v m) (hb : Below w.heap.size w W) (hX : w.heap.size ≤ X) : StM (Of3 X X X W) v m :=
  (h.offNew hb hX hX).sub fun w3 h3 => ⟨h3.1, fun j hj hx _ => h3.2 j hj hx hx hx⟩
def RepS (X : Nat) (r : MemM × Bool) (w : World) (e : Ending) (w' : World) : Prop := ∃ v', e = .returned (.tuple #[v', .bool r.2]) ∧ StM (Of3 X X X w') v' r.1 ∧ Below w.heap.size w w'
/-- while records are made again: the memory's box B, the result's box R -/
structure RepJ (X : Nat) (w0 wr : World) (B R : Nat) (m : MemM) : Prop where
  bw : w0.heap.size ≤ B
  rw : w0.heap.size ≤ R
  ne : R ≠ B
  mem : ∃ A c A2 c2, wr.heap[B]? = some (.cells #[.slice A m.words.length c, .slice A2 m.lists.length c2, .int .i64 m.tick] 29 (0, 0)) ∧ StM (Of3 X B R wr) (.agg #[.slice A m.words.length c, .slice A2 m.lists.length c2, .int .i64 m.tick]) m
  res : wr.heap[R]? = some (.cells zeroMem 29 (0, 0))
  fits : m.fits
  below : Below w0.heap.size w0 wr
theorem RepJ.lt {X : Nat} {w0 wr : World} {B R : Nat} {m : MemM} (h : RepJ X w0 wr B R m) : B < wr.heap.size := by
  obtain ⟨A, c, A2, c2, h1, -⟩ := h.mem
  exact (Array.getElem?_eq_some_iff.1 h1).1
theorem RepJ.next {X : Nat} {w0 wr w2 : World} {B R : Nat} {m : MemM} (h : RepJ X w0 wr B R m) (hb : Below wr.heap.size wr w2) : RepJ X w0 w2 B R m := by
  obtain ⟨A, c, A2, c2, h1, h2⟩ := h.mem
  exact ⟨h.bw, h.rw, h.ne, ⟨A, c, A2, c2, (hb.block B h.lt).trans h1, h2.sub fun w3 h3 => (Of3.below hb).trans h3⟩, (hb.block R (Array.getElem?_eq_some_iff.1 h.res).1).trans h.res, h.fits, below_then h.below hb⟩
theorem RepJ.open {X : Nat} {w0 wr : World} {B R : Nat} {m : MemM} (h : RepJ X w0 wr B R m) : ∃ A c A2 c2, Hid (wr.heap[B]? = some (.cells #[.slice A m.words.length c, .slice A2 m.lists.length c2, .int .i64 m.tick] 29 (0, 0))) ∧ Hid (StM (Of3 X B R wr) (.agg #[.slice A m.words.length c, .slice A2 m.lists.length c2, .int .i64 m.tick]) m) := h.mem
theorem RepJ.taken {X : Nat} {w0 wr w1 w2 : World} {B R : Nat} {m m' : MemM} {A A2 : Option Addr} {c c2 : Nat} (h : RepJ X w0 wr B R m) (hX : X < wr.heap.size) (hb : Below wr.heap.size wr w1) (hb2 : Below w1.heap.size w1 w2)
    (hs : StM (Nx (Of3 X B R wr) wr w1) (.agg #[.slice A m'.words.length c, .slice A2 m'.lists.length c2, .int .i64 m'.tick]) m') (hf : m'.fits) : RepJ X w0 (w2.setRow B #[.slice A m'.words.length c, .slice A2 m'.lists.length c2, .int .i64 m'.tick]) B R m' := by
  have hlt := h.lt
  have hbw := h.bw
  have hne := h.ne
  have hs1 := hb.size
  have hs2 := hb2.size
  have h12 := h.next (below_then hb hb2)
  obtain ⟨E, d, E2, d2, h1, h2⟩ := h12.mem
  refine ⟨h.bw, h.rw, h.ne, ⟨A, c, A2, c2, setRow_heap _ _ _ _ _ (0, 0) h1, hs.sub fun w3 h3 => ?_⟩, (setRow_other _ _ _ _ hne).trans h12.res, hf, row_below h12.below hbw _⟩
  exact Of3.nx (Of3.self _ _ _ _) hb hX hlt (Array.getElem?_eq_some_iff.1 h.res).1 w3 ((Of3.below hb2).trans (Of3.trans ⟨by simp [World.setRow], fun j _ _ h4 _ => setRow_other w2 B j _ h4⟩ h3))
theorem RepJ.start {X : Nat} {w : World} {m : MemM} {a a2 : Option Addr} {c c2 : Nat} (h : StM (Of3 X X X w) (.agg #[.slice a m.words.length c, .slice a2 m.lists.length c2, .int .i64 m.tick]) m) (hf : m.fits) :
    RepJ X w ((w.alloc (.cells #[.slice a m.words.length c, .slice a2 m.lists.length c2, .int .i64 m.tick] 29)).alloc (.cells zeroMem 29)) w.heap.size (w.heap.size + 1) m := by
  have hb := below_new (below_new (Below.refl w.heap.size w) (.cells #[.slice a m.words.length c, .slice a2 m.lists.length c2, .int .i64 m.tick] 29)) (.cells zeroMem 29)
  exact ⟨Nat.le_refl _, Nat.le_succ _, by omega, ⟨a, c, a2, c2, heap_alloc2_old _ _ _, h.sub fun w3 h3 => ⟨Nat.le_trans hb.size h3.1, fun j hj hx _ _ => (h3.2 j (Nat.lt_of_lt_of_le hj hb.size) hx (by omega) (by omega)).trans (hb.block j hj)⟩⟩, heap_alloc2_new _ _ _, hf, hb⟩
set_option maxHeartbeats 16000000 in
theorem replay_stm (X : Nat) (v lv : Value) (m : MemM) (l : List ItemM) (w : World) (hX : X < w.heap.size) (h : StM (Of3 X X X w) v m) (hf : m.fits) (hl : SlT w lv l) (hn : l.length ≤ 1000) : Calls Try.prog 14 #[v, lv] w (RepS X (replayE m l) w) := by
  have HV := Lib.hid h
  have HL := Lib.hid hl
  have HXW := Lib.hid hX
  clear hX
  obtain ⟨a, cap, rfl, hcap⟩ := hl.len
  obtain ⟨a1, cap1, a2, cap2, rfl⟩ := h.open w (Of3.self _ _ _ _)
  have HI0 := Lib.hid (RepJ.start HV.out hf)
  clear h hf hl
  obtain ⟨r, hr⟩ : ∃ r, replayE m l = r := ⟨_, rfl⟩
  have HR0 : Hid (replayE m (l.drop 0) = r) := hr
  rw [hr]
  clear hr
  obtain ⟨W, hW⟩ : ∃ W, (w.alloc (.cells #[.slice a1 m.words.length cap1, .slice a2 m.lists.length cap2, .int .i64 m.tick] 29)).alloc (.cells zeroMem 29) = W := ⟨_, rfl⟩
  rw [hW] at HI0
  have HW := Lib.hid hW
  clear hW
  go_enter Try.func14, Try.ntmps14
  go_upto_region 1 with fail
  rw [show (#[.slice none 0 0, .slice none 0 0, .int .i64 0] : Array Value) = zeroMem from rfl, HW.out]
  clear HW
  obtain ⟨B, hB⟩ : ∃ B, w.heap.size = B := ⟨_, rfl⟩
  rw [hB] at HI0
  rw [hB]
  have HBB := Lib.hid hB
  clear hB
  go_wp2_with fail
  go_loopw [13] (fun u wr => ∃ k : Nat, k ≤ l.length ∧ u = .int .i64 k ∧ ∃ m', Hid (replayE m' (l.drop k) = r) ∧ Hid (RepJ X w wr B (B + 1) m')) (fun u _ => 1001 - (intOf u).toNat)
  case atStart => exact ⟨0, by omega, rfl, _, HR0, HI0⟩
  case round =>
    clear HI0 HR0 HV
    obtain ⟨k, hk, rfl, m', HR, HI⟩ := hrel
    obtain ⟨wo, rfl⟩ : ∃ wo : World, wo = wr := ⟨_, rfl⟩
    obtain ⟨A, c, A2, c2, RM, HST⟩ := HI.out.open
    have RR := Lib.hid HI.out.res
    by_cases hlt : k < l.length
    · obtain ⟨b, off, cap', e, hcap2, hb, hcell⟩ := HL.out.open (by rintro rfl; simp at hlt)
      simp only [Value.slice.injEq] at e
      obtain ⟨rfl, -, rfl⟩ := e
      obtain ⟨x, hx⟩ : ∃ x, l.getD k noItem = x := ⟨_, rfl⟩
      have hck := hcell k hlt
      rw [hx] at hck
      have hgx : Hid x.good := by
        have h1 : (l[k]'hlt).good := HL.out.2.1 _ (List.getElem_mem hlt)
        have h2 : l[k]'hlt = x := by rw [← hx, List.getD_eq_getElem?_getD, List.getElem?_eq_getElem hlt]; rfl
        exact h2 ▸ h1
      have HN : Hid ((if okE m' x then replayE (applyE m' x.acc).1 (l.drop (k + 1)) else (noMem, false)) = r) := (replay_next hlt hx).symm.trans HR.out
      have hbo : b < wo.heap.size := Nat.lt_of_lt_of_le hb HI.out.below.size
      have hcc : ∀ j, wo.cell? ⟨b, j, none⟩ = w.cell? ⟨b, j, none⟩ := fun j => HI.out.below.cell (p := ⟨b, j, none⟩) hb
      obtain ⟨c0, c1, c3, c4, c5, c6, c7, c8⟩ := hck
      rw [← hcc] at c0 c1 c3 c4 c5 c6 c7 c8
      rw [Nat.add_zero] at c0
      have hkI : (k : Int) < (l.length : Int) := by omega
      clear hcell hx hcc HR
      obtain ⟨W3, hW3⟩ : ∃ W3, (wo.alloc (.cells zeroItem 42)).setRow wo.heap.size #[.int .i64 x.thr, .int .i64 x.acc.kind, .int .i64 x.acc.addr, .int .u64 x.acc.old, .int .u64 x.acc.new, .int .i64 x.acc.til, .int .u64 x.val, .bool x.ok] = W3 := ⟨_, rfl⟩
      have N3 : Hid ((wo.alloc (.cells zeroItem 42)).heap[wo.heap.size]? = some (.cells zeroItem 42 (0, 0))) := heap_alloc_new _ _
      have HB3 : Hid (Below wo.heap.size wo W3) := hW3 ▸ row_below (below_new (Below.refl _ _) _) (Nat.le_refl _) _
      have RX : Hid (W3.heap[wo.heap.size]? = some (.cells #[.int .i64 x.thr, .int .i64 x.acc.kind, .int .i64 x.acc.addr, .int .u64 x.acc.old, .int .u64 x.acc.new, .int .i64 x.acc.til, .int .u64 x.val, .bool x.ok] 42 (0, 0))) := hW3 ▸ setRow_heap _ _ _ _ _ (0, 0) N3.out
      have HW3 := Lib.hid hW3
      clear hW3
      go_upto_region 4 with (refine wpList_store_row rfl 42 _ _ rfl (wo.heap.size) _ rfl rfl 42 zeroItem N3.out (by kernel_rfl) rfl (by simp [Value.oneCell']) ?_)
      rw [show (#[.int .i64 0, .int .i64 0, .int .i64 0, .int .u64 0, .int .u64 0, .int .i64 0, .int .u64 0, .bool false] : Array Value) = zeroItem from rfl, HW3.out]
      try simp only [Act.put]
      clear HW3 N3 c0 c1 c3 c4 c5 c6 c7 c8
      have lB : B < wo.heap.size := HI.out.lt
      have RM := Lib.hid ((HB3.out.block B lB).trans RM.out)
      have lM : B < W3.heap.size := Nat.lt_of_lt_of_le lB HB3.out.size
      have lX : wo.heap.size < W3.heap.size := (Array.getElem?_eq_some_iff.1 RX.out).1
      have HFI := Lib.hid HI.out.fits
      have TA := Lib.hid fun w' (hb : Below wo.heap.size wo w') => apply_any (Of3 X B (B + 1) wo) _ m' x.acc w' (Of3.below hb) (Of3.wide X B (B + 1) wo) HST.out HFI.out hgx.out.acc
      unfold accV at TA
      try dsimp only at TA
      obtain ⟨q, hq⟩ : ∃ q, applyE m' x.acc = q := ⟨_, rfl⟩
      have HFR : Hid q.1.fits := by have := fits_apply HFI.out hgx.out.acc; rw [hq] at this; exact this
      have HOK : Hid (okE m' x = (q.2.2 && (q.2.1.val == x.val && q.2.1.ok == x.ok))) := by show okE m' x = _; unfold okE; rw [hq]
      rw [hq] at TA
      have HN : Hid ((if okE m' x then replayE q.1 (l.drop (k + 1)) else (noMem, false)) = r) := by have := HN.out; rw [hq] at this; exact this
      clear hq
      have HBz : Hid (Below wo.heap.size wo W3) := HB3.out
      obtain ⟨x0, x1, x2⟩ := rowc3 RM.out
      obtain ⟨y0, y1, y2, y3, y4, y5, y6, y7⟩ := rowc8 RX.out
      go_wp2_with fail
      refine (TA.out W3 HBz.out).mono ?_; rintro e v1 ⟨u1, z1, rfl, hs1, ha1, hb1⟩
      obtain ⟨P1, pn1, pc1, Q1, qn1, qc1, pt1, rfl⟩ := hs1.shape v1 (Nx.at (Of3.below HBz.out) (Of3.wide _ _ _ _) hb1)
      obtain ⟨ax1, ap1, aq1, AL1, al1, ac1, rfl⟩ := ha1.shape v1 (Nx.at (Of3.below HBz.out) (Of3.wide _ _ _ _) hb1)
      have HSa := Lib.hid hs1
      have HVa := Lib.hid (hs1.at (Nx.at (Of3.below HBz.out) (Of3.wide _ _ _ _) hb1))
      have HUa : Hid (AnsV v1 (.agg #[.int .u64 ax1, .bool ap1, .bool aq1, .slice AL1 al1 ac1]) q.2.1) := StA.at ha1 (Nx.at (Of3.below HBz.out) (Of3.wide _ _ _ _) hb1)
      have HBa := Lib.hid hb1
      have HBq := Lib.hid (below_then HBz.out hb1)
      have RM := Lib.hid ((HBa.out.block (B) lM).trans RM.out)
      have RX := Lib.hid ((HBa.out.block (wo.heap.size) lX).trans RX.out)
      have lM := Nat.lt_of_lt_of_le lM HBa.out.size
      have lX := Nat.lt_of_lt_of_le lX HBa.out.size
      clear hs1 ha1 hb1 x0 x1 x2 y0 y1 y2 y3 y4 y5 y6 y7
      have Z11 : Hid (((v1.alloc (.cells zeroMem 29)).alloc (.cells zeroAns 38)).heap[v1.heap.size]? = some (.cells zeroMem 29 (0, 0))) := heap_alloc2_old _ _ _
      have Z21 : Hid (∀ cs, (((v1.alloc (.cells zeroMem 29)).alloc (.cells zeroAns 38)).setRow v1.heap.size cs).heap[v1.heap.size + 1]? = some (.cells zeroAns 38 (0, 0))) := fun cs => (setRow_other _ _ _ _ (by omega)).trans (heap_alloc2_new _ _ _)
      obtain ⟨W1, hW1⟩ : ∃ W1, (((v1.alloc (.cells zeroMem 29)).alloc (.cells zeroAns 38)).setRow v1.heap.size #[.slice P1 pn1 pc1, .slice Q1 qn1 qc1, .int .i64 pt1]).setRow (v1.heap.size + 1) #[.int .u64 ax1, .bool ap1, .bool aq1, .slice AL1 al1 ac1] = W1 := ⟨_, rfl⟩
      have HBWa : Hid (Below v1.heap.size v1 W1) := hW1 ▸ row_below (row_below (below_new (below_new (Below.refl _ _) _) _) (Nat.le_refl _) _) (Nat.le_succ _) _
      have RMa : Hid (W1.heap[v1.heap.size]? = some (.cells #[.slice P1 pn1 pc1, .slice Q1 qn1 qc1, .int .i64 pt1] 29 (0, 0))) := hW1 ▸ (setRow_other _ _ _ _ (by omega)).trans (setRow_heap _ _ _ _ _ (0, 0) Z11.out)
      have RAa : Hid (W1.heap[v1.heap.size + 1]? = some (.cells #[.int .u64 ax1, .bool ap1, .bool aq1, .slice AL1 al1 ac1] 38 (0, 0))) := hW1 ▸ setRow_heap _ _ _ _ _ (0, 0) (Z21.out _)
      have HW1 := Lib.hid hW1
      clear hW1
      go_upto_region 5 with (first
        | (refine wpList_store_row rfl 29 _ _ rfl (v1.heap.size) _ rfl rfl 29 zeroMem Z11.out (by kernel_rfl) rfl (by simp [Value.oneCell']) ?_)
        | (refine wpList_store_row rfl 38 _ _ rfl (v1.heap.size + 1) _ rfl rfl 38 zeroAns (Z21.out _) (by kernel_rfl) rfl (by simp [Value.oneCell']) ?_))
      rw [show (#[.slice none 0 0, .slice none 0 0, .int .i64 0] : Array Value) = zeroMem from rfl, show (#[.int .u64 0, .bool false, .bool false, .slice none 0 0] : Array Value) = zeroAns from rfl, HW1.out]
      try simp only [Act.put]
      clear HW1 Z11 Z21
      have HMa := Lib.hid (HVa.out.below HBWa.out)
      have HAa := Lib.hid (HUa.out.below HBWa.out)
      have HBz := Lib.hid (below_then HBq.out HBWa.out)
      have RM := Lib.hid ((HBWa.out.block (B) lM).trans RM.out)
      have RX := Lib.hid ((HBWa.out.block (wo.heap.size) lX).trans RX.out)
      have lM := Nat.lt_of_lt_of_le lM HBWa.out.size
      have lX := Nat.lt_of_lt_of_le lX HBWa.out.size
      obtain ⟨x0, x1, x2⟩ := rowc3 RM.out
      obtain ⟨y0, y1, y2, y3, y4, y5, y6, y7⟩ := rowc8 RX.out
      have lPa : v1.heap.size < W1.heap.size := (Array.getElem?_eq_some_iff.1 RMa.out).1
      obtain ⟨eqv, eqo⟩ := AnsV.parts HUa.out
      have HEV := Lib.hid eqv
      have HEO := Lib.hid eqo
      clear eqv eqo x0 x1 x2
      obtain ⟨d0, d1, d2, d3⟩ := rowc4 RAa.out
      cases hok : okE m' x with
      | false =>
        have hr : (noMem, false) = r := by have := HN.out; rw [hok] at this; exact this
        subst hr
        have hko := HOK.out.symm.trans hok
        rw [← HEV.out, ← HEO.out] at hko
        have RR1 := Lib.hid ((HBz.out.block (B + 1) (Array.getElem?_eq_some_iff.1 RR.out).1).trans RR.out)
        have HBf := Lib.hid (below_then HI.out.below HBz.out)
        have HRW := Lib.hid HI.out.rw
        clear HN HOK hok
        cases hq2 : q.2.2 with
        | false =>
          go_wp2_with (refine wpList_store_row rfl 29 _ _ rfl (B + 1) _ rfl rfl 29 zeroMem RR1.out (by kernel_rfl) rfl (by simp [Value.oneCell']) ?_)
          refine bodyPost_ret (v := .tuple #[.agg #[.slice none 0 0, .slice none 0 0, .int .i64 0], .bool false]) (results_cell_tmp Try.results14 _ _ (B + 1) 29 _ (0, 0) _ rfl (setRow_heap _ _ _ _ 29 (0, 0) RR1.out) Try.underlying29 rfl (by kernel_rfl) _ rfl) rfl ?_
          exact ⟨_, rfl, ⟨_, _, [], rfl, fun w5 h5 => ⟨SlI.nil _ _, SlL.nil _⟩⟩, row_below HBf.out HRW.out _⟩
        | true =>
          rw [hq2] at hko
          by_cases hv : ax1 = x.val
          · have hvb : (ax1 != x.val) = false := by simpa using hv
            have hxo : x.ok = !ap1 := by
              rw [hv] at hko
              cases ap1 <;> cases hxo : x.ok <;> simp_all
            clear hv hko
            cases ap1
            all_goals
              simp only [Bool.not_false, Bool.not_true] at hxo
              go_wp2_with (refine wpList_store_row rfl 29 _ _ rfl (B + 1) _ rfl rfl 29 zeroMem RR1.out (by kernel_rfl) rfl (by simp [Value.oneCell']) ?_)
              refine bodyPost_ret (v := .tuple #[.agg #[.slice none 0 0, .slice none 0 0, .int .i64 0], .bool false]) (results_cell_tmp Try.results14 _ _ (B + 1) 29 _ (0, 0) _ rfl (setRow_heap _ _ _ _ 29 (0, 0) RR1.out) Try.underlying29 rfl (by kernel_rfl) _ rfl) rfl ?_
              exact ⟨_, rfl, ⟨_, _, [], rfl, fun w5 h5 => ⟨SlI.nil _ _, SlL.nil _⟩⟩, row_below HBf.out HRW.out _⟩
          · have hvb : (ax1 != x.val) = true := by simpa using hv
            clear hv hko
            go_wp2_with (refine wpList_store_row rfl 29 _ _ rfl (B + 1) _ rfl rfl 29 zeroMem RR1.out (by kernel_rfl) rfl (by simp [Value.oneCell']) ?_)
            refine bodyPost_ret (v := .tuple #[.agg #[.slice none 0 0, .slice none 0 0, .int .i64 0], .bool false]) (results_cell_tmp Try.results14 _ _ (B + 1) 29 _ (0, 0) _ rfl (setRow_heap _ _ _ _ 29 (0, 0) RR1.out) Try.underlying29 rfl (by kernel_rfl) _ rfl) rfl ?_
            exact ⟨_, rfl, ⟨_, _, [], rfl, fun w5 h5 => ⟨SlI.nil _ _, SlL.nil _⟩⟩, row_below HBf.out HRW.out _⟩
      | true =>
        have hr : Hid (replayE q.1 (l.drop (k + 1)) = r) := by have := HN.out; rw [hok] at this; exact this
        have hko := HOK.out.symm.trans hok
        rw [← HEV.out, ← HEO.out] at hko
        simp only [Bool.and_eq_true, beq_iff_eq] at hko
        obtain ⟨hq2, hv, ho⟩ := hko
        subst hv ho
        have hvb : (x.val != x.val) = false := by simp
        have hob : (x.ok != x.ok) = false := by simp
        obtain ⟨eq1, eq2, eq3⟩ := agg_mem6 HSa.out v1 (Nx.at (Of3.below HB3.out) (Of3.wide _ _ _ _) HBa.out)
        subst eq1 eq2 eq3
        have HS2' : Hid (StM (Nx (Of3 X B (B + 1) W3) W3 v1) (.agg #[.slice P1 q.1.words.length pc1, .slice Q1 q.1.lists.length qc1, .int .i64 q.1.tick]) q.1) := HSa.out.sub fun w5 h => ⟨(Of3.below HB3.out).trans h.1, h.2⟩
        have HI8 := Lib.hid ((HI.out.next HB3.out).taken (Nat.lt_of_lt_of_le HXW.out (below_then HI.out.below HB3.out).size) HBa.out HBWa.out HS2'.out HFR.out)
        obtain ⟨p0, p1, p2⟩ := rowc3 RMa.out
        clear HN HOK hok
        go_wp2_with (refine wpList_store_row rfl 29 _ _ rfl B _ rfl rfl 29 _ RM.out (by kernel_rfl) rfl (by simp [Value.oneCell']) ?_)
        go_roundw
        case rel => exact ⟨k + 1, by omega, by go_num, _, hr, HI8⟩
        case measure => simp [intOf]; omega
    · obtain rfl : k = l.length := by omega
      have hr : (m', true) = r := by rw [← HR.out, List.drop_length]; rfl
      subst hr
      clear HR
      obtain ⟨x0, x1, x2⟩ := rowc3 RM.out
      have hBl := HI.out.lt
      go_wp2_with (refine wpList_store_row rfl 29 _ _ rfl (B + 1) _ rfl rfl 29 zeroMem RR.out (by kernel_rfl) rfl (by simp [Value.oneCell']) ?_)
      have HV1 : Hid (StM (Of3 X X X (wo.setRow (B + 1) #[.slice A m'.words.length c, .slice A2 m'.lists.length c2, .int .i64 m'.tick])) (.agg #[.slice A m'.words.length c, .slice A2 m'.lists.length c2, .int .i64 m'.tick]) m') := HST.out.sub fun w5 h5 => ⟨Nat.le_trans (by simp [World.setRow]) h5.1, fun j hj hx h1 h2 => (h5.2 j (by simpa [World.setRow] using hj) hx hx hx).trans (setRow_other _ _ _ _ h2)⟩
      refine bodyPost_ret (v := .tuple #[.agg #[.slice A m'.words.length c, .slice A2 m'.lists.length c2, .int .i64 m'.tick], .bool true]) (results_cell_tmp Try.results14 _ _ (B + 1) 29 _ (0, 0) _ rfl (setRow_heap _ _ _ _ 29 (0, 0) RR.out) Try.underlying29 rfl (by kernel_rfl) _ rfl) rfl ?_
      exact ⟨_, rfl, HV1.out, row_below HI.out.below HI.out.rw _⟩
end Go.Proofs.Ytipjfcjdefdoeaa
