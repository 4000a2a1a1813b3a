/- Recorded accesses are made again: plainly; what the program and the document's answer hand back. -/
import Derived.Test.YtipjfcjdefdoeaaMmH
import Derived.Test.YtipjfcjdefdoeaaOf
import Derived.Test.YtipjfcjdefdoeaaMmS
import Derived.Test.YtipjfcjdefdoeaaRu
import Derived.Test.YtipjfcjdefdoeaaLyN
import Derived.Deep.DeepCutAuto
namespace Go.Proofs.Ytipjfcjdefdoeaa
open Go.ChangeShapes Go.WideShapes Go.ChangeAt Go.RowKit
set_option maxRecDepth 100000

def okE (m : MemM) (x : ItemM) : Bool := (applyE m x.acc).2.2 && ((applyE m x.acc).2.1.val == x.val && (applyE m x.acc).2.1.ok == x.ok)
def noMem : MemM := ⟨[], [], 0⟩
def replayE : MemM → List ItemM → MemM × Bool
  | m, [] => (m, true)
  | m, x :: l => if okE m x then replayE (applyE m x.acc).1 l else (noMem, false)
theorem replay_next {m : MemM} {l : List ItemM} {k : Nat} {x : ItemM} (hk : k < l.length) (hx : l.getD k noItem = x) : replayE m (l.drop k) = if okE m x then replayE (applyE m x.acc).1 (l.drop (k + 1)) else (noMem, false) := by
  have e : l[k] = x := by rw [← hx, List.getD_eq_getElem?_getD, List.getElem?_eq_getElem hk]; rfl
  rw [List.drop_eq_getElem_cons hk, e]
  rfl
def RepR (r : MemM × Bool) (w : World) (e : Ending) (w' : World) : Prop := ∃ v', e = .returned (.tuple #[v', .bool r.2]) ∧ MemV w' v' r.1 ∧ Below w.heap.size w w'
/-- what reads goes on reading while new blocks are written -/
theorem MemV.offNew {w W : World} {v : Value} {m : MemM} {a b : Nat} (h : MemV w v m) (hb : Below w.heap.size w W) (ha : w.heap.size ≤ a) (hbb : w.heap.size ≤ b) : StM (Off a b W) v m := by
  obtain ⟨vw, vl, us, e, h1, h2⟩ := h
  refine ⟨vw, vl, us, e, fun w2 ho => ?_⟩
  have hg : Below w.heap.size w { w with heap := w2.heap } := ⟨rfl, rfl, rfl, Nat.le_trans hb.size ho.1, fun j hj => (ho.2 j (Nat.lt_of_lt_of_le hj hb.size) (by omega) (by omega)).trans (hb.block j hj)⟩
  exact ⟨(h1.below hg).heapEq (w := { w with heap := w2.heap }) rfl, (h2.below hg).heapEq (w := { w with heap := w2.heap }) rfl⟩
/-- while records are made again: the memory's box B, the result's box R -/
structure RepI (w0 wr : World) (B R : Nat) (m : MemM) : Prop where
  bw : w0.heap.size ≤ B
  rw : w0.heap.size ≤ R
  ne : R ≠ B
  mem : ∃ A c A2 c2, wr.heap[B]? = some (.cells #[.slice A m.words.length c, .slice A2 m.lists.length c2, .int .i64 m.tick] 29 (0, 0)) ∧ StM (Off B R wr) (.agg #[.slice A m.words.length c, .slice A2 m.lists.length c2, .int .i64 m.tick]) m
  res : wr.heap[R]? = some (.cells zeroMem 29 (0, 0))
  fits : m.fits
  below : Below w0.heap.size w0 wr
theorem RepI.lt {w0 wr : World} {B R : Nat} {m : MemM} (h : RepI w0 wr B R m) : B < wr.heap.size := by
  obtain ⟨A, c, A2, c2, h1, -⟩ := h.mem
  exact (Array.getElem?_eq_some_iff.1 h1).1
theorem RepI.next {w0 wr w2 : World} {B R : Nat} {m : MemM} (h : RepI w0 wr B R m) (hb : Below wr.heap.size wr w2) : RepI w0 w2 B R m := by
  obtain ⟨A, c, A2, c2, h1, h2⟩ := h.mem
  exact ⟨h.bw, h.rw, h.ne, ⟨A, c, A2, c2, (hb.block B h.lt).trans h1, h2.sub fun w3 h3 => (Off.below hb).trans h3⟩, (hb.block R (Array.getElem?_eq_some_iff.1 h.res).1).trans h.res, h.fits, below_then h.below hb⟩
theorem RepI.open {w0 wr : World} {B R : Nat} {m : MemM} (h : RepI w0 wr B R m) : ∃ A c A2 c2, Hid (wr.heap[B]? = some (.cells #[.slice A m.words.length c, .slice A2 m.lists.length c2, .int .i64 m.tick] 29 (0, 0))) ∧ Hid (StM (Off B R wr) (.agg #[.slice A m.words.length c, .slice A2 m.lists.length c2, .int .i64 m.tick]) m) := h.mem
theorem RepI.taken {w0 wr w1 w2 : World} {B R : Nat} {m m' : MemM} {A A2 : Option Addr} {c c2 : Nat} (h : RepI w0 wr B R m) (hb : Below wr.heap.size wr w1) (hb2 : Below w1.heap.size w1 w2)
    (hs : StM (Nx (Off B R wr) wr w1) (.agg #[.slice A m'.words.length c, .slice A2 m'.lists.length c2, .int .i64 m'.tick]) m') (hf : m'.fits) : RepI w0 (w2.setRow B #[.slice A m'.words.length c, .slice A2 m'.lists.length c2, .int .i64 m'.tick]) B R m' := by
  have hlt := h.lt
  have hbw := h.bw
  have hne := h.ne
  have hs1 := hb.size
  have hs2 := hb2.size
  have h12 := h.next (below_then hb hb2)
  obtain ⟨E, d, E2, d2, h1, h2⟩ := h12.mem
  refine ⟨h.bw, h.rw, h.ne, ⟨A, c, A2, c2, setRow_heap _ _ _ _ _ (0, 0) h1, hs.sub fun w3 h3 => ?_⟩, (setRow_other _ _ _ _ hne).trans h12.res, hf, row_below h12.below hbw _⟩
  exact Off.nx (Off.self _ _ _) hb hlt (Array.getElem?_eq_some_iff.1 h.res).1 w3 ((Off.below hb2).trans (Off.trans ⟨by simp [World.setRow], fun j _ h4 _ => setRow_other w2 B j _ h4⟩ h3))
theorem RepI.start {w : World} {m : MemM} {a a2 : Option Addr} {c c2 : Nat} (h : MemV w (.agg #[.slice a m.words.length c, .slice a2 m.lists.length c2, .int .i64 m.tick]) m) (hf : m.fits) :
    RepI w ((w.alloc (.cells #[.slice a m.words.length c, .slice a2 m.lists.length c2, .int .i64 m.tick] 29)).alloc (.cells zeroMem 29)) w.heap.size (w.heap.size + 1) m := by
  have hb := below_new (below_new (Below.refl w.heap.size w) (.cells #[.slice a m.words.length c, .slice a2 m.lists.length c2, .int .i64 m.tick] 29)) (.cells zeroMem 29)
  exact ⟨Nat.le_refl _, Nat.le_succ _, by omega, ⟨a, c, a2, c2, heap_alloc2_old _ _ _, h.offNew hb (Nat.le_refl _) (Nat.le_succ _)⟩, heap_alloc2_new _ _ _, hf, hb⟩
theorem agg_mem6 {A A2 : Option Addr} {n1 c n2 c2 : Nat} {t : Int} {G : World → Prop} {m : MemM} (h : StM G (.agg #[.slice A n1 c, .slice A2 n2 c2, .int .i64 t]) m) (w : World) (hG : G w) : n1 = m.words.length ∧ n2 = m.lists.length ∧ t = m.tick := by
  obtain ⟨a, cap, a2, cap2, e⟩ := h.open w hG
  simp only [Value.agg.injEq, Array.mk.injEq, List.cons.injEq, Value.slice.injEq, Value.int.injEq, and_true, true_and] at e
  exact ⟨e.1.2.1, e.2.1.2.1, e.2.2⟩
theorem StA.at {G : World → Prop} {v : Value} {b : AnsM} {w : World} (h : StA G v b) (hG : G w) : ∃ vl, v = .agg #[.int .u64 b.val, .bool b.ok, .bool b.late, vl] ∧ SlI w .i64 vl b.list := by
  obtain ⟨vl, e, h1⟩ := h; exact ⟨vl, e, h1 w hG⟩
def AnsV (w : World) (v : Value) (b : AnsM) : Prop := ∃ vl, v = .agg #[.int .u64 b.val, .bool b.ok, .bool b.late, vl] ∧ SlI w .i64 vl b.list
theorem AnsV.below {w w' : World} {v : Value} {b : AnsM} (h : AnsV w v b) (hb : Below w.heap.size w w') : AnsV w' v b := by
  obtain ⟨vl, e, h1⟩ := h; exact ⟨vl, e, h1.below hb⟩
theorem AnsV.parts {w : World} {x : Int} {p q : Bool} {vl : Value} {b : AnsM} (h : AnsV w (.agg #[.int .u64 x, .bool p, .bool q, vl]) b) : x = b.val ∧ p = b.ok := by
  obtain ⟨vl', e, -⟩ := h
  simp only [Value.agg.injEq, Array.mk.injEq, List.cons.injEq, Value.int.injEq, Value.bool.injEq, and_true, true_and] at e
  exact ⟨e.1, e.2.1⟩
set_option maxHeartbeats 16000000 in
theorem replay_any (v lv : Value) (m : MemM) (l : List ItemM) (w : World) (h : MemV w v m) (hf : m.fits) (hl : SlT w lv l) (hn : l.length ≤ 1000) : Calls Try.prog 14 #[v, lv] w (RepR (replayE m l) w) := by
  have HV := Lib.hid h
  have HL := Lib.hid hl
  obtain ⟨a, cap, rfl, hcap⟩ := hl.len
  obtain ⟨vw, vl, us, rfl, h1, h2⟩ := h
  obtain ⟨a1, cap1, rfl, -⟩ := h1.len
  obtain ⟨a2, cap2, rfl, -⟩ := h2.len
  have HI0 := Lib.hid (RepI.start HV.out hf)
  clear h1 h2 hf hl
  obtain ⟨r, hr⟩ : ∃ r, replayE m l = r := ⟨_, rfl⟩
  have HR0 : Hid (replayE m (l.drop 0) = r) := hr
  rw [hr]
  clear hr
  obtain ⟨W, hW⟩ : ∃ W, (w.alloc (.cells #[.slice a1 m.words.length cap1, .slice a2 m.lists.length cap2, .int .i64 m.tick] 29)).alloc (.cells zeroMem 29) = W := ⟨_, rfl⟩
  rw [hW] at HI0
  have HW := Lib.hid hW
  clear hW
  go_enter Try.func14, Try.ntmps14
  go_upto_region 1 with fail
  rw [show (#[.slice none 0 0, .slice none 0 0, .int .i64 0] : Array Value) = zeroMem from rfl, HW.out]
  clear HW
  obtain ⟨B, hB⟩ : ∃ B, w.heap.size = B := ⟨_, rfl⟩
  rw [hB] at HI0
  rw [hB]
  have HBB := Lib.hid hB
  clear hB
  go_wp2_with fail
  go_loopw [13] (fun u wr => ∃ k : Nat, k ≤ l.length ∧ u = .int .i64 k ∧ ∃ m', Hid (replayE m' (l.drop k) = r) ∧ Hid (RepI w wr B (B + 1) m')) (fun u _ => 1001 - (intOf u).toNat)
  case atStart => exact ⟨0, by omega, rfl, _, HR0, HI0⟩
  case round =>
    clear HI0 HR0 HV
    obtain ⟨k, hk, rfl, m', HR, HI⟩ := hrel
    obtain ⟨wo, rfl⟩ : ∃ wo : World, wo = wr := ⟨_, rfl⟩
    obtain ⟨A, c, A2, c2, RM, HST⟩ := HI.out.open
    have RR := Lib.hid HI.out.res
    by_cases hlt : k < l.length
    · obtain ⟨b, off, cap', e, hcap2, hb, hcell⟩ := HL.out.open (by rintro rfl; simp at hlt)
      simp only [Value.slice.injEq] at e
      obtain ⟨rfl, -, rfl⟩ := e
      obtain ⟨x, hx⟩ : ∃ x, l.getD k noItem = x := ⟨_, rfl⟩
      have hck := hcell k hlt
      rw [hx] at hck
      have hgx : Hid x.good := by
        have h1 : (l[k]'hlt).good := HL.out.2.1 _ (List.getElem_mem hlt)
        have h2 : l[k]'hlt = x := by rw [← hx, List.getD_eq_getElem?_getD, List.getElem?_eq_getElem hlt]; rfl
        exact h2 ▸ h1
      have HN : Hid ((if okE m' x then replayE (applyE m' x.acc).1 (l.drop (k + 1)) else (noMem, false)) = r) := (replay_next hlt hx).symm.trans HR.out
      have hbo : b < wo.heap.size := Nat.lt_of_lt_of_le hb HI.out.below.size
      have hcc : ∀ j, wo.cell? ⟨b, j, none⟩ = w.cell? ⟨b, j, none⟩ := fun j => HI.out.below.cell (p := ⟨b, j, none⟩) hb
      obtain ⟨c0, c1, c3, c4, c5, c6, c7, c8⟩ := hck
      rw [← hcc] at c0 c1 c3 c4 c5 c6 c7 c8
      rw [Nat.add_zero] at c0
      have hkI : (k : Int) < (l.length : Int) := by omega
      clear hcell hx hcc HR
      obtain ⟨W3, hW3⟩ : ∃ W3, (wo.alloc (.cells zeroItem 42)).setRow wo.heap.size #[.int .i64 x.thr, .int .i64 x.acc.kind, .int .i64 x.acc.addr, .int .u64 x.acc.old, .int .u64 x.acc.new, .int .i64 x.acc.til, .int .u64 x.val, .bool x.ok] = W3 := ⟨_, rfl⟩
      have N3 : Hid ((wo.alloc (.cells zeroItem 42)).heap[wo.heap.size]? = some (.cells zeroItem 42 (0, 0))) := heap_alloc_new _ _
      have HB3 : Hid (Below wo.heap.size wo W3) := hW3 ▸ row_below (below_new (Below.refl _ _) _) (Nat.le_refl _) _
      have RX : Hid (W3.heap[wo.heap.size]? = some (.cells #[.int .i64 x.thr, .int .i64 x.acc.kind, .int .i64 x.acc.addr, .int .u64 x.acc.old, .int .u64 x.acc.new, .int .i64 x.acc.til, .int .u64 x.val, .bool x.ok] 42 (0, 0))) := hW3 ▸ setRow_heap _ _ _ _ _ (0, 0) N3.out
      have HW3 := Lib.hid hW3
      clear hW3
      go_upto_region 4 with (refine wpList_store_row rfl 42 _ _ rfl (wo.heap.size) _ rfl rfl 42 zeroItem N3.out (by kernel_rfl) rfl (by simp [Value.oneCell']) ?_)
      rw [show (#[.int .i64 0, .int .i64 0, .int .i64 0, .int .u64 0, .int .u64 0, .int .i64 0, .int .u64 0, .bool false] : Array Value) = zeroItem from rfl, HW3.out]
      try simp only [Act.put]
      clear HW3 N3 c0 c1 c3 c4 c5 c6 c7 c8
      have lB : B < wo.heap.size := HI.out.lt
      have RM := Lib.hid ((HB3.out.block B lB).trans RM.out)
      have lM : B < W3.heap.size := Nat.lt_of_lt_of_le lB HB3.out.size
      have lX : wo.heap.size < W3.heap.size := (Array.getElem?_eq_some_iff.1 RX.out).1
      have HFI := Lib.hid HI.out.fits
      have TA := Lib.hid fun w' (hb : Below wo.heap.size wo w') => apply_any (Off B (B + 1) wo) _ m' x.acc w' (Off.below hb) (Off.wide B (B + 1) wo) HST.out HFI.out hgx.out.acc
      unfold accV at TA
      try dsimp only at TA
      obtain ⟨q, hq⟩ : ∃ q, applyE m' x.acc = q := ⟨_, rfl⟩
      have HFR : Hid q.1.fits := by have := fits_apply HFI.out hgx.out.acc; rw [hq] at this; exact this
      have HOK : Hid (okE m' x = (q.2.2 && (q.2.1.val == x.val && q.2.1.ok == x.ok))) := by show okE m' x = _; unfold okE; rw [hq]
      rw [hq] at TA
      have HN : Hid ((if okE m' x then replayE q.1 (l.drop (k + 1)) else (noMem, false)) = r) := by have := HN.out; rw [hq] at this; exact this
      clear hq
      have HBz : Hid (Below wo.heap.size wo W3) := HB3.out
      obtain ⟨x0, x1, x2⟩ := rowc3 RM.out
      obtain ⟨y0, y1, y2, y3, y4, y5, y6, y7⟩ := rowc8 RX.out
      go_wp2_with fail
      refine (TA.out W3 HBz.out).mono ?_; rintro e v1 ⟨u1, z1, rfl, hs1, ha1, hb1⟩
      obtain ⟨P1, pn1, pc1, Q1, qn1, qc1, pt1, rfl⟩ := hs1.shape v1 (Nx.at (Off.below HBz.out) (Off.wide _ _ _) hb1)
      obtain ⟨ax1, ap1, aq1, AL1, al1, ac1, rfl⟩ := ha1.shape v1 (Nx.at (Off.below HBz.out) (Off.wide _ _ _) hb1)
      have HSa := Lib.hid hs1
      have HVa := Lib.hid (hs1.at (Nx.at (Off.below HBz.out) (Off.wide _ _ _) hb1))
      have HUa : Hid (AnsV v1 (.agg #[.int .u64 ax1, .bool ap1, .bool aq1, .slice AL1 al1 ac1]) q.2.1) := StA.at ha1 (Nx.at (Off.below HBz.out) (Off.wide _ _ _) hb1)
      have HBa := Lib.hid hb1
      have HBq := Lib.hid (below_then HBz.out hb1)
      have RM := Lib.hid ((HBa.out.block (B) lM).trans RM.out)
      have RX := Lib.hid ((HBa.out.block (wo.heap.size) lX).trans RX.out)
      have lM := Nat.lt_of_lt_of_le lM HBa.out.size
      have lX := Nat.lt_of_lt_of_le lX HBa.out.size
      clear hs1 ha1 hb1 x0 x1 x2 y0 y1 y2 y3 y4 y5 y6 y7
      have Z11 : Hid (((v1.alloc (.cells zeroMem 29)).alloc (.cells zeroAns 38)).heap[v1.heap.size]? = some (.cells zeroMem 29 (0, 0))) := heap_alloc2_old _ _ _
      have Z21 : Hid (∀ cs, (((v1.alloc (.cells zeroMem 29)).alloc (.cells zeroAns 38)).setRow v1.heap.size cs).heap[v1.heap.size + 1]? = some (.cells zeroAns 38 (0, 0))) := fun cs => (setRow_other _ _ _ _ (by omega)).trans (heap_alloc2_new _ _ _)
      obtain ⟨W1, hW1⟩ : ∃ W1, (((v1.alloc (.cells zeroMem 29)).alloc (.cells zeroAns 38)).setRow v1.heap.size #[.slice P1 pn1 pc1, .slice Q1 qn1 qc1, .int .i64 pt1]).setRow (v1.heap.size + 1) #[.int .u64 ax1, .bool ap1, .bool aq1, .slice AL1 al1 ac1] = W1 := ⟨_, rfl⟩
      have HBWa : Hid (Below v1.heap.size v1 W1) := hW1 ▸ row_below (row_below (below_new (below_new (Below.refl _ _) _) _) (Nat.le_refl _) _) (Nat.le_succ _) _
      have RMa : Hid (W1.heap[v1.heap.size]? = some (.cells #[.slice P1 pn1 pc1, .slice Q1 qn1 qc1, .int .i64 pt1] 29 (0, 0))) := hW1 ▸ (setRow_other _ _ _ _ (by omega)).trans (setRow_heap _ _ _ _ _ (0, 0) Z11.out)
      have RAa : Hid (W1.heap[v1.heap.size + 1]? = some (.cells #[.int .u64 ax1, .bool ap1, .bool aq1, .slice AL1 al1 ac1] 38 (0, 0))) := hW1 ▸ setRow_heap _ _ _ _ _ (0, 0) (Z21.out _)
      have HW1 := Lib.hid hW1
      clear hW1
      go_upto_region 5 with (first
        | (refine wpList_store_row rfl 29 _ _ rfl (v1.heap.size) _ rfl rfl 29 zeroMem Z11.out (by kernel_rfl) rfl (by simp [Value.oneCell']) ?_)
        | (refine wpList_store_row rfl 38 _ _ rfl (v1.heap.size + 1) _ rfl rfl 38 zeroAns (Z21.out _) (by kernel_rfl) rfl (by simp [Value.oneCell']) ?_))
      rw [show (#[.slice none 0 0, .slice none 0 0, .int .i64 0] : Array Value) = zeroMem from rfl, show (#[.int .u64 0, .bool false, .bool false, .slice none 0 0] : Array Value) = zeroAns from rfl, HW1.out]
      try simp only [Act.put]
      clear HW1 Z11 Z21
      have HMa := Lib.hid (HVa.out.below HBWa.out)
      have HAa := Lib.hid (HUa.out.below HBWa.out)
      have HBz := Lib.hid (below_then HBq.out HBWa.out)
      have RM := Lib.hid ((HBWa.out.block (B) lM).trans RM.out)
      have RX := Lib.hid ((HBWa.out.block (wo.heap.size) lX).trans RX.out)
      have lM := Nat.lt_of_lt_of_le lM HBWa.out.size
      have lX := Nat.lt_of_lt_of_le lX HBWa.out.size
      obtain ⟨x0, x1, x2⟩ := rowc3 RM.out
      obtain ⟨y0, y1, y2, y3, y4, y5, y6, y7⟩ := rowc8 RX.out
      have lPa : v1.heap.size < W1.heap.size := (Array.getElem?_eq_some_iff.1 RMa.out).1
      obtain ⟨eqv, eqo⟩ := AnsV.parts HUa.out
      have HEV := Lib.hid eqv
      have HEO := Lib.hid eqo
      clear eqv eqo x0 x1 x2
      obtain ⟨d0, d1, d2, d3⟩ := rowc4 RAa.out
      cases hok : okE m' x with
      | false =>
        have hr : (noMem, false) = r := by have := HN.out; rw [hok] at this; exact this
        subst hr
        have hko := HOK.out.symm.trans hok
        rw [← HEV.out, ← HEO.out] at hko
        have RR1 := Lib.hid ((HBz.out.block (B + 1) (Array.getElem?_eq_some_iff.1 RR.out).1).trans RR.out)
        have HBf := Lib.hid (below_then HI.out.below HBz.out)
        have HRW := Lib.hid HI.out.rw
        clear HN HOK hok
        cases hq2 : q.2.2 with
        | false =>
          go_wp2_with (refine wpList_store_row rfl 29 _ _ rfl (B + 1) _ rfl rfl 29 zeroMem RR1.out (by kernel_rfl) rfl (by simp [Value.oneCell']) ?_)
          refine bodyPost_ret (v := .tuple #[.agg #[.slice none 0 0, .slice none 0 0, .int .i64 0], .bool false]) (results_cell_tmp Try.results14 _ _ (B + 1) 29 _ (0, 0) _ rfl (setRow_heap _ _ _ _ 29 (0, 0) RR1.out) Try.underlying29 rfl (by kernel_rfl) _ rfl) rfl ?_
          exact ⟨_, rfl, ⟨_, _, [], rfl, SlI.nil _ _, SlL.nil _⟩, row_below HBf.out HRW.out _⟩
        | true =>
          rw [hq2] at hko
          by_cases hv : ax1 = x.val
          · have hvb : (ax1 != x.val) = false := by simpa using hv
            have hxo : x.ok = !ap1 := by
              rw [hv] at hko
              cases ap1 <;> cases hxo : x.ok <;> simp_all
            clear hv hko
            cases ap1
            all_goals
              simp only [Bool.not_false, Bool.not_true] at hxo
              go_wp2_with (refine wpList_store_row rfl 29 _ _ rfl (B + 1) _ rfl rfl 29 zeroMem RR1.out (by kernel_rfl) rfl (by simp [Value.oneCell']) ?_)
              refine bodyPost_ret (v := .tuple #[.agg #[.slice none 0 0, .slice none 0 0, .int .i64 0], .bool false]) (results_cell_tmp Try.results14 _ _ (B + 1) 29 _ (0, 0) _ rfl (setRow_heap _ _ _ _ 29 (0, 0) RR1.out) Try.underlying29 rfl (by kernel_rfl) _ rfl) rfl ?_
              exact ⟨_, rfl, ⟨_, _, [], rfl, SlI.nil _ _, SlL.nil _⟩, row_below HBf.out HRW.out _⟩
          · have hvb : (ax1 != x.val) = true := by simpa using hv
            clear hv hko
            go_wp2_with (refine wpList_store_row rfl 29 _ _ rfl (B + 1) _ rfl rfl 29 zeroMem RR1.out (by kernel_rfl) rfl (by simp [Value.oneCell']) ?_)
            refine bodyPost_ret (v := .tuple #[.agg #[.slice none 0 0, .slice none 0 0, .int .i64 0], .bool false]) (results_cell_tmp Try.results14 _ _ (B + 1) 29 _ (0, 0) _ rfl (setRow_heap _ _ _ _ 29 (0, 0) RR1.out) Try.underlying29 rfl (by kernel_rfl) _ rfl) rfl ?_
            exact ⟨_, rfl, ⟨_, _, [], rfl, SlI.nil _ _, SlL.nil _⟩, row_below HBf.out HRW.out _⟩
      | true =>
        have hr : Hid (replayE q.1 (l.drop (k + 1)) = r) := by have := HN.out; rw [hok] at this; exact this
        have hko := HOK.out.symm.trans hok
        rw [← HEV.out, ← HEO.out] at hko
        simp only [Bool.and_eq_true, beq_iff_eq] at hko
        obtain ⟨hq2, hv, ho⟩ := hko
        subst hv ho
        have hvb : (x.val != x.val) = false := by simp
        have hob : (x.ok != x.ok) = false := by simp
        obtain ⟨eq1, eq2, eq3⟩ := agg_mem6 HSa.out v1 (Nx.at (Off.below HB3.out) (Off.wide _ _ _) HBa.out)
        subst eq1 eq2 eq3
        have HS2' : Hid (StM (Nx (Off B (B + 1) W3) W3 v1) (.agg #[.slice P1 q.1.words.length pc1, .slice Q1 q.1.lists.length qc1, .int .i64 q.1.tick]) q.1) := HSa.out.sub fun w5 h => ⟨(Off.below HB3.out).trans h.1, h.2⟩
        have HI8 := Lib.hid ((HI.out.next HB3.out).taken HBa.out HBWa.out HS2'.out HFR.out)
        obtain ⟨p0, p1, p2⟩ := rowc3 RMa.out
        clear HN HOK hok
        go_wp2_with (refine wpList_store_row rfl 29 _ _ rfl B _ rfl rfl 29 _ RM.out (by kernel_rfl) rfl (by simp [Value.oneCell']) ?_)
        go_roundw
        case rel => exact ⟨k + 1, by omega, by go_num, _, hr, HI8⟩
        case measure => simp [intOf]; omega
    · obtain rfl : k = l.length := by omega
      have hr : (m', true) = r := by rw [← HR.out, List.drop_length]; rfl
      subst hr
      clear HR
      obtain ⟨x0, x1, x2⟩ := rowc3 RM.out
      have hBl := HI.out.lt
      go_wp2_with (refine wpList_store_row rfl 29 _ _ rfl (B + 1) _ rfl rfl 29 zeroMem RR.out (by kernel_rfl) rfl (by simp [Value.oneCell']) ?_)
      have HV1 : Hid (MemV (wo.setRow (B + 1) #[.slice A m'.words.length c, .slice A2 m'.lists.length c2, .int .i64 m'.tick]) (.agg #[.slice A m'.words.length c, .slice A2 m'.lists.length c2, .int .i64 m'.tick]) m') := HST.out.at ⟨by simp [World.setRow], fun j hj h1 h2 => setRow_other _ _ _ _ h2⟩
      refine bodyPost_ret (v := .tuple #[.agg #[.slice A m'.words.length c, .slice A2 m'.lists.length c2, .int .i64 m'.tick], .bool true]) (results_cell_tmp Try.results14 _ _ (B + 1) 29 _ (0, 0) _ rfl (setRow_heap _ _ _ _ 29 (0, 0) RR.out) Try.underlying29 rfl (by kernel_rfl) _ rfl) rfl ?_
      exact ⟨_, rfl, HV1.out, row_below HI.out.below HI.out.rw _⟩
end Go.Proofs.Ytipjfcjdefdoeaa
