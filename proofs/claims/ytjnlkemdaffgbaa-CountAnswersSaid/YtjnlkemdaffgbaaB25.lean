
import Derived.Test.YtjnlkemdaffgbaaB15
import Derived.Test.YtjnlkemdaffgbaaB21
import Derived.Test.YtjnlkemdaffgbaaB23
import Derived.Test.YtjnlkemdaffgbaaB24
import Derived.Test.YtjnlkemdaffgbaaB04
set_option linter.unusedVariables false
set_option linter.unusedSimpArgs false
/- Layer 11: the law's worlds: own, same, step. -/
namespace Go.Proofs.Ytjnlkemdaffgbaa
open Go.ChangeShapes Go.WideShapes Go.ChangeAt Go.RowKit
set_option maxRecDepth 100000

theorem rowc2 {w : World} {g : Nat} {T : TypeId} {v0 v1 : Value} (h : w.heap[g]? = some (.cells #[v0, v1] T (0, 0))) : w.cell? ⟨g, 0, none⟩ = some v0 ∧ w.cell? ⟨g, 1, none⟩ = some v1 :=
  ⟨cell_of_row _ _ 0 _ _ _ h, cell_of_row _ _ 1 _ _ _ h⟩
/-- the layer's own machines -/
def ownM (m : MachM) : Bool := m.what == 6
/-- what the program's machine does, by its frame, as the document's machine m in the configuration c, in all worlds of G -/
structure Sim (NE : ConfM → MachM → AccM) (RE : ConfM → MachM → AnsM → MachM) (ownB : MachM → Bool) (R : (World → Prop) → ConfM → List Value → MachM → Prop) : Prop where
  sub : ∀ {G H : World → Prop} {c : ConfM} {f : List Value} {m : MachM}, R G c f m → (∀ w, H w → G w) → R H c f m
  form : ∀ {G : World → Prop} {c : ConfM} {f : List Value} {m : MachM}, R G c f m → ownB m = true → ∃ r0 r1 a2 n2 c2 a3 n3 c3 a4 n4 c4, f = [.int .i64 r0, .int .i64 r1, .slice a2 n2 c2, .slice a3 n3 c3, .slice a4 n4 c4]
  ends : ∀ {G : World → Prop} {c : ConfM} {f : List Value} {m : MachM} (w : World), G w → R G c f m → ownB m = true → Calls Try.prog 18 #[.agg f.toArray] w fun e w' => e = .returned (.tuple #[.agg #[.int .i64 m.ok, .int .u64 m.ov], .bool (m.pl == 0)]) ∧ Below w.heap.size w w'
  next : ∀ {G : World → Prop} {c : ConfM} {f : List Value} {m : MachM} (w : World), G w → R G c f m → ownB m = true → Calls Try.prog 27 #[.agg f.toArray] w fun e w' => e = .returned (accV (NE c m)) ∧ Below w.heap.size w w'
  resume : ∀ {G : World → Prop} {c : ConfM} {f : List Value} {m : MachM} (w : World) (b : AnsM) (zA : Option Addr) (zn zc : Nat), U64 b.val → G w → R G c f m → ownB m = true → m.pl ≠ 0 → Calls Try.prog 17 #[.agg f.toArray, .agg #[.int .u64 b.val, .bool b.ok, .bool b.late, .slice zA zn zc]] w fun e w' => ∃ f2, e = .returned (.agg f2.toArray) ∧ R (Nx G w w') c f2 (RE c m b) ∧ Below w.heap.size w w'
  stays : ∀ (c : ConfM) (m : MachM) (b : AnsM), ownB (RE c m b) = ownB m
  others : ∀ (G : World → Prop) (c : ConfM) (f : List Value) (m : MachM), ownB m = false → R G c f m
theorem range5 {w : World} {b o : Nat} {v0 v1 v2 v3 v4 : Value} (h : w.rangeAt b o [v0, v1, v2, v3, v4]) :
    w.cell? ⟨b, o, none⟩ = some v0 ∧ w.cell? ⟨b, o + 1, none⟩ = some v1 ∧ w.cell? ⟨b, o + 2, none⟩ = some v2 ∧ w.cell? ⟨b, o + 3, none⟩ = some v3 ∧ w.cell? ⟨b, o + 4, none⟩ = some v4 :=
  ⟨h 0 _ rfl, h 1 _ rfl, h 2 _ rfl, h 3 _ rfl, h 4 _ rfl⟩
theorem WI.frameAt {WT : TypeId} {w0 wr : World} {E : List (Option Nat)} {B D : Nat} {x : WV} {y : WM} (h : WI WT w0 wr E B D x y) (i : Nat) (hi : i < y.f.length) : ∃ fl fc, x.vf y = .slice (some ⟨fl, 0, none⟩) y.f.length fc ∧ x.fA = some ⟨fl, 0, none⟩ ∧ x.fc = fc ∧ D ≤ fl ∧ fl < wr.heap.size ∧ y.f.length ≤ fc ∧ wr.rangeAt fl (i * 5) y.f[i] ∧ wr.there fl (i * 5) 5 := by
  obtain ⟨fl, fc, e, h1, h2, h3⟩ := h.of.open (by omega)
  have e' := e
  simp only [WV.vf, Value.slice.injEq, true_and] at e'
  have ho := h.of
  rw [e] at ho
  have hr := ho.row i hi
  exact ⟨fl, fc, e, e'.1, e'.2, h1, h2, h3, hr.1, hr.2⟩
set_option maxHeartbeats 4000000 in
theorem wown_any (v2 v3 : Value) (h2 : ∃ a n c, v2 = .slice a n c) (h3 : ∃ a n c, v3 = .slice a n c) (th : Int) (m : MachM) (w : World) : Calls Try.prog 24 #[.agg (machL v2 v3 th m).toArray] w fun e w' => e = .returned (.bool (ownM m)) ∧ Below w.heap.size w w' := by
  obtain ⟨a2, n2, c2, rfl⟩ := h2
  obtain ⟨a3, n3, c3, rfl⟩ := h3
  unfold machL
  have HB := Lib.hid (below_new (Below.refl w.heap.size w) (.cells #[.int .i64 m.what, .int .i64 m.pl, .slice a2 n2 c2, .slice a3 n3 c3, .int .i64 th, .int .i64 m.chan, .int .i64 m.thr, .int .i64 m.idx, .int .i64 m.kind, .int .u64 m.val, .int .u64 m.t, .int .u64 m.h, .int .i64 m.ok, .int .u64 m.ov] 58))
  go_enter Try.func24, Try.ntmps24
  go_wp2
  go_ret
  exact ⟨by first | rfl | (unfold ownM; rfl) | (unfold ownM; simp), HB.out⟩
set_option maxRecDepth 100000 in
set_option maxHeartbeats 16000000 in
/-- the program's machine and the document's are alike -/
theorem wsame_own {NE : ConfM → MachM → AccM} {RE : ConfM → MachM → AnsM → MachM} {R : (World → Prop) → ConfM → List Value → MachM → Prop} {K : ConfM → MachM → Prop} (hs : Sim NE RE ownM R) (hd : Doc NE RE K)
    {w0 w : World} {E : List (Option Nat)} {B D : Nat} {x : WV} {y : WM} (h : WI 49 w0 w E B D x y) (hf : FrI R (OffS (x.S E B) w) y) (hk : ∀ m ∈ y.l, K y.c m) (i : Nat) (hi : i < y.l.length) (hl : y.l.length ≤ 1000) (hown : ownM y.l[i] = true) : Calls Try.prog 15 #[.pointer (some ⟨B, 0, none⟩), .int .i64 i] w fun e w' => e = .returned (.bool true) ∧ Below w.heap.size w w' := by
  obtain ⟨m, hm⟩ : ∃ m, y.l[i] = m := ⟨_, rfl⟩
  have hfi : i < y.f.length := by rw [hf.1]; exact hi
  obtain ⟨gl, lc, hvl, hlA, hlc, hgl, hgls, hcap, RG, TH⟩ := h.machAt i hi
  obtain ⟨fl, fc, hvf, hfA, hfc, hfl, hfls, hfcap, FG, FT⟩ := h.frameAt i hfi
  have hK := hk m (hm ▸ List.getElem_mem hi)
  rw [hm] at hown
  have hR := hf.2 i hfi hi
  rw [hm] at RG hR
  have HOB : Hid (ownM m = true) := hown
  obtain ⟨r0, r1, s2, k2, l2, s3, k3, l3, s4, k4, l4, he⟩ := hs.form hR HOB.out
  rw [he] at FG
  have TE := Lib.hid fun w' (hb : Below w.heap.size w w') => hs.ends w' (OffS.below hb) hR HOB.out
  have TN := Lib.hid fun w' (hb : Below w.heap.size w w') => hs.next w' (OffS.below hb) hR HOB.out
  rw [he] at TE TN
  have TM := Lib.hid fun w' (hb : Below w.heap.size w w') => hd.next y.c m x.cA x.sA x.cc x.sc w' hK h.good (h.next hb).confV
  obtain ⟨a, ha⟩ : ∃ a, NE y.c m = a := ⟨_, rfl⟩
  rw [ha] at TN TM
  unfold accV at TN TM
  unfold machL at TM RG
  unfold WV.vc WV.vs at RG
  try dsimp only at TN TM
  have TO := Lib.hid fun w' => wown_any (x.vc y.c) (x.vs y.c) ⟨_, _, _, rfl⟩ ⟨_, _, _, rfl⟩ y.c.threads m w'
  rw [HOB.out] at TO
  unfold machL WV.vc WV.vs at TO
  obtain ⟨eb, heb⟩ : ∃ eb, (m.pl == 0) = eb := ⟨_, rfl⟩
  rw [heb] at TE
  have HRG := Lib.hid RG
  have HFG := Lib.hid FG
  have row0 := h.row
  have hBl := h.lt
  unfold WV.row at row0
  rw [hlA, hlc, hfA, hfc] at row0
  have ROW := Lib.hid row0
  have hiI : (i : Int) < (y.l.length : Int) := by omega
  have hiF : (i : Int) < (y.f.length : Int) := by omega
  have hfl2 : y.f.length ≤ 1000 := by rw [hf.1]; exact hl
  clear h hf hk hvl hlA hlc RG TH hvf hfA hfc FG FT hK hR he ha row0 hs hd hm hown HOB
  have HEB := Lib.hid heb
  clear heb
  go_enter Try.func15, Try.ntmps15
  obtain ⟨x0, x1, x2, x3, x4, x5, x6, x7, x8, x9⟩ := rowc10 ROW.out
  obtain ⟨q0, q1, q2, q3, q4, q5, q6, q7, q8, q9, q10, q11, q12, q13⟩ := range14 HRG.out
  obtain ⟨W1, hW1⟩ : ∃ W1, (w.alloc (.cells #[.int .i64 0, .int .i64 0, .slice none 0 0, .slice none 0 0, .int .i64 0, .int .i64 0, .int .i64 0, .int .i64 0, .int .i64 0, .int .u64 0, .int .u64 0, .int .u64 0, .int .i64 0, .int .u64 0] 58)).setRow w.heap.size #[.int .i64 m.what, .int .i64 m.pl, .slice x.cA y.c.caps.length x.cc, .slice x.sA y.c.starts.length x.sc, .int .i64 y.c.threads, .int .i64 m.chan, .int .i64 m.thr, .int .i64 m.idx, .int .i64 m.kind, .int .u64 m.val, .int .u64 m.t, .int .u64 m.h, .int .i64 m.ok, .int .u64 m.ov] = W1 := ⟨_, rfl⟩
  have N1 : Hid ((w.alloc (.cells #[.int .i64 0, .int .i64 0, .slice none 0 0, .slice none 0 0, .int .i64 0, .int .i64 0, .int .i64 0, .int .i64 0, .int .i64 0, .int .u64 0, .int .u64 0, .int .u64 0, .int .i64 0, .int .u64 0] 58)).heap[w.heap.size]? = some (.cells #[.int .i64 0, .int .i64 0, .slice none 0 0, .slice none 0 0, .int .i64 0, .int .i64 0, .int .i64 0, .int .i64 0, .int .i64 0, .int .u64 0, .int .u64 0, .int .u64 0, .int .i64 0, .int .u64 0] 58 (0, 0))) := heap_alloc_new _ _
  have HB1 : Hid (Below w.heap.size w W1) := hW1 ▸ row_below (below_new (Below.refl _ _) _) (Nat.le_refl _) _
  have R1 : Hid (W1.heap[w.heap.size]? = some (.cells #[.int .i64 m.what, .int .i64 m.pl, .slice x.cA y.c.caps.length x.cc, .slice x.sA y.c.starts.length x.sc, .int .i64 y.c.threads, .int .i64 m.chan, .int .i64 m.thr, .int .i64 m.idx, .int .i64 m.kind, .int .u64 m.val, .int .u64 m.t, .int .u64 m.h, .int .i64 m.ok, .int .u64 m.ov] 58 (0, 0))) := hW1 ▸ setRow_heap _ _ _ _ _ (0, 0) N1.out
  have HW1 := Lib.hid hW1
  clear hW1
  go_upto_region 2 with (refine wpList_store_row rfl 58 _ _ rfl (w.heap.size) _ rfl rfl 58 #[.int .i64 0, .int .i64 0, .slice none 0 0, .slice none 0 0, .int .i64 0, .int .i64 0, .int .i64 0, .int .i64 0, .int .i64 0, .int .u64 0, .int .u64 0, .int .u64 0, .int .i64 0, .int .u64 0] N1.out (by kernel_rfl) rfl (by simp [Value.oneCell']) ?_)
  rw [HW1.out]
  try simp only [Act.put]
  clear HW1 N1
  obtain ⟨P, hP⟩ : ∃ P, w.heap.size = P := ⟨_, rfl⟩
  rw [hP] at R1
  rw [hP]
  clear hP

  have hPl : P < W1.heap.size := (Array.getElem?_eq_some_iff.1 R1.out).1
  clear x0 x1 x2 x3 x4 x5 x6 x7 x8 x9 q0 q1 q2 q3 q4 q5 q6 q7 q8 q9 q10 q11 q12 q13
  obtain ⟨q0, q1, q2, q3, q4, q5, q6, q7, q8, q9, q10, q11, q12, q13⟩ := rowc14 R1.out
  go_wp2_with fail
  refine (TO.out _).mono ?_; rintro e w2 ⟨rfl, hb2⟩
  have HB02 := Lib.hid (below_then HB1.out hb2)
  have R2 := Lib.hid ((hb2.block P hPl).trans R1.out)
  clear hb2 q0 q1 q2 q3 q4 q5 q6 q7 q8 q9 q10 q11 q12 q13 TO
  obtain ⟨x0, x1, x2, x3, x4, x5, x6, x7, x8, x9⟩ := rowc10 ((HB02.out.block B hBl).trans ROW.out)
  obtain ⟨f0, f1, f2, f3, f4⟩ := range5 (range_below HFG.out HB02.out hfls)
  go_wp2_with fail
  refine (TE.out _ HB02.out).mono ?_; rintro e w3 ⟨rfl, hb3⟩
  have HB03 := Lib.hid (below_then HB02.out hb3)
  have R3 := Lib.hid ((hb3.block P (Array.getElem?_eq_some_iff.1 R2.out).1).trans R2.out)
  clear hb3 x0 x1 x2 x3 x4 x5 x6 x7 x8 x9 f0 f1 f2 f3 f4
  obtain ⟨W4, hW4⟩ : ∃ W4, (w3.alloc (.cells #[.int .i64 0, .int .u64 0] 56)).setRow w3.heap.size #[.int .i64 m.ok, .int .u64 m.ov] = W4 := ⟨_, rfl⟩
  have N4 : Hid ((w3.alloc (.cells #[.int .i64 0, .int .u64 0] 56)).heap[w3.heap.size]? = some (.cells #[.int .i64 0, .int .u64 0] 56 (0, 0))) := heap_alloc_new _ _
  have HB4 : Hid (Below w3.heap.size w3 W4) := hW4 ▸ row_below (below_new (Below.refl _ _) _) (Nat.le_refl _) _
  have R4 : Hid (W4.heap[w3.heap.size]? = some (.cells #[.int .i64 m.ok, .int .u64 m.ov] 56 (0, 0))) := hW4 ▸ setRow_heap _ _ _ _ _ (0, 0) N4.out
  have HW4 := Lib.hid hW4
  clear hW4
  go_upto_region 5 with (refine wpList_store_row rfl 56 _ _ rfl (w3.heap.size) _ rfl rfl 56 #[.int .i64 0, .int .u64 0] N4.out (by kernel_rfl) rfl (by simp [Value.oneCell']) ?_)
  rw [HW4.out]
  try simp only [Act.put]
  clear HW4 N4
  obtain ⟨O, hO⟩ : ∃ O, w3.heap.size = O := ⟨_, rfl⟩
  rw [hO] at R4
  rw [hO]
  clear hO

  have HB04 := Lib.hid (below_then HB03.out HB4.out)
  have R5 := Lib.hid ((HB4.out.block P (Array.getElem?_eq_some_iff.1 R3.out).1).trans R3.out)
  have hPl4 := (Array.getElem?_eq_some_iff.1 R5.out).1
  have hOl4 := (Array.getElem?_eq_some_iff.1 R4.out).1
  have GN := Lib.hid fun n : Ext W4 => TN.out n.wd (below_then HB04.out n.below)
  have GM := Lib.hid fun n : Ext W4 => TM.out n.wd (below_then HB04.out n.below)
  obtain ⟨x0, x1, x2, x3, x4, x5, x6, x7, x8, x9⟩ := rowc10 ((HB04.out.block B hBl).trans ROW.out)
  obtain ⟨f0, f1, f2, f3, f4⟩ := range5 (range_below HFG.out HB04.out hfls)
  obtain ⟨q0, q1, q2, q3, q4, q5, q6, q7, q8, q9, q10, q11, q12, q13⟩ := rowc14 R5.out
  obtain ⟨o0, o1⟩ := rowc2 R4.out
  have hB4 := Nat.lt_of_lt_of_le hBl HB04.out.size
  have hF4 := Nat.lt_of_lt_of_le hfls HB04.out.size
  have X9 := ext_cell B 9 hB4 _ x9
  have F0 := ext_cell fl (i * 5) hF4 _ f0
  have F1 := ext_cell fl (i * 5 + 1) hF4 _ f1
  have F2 := ext_cell fl (i * 5 + 2) hF4 _ f2
  have F3 := ext_cell fl (i * 5 + 3) hF4 _ f3
  have F4 := ext_cell fl (i * 5 + 4) hF4 _ f4
  have Q0 := ext_cell P 0 hPl4 _ q0
  have Q1 := ext_cell P 1 hPl4 _ q1
  have Q2 := ext_cell P 2 hPl4 _ q2
  have Q3 := ext_cell P 3 hPl4 _ q3
  have Q4 := ext_cell P 4 hPl4 _ q4
  have Q5 := ext_cell P 5 hPl4 _ q5
  have Q6 := ext_cell P 6 hPl4 _ q6
  have Q7 := ext_cell P 7 hPl4 _ q7
  have Q8 := ext_cell P 8 hPl4 _ q8
  have Q9 := ext_cell P 9 hPl4 _ q9
  have Q10 := ext_cell P 10 hPl4 _ q10
  have Q11 := ext_cell P 11 hPl4 _ q11
  have Q12 := ext_cell P 12 hPl4 _ q12
  have Q13 := ext_cell P 13 hPl4 _ q13
  have O0 := ext_cell O 0 hOl4 _ o0
  have O1 := ext_cell O 1 hOl4 _ o1
  have hebx := HEB.out
  clear x0 x1 x2 x3 x4 x5 x6 x7 x8 x9 q0 q1 q2 q3 q4 q5 q6 q7 q8 q9 q10 q11 q12 q13 f0 f1 f2 f3 f4 o0 o1 TN TM TE
  go_upto_region 5 with fail
  refine wp_region_ext W4 (by kernel_rfl) (by kernel_rfl) (Below.refl _ _) ?_
  repeat (go_big_quiet_step (first
    | (go_at_call 27; with_reducible exact calls_ext (GN.out _))
    | (go_at_call 28; with_reducible exact calls_ext (GM.out _))))
  refine wpQuiet_nil ?_
  intro _ hw'
  obtain ⟨n9, rfl⟩ := hw'
  have HFN := Lib.hid (below_then HB04.out n9.below)
  generalize n9.wd = w9 at *
  clear X9 F0 F1 F2 F3 F4 Q0 Q1 Q2 Q3 Q4 Q5 Q6 Q7 Q8 Q9 Q10 Q11 Q12 Q13 O0 O1 GN GM hebx
  go_wp2
  go_ret
  exact ⟨rfl, HFN.out⟩
set_option maxRecDepth 100000 in
set_option maxHeartbeats 16000000 in
/-- a machine that is not the layer's own -/
theorem wsame_not {NE : ConfM → MachM → AccM} {RE : ConfM → MachM → AnsM → MachM} {R : (World → Prop) → ConfM → List Value → MachM → Prop} {K : ConfM → MachM → Prop} (hs : Sim NE RE ownM R) (hd : Doc NE RE K)
    {w0 w : World} {E : List (Option Nat)} {B D : Nat} {x : WV} {y : WM} (h : WI 49 w0 w E B D x y) (hf : FrI R (OffS (x.S E B) w) y) (hk : ∀ m ∈ y.l, K y.c m) (i : Nat) (hi : i < y.l.length) (hl : y.l.length ≤ 1000) (hown : ownM y.l[i] = false) : Calls Try.prog 15 #[.pointer (some ⟨B, 0, none⟩), .int .i64 i] w fun e w' => e = .returned (.bool true) ∧ Below w.heap.size w w' := by
  obtain ⟨m, hm⟩ : ∃ m, y.l[i] = m := ⟨_, rfl⟩
  obtain ⟨gl, lc, hvl, hlA, hlc, hgl, hgls, hcap, RG, TH⟩ := h.machAt i hi
  have hK := hk m (hm ▸ List.getElem_mem hi)
  rw [hm] at hown
  rw [hm] at RG
  have HOB : Hid (ownM m = false) := hown
  unfold machL at RG
  unfold WV.vc WV.vs at RG
  have TO := Lib.hid fun w' => wown_any (x.vc y.c) (x.vs y.c) ⟨_, _, _, rfl⟩ ⟨_, _, _, rfl⟩ y.c.threads m w'
  rw [HOB.out] at TO
  unfold machL WV.vc WV.vs at TO
  have HRG := Lib.hid RG
  have row0 := h.row
  have hBl := h.lt
  unfold WV.row at row0
  rw [hlA, hlc] at row0
  have ROW := Lib.hid row0
  have hiI : (i : Int) < (y.l.length : Int) := by omega
  clear h hf hk hvl hlA hlc RG TH hK row0 hs hd hm hown HOB
  go_enter Try.func15, Try.ntmps15
  obtain ⟨x0, x1, x2, x3, x4, x5, x6, x7, x8, x9⟩ := rowc10 ROW.out
  obtain ⟨q0, q1, q2, q3, q4, q5, q6, q7, q8, q9, q10, q11, q12, q13⟩ := range14 HRG.out
  obtain ⟨W1, hW1⟩ : ∃ W1, (w.alloc (.cells #[.int .i64 0, .int .i64 0, .slice none 0 0, .slice none 0 0, .int .i64 0, .int .i64 0, .int .i64 0, .int .i64 0, .int .i64 0, .int .u64 0, .int .u64 0, .int .u64 0, .int .i64 0, .int .u64 0] 58)).setRow w.heap.size #[.int .i64 m.what, .int .i64 m.pl, .slice x.cA y.c.caps.length x.cc, .slice x.sA y.c.starts.length x.sc, .int .i64 y.c.threads, .int .i64 m.chan, .int .i64 m.thr, .int .i64 m.idx, .int .i64 m.kind, .int .u64 m.val, .int .u64 m.t, .int .u64 m.h, .int .i64 m.ok, .int .u64 m.ov] = W1 := ⟨_, rfl⟩
  have N1 : Hid ((w.alloc (.cells #[.int .i64 0, .int .i64 0, .slice none 0 0, .slice none 0 0, .int .i64 0, .int .i64 0, .int .i64 0, .int .i64 0, .int .i64 0, .int .u64 0, .int .u64 0, .int .u64 0, .int .i64 0, .int .u64 0] 58)).heap[w.heap.size]? = some (.cells #[.int .i64 0, .int .i64 0, .slice none 0 0, .slice none 0 0, .int .i64 0, .int .i64 0, .int .i64 0, .int .i64 0, .int .i64 0, .int .u64 0, .int .u64 0, .int .u64 0, .int .i64 0, .int .u64 0] 58 (0, 0))) := heap_alloc_new _ _
  have HB1 : Hid (Below w.heap.size w W1) := hW1 ▸ row_below (below_new (Below.refl _ _) _) (Nat.le_refl _) _
  have R1 : Hid (W1.heap[w.heap.size]? = some (.cells #[.int .i64 m.what, .int .i64 m.pl, .slice x.cA y.c.caps.length x.cc, .slice x.sA y.c.starts.length x.sc, .int .i64 y.c.threads, .int .i64 m.chan, .int .i64 m.thr, .int .i64 m.idx, .int .i64 m.kind, .int .u64 m.val, .int .u64 m.t, .int .u64 m.h, .int .i64 m.ok, .int .u64 m.ov] 58 (0, 0))) := hW1 ▸ setRow_heap _ _ _ _ _ (0, 0) N1.out
  have HW1 := Lib.hid hW1
  clear hW1
  go_upto_region 2 with (refine wpList_store_row rfl 58 _ _ rfl (w.heap.size) _ rfl rfl 58 #[.int .i64 0, .int .i64 0, .slice none 0 0, .slice none 0 0, .int .i64 0, .int .i64 0, .int .i64 0, .int .i64 0, .int .i64 0, .int .u64 0, .int .u64 0, .int .u64 0, .int .i64 0, .int .u64 0] N1.out (by kernel_rfl) rfl (by simp [Value.oneCell']) ?_)
  rw [HW1.out]
  try simp only [Act.put]
  clear HW1 N1
  obtain ⟨P, hP⟩ : ∃ P, w.heap.size = P := ⟨_, rfl⟩
  rw [hP] at R1
  rw [hP]
  clear hP

  have hPl : P < W1.heap.size := (Array.getElem?_eq_some_iff.1 R1.out).1
  clear x0 x1 x2 x3 x4 x5 x6 x7 x8 x9 q0 q1 q2 q3 q4 q5 q6 q7 q8 q9 q10 q11 q12 q13
  obtain ⟨q0, q1, q2, q3, q4, q5, q6, q7, q8, q9, q10, q11, q12, q13⟩ := rowc14 R1.out
  go_wp2_with fail
  refine (TO.out _).mono ?_; rintro e w2 ⟨rfl, hb2⟩
  have HB02 := Lib.hid (below_then HB1.out hb2)
  go_wp2_with fail
  go_ret
  exact ⟨rfl, HB02.out⟩
theorem wsame_any {NE : ConfM → MachM → AccM} {RE : ConfM → MachM → AnsM → MachM} {R : (World → Prop) → ConfM → List Value → MachM → Prop} {K : ConfM → MachM → Prop} (hs : Sim NE RE ownM R) (hd : Doc NE RE K)
    {w0 w : World} {E : List (Option Nat)} {B D : Nat} {x : WV} {y : WM} (h : WI 49 w0 w E B D x y) (hf : FrI R (OffS (x.S E B) w) y) (hk : ∀ m ∈ y.l, K y.c m) (i : Nat) (hi : i < y.l.length) (hl : y.l.length ≤ 1000) : Calls Try.prog 15 #[.pointer (some ⟨B, 0, none⟩), .int .i64 i] w fun e w' => e = .returned (.bool true) ∧ Below w.heap.size w w' := by
  cases hown : ownM y.l[i] with
  | true => exact wsame_own hs hd h hf hk i hi hl hown
  | false => exact wsame_not hs hd h hf hk i hi hl hown
end Go.Proofs.Ytjnlkemdaffgbaa
