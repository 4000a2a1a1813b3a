
import Derived.Test.YtjnlkemdaffgbaaB25
set_option linter.unusedVariables false
set_option linter.unusedSimpArgs false
/- Layer 11: a step of the law's worlds. -/
namespace Go.Proofs.Ytjnlkemdaffgbaa
open Go.ChangeShapes Go.WideShapes Go.ChangeAt Go.RowKit
set_option maxRecDepth 100000

/-- what a machine's access makes of the memory and the machines -/
def stepE (NE : ConfM → MachM → AccM) (RE : ConfM → MachM → AnsM → MachM) (c : ConfM) (m : MemM) (l : List MachM) (i : Nat) : MemM × List MachM :=
  match l[i]? with
  | none => (m, l)
  | some k => if k.pl = 0 then (m, l) else if (applyE m (NE c k)).2.2 = true then ((applyE m (NE c k)).1, l.set i (RE c k (applyE m (NE c k)).2.1)) else (m, l)
/-- what it adds to the records and to the past memories -/
def tpE (NE : ConfM → MachM → AccM) (c : ConfM) (m : MemM) (l : List MachM) (i : Nat) (tp : List Int × List MemM) : List Int × List MemM :=
  match l[i]? with
  | none => tp
  | some k => if k.pl = 0 then tp else if (applyE m (NE c k)).2.2 = true then (tp.1 ++ [(i : Int)], tp.2 ++ [m]) else tp
structure Moved (NE : ConfM → MachM → AccM) (RE : ConfM → MachM → AnsM → MachM) (y : WM) (i : Nat) (y2 : WM) : Prop where
  c : y2.c = y.c
  m : y2.m = (stepE NE RE y.c y.m y.l i).1
  l : y2.l = (stepE NE RE y.c y.m y.l i).2
  t : y2.t.length ≤ y.t.length + 1
  p : y2.p.length ≤ y.p.length + 1
  f : y2.f.length = y.f.length
  tp : (y2.t.map ItemM.thr, y2.p.map Prod.snd) = tpE NE y.c y.m y.l i (y.t.map ItemM.thr, y.p.map Prod.snd)
theorem stepE_len (NE : ConfM → MachM → AccM) (RE : ConfM → MachM → AnsM → MachM) (c : ConfM) (m : MemM) (l : List MachM) (i : Nat) : (stepE NE RE c m l i).2.length = l.length := by
  unfold stepE
  split
  · rfl
  · split
    · rfl
    · split
      · simp
      · rfl
theorem stepE_all {NE : ConfM → MachM → AccM} {RE : ConfM → MachM → AnsM → MachM} {c : ConfM} {P : MachM → Prop} (hP : ∀ k b, P k → P (RE c k b)) (m : MemM) (l : List MachM) (i : Nat) (h : ∀ k ∈ l, P k) : ∀ k ∈ (stepE NE RE c m l i).2, P k := by
  unfold stepE
  split
  · exact h
  · rename_i k hk
    have hm : k ∈ l := List.mem_of_getElem? hk
    split
    · exact h
    · split
      · intro q hq
        rcases List.mem_or_eq_of_mem_set hq with h1 | rfl
        · exact h q h1
        · exact hP k _ (h k hm)
      · exact h
theorem FrI.sub {NE : ConfM → MachM → AccM} {RE : ConfM → MachM → AnsM → MachM} {ownB : MachM → Bool} {R : (World → Prop) → ConfM → List Value → MachM → Prop} (hs : Sim NE RE ownB R) {G H : World → Prop} {y : WM} (h : FrI R G y) (hw : ∀ w, H w → G w) : FrI R H y :=
  ⟨h.1, fun i h1 h2 => hs.sub (h.2 i h1 h2) hw⟩
theorem nx_own {S : List (Option Nat)} {w u u1 wf : World} {P : Nat} (h1 : Below w.heap.size w u) (hb : Below u.heap.size u u1) (hz : u1.heap.size ≤ wf.heap.size) (hk : ∀ j, j ≠ P → wf.heap[j]? = u1.heap[j]?) (hP : some P ∈ S) (hS : ∀ j, some j ∈ S → j < w.heap.size) : ∀ w2, OffS S wf w2 → Nx (OffS S w) u u1 w2 := fun w2 h2 => by
  have z1 := h1.size
  have z2 := hb.size
  have h5 := hS P hP
  refine ⟨⟨by have := h2.1; omega, fun j hj hn => ?_⟩, ⟨by have := h2.1; omega, fun j hj hj2 => ?_⟩⟩
  · rw [h2.2 j (by omega) hn, hk j (fun e => hn (e ▸ hP)), hb.block j (by omega), h1.block j hj]
  · rw [h2.2 j (by omega) (fun e => by have := hS j e; omega), hk j (by omega)]
theorem stepE_all2 {NE : ConfM → MachM → AccM} {RE : ConfM → MachM → AnsM → MachM} {c : ConfM} {P : MachM → Prop} (m : MemM) (hm : m.fits) (hP : ∀ k b, U64 b.val → P k → P (RE c k b)) (l : List MachM) (i : Nat) (h : ∀ k ∈ l, P k) : ∀ k ∈ (stepE NE RE c m l i).2, P k := by
  unfold stepE
  split
  · exact h
  · rename_i k hk
    have hm' : k ∈ l := List.mem_of_getElem? hk
    split
    · exact h
    · split
      · intro q hq
        rcases List.mem_or_eq_of_mem_set hq with h1 | rfl
        · exact h q h1
        · exact hP k _ (applyE_val hm _) (h k hm')
      · exact h
/-- what is left of a world whose machine was to make its access: both sides are alike still -/
def StepW (NE : ConfM → MachM → AccM) (RE : ConfM → MachM → AnsM → MachM) (R : (World → Prop) → ConfM → List Value → MachM → Prop) (w0 w : World) (E : List (Option Nat)) (B D : Nat) (x : WV) (y : WM) (i : Nat) (e : Ending) (w' : World) : Prop :=
  ∃ x2 y2, e = .returned (.bool true) ∧ Hid (WI 49 w0 w' E B D x2 y2) ∧ Hid (FrI R (OffS (x2.S E B) w') y2) ∧ Hid (Moved NE RE y i y2) ∧ Hid (∀ w3, OffS (x2.S E B) w' w3 → OffS (x.S E B) w w3)
set_option maxRecDepth 100000 in
set_option maxHeartbeats 32000000 in
theorem wstepL_end {NE : ConfM → MachM → AccM} {RE : ConfM → MachM → AnsM → MachM} {R : (World → Prop) → ConfM → List Value → MachM → Prop} {K : ConfM → MachM → Prop} (hs : Sim NE RE ownM R) (hd : Doc NE RE K)
    {w0 w : World} {E : List (Option Nat)} {B D : Nat} {x : WV} {y : WM} (h : WI 49 w0 w E B D x y) (hf : FrI R (OffS (x.S E B) w) y) (hk : ∀ m ∈ y.l, K y.c m) (i : Nat) (hi : i < y.l.length) (hl : y.l.length ≤ 1000) (m : MachM) (hm : y.l[i] = m)
    (hp : m.pl = 0) : Calls Try.prog 21 #[.pointer (some ⟨B, 0, none⟩), .int .i64 i] w (StepW NE RE R w0 w E B D x y i) := by
  have T1 := Lib.hid fun w' (hb : Below w.heap.size w w') => wsame_any hs hd (h.next hb) (hf.sub hs fun w3 h3 => (OffS.below hb).trans1 h3) hk i hi hl
  go_enter Try.func21, Try.ntmps21
  go_wp2_with fail
  refine (T1.out _ (Below.refl _ _)).mono ?_; rintro e w1 ⟨rfl, hb1⟩
  have HB1 := Lib.hid hb1
  clear hb1
  have TS : Hid (∀ w', Below w.heap.size w w' → Calls Try.prog 46 #[.pointer (some ⟨B, 0, none⟩), .int .i64 i] w' fun e w2 => e = .returned (.tuple #[.agg #[.int .u64 0, .bool false, .bool false, .slice none 0 0], .bool false]) ∧ Below w'.heap.size w' w2) := fun w' hb => wstep_end (h.next hb) i hi m hm hl hp
  have HMV : Hid (Moved NE RE y i y) := ⟨rfl, by unfold stepE; rw [List.getElem?_eq_getElem hi, hm]; simp [hp], by unfold stepE; rw [List.getElem?_eq_getElem hi, hm]; simp [hp], by omega, by omega, rfl, by unfold tpE; rw [List.getElem?_eq_getElem hi, hm]; simp [hp]⟩
  have HH := Lib.hid h
  have HF := Lib.hid hf
  clear h hf hk hm
  clear hd hp
  go_wp2_with fail
  refine (TS.out _ HB1.out).mono ?_; rintro e w2 ⟨rfl, hb2⟩
  have HB2 := Lib.hid hb2
  clear hb2 TS
  obtain ⟨W3, hW3⟩ : ∃ W3, (w2.alloc (.cells #[.int .u64 0, .bool false, .bool false, .slice none 0 0] 53)).setRow w2.heap.size #[.int .u64 0, .bool false, .bool false, .slice none 0 0] = W3 := ⟨_, rfl⟩
  have N3 : Hid ((w2.alloc (.cells #[.int .u64 0, .bool false, .bool false, .slice none 0 0] 53)).heap[w2.heap.size]? = some (.cells #[.int .u64 0, .bool false, .bool false, .slice none 0 0] 53 (0, 0))) := heap_alloc_new _ _
  have HB3 : Hid (Below w2.heap.size w2 W3) := hW3 ▸ row_below (below_new (Below.refl _ _) _) (Nat.le_refl _) _
  have R3 : Hid (W3.heap[w2.heap.size]? = some (.cells #[.int .u64 0, .bool false, .bool false, .slice none 0 0] 53 (0, 0))) := hW3 ▸ setRow_heap _ _ _ _ _ (0, 0) N3.out
  have HW3 := Lib.hid hW3
  clear hW3
  go_upto_region 4 with (refine wpList_store_row rfl 53 _ _ rfl (w2.heap.size) _ rfl rfl 53 #[.int .u64 0, .bool false, .bool false, .slice none 0 0] N3.out (by kernel_rfl) rfl (by simp [Value.oneCell']) ?_)
  rw [HW3.out]
  try simp only [Act.put]
  clear HW3 N3
  obtain ⟨P, hP⟩ : ∃ P, w2.heap.size = P := ⟨_, rfl⟩
  rw [hP] at R3
  rw [hP]
  clear hP

  have HB03 := Lib.hid (below_then HB1.out (below_then HB2.out HB3.out))
  go_wp2_with fail
  refine (T1.out _ HB03.out).mono ?_; rintro e w4 ⟨rfl, hb4⟩
  have HB04 := Lib.hid (below_then HB03.out hb4)
  clear hb4
  go_wp2_with fail
  go_ret
  exact ⟨x, y, rfl, HH.out.next HB04.out, HF.out.sub hs fun w3 h3 => (OffS.below HB04.out).trans1 h3, HMV, Lib.hid fun w3 h3 => (OffS.below HB04.out).trans1 h3⟩
set_option maxRecDepth 100000 in
set_option maxHeartbeats 32000000 in
theorem wstepL_not {NE : ConfM → MachM → AccM} {RE : ConfM → MachM → AnsM → MachM} {R : (World → Prop) → ConfM → List Value → MachM → Prop} {K : ConfM → MachM → Prop} (hs : Sim NE RE ownM R) (hd : Doc NE RE K)
    {w0 w : World} {E : List (Option Nat)} {B D : Nat} {x : WV} {y : WM} (h : WI 49 w0 w E B D x y) (hf : FrI R (OffS (x.S E B) w) y) (hk : ∀ m ∈ y.l, K y.c m) (i : Nat) (hi : i < y.l.length) (hl : y.l.length ≤ 1000) (m : MachM) (hm : y.l[i] = m)
    (hp : ¬ m.pl = 0) (hr : (applyE y.m (NE y.c m)).2.2 = false) : Calls Try.prog 21 #[.pointer (some ⟨B, 0, none⟩), .int .i64 i] w (StepW NE RE R w0 w E B D x y i) := by
  have T1 := Lib.hid fun w' (hb : Below w.heap.size w w') => wsame_any hs hd (h.next hb) (hf.sub hs fun w3 h3 => (OffS.below hb).trans1 h3) hk i hi hl
  go_enter Try.func21, Try.ntmps21
  go_wp2_with fail
  refine (T1.out _ (Below.refl _ _)).mono ?_; rintro e w1 ⟨rfl, hb1⟩
  have HB1 := Lib.hid hb1
  clear hb1
  have TS : Hid (∀ w', Below w.heap.size w w' → Calls Try.prog 46 #[.pointer (some ⟨B, 0, none⟩), .int .i64 i] w' fun e w2 => e = .returned (.tuple #[.agg #[.int .u64 0, .bool false, .bool false, .slice none 0 0], .bool false]) ∧ Below w'.heap.size w' w2) := fun w' hb => wstep_not (h.next hb) i hi m hm hl hp (NE y.c m) (fun w' hv => hd.next y.c m x.cA x.sA x.cc x.sc w' (hk m (hm ▸ List.getElem_mem hi)) h.good hv) (hd.acc y.c m (hk m (hm ▸ List.getElem_mem hi)) h.good) (mm := (applyE y.m (NE y.c m)).1) (bb := (applyE y.m (NE y.c m)).2.1) (by rw [← hr])
  have HMV : Hid (Moved NE RE y i y) := ⟨rfl, by unfold stepE; rw [List.getElem?_eq_getElem hi, hm]; simp [hp, hr], by unfold stepE; rw [List.getElem?_eq_getElem hi, hm]; simp [hp, hr], by omega, by omega, rfl, by unfold tpE; rw [List.getElem?_eq_getElem hi, hm]; simp [hp, hr]⟩
  have HH := Lib.hid h
  have HF := Lib.hid hf
  clear h hf hk hm
  clear hd hp hr
  go_wp2_with fail
  refine (TS.out _ HB1.out).mono ?_; rintro e w2 ⟨rfl, hb2⟩
  have HB2 := Lib.hid hb2
  clear hb2 TS
  obtain ⟨W3, hW3⟩ : ∃ W3, (w2.alloc (.cells #[.int .u64 0, .bool false, .bool false, .slice none 0 0] 53)).setRow w2.heap.size #[.int .u64 0, .bool false, .bool false, .slice none 0 0] = W3 := ⟨_, rfl⟩
  have N3 : Hid ((w2.alloc (.cells #[.int .u64 0, .bool false, .bool false, .slice none 0 0] 53)).heap[w2.heap.size]? = some (.cells #[.int .u64 0, .bool false, .bool false, .slice none 0 0] 53 (0, 0))) := heap_alloc_new _ _
  have HB3 : Hid (Below w2.heap.size w2 W3) := hW3 ▸ row_below (below_new (Below.refl _ _) _) (Nat.le_refl _) _
  have R3 : Hid (W3.heap[w2.heap.size]? = some (.cells #[.int .u64 0, .bool false, .bool false, .slice none 0 0] 53 (0, 0))) := hW3 ▸ setRow_heap _ _ _ _ _ (0, 0) N3.out
  have HW3 := Lib.hid hW3
  clear hW3
  go_upto_region 4 with (refine wpList_store_row rfl 53 _ _ rfl (w2.heap.size) _ rfl rfl 53 #[.int .u64 0, .bool false, .bool false, .slice none 0 0] N3.out (by kernel_rfl) rfl (by simp [Value.oneCell']) ?_)
  rw [HW3.out]
  try simp only [Act.put]
  clear HW3 N3
  obtain ⟨P, hP⟩ : ∃ P, w2.heap.size = P := ⟨_, rfl⟩
  rw [hP] at R3
  rw [hP]
  clear hP

  have HB03 := Lib.hid (below_then HB1.out (below_then HB2.out HB3.out))
  go_wp2_with fail
  refine (T1.out _ HB03.out).mono ?_; rintro e w4 ⟨rfl, hb4⟩
  have HB04 := Lib.hid (below_then HB03.out hb4)
  clear hb4
  go_wp2_with fail
  go_ret
  exact ⟨x, y, rfl, HH.out.next HB04.out, HF.out.sub hs fun w3 h3 => (OffS.below HB04.out).trans1 h3, HMV, Lib.hid fun w3 h3 => (OffS.below HB04.out).trans1 h3⟩
set_option maxRecDepth 100000 in
set_option maxHeartbeats 32000000 in
theorem wstepL_yes_own {NE : ConfM → MachM → AccM} {RE : ConfM → MachM → AnsM → MachM} {R : (World → Prop) → ConfM → List Value → MachM → Prop} {K : ConfM → MachM → Prop} (hs : Sim NE RE ownM R) (hd : Doc NE RE K)
    {w0 w : World} {E : List (Option Nat)} {B D : Nat} {x : WV} {y : WM} (h : WI 49 w0 w E B D x y) (hf : FrI R (OffS (x.S E B) w) y) (hk : ∀ m ∈ y.l, K y.c m) (i : Nat) (hi : i < y.l.length) (hl : y.l.length ≤ 1000) (m : MachM) (hm : y.l[i] = m)
    (hp : ¬ m.pl = 0) (hr : (applyE y.m (NE y.c m)).2.2 = true) (ht : y.t.length ≤ 100000) (hpl : y.p.length ≤ 100000) (hown : ownM m = true) : Calls Try.prog 21 #[.pointer (some ⟨B, 0, none⟩), .int .i64 i] w (StepW NE RE R w0 w E B D x y i) := by
  have T1 := Lib.hid fun w' (hb : Below w.heap.size w w') => wsame_any hs hd (h.next hb) (hf.sub hs fun w3 h3 => (OffS.below hb).trans1 h3) hk i hi hl
  obtain ⟨mm, hmm⟩ : ∃ mm, (applyE y.m (NE y.c m)).1 = mm := ⟨_, rfl⟩
  obtain ⟨bb, hbb⟩ : ∃ bb, (applyE y.m (NE y.c m)).2.1 = bb := ⟨_, rfl⟩
  obtain ⟨m2, hm2⟩ : ∃ m2, RE y.c m bb = m2 := ⟨_, rfl⟩
  have hkm := hk m (hm ▸ List.getElem_mem hi)
  have hbv : U64 bb.val := by rw [← hbb]; exact applyE_val h.fits _
  have HOWN : Hid (ownM m2 = true) := by have h1 := hs.stays y.c m bb; rw [hm2] at h1; exact h1.trans hown
  have TS : Hid (∀ w', Below w.heap.size w w' → Calls Try.prog 46 #[.pointer (some ⟨B, 0, none⟩), .int .i64 i] w' (StepQ 49 w0 w' E B D x y ({ y with t := y.t ++ [⟨i, NE y.c m, bb.val, bb.ok⟩], p := y.p ++ [([.slice x.mA y.m.words.length x.mc, .slice x.nA y.m.lists.length x.nc, .int .i64 y.m.tick], y.m)], m := mm, l := y.l.set i m2 } : WM) bb)) := fun w' hb =>
    wstep_yes (h.next hb) i hi m hm hl hp (NE y.c m) (fun w' hv => hd.next y.c m x.cA x.sA x.cc x.sc w' (hk m (hm ▸ List.getElem_mem hi)) h.good hv) (hd.acc y.c m (hk m (hm ▸ List.getElem_mem hi)) h.good) (by rw [← hmm, ← hbb, ← hr]) m2 (fun w2 zA zn zc hv => by rw [← hm2]; exact hd.resume y.c m bb x.cA x.sA x.cc x.sc zA zn zc w2 hkm h.good hbv hv) ht hpl
  obtain ⟨y2, hy2⟩ : ∃ y2 : WM, ({ y with t := y.t ++ [⟨i, NE y.c m, bb.val, bb.ok⟩], p := y.p ++ [([.slice x.mA y.m.words.length x.mc, .slice x.nA y.m.lists.length x.nc, .int .i64 y.m.tick], y.m)], m := mm, l := y.l.set i m2 } : WM) = y2 := ⟨_, rfl⟩
  rw [hy2] at TS
  have hfl : y.f.length = y.l.length := hf.1
  have hfi : i < y2.f.length := by rw [← hy2]; show i < y.f.length; omega
  have hli : i < y2.l.length := by rw [← hy2]; show i < (y.l.set i m2).length; simpa using hi
  have hl2 : y2.l.length ≤ 1000 := by rw [← hy2]; show (y.l.set i m2).length ≤ 1000; simpa using hl
  have HMI : Hid (y2.l[i] = m2) := by show y2.l[i] = m2; simp [← hy2]
  have HK2 : Hid (∀ q ∈ y2.l, K y2.c q) := fun q hq => by
    rw [← hy2] at hq ⊢
    rcases List.mem_or_eq_of_mem_set hq with h1 | rfl
    · exact hk q h1
    · exact hm2 ▸ hd.stays y.c m bb hkm hbv
  have HFO : Hid (∀ G : World → Prop, (∀ w3, G w3 → OffS (x.S E B) w w3) → R G y2.c y2.f[i] m ∧ ∀ j (h1 : j < y2.f.length) (h2 : j < y2.l.length), j ≠ i → R G y2.c y2.f[j] y2.l[j]) := fun G hG => by
    subst hy2
    refine ⟨hs.sub (hm ▸ hf.2 i (by omega) hi) hG, fun j h1 h2 hne => ?_⟩
    have := hs.sub (hf.2 j h1 (by simpa using h2)) hG
    simpa [List.getElem_set, Ne.symm hne] using this
  have HMV : Hid (∀ f2, Moved NE RE y i { y2 with f := y2.f.set i f2 }) := fun f2 => by
    subst hy2
    exact ⟨rfl, by unfold stepE; rw [List.getElem?_eq_getElem hi, hm]; simp [hp, hr, hmm], by unfold stepE; rw [List.getElem?_eq_getElem hi, hm]; simp [hp, hr, hbb, hm2], by simp, by simp, by simp, by unfold tpE; rw [List.getElem?_eq_getElem hi, hm]; simp [hp, hr]⟩
  have HF2 : Hid (y2.f.length = y2.l.length) := by rw [← hy2]; show y.f.length = (y.l.set i m2).length; simpa using hfl
  have HREs : Hid (RE y2.c m bb = m2) := by rw [← hy2]; exact hm2
  have HPL := Lib.hid hp
  have HOW1 : Hid (ownM m = true) := hown
  have HBV := Lib.hid hbv
  have HH := Lib.hid h
  clear hy2 h hf hk hm hmm hbb hm2 hp hr hkm ht hpl hfl hi hl hbv hown
  go_enter Try.func21, Try.ntmps21
  go_wp2_with fail
  refine (T1.out _ (Below.refl _ _)).mono ?_; rintro e w1 ⟨rfl, hb1⟩
  have HB1 := Lib.hid hb1
  clear hb1
  go_wp2_with fail
  refine (TS.out _ HB1.out).mono ?_; rintro e w2 ⟨x2, zA, zn, zc, rfl, HI2, HIN, -, -⟩
  clear TS T1
  obtain ⟨W3, hW3⟩ : ∃ W3, (w2.alloc (.cells #[.int .u64 0, .bool false, .bool false, .slice none 0 0] 53)).setRow w2.heap.size #[.int .u64 bb.val, .bool bb.ok, .bool bb.late, .slice zA zn zc] = W3 := ⟨_, rfl⟩
  have N3 : Hid ((w2.alloc (.cells #[.int .u64 0, .bool false, .bool false, .slice none 0 0] 53)).heap[w2.heap.size]? = some (.cells #[.int .u64 0, .bool false, .bool false, .slice none 0 0] 53 (0, 0))) := heap_alloc_new _ _
  have HB3 : Hid (Below w2.heap.size w2 W3) := hW3 ▸ row_below (below_new (Below.refl _ _) _) (Nat.le_refl _) _
  have R3 : Hid (W3.heap[w2.heap.size]? = some (.cells #[.int .u64 bb.val, .bool bb.ok, .bool bb.late, .slice zA zn zc] 53 (0, 0))) := hW3 ▸ setRow_heap _ _ _ _ _ (0, 0) N3.out
  have HW3 := Lib.hid hW3
  clear hW3
  go_upto_region 4 with (refine wpList_store_row rfl 53 _ _ rfl (w2.heap.size) _ rfl rfl 53 #[.int .u64 0, .bool false, .bool false, .slice none 0 0] N3.out (by kernel_rfl) rfl (by simp [Value.oneCell']) ?_)
  rw [HW3.out]
  try simp only [Act.put]
  clear HW3 N3
  obtain ⟨P, hP⟩ : ∃ P, w2.heap.size = P := ⟨_, rfl⟩
  rw [hP] at R3
  rw [hP]
  clear hP

  have HI3 := Lib.hid (HI2.out.next HB3.out)
  have HIN3 : Hid (∀ w3, OffS (x2.S E B) W3 w3 → OffS (x.S E B) w w3) := fun w3 h3 => (OffS.below HB1.out).trans1 (HIN.out w3 ((OffS.below HB3.out).trans1 h3))
  have hB3 := HI3.out.lt
  have hP3 := (Array.getElem?_eq_some_iff.1 R3.out).1
  obtain ⟨gl, lc, hvl, hlA, hlc, hgl, hgls, hcap, RG, -⟩ := HI3.out.machAt i hli
  obtain ⟨fl, fc, hvf, hfA, hfc, hfl, hfls, hfcap, FG, FT⟩ := HI3.out.frameAt i hfi
  rw [HMI.out] at RG
  obtain ⟨hFi, hFj⟩ := HFO.out _ HIN3.out
  obtain ⟨r0, r1, s2, k2, l2, s3, k3, l3, s4, k4, l4, he⟩ := hs.form hFi HOW1.out
  rw [he] at FG hFi
  have HFJ := Lib.hid hFj
  have HVF := Lib.hid hvf
  have HRG := Lib.hid RG
  have HFG := Lib.hid FG
  have HTH := Lib.hid FT
  have row0 := HI3.out.row
  unfold WV.row at row0
  rw [hlA, hlc, hfA, hfc] at row0
  have ROW := Lib.hid row0
  have TO := Lib.hid fun w' => wown_any (x2.vc y2.c) (x2.vs y2.c) ⟨_, _, _, rfl⟩ ⟨_, _, _, rfl⟩ y2.c.threads m2 w'
  have hown2 : ownM m2 = true := HOWN.out
  rw [hown2] at TO
  unfold machL WV.vc WV.vs at TO HRG
  have TR := Lib.hid fun w' (hb : Below W3.heap.size W3 w') => hs.resume w' bb zA zn zc HBV.out (OffS.below (S := x2.S E B) hb) hFi HOW1.out HPL.out
  rw [HREs.out] at TR
  have hiI : (i : Int) < (y2.l.length : Int) := by omega
  have hiF : (i : Int) < (y2.f.length : Int) := by omega
  have hfl2 : y2.f.length ≤ 1000 := by rw [HF2.out]; exact hl2
  have KFR : Hid (∀ (r : List Value) u u1 (f2 : List Value), Below W3.heap.size W3 u → Below u.heap.size u u1 → R (Nx (OffS (x2.S E B) W3) u u1) y2.c f2 m2 → FrI R (OffS (x2.S E B) (u1.setCells fl (i * 5) r)) { y2 with f := y2.f.set i f2 }) := fun r u u1 f2 h1 h2 h3 => by
    have hin := nx_own (S := x2.S E B) (wf := u1.setCells fl (i * 5) r) h1 h2 (by rw [setCells_size]; exact Nat.le_refl _) (fun j hj => setCells_other fl r (i * 5) u1 j hj) (by simp [WV.S, addrB, hfA]) HI3.out.Slt
    refine ⟨by simpa using HF2.out, fun j h4 h5 => ?_⟩
    by_cases hj : j = i
    · subst hj
      have := hs.sub h3 hin
      simpa [HMI.out] using this
    · have h6 : j < y2.f.length := by simpa using h4
      have := hs.sub (HFJ.out j h6 h5 hj) fun w3 h7 => (hin w3 h7).1
      simpa [List.getElem_set, Ne.symm hj] using this
  have HFA := Lib.hid hfA
  clear hvl hlA hlc RG hvf hfA hfc FG FT he hFi hFj row0 hown2
  obtain ⟨x0, x1, x2, x3, x4, x5, x6, x7, x8, x9⟩ := rowc10 ROW.out
  obtain ⟨q0, q1, q2, q3, q4, q5, q6, q7, q8, q9, q10, q11, q12, q13⟩ := range14 HRG.out
  go_wp2_with fail
  refine (TO.out _).mono ?_; rintro e w5 ⟨rfl, hb5⟩
  have HB5 : Hid (Below W3.heap.size W3 w5) := hb5
  clear hb5 TO x0 x1 x2 x3 x4 x5 x6 x7 x8 x9 q0 q1 q2 q3 q4 q5 q6 q7 q8 q9 q10 q11 q12 q13
  have KS : Hid (∀ w', Below W3.heap.size W3 w' → (fun w' : World => (w'.cell? ⟨B, 9, none⟩ = some (.slice (some ⟨fl, 0, none⟩) y2.f.length fc)) ∧ (w'.cell? ⟨fl, i * 5, none⟩ = some (.int .i64 r0) ∧ w'.cell? ⟨fl, i * 5 + 1, none⟩ = some (.int .i64 r1) ∧ w'.cell? ⟨fl, i * 5 + 2, none⟩ = some (.slice s2 k2 l2) ∧ w'.cell? ⟨fl, i * 5 + 3, none⟩ = some (.slice s3 k3 l3) ∧ w'.cell? ⟨fl, i * 5 + 4, none⟩ = some (.slice s4 k4 l4)) ∧ (w'.cell? ⟨P, 0, none⟩ = some (.int .u64 bb.val) ∧ w'.cell? ⟨P, 1, none⟩ = some (.bool bb.ok) ∧ w'.cell? ⟨P, 2, none⟩ = some (.bool bb.late) ∧ w'.cell? ⟨P, 3, none⟩ = some (.slice zA zn zc))) w') := fun w' hb => by
    obtain ⟨x0, x1, x2, x3, x4, x5, x6, x7, x8, x9⟩ := rowc10 ((hb.block B hB3).trans ROW.out)
    obtain ⟨f0, f1, f2, f3, f4⟩ := range5 (range_below HFG.out hb hfls)
    obtain ⟨z0, z1, z2, z3⟩ := rowc4 ((hb.block P hP3).trans R3.out)
    exact ⟨x9, ⟨f0, f1, f2, f3, f4⟩, ⟨z0, z1, z2, z3⟩⟩
  go_upto_region 5 with fail
  go_cut [] (fun wx => ∃ f2 : List Value, Hid (WI 49 w0 wx E B D x2 { y2 with f := y2.f.set i f2 }) ∧ Hid (FrI R (OffS (x2.S E B) wx) { y2 with f := y2.f.set i f2 }) ∧ Hid (∀ w3, OffS (x2.S E B) wx w3 → OffS (x.S E B) w w3))
  case first =>
    refine untilK KS 15 16 (by kernel_rfl) rfl ?_
    obtain ⟨u0, hu0, HU00⟩ := drew_pack w5
    rw [hu0]
    clear hu0
    have HU0 := Lib.hid (below_then HB5.out HU00.out)
    have hSU0 := KS.out _ HU0.out
    refine tkU (v := ?_) 0 la0 hSU0 (by kernel_rfl) (fun _ _ _ h => h) rfl ?_ ?_
    rotate_left
    · (intro w hSw; (try dsimp only at hSw); go_simp <;> with_reducible rfl)
    simp only [Act.put, List.setIfInBounds_toArray, List.set_cons_zero, List.set_cons_succ]
    refine tkU (v := ?_) 1 la1 hSU0 (by kernel_rfl) (fun _ _ _ h => h) rfl ?_ ?_
    rotate_left
    · (intro w hSw; (try dsimp only at hSw); go_simp <;> with_reducible rfl)
    simp only [Act.put, List.setIfInBounds_toArray, List.set_cons_zero, List.set_cons_succ]
    refine tkU (v := ?_) 2 la2 hSU0 (by kernel_rfl) (fun _ _ _ h => h) rfl ?_ ?_
    rotate_left
    · (intro w hSw; (try dsimp only at hSw); go_simp <;> with_reducible rfl)
    simp only [Act.put, List.setIfInBounds_toArray, List.set_cons_zero, List.set_cons_succ]
    refine tkU (v := ?_) 3 la3 hSU0 (by kernel_rfl) (fun _ _ _ h => h) rfl ?_ ?_
    rotate_left
    · (intro w hSw; (try dsimp only at hSw); go_simp <;> with_reducible rfl)
    simp only [Act.put, List.setIfInBounds_toArray, List.set_cons_zero, List.set_cons_succ]
    refine tkU (v := ?_) 4 la4 hSU0 (by kernel_rfl) (fun _ _ _ h => h) rfl ?_ ?_
    rotate_left
    · (intro w hSw; (try dsimp only at hSw); go_simp <;> with_reducible rfl)
    simp only [Act.put, List.setIfInBounds_toArray, List.set_cons_zero, List.set_cons_succ]
    refine tkU (v := ?_) 5 la5 hSU0 (by kernel_rfl) (fun _ _ _ h => h) rfl ?_ ?_
    rotate_left
    · (intro w hSw; (try dsimp only at hSw); go_simp <;> with_reducible rfl)
    simp only [Act.put, List.setIfInBounds_toArray, List.set_cons_zero, List.set_cons_succ]
    refine tkU (v := ?_) 6 la6 hSU0 (by kernel_rfl) (fun _ _ _ h => h) rfl ?_ ?_
    rotate_left
    · (intro w hSw; (try dsimp only at hSw); go_simp <;> with_reducible rfl)
    simp only [Act.put, List.setIfInBounds_toArray, List.set_cons_zero, List.set_cons_succ]
    refine tkU (v := ?_) 7 la7 hSU0 (by kernel_rfl) (fun _ _ _ h => h) rfl ?_ ?_
    rotate_left
    · (intro w hSw; (try dsimp only at hSw); go_simp <;> with_reducible rfl)
    simp only [Act.put, List.setIfInBounds_toArray, List.set_cons_zero, List.set_cons_succ]
    refine tkU (v := ?_) 8 la8 hSU0 (by kernel_rfl) (fun _ _ _ h => h) rfl ?_ ?_
    rotate_left
    · (intro w hSw; (try dsimp only at hSw); go_simp <;> with_reducible rfl)
    simp only [Act.put, List.setIfInBounds_toArray, List.set_cons_zero, List.set_cons_succ]
    refine tkU (v := ?_) 9 la9 hSU0 (by kernel_rfl) (fun _ _ _ h => h) rfl ?_ ?_
    rotate_left
    · (intro w hSw; (try dsimp only at hSw); go_simp <;> with_reducible rfl)
    simp only [Act.put, List.setIfInBounds_toArray, List.set_cons_zero, List.set_cons_succ]
    refine tkU (v := ?_) 10 la10 hSU0 (by kernel_rfl) (fun _ _ _ h => h) rfl ?_ ?_
    rotate_left
    · (intro w hSw; (try dsimp only at hSw); go_simp <;> with_reducible rfl)
    simp only [Act.put, List.setIfInBounds_toArray, List.set_cons_zero, List.set_cons_succ]
    refine tkU (v := ?_) 11 la11 hSU0 (by kernel_rfl) (fun _ _ _ h => h) rfl ?_ ?_
    rotate_left
    · (intro w hSw; (try dsimp only at hSw); go_simp <;> with_reducible rfl)
    simp only [Act.put, List.setIfInBounds_toArray, List.set_cons_zero, List.set_cons_succ]
    refine tkU (v := ?_) 12 la12 hSU0 (by kernel_rfl) (fun _ _ _ h => h) rfl ?_ ?_
    rotate_left
    · (intro w hSw; (try dsimp only at hSw); go_simp <;> with_reducible rfl)
    simp only [Act.put, List.setIfInBounds_toArray, List.set_cons_zero, List.set_cons_succ]
    refine wpAnyU_ready (rs := [13]) (by kernel_rfl) rfl ?_
    refine AllReadyU.cons la13 rfl (fun K hK => ?_) ?_
    · go_simp
      go_at_call 17
      refine (TR.out _ HU0.out).mono ?_
      rintro e u1 ⟨f2, rfl, hr2, hb⟩
      obtain ⟨t0, t1, d2, e2, g2, d3, e3, g3, d4, e4, g4, rfl⟩ := hs.form hr2 HOWN.out
      have HR2 := Lib.hid hr2
      have HUb := Lib.hid hb
      have HU1 := Lib.hid (below_then HU0.out hb)
      clear hb hr2
      try dsimp only
      refine hK.out _ _ ?_ (fun hSU1 => ?_)
      · exact KS.out _ HU1.out
      clear hK K hSU0
      try simp only [Act.put, List.setIfInBounds_toArray, List.set_cons_zero, List.set_cons_succ]
      refine tkU (v := ?_) 14 la14 hSU1 (by kernel_rfl) (fun _ _ _ h => h) rfl ?_ ?_
      rotate_left
      · (intro w hSw; (try dsimp only at hSw); go_simp <;> with_reducible rfl)
      simp only [Act.put, List.setIfInBounds_toArray, List.set_cons_zero, List.set_cons_succ]
      refine wpAnyU_ready (rs := [15]) (by kernel_rfl) rfl ?_
      refine AllReadyU.free la15 rfl (by kernel_rfl) (fun K hK => ?_) ?_
      · refine step_store_mid rfl 61 _ _ rfl fl (i * 5) _ (by rfl) (by rfl) (there_below HTH.out HU1.out hfls) (by kernel_rfl) (by simp [Value.oneCell']) ?_
        refine hK.out _ _ ?_
        clear hK K hSU1
        try simp only [Act.put, List.setIfInBounds_toArray, List.set_cons_zero, List.set_cons_succ]
        refine wpAnyU_done (by kernel_rfl) ?_ _
        obtain ⟨HIa, HINa⟩ := (HI3.out.next HU1.out).setF (b := fl) (i := i) (z := [.int .i64 t0, .int .i64 t1, .slice d2 e2 g2, .slice d3 e3 g3, .slice d4 e4 g4]) (n := y2.f.length) (cap := fc) HVF.out hfi rfl (by intro u hu; simp only [List.mem_cons, List.not_mem_nil, or_false] at hu; rcases hu with rfl | rfl | rfl | rfl | rfl <;> rfl)
        have HSF := Lib.hid (KFR.out [.int .i64 t0, .int .i64 t1, .slice d2 e2 g2, .slice d3 e3 g3, .slice d4 e4 g4] _ _ _ HU0.out HUb.out HR2.out)
        have HIF := Lib.hid HIa
        have HINC := Lib.hid fun w3 h3 => HIN3.out w3 ((OffS.below HU1.out).trans1 (HINa w3 h3))
        clear HIa HINa
        go_wp2_with fail
        go_meet
        exact ⟨_, HIF, HSF, HINC⟩
      exact AllReadyU.nil
    exact AllReadyU.nil
  case rest =>
    obtain ⟨f2, HI6, HF6, HIN6⟩ := hcut
    obtain ⟨w6, rfl⟩ : ∃ w3 : World, w3 = wc := ⟨_, rfl⟩
    clear KS TR KFR HFJ HFO
    have T6 := Lib.hid (wsame_any hs hd HI6.out HF6.out HK2.out i hli hl2)
    go_wp2_with fail
    refine T6.out.mono ?_; rintro e w7 ⟨rfl, hb7⟩
    have HB7 := Lib.hid hb7
    clear hb7 T6
    go_wp2_with fail
    go_ret
    exact ⟨x2, _, rfl, HI6.out.next HB7.out, HF6.out.sub hs fun w3 h3 => (OffS.below HB7.out).trans1 h3, HMV.out f2, Lib.hid fun w3 h3 => HIN6.out w3 ((OffS.below HB7.out).trans1 h3)⟩
set_option maxRecDepth 100000 in
set_option maxHeartbeats 32000000 in
theorem wstepL_yes_not {NE : ConfM → MachM → AccM} {RE : ConfM → MachM → AnsM → MachM} {R : (World → Prop) → ConfM → List Value → MachM → Prop} {K : ConfM → MachM → Prop} (hs : Sim NE RE ownM R) (hd : Doc NE RE K)
    {w0 w : World} {E : List (Option Nat)} {B D : Nat} {x : WV} {y : WM} (h : WI 49 w0 w E B D x y) (hf : FrI R (OffS (x.S E B) w) y) (hk : ∀ m ∈ y.l, K y.c m) (i : Nat) (hi : i < y.l.length) (hl : y.l.length ≤ 1000) (m : MachM) (hm : y.l[i] = m)
    (hp : ¬ m.pl = 0) (hr : (applyE y.m (NE y.c m)).2.2 = true) (ht : y.t.length ≤ 100000) (hpl : y.p.length ≤ 100000) (hown : ownM m = false) : Calls Try.prog 21 #[.pointer (some ⟨B, 0, none⟩), .int .i64 i] w (StepW NE RE R w0 w E B D x y i) := by
  have T1 := Lib.hid fun w' (hb : Below w.heap.size w w') => wsame_any hs hd (h.next hb) (hf.sub hs fun w3 h3 => (OffS.below hb).trans1 h3) hk i hi hl
  obtain ⟨mm, hmm⟩ : ∃ mm, (applyE y.m (NE y.c m)).1 = mm := ⟨_, rfl⟩
  obtain ⟨bb, hbb⟩ : ∃ bb, (applyE y.m (NE y.c m)).2.1 = bb := ⟨_, rfl⟩
  obtain ⟨m2, hm2⟩ : ∃ m2, RE y.c m bb = m2 := ⟨_, rfl⟩
  have hkm := hk m (hm ▸ List.getElem_mem hi)
  have hbv : U64 bb.val := by rw [← hbb]; exact applyE_val h.fits _
  have HOWN : Hid (ownM m2 = false) := by have h1 := hs.stays y.c m bb; rw [hm2] at h1; exact h1.trans hown
  have TS : Hid (∀ w', Below w.heap.size w w' → Calls Try.prog 46 #[.pointer (some ⟨B, 0, none⟩), .int .i64 i] w' (StepQ 49 w0 w' E B D x y ({ y with t := y.t ++ [⟨i, NE y.c m, bb.val, bb.ok⟩], p := y.p ++ [([.slice x.mA y.m.words.length x.mc, .slice x.nA y.m.lists.length x.nc, .int .i64 y.m.tick], y.m)], m := mm, l := y.l.set i m2 } : WM) bb)) := fun w' hb =>
    wstep_yes (h.next hb) i hi m hm hl hp (NE y.c m) (fun w' hv => hd.next y.c m x.cA x.sA x.cc x.sc w' (hk m (hm ▸ List.getElem_mem hi)) h.good hv) (hd.acc y.c m (hk m (hm ▸ List.getElem_mem hi)) h.good) (by rw [← hmm, ← hbb, ← hr]) m2 (fun w2 zA zn zc hv => by rw [← hm2]; exact hd.resume y.c m bb x.cA x.sA x.cc x.sc zA zn zc w2 hkm h.good hbv hv) ht hpl
  obtain ⟨y2, hy2⟩ : ∃ y2 : WM, ({ y with t := y.t ++ [⟨i, NE y.c m, bb.val, bb.ok⟩], p := y.p ++ [([.slice x.mA y.m.words.length x.mc, .slice x.nA y.m.lists.length x.nc, .int .i64 y.m.tick], y.m)], m := mm, l := y.l.set i m2 } : WM) = y2 := ⟨_, rfl⟩
  rw [hy2] at TS
  have hfl : y.f.length = y.l.length := hf.1
  have hfi : i < y2.f.length := by rw [← hy2]; show i < y.f.length; omega
  have hli : i < y2.l.length := by rw [← hy2]; show i < (y.l.set i m2).length; simpa using hi
  have hl2 : y2.l.length ≤ 1000 := by rw [← hy2]; show (y.l.set i m2).length ≤ 1000; simpa using hl
  have HMI : Hid (y2.l[i] = m2) := by show y2.l[i] = m2; simp [← hy2]
  have HK2 : Hid (∀ q ∈ y2.l, K y2.c q) := fun q hq => by
    rw [← hy2] at hq ⊢
    rcases List.mem_or_eq_of_mem_set hq with h1 | rfl
    · exact hk q h1
    · exact hm2 ▸ hd.stays y.c m bb hkm hbv
  have HFO : Hid (∀ G : World → Prop, (∀ w3, G w3 → OffS (x.S E B) w w3) → R G y2.c y2.f[i] m ∧ ∀ j (h1 : j < y2.f.length) (h2 : j < y2.l.length), j ≠ i → R G y2.c y2.f[j] y2.l[j]) := fun G hG => by
    subst hy2
    refine ⟨hs.sub (hm ▸ hf.2 i (by omega) hi) hG, fun j h1 h2 hne => ?_⟩
    have := hs.sub (hf.2 j h1 (by simpa using h2)) hG
    simpa [List.getElem_set, Ne.symm hne] using this
  have HMV : Hid (∀ f2, Moved NE RE y i { y2 with f := y2.f.set i f2 }) := fun f2 => by
    subst hy2
    exact ⟨rfl, by unfold stepE; rw [List.getElem?_eq_getElem hi, hm]; simp [hp, hr, hmm], by unfold stepE; rw [List.getElem?_eq_getElem hi, hm]; simp [hp, hr, hbb, hm2], by simp, by simp, by simp, by unfold tpE; rw [List.getElem?_eq_getElem hi, hm]; simp [hp, hr]⟩
  have HF2 : Hid (y2.f.length = y2.l.length) := by rw [← hy2]; show y.f.length = (y.l.set i m2).length; simpa using hfl
  have HREs : Hid (RE y2.c m bb = m2) := by rw [← hy2]; exact hm2
  have HPL := Lib.hid hp
  have HOW1 : Hid (ownM m = false) := hown
  have HBV := Lib.hid hbv
  have HH := Lib.hid h
  clear hy2 h hf hk hm hmm hbb hm2 hp hr hkm ht hpl hfl hi hl hbv hown
  go_enter Try.func21, Try.ntmps21
  go_wp2_with fail
  refine (T1.out _ (Below.refl _ _)).mono ?_; rintro e w1 ⟨rfl, hb1⟩
  have HB1 := Lib.hid hb1
  clear hb1
  go_wp2_with fail
  refine (TS.out _ HB1.out).mono ?_; rintro e w2 ⟨x2, zA, zn, zc, rfl, HI2, HIN, -, -⟩
  clear TS T1
  obtain ⟨W3, hW3⟩ : ∃ W3, (w2.alloc (.cells #[.int .u64 0, .bool false, .bool false, .slice none 0 0] 53)).setRow w2.heap.size #[.int .u64 bb.val, .bool bb.ok, .bool bb.late, .slice zA zn zc] = W3 := ⟨_, rfl⟩
  have N3 : Hid ((w2.alloc (.cells #[.int .u64 0, .bool false, .bool false, .slice none 0 0] 53)).heap[w2.heap.size]? = some (.cells #[.int .u64 0, .bool false, .bool false, .slice none 0 0] 53 (0, 0))) := heap_alloc_new _ _
  have HB3 : Hid (Below w2.heap.size w2 W3) := hW3 ▸ row_below (below_new (Below.refl _ _) _) (Nat.le_refl _) _
  have R3 : Hid (W3.heap[w2.heap.size]? = some (.cells #[.int .u64 bb.val, .bool bb.ok, .bool bb.late, .slice zA zn zc] 53 (0, 0))) := hW3 ▸ setRow_heap _ _ _ _ _ (0, 0) N3.out
  have HW3 := Lib.hid hW3
  clear hW3
  go_upto_region 4 with (refine wpList_store_row rfl 53 _ _ rfl (w2.heap.size) _ rfl rfl 53 #[.int .u64 0, .bool false, .bool false, .slice none 0 0] N3.out (by kernel_rfl) rfl (by simp [Value.oneCell']) ?_)
  rw [HW3.out]
  try simp only [Act.put]
  clear HW3 N3
  obtain ⟨P, hP⟩ : ∃ P, w2.heap.size = P := ⟨_, rfl⟩
  rw [hP] at R3
  rw [hP]
  clear hP

  have HI3 := Lib.hid (HI2.out.next HB3.out)
  have HIN3 : Hid (∀ w3, OffS (x2.S E B) W3 w3 → OffS (x.S E B) w w3) := fun w3 h3 => (OffS.below HB1.out).trans1 (HIN.out w3 ((OffS.below HB3.out).trans1 h3))
  have hB3 := HI3.out.lt
  have hP3 := (Array.getElem?_eq_some_iff.1 R3.out).1
  obtain ⟨gl, lc, hvl, hlA, hlc, hgl, hgls, hcap, RG, -⟩ := HI3.out.machAt i hli
  rw [HMI.out] at RG
  obtain ⟨hFi, hFj⟩ := HFO.out _ HIN3.out
  have HFJ := Lib.hid hFj
  have HRG := Lib.hid RG
  have row0 := HI3.out.row
  unfold WV.row at row0
  rw [hlA, hlc] at row0
  have ROW := Lib.hid row0
  have TO := Lib.hid fun w' => wown_any (x2.vc y2.c) (x2.vs y2.c) ⟨_, _, _, rfl⟩ ⟨_, _, _, rfl⟩ y2.c.threads m2 w'
  have hown2 : ownM m2 = false := HOWN.out
  rw [hown2] at TO
  unfold machL WV.vc WV.vs at TO HRG
  have hiI : (i : Int) < (y2.l.length : Int) := by omega
  have HF3 : Hid (FrI R (OffS (x2.S E B) W3) y2) := ⟨HF2.out, fun j h1 h2 => by
    by_cases hj : j = i
    · subst hj
      exact hs.others _ _ _ _ (by rw [HMI.out]; exact HOWN.out)
    · exact HFJ.out j h1 h2 hj⟩
  have HMV2 : Hid (Moved NE RE y i y2) := by
    have h1 := HMV.out []
    exact ⟨h1.c, h1.m, h1.l, h1.t, h1.p, by have := h1.f; simpa using this, h1.tp⟩
  clear hvl hlA hlc RG hFi hFj row0 hown2
  obtain ⟨x0, x1, x2, x3, x4, x5, x6, x7, x8, x9⟩ := rowc10 ROW.out
  obtain ⟨q0, q1, q2, q3, q4, q5, q6, q7, q8, q9, q10, q11, q12, q13⟩ := range14 HRG.out
  go_wp2_with fail
  refine (TO.out _).mono ?_; rintro e w5 ⟨rfl, hb5⟩
  have HB5 : Hid (Below W3.heap.size W3 w5) := hb5
  clear hb5 TO x0 x1 x2 x3 x4 x5 x6 x7 x8 x9 q0 q1 q2 q3 q4 q5 q6 q7 q8 q9 q10 q11 q12 q13
  have T6 := Lib.hid (wsame_any hs hd (HI3.out.next HB5.out) (HF3.out.sub hs fun w3 h3 => (OffS.below HB5.out).trans1 h3) HK2.out i hli hl2)
  go_wp2_with fail
  refine T6.out.mono ?_; rintro e w7 ⟨rfl, hb7⟩
  have HB7 := Lib.hid (below_then HB5.out hb7)
  clear hb7 T6
  go_wp2_with fail
  go_ret
  exact ⟨x2, y2, rfl, HI3.out.next HB7.out, HF3.out.sub hs fun w3 h3 => (OffS.below HB7.out).trans1 h3, HMV2.out, Lib.hid fun w3 h3 => HIN3.out w3 ((OffS.below HB7.out).trans1 h3)⟩
theorem wstepL_yes {NE : ConfM → MachM → AccM} {RE : ConfM → MachM → AnsM → MachM} {R : (World → Prop) → ConfM → List Value → MachM → Prop} {K : ConfM → MachM → Prop} (hs : Sim NE RE ownM R) (hd : Doc NE RE K)
    {w0 w : World} {E : List (Option Nat)} {B D : Nat} {x : WV} {y : WM} (h : WI 49 w0 w E B D x y) (hf : FrI R (OffS (x.S E B) w) y) (hk : ∀ m ∈ y.l, K y.c m) (i : Nat) (hi : i < y.l.length) (hl : y.l.length ≤ 1000) (m : MachM) (hm : y.l[i] = m)
    (hp : ¬ m.pl = 0) (hr : (applyE y.m (NE y.c m)).2.2 = true) (ht : y.t.length ≤ 100000) (hpl : y.p.length ≤ 100000) : Calls Try.prog 21 #[.pointer (some ⟨B, 0, none⟩), .int .i64 i] w (StepW NE RE R w0 w E B D x y i) := by
  cases hown : ownM m with
  | true => exact wstepL_yes_own hs hd h hf hk i hi hl m hm hp hr ht hpl hown
  | false => exact wstepL_yes_not hs hd h hf hk i hi hl m hm hp hr ht hpl hown
end Go.Proofs.Ytjnlkemdaffgbaa
