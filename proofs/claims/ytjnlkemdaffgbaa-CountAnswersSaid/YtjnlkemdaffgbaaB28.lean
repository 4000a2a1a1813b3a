import Derived.StillTailTactics
import Derived.Test.YtjnlkemdaffgbaaB27
import Derived.Test.YtjnlkemdaffgbaaB23
import Derived.Test.YtjnlkemdaffgbaaB24
import Derived.Test.YtjnlkemdaffgbaaB21
import Derived.Test.YtjnlkemdaffgbaaB11
import Derived.Test.YtjnlkemdaffgbaaB26
set_option linter.unusedVariables false
set_option linter.unusedSimpArgs false
/- Layer 11: the program's machine that counts beside the document's. -/
namespace Go.Proofs.Ytjnlkemdaffgbaa
open Go.ChangeShapes Go.WideShapes Go.ChangeAt Go.RowKit
set_option maxRecDepth 100000

def pcI (m : MachM) : Int := if m.pl = 0 then 4 else m.pl
def PuR (G : World → Prop) (c : ConfM) (f : List Value) (m : MachM) : Prop :=
  ownM m = true → c.good ∧ rgK c m ∧ ((m.pl = 0 ∧ m.ok = 9 ∧ m.ov = restI (m.t / 2) m.h) ∨ (m.pl ≠ 0 ∧ m.ok = 0 ∧ m.ov = 0)) ∧ ∃ wa wn wc la ln lc, f = puL 0 (pcI m) (.slice wa wn wc) (.slice la ln lc) ∧ ∀ w, G w → PuV w c m.chan.toNat m.t m.h (.slice wa wn wc) (.slice la ln lc)
theorem own_what {m : MachM} (h : ownM m = true) : m.what = 6 := by unfold ownM at h; simpa using h
theorem what_own {m : MachM} (h : m.what = 6) : ownM m = true := by unfold ownM; simpa using h
theorem pu_new {G : World → Prop} {w w' : World} {c : ConfM} {m r : MachM} {nb nl : Nat} {t h pc : Int} (hg : c.good) (hK : rgK c r) (h0 : (r.pl = 0 ∧ r.ok = 9 ∧ r.ov = restI (r.t / 2) r.h) ∨ (r.pl ≠ 0 ∧ r.ok = 0 ∧ r.ov = 0)) (hpc : pcI r = pc) (h3 : r.chan = m.chan) (ht : r.t = t) (hh : r.h = h)
    (hn : w'.heap[nb]? = some (.cells #[.int .u64 t, .int .u64 h] 27 (0, 0))) (hl : w'.heap[nl]? = some (.cells #[.int .i64 (c.base m.chan.toNat), .int .i64 (c.base m.chan.toNat + 1)] 3 (0, 0))) (hb : w.heap.size ≤ nb) (hbl : w.heap.size ≤ nl) : PuR (Nx G w w') c (puL 0 pc (.slice (some ⟨nb, 0, none⟩) 2 2) (.slice (some ⟨nl, 0, none⟩) 2 2)) r := fun _ =>
  ⟨hg, hK, h0, _, _, _, _, _, _, by rw [hpc], fun w2 h9 => by
    have hu : U64 t := ht ▸ hK.t
    have hv : U64 h := hh ▸ hK.h
    rw [h3, ht, hh]
    have hk : m.chan.toNat < c.caps.length := by obtain ⟨k, hk, e⟩ := hK.chan; rw [h3] at e; omega
    have hb8 := hg.base8 m.chan.toNat (Nat.le_of_lt hk)
    exact ⟨sl2_at ((h9.2.same nb hb (Array.getElem?_eq_some_iff.1 hn).1).trans hn) hu.wrap hv.wrap, sl2_at ((h9.2.same nl hbl (Array.getElem?_eq_some_iff.1 hl).1).trans hl) (by rw [IntKind.wrap_i64]; omega) (by rw [IntKind.wrap_i64]; omega)⟩⟩
theorem pu_sim : Sim rgNE rgRE ownM PuR where
  sub := fun h hw ho => by
    obtain ⟨h1, h2, h3, wa, wn, wc, la, ln, lc, h4, h5⟩ := h ho
    exact ⟨h1, h2, h3, wa, wn, wc, la, ln, lc, h4, fun w hG => h5 w (hw w hG)⟩
  form := fun h ho => by
    obtain ⟨-, -, -, wa, wn, wc, la, ln, lc, rfl, _⟩ := h ho
    exact ⟨_, _, _, _, _, _, _, _, _, _, _, rfl⟩
  ends := fun {G c f m} w hG h ho => by
    have hw := own_what ho
    obtain ⟨hg, hK, hs, wa, wn, wc, la, ln, lc, rfl, hv⟩ := h ho
    rcases hs with ⟨h1, h2, h3⟩ | ⟨h1, h2, h3⟩
    · rw [show pcI m = 4 from by unfold pcI; rw [if_pos h1], h1, h2, h3]
      exact End_end c _ _ _ _ _ w (hv w hG)
    · rw [h2, h3, show (m.pl == (0 : Int)) = false from by simpa using h1]
      exact End_run _ (by unfold pcI; rw [if_neg h1]; have := hK.pl.2.2.2 hw; omega) c _ _ _ _ _ w (hv w hG)
  next := fun {G c f m} w hG h ho => by
    have hw := own_what ho
    obtain ⟨hg, hK, hs, wa, wn, wc, la, ln, lc, rfl, hv⟩ := h ho
    unfold rgNE pcI
    by_cases h1 : m.pl = 0
    · rw [if_pos h1, if_pos h1]
      exact pNext4 c _ _ _ _ _ w (hv w hG)
    · rw [if_neg h1, if_neg h1, if_neg (by omega), if_neg (by omega), if_neg (by omega)]
      have hps : m.pl = 1 ∨ m.pl = 2 ∨ m.pl = 3 := by have := hK.pl; have := hK.pl.2.2.2 hw; omega
      unfold countNE
      rcases hps with hp | hp | hp
      · rw [if_neg (by omega), hp]; exact pNext1 c _ _ _ _ _ w (hv w hG)
      · rw [if_pos hp, hp]; exact pNext2 c _ _ _ _ _ w (hv w hG)
      · rw [if_neg (by omega), hp]; exact pNext3 c _ _ _ _ _ w (hv w hG)
  resume := fun {G c f m} w b zA zn zc hbv hG h ho hp => by
    have hw := own_what ho
    obtain ⟨hg, hK, hs, wa, wn, wc, la, ln, lc, rfl, hv⟩ := h ho
    have KR := rgK_RE hK hbv
    obtain ⟨hok, hov⟩ : m.ok = 0 ∧ m.ov = 0 := by
      rcases hs with ⟨h1, _⟩ | ⟨_, h2⟩
      · exact absurd h1 hp
      · exact h2
    unfold pcI
    rw [if_neg hp]
    by_cases h1 : m.pl = 1
    · have e : rgRE c m b = { m with t := b.val, pl := 2 } := by unfold rgRE; rw [if_neg hp, if_neg (by omega), if_neg (by omega), if_neg (by omega)]; unfold countRE; rw [if_pos h1]
      rw [e] at KR ⊢
      rw [h1]
      refine (pRes1 c _ _ _ _ _ w (hv w hG) _ _ _ zA zn zc).mono ?_
      rintro e' w' ⟨nb, nl, rfl, hn, hl, hnb, hnl, hb'⟩
      exact ⟨_, rfl, pu_new (m := m) hg KR (.inr ⟨by show (2 : Int) ≠ 0; decide, hok, hov⟩) rfl rfl rfl rfl hn.out hl.out hnb.out hnl.out, hb'.out⟩
    by_cases h2 : m.pl = 2
    · have e : rgRE c m b = { m with h := b.val, pl := 3 } := by unfold rgRE; rw [if_neg hp, if_neg (by omega), if_neg (by omega), if_neg (by omega)]; unfold countRE; rw [if_neg h1, if_pos h2]
      rw [e] at KR ⊢
      rw [h2]
      refine (pRes2 c _ _ _ _ _ w (hv w hG) _ _ _ zA zn zc).mono ?_
      rintro e' w' ⟨nb, nl, rfl, hn, hl, hnb, hnl, hb'⟩
      exact ⟨_, rfl, pu_new (m := m) hg KR (.inr ⟨by show (3 : Int) ≠ 0; decide, hok, hov⟩) rfl rfl rfl rfl hn.out hl.out hnb.out hnl.out, hb'.out⟩
    have h3 : m.pl = 3 := by have := hK.pl; have := hK.pl.2.2.2 hw; omega
    rw [h3]
    by_cases he : b.val = m.t
    · have e : rgRE c m b = { m with pl := 0, ok := 9, ov := restI (m.t / 2) m.h } := by unfold rgRE; rw [if_neg hp, if_neg (by omega), if_neg (by omega), if_neg (by omega)]; unfold countRE; rw [if_neg h1, if_neg h2, if_pos he]
      rw [e] at KR ⊢
      rw [he]
      refine (pRes3e c _ _ _ _ _ w (hv w hG) _ _ zA zn zc).mono ?_
      rintro e' w' ⟨nb, nl, rfl, hn, hl, hnb, hnl, hb'⟩
      exact ⟨_, rfl, pu_new (m := m) hg KR (.inl ⟨rfl, rfl, rfl⟩) rfl rfl rfl rfl hn.out hl.out hnb.out hnl.out, hb'.out⟩
    · have e : rgRE c m b = { m with t := b.val, pl := 2 } := by unfold rgRE; rw [if_neg hp, if_neg (by omega), if_neg (by omega), if_neg (by omega)]; unfold countRE; rw [if_neg h1, if_neg h2, if_neg he]
      rw [e] at KR ⊢
      refine (pRes3n c _ _ _ _ _ w (hv w hG) _ _ _ zA zn zc he).mono ?_
      rintro e' w' ⟨nb, nl, rfl, hn, hl, hnb, hnl, hb'⟩
      exact ⟨_, rfl, pu_new (m := m) hg KR (.inr ⟨by show (2 : Int) ≠ 0; decide, hok, hov⟩) rfl rfl rfl rfl hn.out hl.out hnb.out hnl.out, hb'.out⟩
  stays := fun c m b => by unfold ownM; rw [rgRE_what]
  others := fun G c f m h ho => by rw [h] at ho; cases ho
theorem pu_resume {G : World → Prop} {c : ConfM} {f : List Value} {m : MachM} (w : World) (b : AnsM) (zA : Option Addr) (zn zc : Nat) (hbv : U64 b.val) (hG : G w) (h : PuR G c f m) (ho : ownM m = true) : Calls Try.prog 17 #[.agg f.toArray, .agg #[.int .u64 b.val, .bool b.ok, .bool b.late, .slice zA zn zc]] w fun e w' => ∃ f2, e = .returned (.agg f2.toArray) ∧ PuR (Nx G w w') c f2 (rgRE c m b) ∧ Below w.heap.size w w' := by
  by_cases hp : m.pl = 0
  · obtain ⟨hg, hK, hs, wa, wn, wc, la, ln, lc, rfl, hv⟩ := h ho
    have e : rgRE c m b = m := by unfold rgRE; rw [if_pos hp]
    rw [e, show pcI m = 4 from by unfold pcI; rw [if_pos hp]]
    refine (pResE c _ _ _ _ _ w (hv w hG) b.val b.ok b.late zA zn zc).mono ?_
    rintro e' w' ⟨rfl, hb'⟩
    exact ⟨_, rfl, fun _ => ⟨hg, hK, hs, wa, wn, wc, la, ln, lc, by unfold pcI; rw [if_pos hp], fun w2 h9 => hv w2 h9.1⟩, hb'⟩
  · exact pu_sim.resume w b zA zn zc hbv hG h ho hp
theorem fr_ans {S : List (Option Nat)} {w8 u1 u2 wf : World} {y : WM} {m m2 : MachM} {f2 : List Value} (hr : PuR (Nx (OffS S w8) u1 u2) y.c f2 m2) (h1 : Below w8.heap.size w8 u1) (hb : Below u1.heap.size u1 u2) (hin : ∀ w3, OffS S wf w3 → OffS S u2 w3) (hS : ∀ j, some j ∈ S → j < w8.heap.size) (hf : y.f.length = 1) (hl : y.l = [m]) : FrI PuR (OffS S wf) { y with l := y.l.set 0 m2, f := y.f.set 0 f2 } := by
  refine ⟨by show (y.f.set 0 f2).length = (y.l.set 0 m2).length; rw [List.length_set, List.length_set, hf, hl]; rfl, fun j h2 h3 => ?_⟩
  have hj : j = 0 := by
    have h4 : j < (y.f.set 0 f2).length := h2
    rw [List.length_set, hf] at h4
    omega
  subst hj
  have e1 : (y.f.set 0 f2)[0]'h2 = f2 := by simp
  have e2 : (y.l.set 0 m2)[0]'h3 = m2 := by simp
  show PuR _ y.c ((y.f.set 0 f2)[0]'h2) ((y.l.set 0 m2)[0]'h3)
  rw [e1, e2]
  refine pu_sim.sub hr fun w3 h => ?_
  have h4 := hin w3 h
  have z1 := h1.size
  have z2 := hb.size
  exact ⟨(OffS.below (below_then h1 hb)).trans1 h4, ⟨h4.1, fun j hj hj2 => h4.2 j hj2 (fun e => by have := hS j e; omega)⟩⟩
theorem pu_starts {c : ConfM} (hg : c.good) (k : Nat) (th v : Int) (hv : U64 v) (hk : k < c.caps.length) (a a2 : Option Addr) (cap cap2 : Nat) : Starts PuR c ⟨6, 1, k, th, v % 4, v % 8, v, 0, 0, 0, 0⟩ (.slice a c.caps.length cap) (.slice a2 c.starts.length cap2) := fun w hcv => by
  refine (lawStart_any a a2 cap cap2 c k hk hg ⟨6, 1, k, th, v % 4, v % 8, v, 0, 0, 0, 0⟩ rfl w hcv).mono ?_
  rintro e w' ⟨W, L, rfl, hp, hb⟩
  obtain ⟨wb, wo, wc, lb, lo, lc, rfl, rfl, -⟩ := (hp.out w' (NewPart.self _ _)).open
  have hK : rgK c ⟨6, 1, k, th, v % 4, v % 8, v, 0, 0, 0, 0⟩ := rgK_new c 6 k th v (by omega) hk hv
  exact ⟨_, rfl, fun _ => ⟨hg, hK, .inr ⟨by show (1 : Int) ≠ 0; omega, rfl, rfl⟩, _, _, _, _, _, _, rfl, fun w2 h => hp.out w2 h⟩, hb.out⟩
end Go.Proofs.Ytjnlkemdaffgbaa
/- Layer 11: whole plays of the law's worlds. -/
namespace Go.Proofs.Ytjnlkemdaffgbaa
open Go.ChangeShapes Go.WideShapes Go.ChangeAt Go.RowKit
set_option maxRecDepth 100000

theorem wstepL_any {NE : ConfM → MachM → AccM} {RE : ConfM → MachM → AnsM → MachM} {R : (World → Prop) → ConfM → List Value → MachM → Prop} {K : ConfM → MachM → Prop} (hs : Sim NE RE ownM R) (hd : Doc NE RE K)
    {w0 w : World} {E : List (Option Nat)} {B D : Nat} {x : WV} {y : WM} (h : WI 49 w0 w E B D x y) (hf : FrI R (OffS (x.S E B) w) y) (hk : ∀ m ∈ y.l, K y.c m) (i : Nat) (hi : i < y.l.length) (hl : y.l.length ≤ 1000) (ht : y.t.length ≤ 100000) (hpl : y.p.length ≤ 100000) : Calls Try.prog 21 #[.pointer (some ⟨B, 0, none⟩), .int .i64 i] w (StepW NE RE R w0 w E B D x y i) := by
  by_cases hp : y.l[i].pl = 0
  · exact wstepL_end hs hd h hf hk i hi hl _ rfl hp
  · cases hr : (applyE y.m (NE y.c y.l[i])).2.2 with
    | false => exact wstepL_not hs hd h hf hk i hi hl _ rfl hp hr
    | true => exact wstepL_yes hs hd h hf hk i hi hl _ rfl hp hr ht hpl
/-- machines make their accesses one after another -/
def runE (NE : ConfM → MachM → AccM) (RE : ConfM → MachM → AnsM → MachM) (c : ConfM) (s : MemM × List MachM) (is : List Nat) : MemM × List MachM := is.foldl (fun s i => stepE NE RE c s.1 s.2 i) s
theorem runE_snoc (NE : ConfM → MachM → AccM) (RE : ConfM → MachM → AnsM → MachM) (c : ConfM) (s : MemM × List MachM) (is : List Nat) (i : Nat) : runE NE RE c s (is ++ [i]) = stepE NE RE c (runE NE RE c s is).1 (runE NE RE c s is).2 i := by
  unfold runE
  rw [List.foldl_append]
  rfl
/-- the machine that a pick means -/
def pickI (n : Nat) (p : Int) : Nat := (p.tmod (n : Int)).toNat
/-- the accesses of a play: by picks, and then all in turn -/
def playL (l : List Int) (most turns n : Nat) : List Nat := (l.take most).map (pickI n) ++ (List.replicate turns (List.range n)).flatten
theorem flat_next (turns n : Nat) : (List.replicate turns (List.range n)).flatten ++ List.range n = (List.replicate (turns + 1) (List.range n)).flatten := by
  rw [List.replicate_succ', List.flatten_append]
  simp
/-- the run with its records -/
def stepT (NE : ConfM → MachM → AccM) (RE : ConfM → MachM → AnsM → MachM) (c : ConfM) (s : (MemM × List MachM) × (List Int × List MemM)) (i : Nat) : (MemM × List MachM) × (List Int × List MemM) := (stepE NE RE c s.1.1 s.1.2 i, tpE NE c s.1.1 s.1.2 i s.2)
/-- what k steps leave -/
structure ReachN (NE : ConfM → MachM → AccM) (RE : ConfM → MachM → AnsM → MachM) (K : ConfM → MachM → Prop) (y y2 : WM) (k : Nat) (is : List Nat) : Prop where
  run : (y2.m, y2.l) = runE NE RE y.c (y.m, y.l) is
  c : y2.c = y.c
  l : y2.l.length = y.l.length
  all : ∀ m ∈ y2.l, K y2.c m
  t : y2.t.length ≤ y.t.length + k
  p : y2.p.length ≤ y.p.length + k
  tp : ((y2.m, y2.l), (y2.t.map ItemM.thr, y2.p.map Prod.snd)) = is.foldl (stepT NE RE y.c) ((y.m, y.l), (y.t.map ItemM.thr, y.p.map Prod.snd))
theorem ReachN.step {NE : ConfM → MachM → AccM} {RE : ConfM → MachM → AnsM → MachM} {R : (World → Prop) → ConfM → List Value → MachM → Prop} {K : ConfM → MachM → Prop} (hs : Sim NE RE ownM R) (hd : Doc NE RE K) {y y2 y3 : WM} {k i : Nat} {is : List Nat} (h : ReachN NE RE K y y2 k is) (hm : Moved NE RE y2 i y3) (hfit : y2.m.fits) : ReachN NE RE K y y3 (k + 1) (is ++ [i]) := by
  refine ⟨by rw [runE_snoc, ← h.run, hm.m, hm.l, h.c], hm.c.trans h.c, by rw [hm.l, stepE_len]; exact h.l, ?_, by have := hm.t; have := h.t; omega, by have := hm.p; have := h.p; omega, by rw [List.foldl_append, ← h.tp]; show _ = stepT NE RE y.c _ i; unfold stepT; rw [← h.c, hm.m, hm.l, hm.tp]⟩
  rw [hm.l, hm.c]
  exact stepE_all2 (P := fun m => K y2.c m) _ hfit (fun k b hb hk => hd.stays _ _ _ hk hb) _ _ h.all
theorem ReachN.le {NE : ConfM → MachM → AccM} {RE : ConfM → MachM → AnsM → MachM} {K : ConfM → MachM → Prop} {y y2 : WM} {k n : Nat} {is : List Nat} (h : ReachN NE RE K y y2 k is) (hk : k ≤ n) : ReachN NE RE K y y2 n is := ⟨h.run, h.c, h.l, h.all, by have := h.t; omega, by have := h.p; omega, h.tp⟩
def PlayQ (NE : ConfM → MachM → AccM) (RE : ConfM → MachM → AnsM → MachM) (R : (World → Prop) → ConfM → List Value → MachM → Prop) (K : ConfM → MachM → Prop) (w0 : World) (E : List (Option Nat)) (B D : Nat) (y : WM) (k : Nat) (is : List Nat) (e : Ending) (w' : World) : Prop :=
  ∃ x2 y2, e = .returned (.bool true) ∧ Hid (WI 49 w0 w' E B D x2 y2) ∧ Hid (FrI R (OffS (x2.S E B) w') y2) ∧ Hid (ReachN NE RE K y y2 k is)
def PlayI (NE : ConfM → MachM → AccM) (RE : ConfM → MachM → AnsM → MachM) (R : (World → Prop) → ConfM → List Value → MachM → Prop) (K : ConfM → MachM → Prop) (w0 : World) (E : List (Option Nat)) (B D : Nat) (y : WM) (k : Nat) (is : List Nat) (wr : World) : Prop :=
  ∃ x2 y2, Hid (WI 49 w0 wr E B D x2 y2) ∧ Hid (FrI R (OffS (x2.S E B) wr) y2) ∧ Hid (ReachN NE RE K y y2 k is)
set_option maxRecDepth 100000 in
set_option maxHeartbeats 32000000 in
theorem wplay_any {NE : ConfM → MachM → AccM} {RE : ConfM → MachM → AnsM → MachM} {R : (World → Prop) → ConfM → List Value → MachM → Prop} {K : ConfM → MachM → Prop} (hs : Sim NE RE ownM R) (hd : Doc NE RE K)
    {w0 w : World} {E : List (Option Nat)} {B D : Nat} {x : WV} {y : WM} (h : WI 49 w0 w E B D x y) (hf : FrI R (OffS (x.S E B) w) y) (hk : ∀ m ∈ y.l, K y.c m) (hl0 : 1 ≤ y.l.length) (hl : y.l.length ≤ 20) (ht : y.t.length ≤ 1000) (hpl : y.p.length ≤ 1000) (v : Value) (l : List Int) (hv : SlI w0 .u8 v l) (most turns : Nat) (hmo : most ≤ 1000) (htu : turns ≤ 1000) : Calls Try.prog 9 #[.pointer (some ⟨B, 0, none⟩), v, .int .i64 most, .int .i64 turns] w (PlayQ NE RE R K w0 E B D y (most + turns * y.l.length) (playL l most turns y.l.length)) := by
  have HV := Lib.hid hv
  obtain ⟨av, cv, rfl, hvc⟩ := hv.len
  have HP0 : Hid (PlayI NE RE R K w0 E B D y 0 ((l.take 0).map (pickI y.l.length)) w) := ⟨x, y, h, hf, rfl, rfl, rfl, hk, by omega, by omega, rfl⟩
  have hvl := hv.1
  clear h hf hk hv
  go_enter Try.func9, Try.ntmps9
  go_wp2_with fail
  go_loopw [9] (fun u9 wr => ∃ k : Nat, u9 = .int .i64 k ∧ k ≤ l.length ∧ k ≤ most ∧ Hid (PlayI NE RE R K w0 E B D y k ((l.take k).map (pickI y.l.length)) wr)) (fun u9 _ => 1000 - (intOf u9).toNat)
  case atStart => exact ⟨0, rfl, by omega, by omega, HP0⟩
  case round =>
    clear HP0
    obtain ⟨k, rfl, hk1, hk2, x2, y2, HI, HF, HR⟩ := hrel
    obtain ⟨wo, rfl⟩ : ∃ wo : World, wo = wr := ⟨_, rfl⟩
    have row0 := HI.out.row
    have hBl := HI.out.lt
    unfold WV.row at row0
    have ROW := Lib.hid row0
    clear row0
    have hll : y2.l.length = y.l.length := HR.out.l
    have HLL := Lib.hid hll
    have hl1 : 1 ≤ y2.l.length := by omega
    have hl2 : y2.l.length ≤ 20 := by omega
    clear hll
    by_cases hlt : k < l.length ∧ k < most
    · obtain ⟨hlt1, hlt2⟩ := hlt
      obtain ⟨b, off, cap', e, hcap2, hb, hcell⟩ := HV.out.open (by rintro rfl; simp at hlt1)
      simp only [Value.slice.injEq] at e
      obtain ⟨rfl, -, rfl⟩ := e
      obtain ⟨p, hp⟩ : ∃ p, l.getD k 0 = p := ⟨_, rfl⟩
      have hck := hcell k hlt1
      rw [hp] at hck
      have hcw : wo.cell? ⟨b, off + k, none⟩ = some (.int .u8 p) := (HI.out.below.cell (p := ⟨b, off + k, none⟩) hb).trans hck
      have hpb : 0 ≤ p ∧ p < 256 := by
        have h1 := HV.out.2.1 _ (List.getElem_mem hlt1)
        rw [IntKind.wrap_u8] at h1
        have h2 : l[k]'hlt1 = p := by rw [← hp, List.getD_eq_getElem?_getD, List.getElem?_eq_getElem hlt1]; rfl
        omega
      obtain ⟨hp0, hp1⟩ := hpb
      have HPP := Lib.hid hp
      have hkI : (k : Int) < (l.length : Int) := by omega
      have hkM : (k : Int) < (most : Int) := by omega
      have hnI : (0 : Int) < (y2.l.length : Int) := by omega
      obtain ⟨x0, x1, x2', x3, x4, x5, x6, x7, x8, x9⟩ := rowc10 ROW.out
      clear hcell hp hck x0 x1 x2' x3 x4 x5 x7 x8 x9
      go_wp2_with fail
      have hwp : IntKind.i64.wrap p = p := by rw [IntKind.wrap_i64]; omega
      obtain ⟨q, hq⟩ : ∃ q : Nat, p.tmod (y2.l.length : Int) = (q : Int) := ⟨(p.tmod (y2.l.length : Int)).toNat, by have := Int.tmod_nonneg (y2.l.length : Int) hp0; omega⟩
      have HQQ : Hid (q = pickI y.l.length (l[k]'hlt1)) := by
        show q = (Int.tmod _ _).toNat
        rw [← HLL.out, show l[k]'hlt1 = p by rw [← HPP.out, List.getD_eq_getElem?_getD, List.getElem?_eq_getElem hlt1]; rfl, hq]
        simp
      have hql : q < y2.l.length := by have := Int.tmod_lt_of_pos p hnI; omega
      have hwq : IntKind.i64.wrap (q : Int) = (q : Int) := by rw [IntKind.wrap_i64]; omega
      have hne0 : ¬ y2.l = [] := by rintro e; rw [e] at hl1; simp at hl1
      have hne1 : ¬ ((y2.l.length : Int) = 0) := by omega
      go_still_tail 13, (by kernel_rfl)
      clear hwp hq hwq hne0 hne1
      change wpList _ _ _ _ _ wo.drew
      obtain ⟨u, hu, HU⟩ := drew_pack wo
      rw [hu]
      clear hu
      have HQ := Lib.hid (wstepL_any hs hd (HI.out.next HU.out) (HF.out.sub hs fun w3 h3 => (OffS.below HU.out).trans1 h3) HR.out.all q hql (by omega) (by have := HR.out.t; omega) (by have := HR.out.p; omega))
      clear hcw x6
      go_wp2_with fail
      refine HQ.out.mono ?_
      rintro e w5 ⟨x3, y3, rfl, HI3, HF3, HM3, -⟩
      have HR3 : Hid (ReachN NE RE K y y3 (k + 1) ((l.take (k + 1)).map (pickI y.l.length))) := by
        have h9 := HR.out.step hs hd HM3.out HI.out.fits
        rw [List.take_succ_eq_append_getElem hlt1, List.map_append, List.map_singleton, ← HQQ.out]
        exact h9
      clear HQ HI HF HR HM3 ROW
      go_wp2_with fail
      go_roundw
      case rel => exact ⟨k + 1, by go_num, by omega, by omega, x3, y3, HI3, HF3, HR3⟩
      case measure => simp [intOf]; omega
    · have hc : (¬ k < l.length) ∨ (k < l.length ∧ ¬ k < most) := by omega
      have HP : Hid (PlayI NE RE R K w0 E B D y most ((l.take most).map (pickI y.l.length)) wo) := ⟨x2, y2, HI, HF, by
        have h9 := HR.out.le hk2
        have e : l.take k = l.take most := by
          rcases hc with h | ⟨_, h⟩
          · rw [List.take_of_length_le (by omega), List.take_of_length_le (by omega)]
          · rw [show k = most by omega]
        rw [e] at h9
        exact h9⟩
      clear HI HF HR ROW HLL hlt hl1 hl2 hBl
      rcases hc with hc | ⟨hc, hc2⟩
      all_goals
        go_wp2_with fail
        go_loopw [10] (fun u10 wr => ∃ n : Nat, u10 = .int .i64 n ∧ n ≤ turns ∧ Hid (PlayI NE RE R K w0 E B D y (most + n * y.l.length) ((l.take most).map (pickI y.l.length) ++ (List.replicate n (List.range y.l.length)).flatten) wr)) (fun u10 _ => 1001 - (intOf u10).toNat)
        case atStart => exact ⟨0, rfl, by omega, by rw [Nat.zero_mul, List.replicate_zero, List.flatten_nil, List.append_nil]; exact HP⟩
        case round =>
          clear HP
          obtain ⟨n, rfl, hn1, x3, y3, HI3, HF3, HR3⟩ := hrel
          obtain ⟨wn, rfl⟩ : ∃ wo : World, wo = wr := ⟨_, rfl⟩
          by_cases hnt : n < turns
          · have hlen : Hid (y3.l.length = y.l.length) := HR3.out.l
            have hmul : Hid (n * y.l.length ≤ 20000) := by
              have : n * y.l.length ≤ 1000 * 20 := Nat.mul_le_mul (by omega) hl
              show _ ≤ _; omega
            have row0 := HI3.out.row
            unfold WV.row at row0
            obtain ⟨x0, x1, xx2, xx3, x4, x5, x6, x7, x8, x9⟩ := rowc10 row0
            rw [hlen.out] at x6
            have HPI : Hid (PlayI NE RE R K w0 E B D y (most + n * y.l.length + 0) ((l.take most).map (pickI y.l.length) ++ (List.replicate n (List.range y.l.length)).flatten ++ List.range 0) wn) := ⟨x3, y3, HI3, HF3, by rw [List.range_zero, List.append_nil]; exact HR3⟩
            clear row0 x0 x1 xx2 xx3 x4 x5 x7 x8 x9 HI3 HF3 HR3
            go_wp2_with fail
            go_loopw [58] (fun u58 wq => ∃ i : Nat, u58 = .int .i64 i ∧ i ≤ y.l.length ∧ Hid (PlayI NE RE R K w0 E B D y (most + n * y.l.length + i) ((l.take most).map (pickI y.l.length) ++ (List.replicate n (List.range y.l.length)).flatten ++ List.range i) wq)) (fun u58 _ => 21 - (intOf u58).toNat)
            case atStart => exact ⟨0, rfl, by omega, HPI⟩
            case round =>
              clear HPI x6
              obtain ⟨i, rfl, hi1, x4, y4, HI4, HF4, HR4⟩ := hrel
              obtain ⟨wi, rfl⟩ : ∃ wo : World, wo = wr := ⟨_, rfl⟩
              by_cases hil : i < y.l.length
              · have hilI : (i : Int) < (y.l.length : Int) := by omega
                have HQ := Lib.hid (wstepL_any hs hd HI4.out HF4.out HR4.out.all i (by have := HR4.out.l; omega) (by have := HR4.out.l; omega) (by have := HR4.out.t; have := hmul.out; omega) (by have := HR4.out.p; have := hmul.out; omega))
                go_wp2_with fail
                refine HQ.out.mono ?_
                rintro e w5 ⟨x5, y5, rfl, HI5, HF5, HM5, -⟩
                have HR5 : Hid (ReachN NE RE K y y5 (most + n * y.l.length + i + 1) ((l.take most).map (pickI y.l.length) ++ (List.replicate n (List.range y.l.length)).flatten ++ List.range (i + 1))) := by
                  rw [List.range_succ, ← List.append_assoc]
                  exact HR4.out.step hs hd HM5.out HI4.out.fits
                clear HQ HI4 HF4 HR4 HM5
                go_wp2_with fail
                go_roundw
                case rel => exact ⟨i + 1, by go_num, by omega, x5, y5, HI5, HF5, HR5⟩
                case measure => simp [intOf]; omega
              · obtain rfl : i = y.l.length := by omega
                have HPN : Hid (PlayI NE RE R K w0 E B D y (most + (n + 1) * y.l.length) ((l.take most).map (pickI y.l.length) ++ (List.replicate (n + 1) (List.range y.l.length)).flatten) wi) := by rw [Nat.succ_mul, ← Nat.add_assoc, ← flat_next, ← List.append_assoc]; exact ⟨x4, y4, HI4, HF4, HR4⟩
                clear HI4 HF4 HR4
                go_wp2_with fail
                go_roundw
                case rel => exact ⟨n + 1, by go_num, by omega, HPN⟩
                case measure => simp [intOf]; omega
          · obtain rfl : n = turns := by omega
            go_wp2_with fail
            go_ret
            exact ⟨x3, y3, rfl, HI3, HF3, HR3⟩
end Go.Proofs.Ytjnlkemdaffgbaa
/- Layer 11: machines of a ring in the law's world, one access at a time. -/
namespace Go.Proofs.Ytjnlkemdaffgbaa
open Go.ChangeShapes Go.WideShapes Go.ChangeAt Go.RowKit
set_option maxRecDepth 100000

theorem WI.notIn {WT : TypeId} {w0 w : World} {E : List (Option Nat)} {B D : Nat} {x : WV} {y : WM} (h : WI WT w0 w E B D x y) {K : Nat} {cs : Array Value} {T : TypeId} (hK : w.heap[K]? = some (.cells cs T (0, 0))) (hE : some K ∉ E) (hB : K ≠ B) (h1 : T ≠ 58) (h2 : T ≠ 71) (h3 : T ≠ 39) (h4 : T ≠ 61) : some K ∉ x.S E B := by
  have k : ∀ {a : Option Addr} {n c : Nat} {e : TypeId} {s : Nat} {r : List (List Value)}, OwnS w D e s (.slice a n c) r → T ≠ e → some K = addrB a → False := fun ho he e => by
    rcases ho.2.2 with ⟨hv, _⟩ | ⟨b, cap, cur, hv, _, hb, _⟩
    · simp only [Value.slice.injEq] at hv
      rw [hv.1] at e
      cases e
    · simp only [Value.slice.injEq] at hv
      rw [hv.1] at e
      simp only [addrB, Option.map_some, Option.some.injEq] at e
      rw [e, hb] at hK
      simp at hK
      exact he hK.2.symm
  intro hm
  simp only [WV.S, List.mem_append, List.mem_cons, List.not_mem_nil, or_false, Option.some.injEq] at hm
  rcases hm with e | e | e | e | e | e
  · exact hE e
  · exact hB e
  · exact k h.ol h1 e
  · exact k h.ot h2 e
  · exact k h.op h3 e
  · exact k h.of h4 e
/-- a world with n machines, at most q accesses made; E: blocks that may change besides -/
structure AL (w0 wr : World) (E : List (Option Nat)) (B : Nat) (x : WV) (y : WM) (c : ConfM) (n q : Nat) : Prop where
  wi : WI 49 w0 wr E B (B + 1) x y
  fr : FrI PuR (OffS (x.S E B) wr) y
  ce : y.c = c
  ks : ∀ m ∈ y.l, rgK y.c m
  len : y.l.length = n
  small : y.t.length ≤ q ∧ y.p.length ≤ q
  one : 1 ≤ c.caps.length
theorem al_add {w0 w : World} {E : List (Option Nat)} {B : Nat} {x : WV} {y : WM} {c : ConfM} {n q : Nat} (h : AL w0 w E B x y c n q) (hn : n ≤ 100) (what v : Int) (hw : what = 3 ∨ what = 4 ∨ what = 5 ∨ what = 6) (hv : U64 v) :
    Calls Try.prog 8 #[.pointer (some ⟨B, 0, none⟩), .int .i64 what, .int .i64 0, .int .i64 0, .int .u64 v] w fun e w' => ∃ x2 y2, e = .returned (.tuple #[]) ∧ Hid (AL w0 w' E B x2 y2 c (n + 1) q) ∧ y2.m = y.m ∧ y2.l = y.l ++ [⟨what, 1, 0, 0, v % 4, v % 8, v, 0, 0, 0, 0⟩] ∧ Hid (OffS (x.S E B) w w') := by
  have key : ∀ e w', AddQ PuR w0 w E B (B + 1) x y ⟨what, 1, 0, 0, v % 4, v % 8, v, 0, 0, 0, 0⟩ e w' → ∃ x2 y2, e = .returned (.tuple #[]) ∧ Hid (AL w0 w' E B x2 y2 c (n + 1) q) ∧ y2.m = y.m ∧ y2.l = y.l ++ [⟨what, 1, 0, 0, v % 4, v % 8, v, 0, 0, 0, 0⟩] ∧ Hid (OffS (x.S E B) w w') := by
    rintro e w' ⟨x2, f2, rfl, h1, h2, -, h3⟩
    refine ⟨x2, _, rfl, ⟨h1.out, h2.out, h.ce, fun m hm => ?_, by show (y.l ++ [_]).length = _; rw [List.length_append, h.len]; rfl, h.small, h.one⟩, rfl, rfl, Lib.hid (h3.out _ (OffS.self _ _))⟩
    have hm' : m ∈ y.l ++ [⟨what, 1, 0, 0, v % 4, v % 8, v, 0, 0, 0, 0⟩] := hm
    rw [List.mem_append, List.mem_singleton] at hm'
    rcases hm' with hm' | rfl
    · exact h.ks m hm'
    · exact rgK_new y.c what 0 0 v (by omega) (by rw [h.ce]; exact h.one) hv
  by_cases hw4 : what = 6
  · subst hw4
    exact (wadd_own pu_sim h.wi h.fr 6 0 0 v rfl hv.1 (pu_starts h.wi.good 0 0 v hv (by rw [h.ce]; exact h.one) _ _ _ _) (by have := h.len; omega)).mono key
  · exact (wadd_not pu_sim h.wi h.fr what 0 0 v (by unfold ownM; simpa using hw4) hv.1 (by have := h.len; omega)).mono key
theorem stepE_length (c : ConfM) (m : MemM) (l : List MachM) (i : Nat) : (stepE rgNE rgRE c m l i).2.length = l.length := by
  unfold stepE
  split
  · rfl
  · split
    · rfl
    · split
      · simp
      · rfl
theorem al_stepE {w0 w : World} {E : List (Option Nat)} {B : Nat} {x : WV} {y : WM} {c : ConfM} {n q : Nat} (h : AL w0 w E B x y c n q) (hn : n ≤ 200) (hq : q ≤ 1000) (i : Nat) (hi : i < n) :
    Calls Try.prog 21 #[.pointer (some ⟨B, 0, none⟩), .int .i64 i] w fun e w' => ∃ x2 y2, e = .returned (.bool true) ∧ Hid (AL w0 w' E B x2 y2 c n (q + 1)) ∧ (y2.m, y2.l) = stepE rgNE rgRE c y.m y.l i ∧ Hid (OffS (x.S E B) w w') := by
  refine (wstepL_any pu_sim rg_doc h.wi h.fr h.ks i (by rw [h.len]; omega) (by rw [h.len]; omega) (by have := h.small; omega) (by have := h.small; omega)).mono ?_
  rintro e w' ⟨x2, y2, rfl, h1, h2, h3, h4⟩
  have hm := h3.out.m
  have hL := h3.out.l
  rw [h.ce] at hm hL
  have hks : ∀ m ∈ y2.l, rgK y2.c m := by
    rw [h3.out.c, h3.out.l]
    exact stepE_all2 y.m h.wi.fits (fun k b hb hk => rgK_RE hk hb) y.l i h.ks
  exact ⟨x2, y2, rfl, ⟨h1.out, h2.out, h3.out.c.trans h.ce, hks, by rw [hL, stepE_length, h.len], ⟨by have := h3.out.t; have := h.small; omega, by have := h3.out.p; have := h.small; omega⟩, h.one⟩, by rw [hm, hL], Lib.hid (h4.out _ (OffS.self _ _))⟩
theorem AL.next {w0 w w' : World} {E : List (Option Nat)} {B : Nat} {x : WV} {y : WM} {c : ConfM} {n q : Nat} (h : AL w0 w E B x y c n q) (hb : Below w.heap.size w w') : AL w0 w' E B x y c n q :=
  ⟨h.wi.next hb, h.fr.sub pu_sim fun w3 h3 => (OffS.below hb).trans1 h3, h.ce, h.ks, h.len, h.small, h.one⟩
theorem AL.le {w0 w : World} {E : List (Option Nat)} {B : Nat} {x : WV} {y : WM} {c : ConfM} {n q q2 : Nat} (h : AL w0 w E B x y c n q) (hq : q ≤ q2) : AL w0 w E B x y c n q2 :=
  ⟨h.wi, h.fr, h.ce, h.ks, h.len, ⟨by have := h.small.1; omega, by have := h.small.2; omega⟩, h.one⟩
/-- a block whose row is of another kind stays -/
theorem AL.keeps {w0 w w' : World} {E : List (Option Nat)} {B : Nat} {x : WV} {y : WM} {c : ConfM} {n q : Nat} (h : AL w0 w E B x y c n q) {O : Nat} {cs : Array Value} {T : TypeId} (hO : w.heap[O]? = some (.cells cs T (0, 0))) (hE : some O ∉ E) (hB : O ≠ B) (h1 : T ≠ 58) (h2 : T ≠ 71) (h3 : T ≠ 39) (h4 : T ≠ 61) (ho : OffS (x.S E B) w w') : w'.heap[O]? = some (.cells cs T (0, 0)) :=
  (ho.2 O (Array.getElem?_eq_some_iff.1 hO).1 (h.wi.notIn hO hE hB h1 h2 h3 h4)).trans hO
/-- where the frame of one's own machine lies, and what End answers -/
theorem AL.ends {w0 w : World} {E : List (Option Nat)} {B : Nat} {x : WV} {y : WM} {c : ConfM} {n q : Nat} (h : AL w0 w E B x y c n q) (i : Nat) (m : MachM) (hm : y.l[i]? = some m) (ho : ownM m = true) :
    ∃ fl fc r0 r1 s2 k2 l2 s3 k3 l3 s4 k4 l4, i < n ∧ fl < w.heap.size ∧ B < w.heap.size ∧ w.cell? ⟨B, 9, none⟩ = some (.slice (some ⟨fl, 0, none⟩) n fc) ∧ w.cell? ⟨fl, i * 5, none⟩ = some (.int .i64 r0) ∧ w.cell? ⟨fl, i * 5 + 1, none⟩ = some (.int .i64 r1) ∧ w.cell? ⟨fl, i * 5 + 2, none⟩ = some (.slice s2 k2 l2) ∧ w.cell? ⟨fl, i * 5 + 3, none⟩ = some (.slice s3 k3 l3) ∧ w.cell? ⟨fl, i * 5 + 4, none⟩ = some (.slice s4 k4 l4)
      ∧ Hid (∀ w', Below w.heap.size w w' → Calls Try.prog 18 #[.agg #[.int .i64 r0, .int .i64 r1, .slice s2 k2 l2, .slice s3 k3 l3, .slice s4 k4 l4]] w' fun e w2 => e = .returned (.tuple #[.agg #[.int .i64 m.ok, .int .u64 m.ov], .bool (m.pl == 0)]) ∧ Below w'.heap.size w' w2) := by
  obtain ⟨hi, hmi⟩ := List.getElem?_eq_some_iff.1 hm
  have hif : i < y.f.length := by rw [h.fr.1]; exact hi
  have hR := h.fr.2 i hif hi
  rw [hmi] at hR
  obtain ⟨fl, fc, hvf, hfA, hfc, hfl, hfls, hfcap, FG, -⟩ := h.wi.frameAt i hif
  obtain ⟨r0, r1, s2, k2, l2, s3, k3, l3, s4, k4, l4, he⟩ := pu_sim.form hR ho
  rw [he] at FG hR
  have row0 := h.wi.row
  have hf3 : y.f.length = n := by rw [h.fr.1, h.len]
  unfold WV.row at row0
  rw [hfA, hfc, hf3] at row0
  obtain ⟨f0, f1, f2, f3, f4⟩ := range5 FG
  exact ⟨fl, fc, r0, r1, s2, k2, l2, s3, k3, l3, s4, k4, l4, by rw [← h.len]; exact hi, hfls, h.wi.lt, (rowc10 row0).2.2.2.2.2.2.2.2.2, f0, f1, f2, f3, f4, Lib.hid fun w' hb => pu_sim.ends w' (OffS.below hb) hR ho⟩
theorem run_next {c : ConfM} {s : MemM × List MachM} {y y2 : WM} {is : List Nat} {i : Nat} (h : (y.m, y.l) = runE rgNE rgRE c s is) (h2 : (y2.m, y2.l) = stepE rgNE rgRE c y.m y.l i) : (y2.m, y2.l) = runE rgNE rgRE c s (is ++ [i]) := by
  rw [runE_snoc, ← h]; exact h2
theorem run_rep {c : ConfM} {s : MemM × List MachM} {y y2 : WM} {j i : Nat} (h : (y.m, y.l) = runE rgNE rgRE c s (List.replicate j i)) (h2 : (y2.m, y2.l) = stepE rgNE rgRE c y.m y.l i) : (y2.m, y2.l) = runE rgNE rgRE c s (List.replicate (j + 1) i) := by
  rw [List.replicate_succ']; exact run_next h h2
end Go.Proofs.Ytjnlkemdaffgbaa
