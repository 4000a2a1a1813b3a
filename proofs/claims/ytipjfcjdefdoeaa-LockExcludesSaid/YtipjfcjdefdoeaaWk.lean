/- Layer 7: the machines of a lock beside the document's. -/
import Derived.Test.YtipjfcjdefdoeaaWa
namespace Go.Proofs.Ytipjfcjdefdoeaa
open Go.ChangeShapes Go.WideShapes Go.ChangeAt Go.RowKit
set_option maxRecDepth 100000

def lkNE (c : ConfM) (m : MachM) : AccM := if m.pl = 0 then ⟨0, 0, 0, 0, 0⟩ else if m.what = 1 then ⟨3, c.base m.chan.toNat + 2, 0, 1, 0⟩ else ⟨2, c.base m.chan.toNat + 2, 0, 0, 0⟩
def lkRE (c : ConfM) (m : MachM) (b : AnsM) : MachM := if m.pl = 0 then m else if m.what = 1 ∧ b.ok = false then m else { m with pl := 0, ok := 1, ov := 0 }
def lkK (c : ConfM) (m : MachM) : Prop := (m.what = 1 ∨ m.what = 2) ∧ (m.pl = 0 ∨ m.pl = 1) ∧ ∃ k : Nat, k < c.caps.length ∧ m.chan = k
def lkL (pc : Int) (v : Value) : List Value := [.int .i64 0, .int .i64 pc, .slice none 0 0, v, .slice none 0 0]
def LkR (G : World → Prop) (c : ConfM) (f : List Value) (m : MachM) : Prop := lkK c m ∧ ((m.pl = 0 ∧ m.ok = 1 ∧ m.ov = 0 ∧ f = lkL 3 (.slice none 0 0)) ∨ (m.pl = 1 ∧ m.ok = 0 ∧ m.ov = 0 ∧ ∃ b, f = lkL m.what (.slice (some ⟨b, 0, none⟩) 1 1) ∧ ∀ w2, G w2 → w2.heap[b]? = some (.cells #[.int .i64 (c.base m.chan.toNat + 2)] 3 (0, 0))))
theorem lkK_RE {c : ConfM} {m : MachM} (b : AnsM) (h : lkK c m) : lkK c (lkRE c m b) := by
  unfold lkRE
  split
  · exact h
  · split
    · exact h
    · exact ⟨h.1, .inl rfl, h.2.2⟩
theorem lkRE_what (c : ConfM) (m : MachM) (b : AnsM) : (lkRE c m b).what = m.what := by
  unfold lkRE
  split
  · rfl
  · split <;> rfl
theorem lk_sim : Sim lkNE lkRE (fun m => decide (m.what ≤ 2)) LkR where
  sub := fun h hw => ⟨h.1, h.2.imp id fun ⟨h1, h2, h3, b, h4, h5⟩ => ⟨h1, h2, h3, b, h4, fun w2 hG => h5 w2 (hw w2 hG)⟩⟩
  form := fun h _ => by
    rcases h.2 with ⟨_, _, _, rfl⟩ | ⟨_, _, _, b, rfl, _⟩
    · exact ⟨_, _, _, _, _, _, _, _, _, _, _, rfl⟩
    · exact ⟨_, _, _, _, _, _, _, _, _, _, _, rfl⟩
  ends := fun w hG h _ => by
    rcases h.2 with ⟨h1, h2, h3, rfl⟩ | ⟨h1, h2, h3, b, rfl, _⟩
    · rw [h1, h2, h3]
      exact lkEnd3 _ w
    · rw [h1, h2, h3]
      rcases h.1.1 with e | e
      · rw [e]; exact lkEnd1 _ w
      · rw [e]; exact lkEnd2 _ w
  next := fun w hG h _ => by
    unfold lkNE
    rcases h.2 with ⟨h1, h2, h3, rfl⟩ | ⟨h1, h2, h3, b, rfl, hb⟩
    · rw [if_pos h1]
      exact lkNext3 w
    · rw [if_neg (by omega)]
      rcases h.1.1 with e | e
      · rw [if_pos e, e]; exact lkNext1 b _ w (hb w hG)
      · rw [if_neg (by omega), e]; exact lkNext2 b _ w (hb w hG)
  resume := fun {G c f m} w b zA zn zc hG h _ hp => by
    rcases h.2 with ⟨h1, h2, h3, rfl⟩ | ⟨h1, h2, h3, b', rfl, hb⟩
    · exact absurd h1 hp
    · rcases h.1.1 with e | e
      · cases hok : b.ok with
        | true =>
          have e2 : lkRE c m b = { m with pl := 0, ok := 1, ov := 0 } := by unfold lkRE; rw [if_neg hp, if_neg (by simp [hok])]
          rw [e2, e]
          refine (lkRes1 _ _ _ _ _ _ w).mono ?_
          rintro e' w' ⟨rfl, hb'⟩
          exact ⟨_, rfl, ⟨⟨(.inl rfl), .inl rfl, h.1.2.2⟩, .inl ⟨rfl, rfl, rfl, rfl⟩⟩, hb'⟩
        | false =>
          have e2 : lkRE c m b = m := by unfold lkRE; rw [if_neg hp, if_pos ⟨e, hok⟩]
          rw [e2, e]
          refine (lkRes1n _ _ _ _ _ _ w).mono ?_
          rintro e' w' ⟨rfl, hb'⟩
          exact ⟨lkL 1 (.slice (some ⟨b', 0, none⟩) 1 1), rfl, ⟨h.1, .inr ⟨h1, h2, h3, b', by rw [e], fun w2 h4 => hb w2 h4.1⟩⟩, hb'⟩
      · have e2 : lkRE c m b = { m with pl := 0, ok := 1, ov := 0 } := by unfold lkRE; rw [if_neg hp, if_neg (by omega)]
        rw [e2, e]
        refine (lkRes2 _ _ _ _ _ _ _ w).mono ?_
        rintro e' w' ⟨rfl, hb'⟩
        exact ⟨_, rfl, ⟨⟨(.inr rfl), .inl rfl, h.1.2.2⟩, .inl ⟨rfl, rfl, rfl, rfl⟩⟩, hb'⟩
  stays := fun c m b => by rw [lkRE_what]
theorem lk_doc : Doc lkNE lkRE lkK where
  next := fun c m a a2 cap cap2 w h hg hv => by
    obtain ⟨h1, h2, k, hk, hc⟩ := h
    unfold lkNE
    rcases h2 with h2 | h2
    · rw [if_pos h2]; exact machNext_end a a2 cap cap2 c m h2 w
    · rw [if_neg (by omega), show m.chan.toNat = k by omega]
      rcases h1 with h1 | h1
      · rw [if_pos h1]; exact machNext_take a a2 cap cap2 c m k hk hg h1 hc h2 w hv
      · rw [if_neg (by omega)]; exact machNext_release a a2 cap cap2 c m k hk hg h1 hc h2 w hv
  acc := fun c m h hg => by
    obtain ⟨h1, h2, k, hk, hc⟩ := h
    have hn := hg.base8 k (Nat.le_of_lt hk)
    have hl := hg.len
    unfold lkNE
    rw [show m.chan.toNat = k by omega]
    have e1 : c.base k + 2 = IntKind.i64.wrap (c.base k + 2) := by rw [IntKind.wrap_i64]; omega
    split
    · exact ⟨by decide, by decide, by decide, by decide, by decide⟩
    · split
      · exact ⟨by show (3 : Int) = IntKind.i64.wrap 3; decide, e1, by show (0 : Int) = IntKind.u64.wrap 0; decide, by show (1 : Int) = IntKind.u64.wrap 1; decide, by show (0 : Int) = IntKind.i64.wrap 0; decide⟩
      · exact ⟨by show (2 : Int) = IntKind.i64.wrap 2; decide, e1, by show (0 : Int) = IntKind.u64.wrap 0; decide, by show (0 : Int) = IntKind.u64.wrap 0; decide, by show (0 : Int) = IntKind.i64.wrap 0; decide⟩
  resume := fun c m b a a2 cap cap2 zA zn zc w h hg hv => by
    obtain ⟨h1, h2, k, hk, hc⟩ := h
    rcases h2 with h2 | h2
    · rw [show lkRE c m b = m by unfold lkRE; rw [if_pos h2]]
      exact machRes_end a a2 cap cap2 c m _ _ _ zA zn zc h2 w
    · have hp : ¬ m.pl = 0 := by omega
      rcases h1 with h1 | h1
      · cases hok : b.ok with
        | true =>
          rw [show lkRE c m b = { m with pl := 0, ok := 1, ov := 0 } by unfold lkRE; rw [if_neg hp, if_neg (by simp [hok])]]
          exact machRes_take a a2 cap cap2 c m _ _ zA zn zc h1 h2 w
        | false =>
          rw [show lkRE c m b = m by unfold lkRE; rw [if_neg hp, if_pos ⟨h1, hok⟩]]
          exact machRes_takeN a a2 cap cap2 c m _ _ zA zn zc h1 h2 w
      · rw [show lkRE c m b = { m with pl := 0, ok := 1, ov := 0 } by unfold lkRE; rw [if_neg hp, if_neg (by omega)]]
        exact machRes_release a a2 cap cap2 c m _ _ _ zA zn zc h1 h2 w
  stays := fun c m b h => lkK_RE b h
set_option maxRecDepth 100000 in
set_option maxHeartbeats 16000000 in
theorem start_take (a a2 : Option Addr) (cap cap2 : Nat) (c : ConfM) (m : MachM) (k : Nat) (hk : k < c.caps.length) (hg : c.good) (hw : m.what = 1) (hc : m.chan = k) (w : World) (hv : ConfV w (.agg #[.slice a c.caps.length cap, .slice a2 c.starts.length cap2, .int .i64 c.threads]) c) : Calls Try.prog 45 #[.agg #[.slice a c.caps.length cap, .slice a2 c.starts.length cap2, .int .i64 c.threads], .agg (machL (.slice a c.caps.length cap) (.slice a2 c.starts.length cap2) c.threads m).toArray] w fun e w' => ∃ b, e = .returned (.agg (lkL 1 (.slice (some ⟨b, 0, none⟩) 1 1)).toArray) ∧ Hid (w'.heap[b]? = some (.cells #[.int .i64 (c.base k + 2)] 3 (0, 0))) ∧ Hid (w.heap.size ≤ b) ∧ Hid (Below w.heap.size w w') := by
  have HV := Lib.hid hv
  clear hv
  obtain ⟨W, hW, HB, R0, R1, R2, hz⟩ := three_new w (.cells #[.slice a c.caps.length cap, .slice a2 c.starts.length cap2, .int .i64 c.threads] 52) (.cells #[.int .i64 1, .int .i64 m.pl, .slice a c.caps.length cap, .slice a2 c.starts.length cap2, .int .i64 c.threads, .int .i64 k, .int .i64 m.thr, .int .i64 m.idx, .int .i64 m.kind, .int .u64 m.val, .int .u64 m.t, .int .u64 m.h, .int .i64 m.ok, .int .u64 m.ov] 68) (.cells #[.int .i64 0, .int .i64 0, .slice none 0 0, .slice none 0 0, .slice none 0 0] 71)
  have HW := Lib.hid hW
  unfold machL
  rw [hw, hc]
  clear hW hw hc
  have TT := Lib.hid fun w' (hb : Below w.heap.size w w') => take_any _ c k hk w' (HV.out.below hb) hg
  unfold lkV at TT
  go_enter Try.func45, Try.ntmps45
  go_upto_region 1 with fail
  rw [HW.out]
  clear HW
  obtain ⟨x0, x1, x2⟩ := rowc3 R0.out
  obtain ⟨q0, q1, q2, q3, q4, q5, q6, q7, q8, q9, q10, q11, q12, q13⟩ := rowc14 R1.out
  go_wp2_with fail
  refine (TT.out _ HB.out).mono ?_; rintro e w1 ⟨b, rfl, HRb, hbw, HB1⟩
  have R2' := Lib.hid ((HB1.out.block (w.heap.size + 2) (by omega)).trans R2.out)
  have hbz := hbw.out
  clear TT x0 x1 x2 q0 q1 q2 q3 q4 q5 q6 q7 q8 q9 q10 q11 q12 q13
  go_wp2_with (refine wpList_store_row rfl 71 _ _ rfl (w.heap.size + 2) _ rfl rfl 71 #[.int .i64 0, .int .i64 0, .slice none 0 0, .slice none 0 0, .slice none 0 0] R2'.out (by kernel_rfl) rfl (by simp [Value.oneCell']) ?_)
  refine bodyPost_ret (v := .agg #[.int .i64 0, .int .i64 1, .slice none 0 0, .slice (some ⟨b, 0, none⟩) 1 1, .slice none 0 0]) (results_cell_row Try.results45 _ _ (w.heap.size + 2) 71 _ (0, 0) _ rfl (setRow_heap _ _ _ _ 71 (0, 0) R2'.out) Try.underlying71 rfl (by kernel_rfl)) rfl ?_
  exact ⟨b, rfl, Lib.hid ((setRow_other w1 (w.heap.size + 2) b _ (by omega)).trans HRb.out), Lib.hid (by show w.heap.size ≤ b; omega), Lib.hid (row_below (below_then HB.out HB1.out) (by omega) _)⟩
set_option maxRecDepth 100000 in
set_option maxHeartbeats 16000000 in
theorem start_release (a a2 : Option Addr) (cap cap2 : Nat) (c : ConfM) (m : MachM) (k : Nat) (hk : k < c.caps.length) (hg : c.good) (hw : m.what = 2) (hc : m.chan = k) (w : World) (hv : ConfV w (.agg #[.slice a c.caps.length cap, .slice a2 c.starts.length cap2, .int .i64 c.threads]) c) : Calls Try.prog 45 #[.agg #[.slice a c.caps.length cap, .slice a2 c.starts.length cap2, .int .i64 c.threads], .agg (machL (.slice a c.caps.length cap) (.slice a2 c.starts.length cap2) c.threads m).toArray] w fun e w' => ∃ b, e = .returned (.agg (lkL 2 (.slice (some ⟨b, 0, none⟩) 1 1)).toArray) ∧ Hid (w'.heap[b]? = some (.cells #[.int .i64 (c.base k + 2)] 3 (0, 0))) ∧ Hid (w.heap.size ≤ b) ∧ Hid (Below w.heap.size w w') := by
  have HV := Lib.hid hv
  clear hv
  obtain ⟨W, hW, HB, R0, R1, R2, hz⟩ := three_new w (.cells #[.slice a c.caps.length cap, .slice a2 c.starts.length cap2, .int .i64 c.threads] 52) (.cells #[.int .i64 2, .int .i64 m.pl, .slice a c.caps.length cap, .slice a2 c.starts.length cap2, .int .i64 c.threads, .int .i64 k, .int .i64 m.thr, .int .i64 m.idx, .int .i64 m.kind, .int .u64 m.val, .int .u64 m.t, .int .u64 m.h, .int .i64 m.ok, .int .u64 m.ov] 68) (.cells #[.int .i64 0, .int .i64 0, .slice none 0 0, .slice none 0 0, .slice none 0 0] 71)
  have HW := Lib.hid hW
  unfold machL
  rw [hw, hc]
  clear hW hw hc
  have TT := Lib.hid fun w' (hb : Below w.heap.size w w') => release_any _ c k hk w' (HV.out.below hb) hg
  unfold lkV at TT
  go_enter Try.func45, Try.ntmps45
  go_upto_region 1 with fail
  rw [HW.out]
  clear HW
  obtain ⟨x0, x1, x2⟩ := rowc3 R0.out
  obtain ⟨q0, q1, q2, q3, q4, q5, q6, q7, q8, q9, q10, q11, q12, q13⟩ := rowc14 R1.out
  go_wp2_with fail
  refine (TT.out _ HB.out).mono ?_; rintro e w1 ⟨b, rfl, HRb, hbw, HB1⟩
  have R2' := Lib.hid ((HB1.out.block (w.heap.size + 2) (by omega)).trans R2.out)
  have hbz := hbw.out
  clear TT x0 x1 x2 q0 q1 q2 q3 q4 q5 q6 q7 q8 q9 q10 q11 q12 q13
  go_wp2_with (refine wpList_store_row rfl 71 _ _ rfl (w.heap.size + 2) _ rfl rfl 71 #[.int .i64 0, .int .i64 0, .slice none 0 0, .slice none 0 0, .slice none 0 0] R2'.out (by kernel_rfl) rfl (by simp [Value.oneCell']) ?_)
  refine bodyPost_ret (v := .agg #[.int .i64 0, .int .i64 2, .slice none 0 0, .slice (some ⟨b, 0, none⟩) 1 1, .slice none 0 0]) (results_cell_row Try.results45 _ _ (w.heap.size + 2) 71 _ (0, 0) _ rfl (setRow_heap _ _ _ _ 71 (0, 0) R2'.out) Try.underlying71 rfl (by kernel_rfl)) rfl ?_
  exact ⟨b, rfl, Lib.hid ((setRow_other w1 (w.heap.size + 2) b _ (by omega)).trans HRb.out), Lib.hid (by show w.heap.size ≤ b; omega), Lib.hid (row_below (below_then HB.out HB1.out) (by omega) _)⟩
theorem lk_starts {c : ConfM} (hg : c.good) (what : Int) (k : Nat) (th v : Int) (hwh : what = 1 ∨ what = 2) (hk : k < c.caps.length) (a a2 : Option Addr) (cap cap2 : Nat) : Starts LkR c ⟨what, 1, k, th, v % 4, v % 8, v, 0, 0, 0, 0⟩ (.slice a c.caps.length cap) (.slice a2 c.starts.length cap2) := fun w hv => by
  have hK : lkK c ⟨what, 1, k, th, v % 4, v % 8, v, 0, 0, 0, 0⟩ := ⟨hwh, .inr rfl, k, hk, rfl⟩
  have key : ∀ b w', w'.heap[b]? = some (.cells #[.int .i64 (c.base k + 2)] 3 (0, 0)) → w.heap.size ≤ b → LkR (NewPart w w') c (lkL what (.slice (some ⟨b, 0, none⟩) 1 1)) ⟨what, 1, k, th, v % 4, v % 8, v, 0, 0, 0, 0⟩ := fun b w' h1 h2 =>
    ⟨hK, .inr ⟨rfl, rfl, rfl, b, rfl, fun w2 hn => (hn.same b h2 (Array.getElem?_eq_some_iff.1 h1).1).trans h1⟩⟩
  rcases hwh with rfl | rfl
  · refine (start_take a a2 cap cap2 c _ k hk hg rfl rfl w hv).mono ?_
    rintro e w' ⟨b, rfl, h1, h2, h3⟩
    exact ⟨_, rfl, key b w' h1.out h2.out, h3.out⟩
  · refine (start_release a a2 cap cap2 c _ k hk hg rfl rfl w hv).mono ?_
    rintro e w' ⟨b, rfl, h1, h2, h3⟩
    exact ⟨_, rfl, key b w' h1.out h2.out, h3.out⟩
end Go.Proofs.Ytipjfcjdefdoeaa
