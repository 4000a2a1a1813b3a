/- Proved: DrawFair returns true, and its argument reads afterwards as before, for every int n; no condition. -/
import Derived.Test.YtmlndajbgajmpaaLaw
import Derived.Test.YtmlndajbgajmpaaL2Awake
import Derived.Test.YtmlndajbgajmpaaL2Nth
import Derived.LoopTactic
import Derived.WalkKit
import Derived.ProofKit
import Derived.OpenShut
import Derived.SizedLaws
namespace Go.Proofs.Ytmlndajbgajmpaa.drawFair
open Go.ChangeShapes Go.WideShapes Go.ChangeAt Go.RowKit
set_option linter.unusedVariables false
theorem Try.info_sl : (Try.prog.info? 22).map (fun i => (i.zero, i.size, i.bytes)) = some (some (.slice none 0 0), 1, 24) := by kernel_rfl
/-- all permutations so far: a list of lists that the call owns -/
def Alls (w : World) (base : Nat) (A : Value) (n k : Nat) : Prop :=
  ∃ vs : List Value, w.ownsRow base 22 1 A k vs ∧ ∀ i, i < k → OwnI w base 3 .i64 (vs.getD i undef) (perm n i)
theorem Alls.len {w : World} {base : Nat} {A : Value} {n k : Nat} (h : Alls w base A n k) : ∃ a cap, A = .slice a k cap := by
  obtain ⟨vs, ⟨_, h1⟩, _⟩ := h
  rcases h1 with ⟨rfl, rfl⟩ | ⟨g, cap, cur, rfl, _⟩
  · exact ⟨_, _, rfl⟩
  · exact ⟨_, _, rfl⟩
theorem owner_apart {w : World} {base n k : Nat} {A v : Value} {vs : List Value} {l : List Int} (h : w.ownsRow base 22 1 A k vs) (hv : OwnI w base 3 .i64 v l) : v.ownBlock = none ∨ v.ownBlock ≠ A.ownBlock := by
  rcases h.2 with ⟨rfl, _⟩ | ⟨g, cap, cur, rfl, _, hg, _⟩
  · cases hb : v.ownBlock with
    | none => exact .inl rfl
    | some b => exact .inr (by simp [Value.ownBlock])
  · rcases hv.2 with ⟨rfl, _⟩ | ⟨g', cap', cur', rfl, _, hg', _⟩
    · exact .inl rfl
    · refine .inr ?_
      simp only [Value.ownBlock, ne_eq, Option.some.injEq]
      intro e
      rw [e, hg] at hg'
      simp at hg'
theorem Alls.kept {w w' : World} {base : Nat} {A : Value} {n k : Nat} {row : Option Nat} (h : Alls w base A n k) (hg : w.grownBy w' row) (hr : ∀ r, row = some r → r < base) : Alls w' base A n k := by
  obtain ⟨vs, h1, h2⟩ := h
  have ne : ∀ v : Value, (∀ j, v.ownBlock = some j → base ≤ j) → v.ownBlock = none ∨ v.ownBlock ≠ row := fun v hv => by
    cases hb : v.ownBlock with
    | none => exact .inl rfl
    | some j =>
      refine .inr fun e => ?_
      have := hr j e.symm
      have := hv j hb
      omega
  exact ⟨vs, h1.kept hg (ne A fun j hj => (h1.lt j hj).1), fun i hi => (h2 i hi).kept hg (ne _ (h2 i hi).own_ge)⟩
theorem OwnI.mono_base {w : World} {base b' : Nat} {e : TypeId} {k : IntKind} {v : Value} {l : List Int} (h : OwnI w base e k v l) (hb : b' ≤ base) : OwnI w b' e k v l := by
  refine ⟨h.1, ?_⟩
  rcases h.2 with h1 | ⟨g, cap, cur, h1, h2, h3⟩
  · exact .inl h1
  · exact .inr ⟨g, cap, cur, h1, Nat.le_trans hb h2, h3⟩
theorem Alls.apart {w : World} {base n k : Nat} {A v : Value} {l : List Int} (h : Alls w base A n k) (hv : OwnI w base 3 .i64 v l) : v.ownBlock = none ∨ v.ownBlock ≠ A.ownBlock := by
  obtain ⟨vs, h1, _⟩ := h
  exact owner_apart (n := n) h1 hv
theorem Alls.below {w w' : World} {base : Nat} {A : Value} {n k : Nat} (h : Alls w base A n k) (hb : Below w.heap.size w w') : Alls w' base A n k :=
  h.kept (row := none) ⟨hb.os, hb.tape, hb.output, hb.size, fun j hj _ => hb.block j hj⟩ (fun r hr => by cases hr)
theorem Alls.get {w : World} {base : Nat} {A : Value} {n k : Nat} (h : Alls w base A n k) (hn : 1 ≤ n) (hn5 : n ≤ 5) (i : Nat) (hi : i < k) :
    ∃ g cap v, A = .slice (some ⟨g, 0, none⟩) k cap ∧ w.cell? ⟨g, i, none⟩ = some v ∧ SlI w .i64 v (perm n i) := by
  obtain ⟨vs, h1, h2⟩ := h
  have hl : vs.length = k := by simpa using h1.1
  have h1' := h1
  rcases h1.2 with ⟨rfl, rfl⟩ | ⟨g, cap, cur, rfl, _⟩
  · omega
  · refine ⟨g, cap, vs.getD i undef, rfl, ?_, ?_⟩
    · rw [World.ownsRow.cellAt h1' i (by omega)]
      simp [List.getD_eq_getElem?_getD, show i < vs.length by omega]
    · have hf := perm_full n i hn
      exact (h2 i hi).read (by rw [hf.1]; omega) fun x hx => i64_ok x (by have := hf.range x hx; omega) (by have := hf.range x hx; omega)
theorem wp_append_alls (w : World) {ops : Array Oper} {rest : List Oper} {o : Oper} {a : Act} {Q : Exit → Act → World → Prop}
    (hg : o.guard = none) (s x : Operand) (hop : o.op = Op.call { callee := Callee.builtin Builtin.append, args := #[s, x], argTypes := #[33, 33] })
    (base : Nat) (A : Value) (n k : Nat) (hs : a.eval s = A) (hown : Alls w base A n k) (v : Value) (g : Nat) (hv : OwnI w base 3 .i64 v (perm n k)) (hv1 : v.oneCell' = true)
    (hx : a.eval x = .slice (some ⟨g, 0, none⟩) 1 1) (hcell : w.cell? ⟨g, 0, none⟩ = some v) (hl : k ≤ 1000000) (hb : base ≤ w.heap.size)
    (hK : ∀ A' w', Alls w' base A' n (k + 1) → w.grownBy w' A.ownBlock → (∀ r, A.ownBlock = some r → base ≤ r) → wpList Try.prog ops Q rest (a.put o.dst A') w') :
    wpList Try.prog ops Q (o :: rest) a w := by
  obtain ⟨i0, hi, hz0, hz1, hz2⟩ := info_parts Try.info_sl
  obtain ⟨vs, h1, h2⟩ := hown
  have hl1 : vs.length = k := by simpa using h1.1
  refine wpList_append_own w hg s x _ hop base _ i0 (.slice none 0 0) 1 _ (by kernel_rfl) hi hz0 hz1 rfl rfl (by decide) A k vs hs h1 ⟨g, 0, none⟩ 1 1 [v] hx rfl ?_ ?_ (by unfold maxLen; omega) (by rw [hz2]; omega) hb fun v' w' h3 h4 _ => hK v' w' ⟨_, h3, fun i hi => ?_⟩ h4 (fun r hr => (h1.lt r hr).1)
  · intro j u hj
    match j, hj with
    | 0, hj => simp at hj; subst hj; simpa [Addr.add] using hcell
  · intro u hu; simp at hu; subst hu; exact hv1
  · by_cases e : i = k
    · subst e
      have : (vs ++ [v]).getD i undef = v := by simp [List.getD_eq_getElem?_getD, hl1]
      rw [this]
      exact hv.kept h4 (owner_apart h1 hv (n := n))
    · have : (vs ++ [v]).getD i undef = vs.getD i undef := by simp [List.getD_eq_getElem?_getD, List.getElem?_append, show i < vs.length by omega]
      rw [this]
      exact (h2 i (by omega)).kept h4 (owner_apart h1 (h2 i (by omega)) (n := n))
set_option maxRecDepth 100000 in
set_option maxHeartbeats 1000000 in
theorem walk (w : World) (a0 : Int) (w0 : (Lit.int .i64 a0).wf = true) :
    Calls Try.prog 7 #[.int .i64 a0] w fun e w' => e = .returned (.bool true) ∧ Below w.heap.size w w' := by
  have A := Lib.hid (awake_any w)
  have B0 : 0 ≤ a0 % 5 := Int.emod_nonneg _ (by omega)
  have B1 : a0 % 5 < 5 := Int.emod_lt_of_pos _ (by omega)
  obtain ⟨q, hq⟩ : ∃ q : Nat, a0 % 5 = q := ⟨(a0 % 5).toNat, by omega⟩
  have HQ := Lib.hid hq
  rw [hq] at B0 B1
  have hq5 : q < 5 := by omega
  clear hq B0 B1 w0
  have hc1 : cntI (1 + (q : Int)) = (fact (q + 1) : Int) := by rw [show (1 + (q : Int)) = ((q + 1 : Nat) : Int) by omega]; exact cntI_in _ (by omega)
  have hf : fact (q + 1) ≤ 120 := by have := fact_le (q + 1) 5 (by omega); exact this
  have CN := Lib.hid fun w' => count_any (1 + (q : Int)) w'
  rw [hc1] at CN
  go_enter Try.func7, Try.ntmps7
  go_wp2_with (first
    | (go_at_call 9; refine A.out.mono ?_; rintro e w1 ⟨rfl, hb1⟩)
    | (go_at_call 16; refine (mod_any _ _ _ (by omega) (by omega)).mono ?_; rintro e wm ⟨rfl, rfl⟩; rw [HQ.out])
    | (at_make; refine wp_make_i64 w1 rfl _ _ rfl (q + 1) _ _ rfl rfl ?_ ?_ ?_ ?_; omega; omega; omega; intro w2 ho2 hb2))
  have hB2 := Lib.hid (below_then hb1 hb2)
  have hFw : w.heap.size ≤ w1.heap.size := hb1.size
  have hsz2 : w1.heap.size + 1 ≤ w2.heap.size := by
    rcases ho2.shape with ⟨h, _⟩ | ⟨g, c, h, _, h2, _⟩
    · cases h
    · simp at h; omega
  have HO2 := Lib.hid ho2
  have hn1 : 1 ≤ q + 1 := by omega
  have PF := Lib.hid fun k => perm_full (q + 1) k hn1
  have NO := Lib.hid fun k h => ordL_nth (q + 1) k hn1 (by omega) h
  have FA := Lib.hid fun i h => fair_at (q + 1) i hn1 (by omega) h
  have PI := Lib.hid fun i k h1 h2 h => perm_inj (q + 1) i k hn1 h1 h2 h
  have FP := fact_pos (q + 1)
  have HZ : Hid (firstL (q + 1) 0 = List.replicate (q + 1) 0) := rfl
  clear hb1 hb2 ho2 hc1 A HQ
  generalize hfq : fact (q + 1) = f at *
  have HFQ := Lib.hid hfq
  clear hfq
  generalize hF : w1.heap.size = F at *
  clear hF
  go_loopw [4, 5] (fun s c wr => ∃ k : Nat, ∃ A : Value, A = s ∧ k ≤ f ∧ c = .int .i64 k ∧ Hid (Alls wr (F + 1) A (q + 1) k) ∧ Hid (OwnI wr F 3 .i64 (.slice (some ⟨F, 0, none⟩) (q + 1) (q + 1)) (firstL (q + 1) k)) ∧ Hid (Below w.heap.size w wr) ∧ F + 1 ≤ wr.heap.size) (fun _ c _ => f - (intOf c).toNat)
  case atStart => exact ⟨0, _, rfl, by omega, rfl, ⟨[], World.ownsRow_nil _ _ _ _, fun i hi => by omega⟩, by rw [HZ.out]; exact HO2.out, hB2, hsz2⟩
  case round =>
    obtain ⟨k, A, rfl, hk, rfl, hall, hfo, hB, hsz⟩ := hrel
    obtain ⟨aA, cA, hA⟩ := hall.out.len
    subst hA
    by_cases hlt : k < f
    · obtain ⟨n1, n2, n3⟩ := NO.out k hlt
      have hcast : ((q + 1 : Nat) : Int) = 1 + (q : Int) := by omega
      rw [hcast] at n1 n2 n3
      have N1 := Lib.hid fun w' => nth_any (1 + (q : Int)) k w'
      rw [n1, n2] at N1
      have NN3 := Lib.hid n3
      clear n1 n2 n3 hcast
      obtain ⟨wo, rfl⟩ : ∃ wo : World, wo = wr := ⟨_, rfl⟩
      go_wp2_with (go_at_call 19; refine (CN.out _).mono ?_; rintro e w' ⟨rfl, rfl⟩)
      go_wp2_with fail
      refine (N1.out _).mono ?_; rintro e wa ⟨ua, rfl, hua, hba⟩
      go_wp2_with fail
      refine (order_any _ _ (nthR (q + 1) k) _ hua (by omega) (by omega)).mono ?_; rintro e wb ⟨rfl, hob, hbb⟩
      have et : (1 + (q : Int)).toNat = q + 1 := by omega
      rw [et] at hob ⊢
      have hob : OwnI wb (F + 1) 3 .i64 (.slice (some ⟨wa.heap.size, 0, none⟩) (q + 1) (q + 1)) (perm (q + 1) k) := OwnI.mono_base hob (Nat.le_trans hsz hba.size)
      have hBb := below_then hba hbb
      have hallb := Lib.hid (hall.out.below hBb)
      have hfb := Lib.hid (hfo.out.below hBb)
      have hB' := Lib.hid (below_then hB.out hBb)
      have hszb : F + 1 ≤ wb.heap.size := Nat.le_trans hsz hBb.size
      have HOB := Lib.hid hob
      have pf := PF.out k
      obtain ⟨p, hp⟩ : ∃ p : Nat, (perm (q + 1) k).getD 0 0 = p := ⟨((perm (q + 1) k).getD 0 0).toNat, by
        have := pf.range _ (mem_of_getD _ 0 (by rw [pf.1]; omega)); omega⟩
      have hpq : p < q + 1 := by
        have := pf.range _ (mem_of_getD _ 0 (by rw [pf.1]; omega)); omega
      have hSo := Lib.hid (hob.read (by rw [pf.1]; omega) fun x hx => i64_ok x (by have := pf.range x hx; omega) (by have := pf.range x hx; omega))
      obtain ⟨c0, -⟩ := hob.cell 0 (by rw [pf.1]; omega)
      rw [hp] at c0
      have HP := Lib.hid hp
      have hq1 : (((q : Int) + 1) != (1 + (q : Int))) = false := by simp; omega
      have hpI : (p : Int) < 1 + (q : Int) := by omega
      clear hua hba hbb hBb hob pf hp et hall hfo hB hsz
      generalize wa.heap.size = G at *
      go_wp2_with fail
      go_loopw [56] (fun c wr => ∃ j m : Nat, j ≤ k ∧ c = .int .i64 j ∧ wb.drewN m = wr) (fun c _ => k - (intOf c).toNat)
      case atStart => exact ⟨0, 0, by omega, rfl, rfl⟩
      case round =>
        obtain ⟨j, m, hj, rfl, rfl⟩ := hrel
        by_cases hjk : j < k
        · obtain ⟨g, cap, v, e, cv, hv⟩ := hallb.out.get hn1 (by omega) j hjk
          simp only [Value.slice.injEq, true_and] at e
          obtain ⟨rfl, rfl⟩ := e
          have cv : (wb.drewN m).cell? ⟨g, j, none⟩ = some v := cv
          have hne : perm (q + 1) j ≠ perm (q + 1) k := fun h => by
            have := PI.out j k (by omega) hlt h
            omega
          have HV := Lib.hid (hv.drew m)
          have HSo := Lib.hid (hSo.out.drew m)
          generalize hW : wb.drewN m = W at *
          have HW := Lib.hid hW
          clear hW
          go_wp2_with fail
          refine (same_any _ _ _ _ _ HV.out HSo.out).mono ?_; rintro e wc ⟨nc, rfl, rfl⟩; rw [decide_eq_false hne]
          have HD := Lib.hid (show wb.drewN (m + nc) = W.drewN nc by rw [← HW.out, World.drewN_drewN])
          go_wp2
          go_roundw
          case rel => exact ⟨j + 1, m + nc, by omega, by go_num, HD.out⟩
          case measure => simp [intOf]; omega
        · obtain rfl : j = k := by omega
          have H1 : Hid (Alls (wb.drewN m) (F + 1) (.slice aA j cA) (q + 1) j) := hallb.out
          have H2 := Lib.hid (hfb.out.drew m)
          have H3 := Lib.hid (below_drewN hB'.out m)
          have H4 := Lib.hid (HOB.out.drew m)
          have H5 : F + 1 ≤ (wb.drewN m).heap.size := hszb
          have c0' : (wb.drewN m).cell? ⟨G, 0, none⟩ = some (.int .i64 p) := c0
          clear hallb hfb hB' HOB hszb c0 hSo
          generalize wb.drewN m = W at *
          go_wp2_with (at_builtin; refine wp_append_alls _ rfl _ _ rfl (F + 1) (.slice aA j cA) (q + 1) j rfl (H1.out.below (below_new (Below.refl W.heap.size W) _)) _ _ (H4.out.alloc _) rfl rfl ?hcell ?hle ?hba ?_)
          case hcell => exact World.cell?_alloc_at _ _ _ _ rfl
          case hle => omega
          case hba => simp; omega
          intro A' w5 hA5 hg5 hr5
          have hne0 : (Value.slice (some ⟨F, 0, none⟩) (q + 1) (q + 1)).ownBlock = none ∨ (Value.slice (some ⟨F, 0, none⟩) (q + 1) (q + 1)).ownBlock ≠ (Value.slice aA j cA).ownBlock := by
            refine .inr fun e => ?_
            have := hr5 F e.symm
            omega
          have F5 := (H2.out.alloc (.cells #[Value.slice (some ⟨G, 0, none⟩) (q + 1) (q + 1)] 22)).kept hg5 hne0
          have h41 := H4.out.alloc (.cells #[Value.slice (some ⟨G, 0, none⟩) (q + 1) (q + 1)] 22)
          have h11 := H1.out.below (below_new (Below.refl W.heap.size W) (.cells #[Value.slice (some ⟨G, 0, none⟩) (q + 1) (q + 1)] 22))
          have O5 := h41.kept hg5 (Alls.apart h11 h41)
          clear h41 h11
          have B5 := Lib.hid ((below_new H3.out (.cells #[Value.slice (some ⟨G, 0, none⟩) (q + 1) (q + 1)] 22)).grown hg5 (Nat.le_trans (by omega : w.heap.size ≤ W.heap.size) (by simp)) (fun r hr => by have := hr5 r hr; omega))
          have Z5 : F + 1 ≤ w5.heap.size := Nat.le_trans (Nat.le_trans H5 (by simp)) hg5.size
          obtain ⟨c5, -⟩ := O5.cell 0 (by rw [(PF.out j).1]; omega)
          rw [HP.out] at c5
          obtain ⟨c6, c7⟩ := F5.cell p (by rw [firstL_length]; omega)
          have FB := firstL_bound (q + 1) j _ (mem_of_getD _ p (by rw [firstL_length]; omega))
          obtain ⟨x, hx⟩ : ∃ x, (firstL (q + 1) j).getD p 0 = x := ⟨_, rfl⟩
          rw [hx] at c6 FB
          have ST := F5.store p (x + 1) (by rw [firstL_length])
          have ES : (firstL (q + 1) j).set p (x + 1) = firstL (q + 1) (j + 1) := by rw [firstL, HP.out, Int.toNat_natCast, inc, hx]
          rw [ES] at ST
          have SS := Lib.hid (And.intro (Alls.kept hA5 (grownBy_setCell w5 ⟨F, p, none⟩ (.int .i64 (x + 1))) (fun r hr => by cases hr; exact Nat.lt_succ_self F)) (And.intro ST (And.intro (B5.out.setCell (p := ⟨F, p, none⟩) hFw (.int .i64 (x + 1))) (show F + 1 ≤ (w5.setCell ⟨F, p, none⟩ (.int .i64 (x + 1))).heap.size by simpa using Z5))))
          obtain ⟨fb0, fb1⟩ := FB
          have fb2 : x ≤ 120 := by omega
          clear hx ES ST F5 O5 hne0 hA5 hg5 hr5 c0' fb1 B5
          go_wp2
          go_roundw
          case rel => exact ⟨j + 1, A', rfl, by omega, by go_num, SS.out.1, SS.out.2.1, SS.out.2.2.1, SS.out.2.2.2⟩
          case measure => simp [intOf]; omega
    · obtain rfl : k = f := by omega
      obtain ⟨wo, rfl⟩ : ∃ wo : World, wo = wr := ⟨_, rfl⟩
      go_wp2_with (go_at_call 19; refine (CN.out _).mono ?_; rintro e w' ⟨rfl, rfl⟩)
      have hq2 : ((k : Int) != (k : Int)) = false := by simp
      have hq3 : ((k : Int) == 0) = false := by simp; omega
      go_loopw [80] (fun c wr => ∃ j : Nat, j ≤ q + 1 ∧ c = .int .i64 j ∧ wo = wr) (fun c _ => q + 1 - (intOf c).toNat)
      case atStart => exact ⟨0, by omega, rfl, rfl⟩
      case round =>
        obtain ⟨j, hj, rfl, rfl⟩ := hrel
        by_cases hlt2 : j < q + 1
        · obtain ⟨c6, -⟩ := hfo.out.cell j (by rw [firstL_length]; exact hlt2)
          have E := FA.out j hlt2
          obtain ⟨x, hx⟩ : ∃ x, (firstL (q + 1) k).getD j 0 = x := ⟨_, rfl⟩
          rw [hx] at c6 E
          have EW : wrap64 (x * (1 + (q : Int))) = (k : Int) := by
            rw [show (1 + (q : Int)) = ((q + 1 : Nat) : Int) by omega, E]
            unfold wrap64; omega
          clear E hx
          go_wp2
          go_roundw
          case rel => exact ⟨j + 1, by omega, by go_num, trivial⟩
          case measure => simp [intOf]; omega
        · obtain rfl : j = q + 1 := by omega
          go_wp2
          go_ret
          exact ⟨rfl, hB.out⟩
set_option maxRecDepth 100000 in
theorem lifted (os : Os) (started : os.Started) (H : Type) (enc : TypeId × Value → H) :
    ReturnsInHanded {} Try.checked os 7 .any (Rows.drawFairSpec.pre6 enc Try.prog Try.f7 Rows.drawFairRow.domain false) (Rows.drawFairSpec.post enc Try.prog Try.f7 false true false false) := by
  refine returnsInHanded_of_change_sized (C := Try.checked) own started (by kernel_rfl) Try.func7
    (ChangeSpec.witness6 (enc := enc) (C := Try.checked) false ⟨#[], #[.int .i64 0], []⟩ 8 (by kernel_rfl) (by kernel_rfl) (by kernel_rfl) (by kernel_rfl)) ?_
  intro W base args ds gs before hval0 hW _ hsz0 _
  have hsz : (DataW.weightsEach Try.prog (Try.f7.params.toList ++ Rows.drawFairSpec.plain.varTypes Try.prog) (ds ++ gs)).all (· ≤ reachBytes) = true := hsz0
  clear hsz0
  have hval : ∀ (j : Nat) t v, Try.f7.params[j]? = some t → args[j]? = some v → Value.okWide Try.prog W .any base t v := hval0
  have hW' := hW
  obtain ⟨p, q, hA0, hV, rfl, _, _⟩ := hW
  have hA : DataW.TrodAll enc Try.prog W 0 (fun _ => true) true Try.f7.params.toList args.toList ds p := hA0
  rw [Try.params7] at hA hval hsz
  obtain ⟨v0, vs0, d0, ds0, p0, q0, hargs, rfl, rfl, h0, r0⟩ := trodAll_cons hA
  obtain ⟨rfl, rfl, rfl⟩ := trodAll_nil r0
  obtain rfl : args = #[v0] := by cases args; simp_all
  obtain ⟨rfl, rfl⟩ := trodVars_none hV
  have k0 := h0
  obtain ⟨a0, rfl, -, -, w0⟩ := open_int Try.underlying3 (hval 0 3 v0 rfl rfl) h0
  clear hA0 hval0
  simp only [List.append_nil] at hW'
  have hlt := hW'.lt
  refine (walk W a0 w0).mono fun e W' ⟨he, hb⟩ => ?_
  subst he
  exact ⟨_, rfl, _, _, _, [], _, [], hW', trodAll_cons_mk (shut_bool Try.underlying4 _) trodAll_mk0, (trodAll_cons_mk (Below.trod Try.laidOut (by kernel_rfl) (of_decide_eq_true (by kernel_rfl)) k0 hb (fun x hx => by simpa using hlt x (by simp [hx]))) trodAll_mk0), rfl, hb.frame _, fun h => by cases h⟩
theorem over : Rows.drawFairRow.holds Try.pinned (OpenSpec.ofChange Rows.drawFairSpec) :=
  OpenClaim.holds_of_wide 7 Try.f7 rfl rfl rfl rfl rfl rfl rfl ⟨rfl, rfl, rfl, rfl, rfl⟩ rfl rfl rfl rfl rfl (by kernel_rfl) Try.func7 (by kernel_rfl)
    (of_decide_eq_true (by kernel_rfl)) (by unfold Func.isWrapper; first | (rw [if_pos (by decide +kernel)]; kernel_rfl) | (rw [if_neg (by decide +kernel)]; exact ⟨rfl, rfl⟩))
    (fun os started H enc _ => lifted os started H enc)
/-- THE STATEMENT -/
theorem proved : Rows.DrawFairSaid :=
  over
end Go.Proofs.Ytmlndajbgajmpaa.drawFair
