/- Proved: WindowRounds returns true for every two numbers and every list of numbers, and the list reads afterwards as before; no condition. -/
import Derived.LoopTactic
import Derived.WalkKit
import Derived.ProofKit
import Derived.OpenShut
import Derived.SizedLaws
import Derived.Test.YtefnjhnlegjojaaB01
import Derived.Test.YtefnjhnlegjojaaB02
namespace Go.Proofs.Ytefnjhnlegjojaa.windowRounds
open Go.ChangeShapes Go.WideShapes Go.ChangeAt Go.RowKit
set_option linter.unusedVariables false
set_option linter.unusedSimpArgs false
set_option maxRecDepth 100000 in
set_option maxHeartbeats 4000000 in
theorem walk (w:World) (a0:Int) (w0:(Lit.int .i64 a0).wf=true) (a1:Int) (w1:(Lit.int .i64 a1).wf=true) (v2:Value) (l2:List Int) (s2:SlI w .i64 v2 l2) :
  Calls Try.prog 3 #[.int .i64 a0,.int .i64 a1,v2] w fun e w'=>e=.returned (.bool true)∧Below w.heap.size w w':=by
 have A:=Lib.hid (awakeN_any w);have M0:=Int.emod_nonneg a0 (show (11:Int)≠0 by omega);have M1:=Int.emod_lt_of_pos a0 (show (0:Int)<11 by omega);obtain ⟨q,hq⟩:∃q:Nat,a0 % 11=q:=⟨(a0 % 11).toNat,by omega⟩;rw [hq] at M0 M1;have HQ:=Lib.hid hq;have S2:=Lib.hid s2;obtain ⟨c,cap,rfl,h4⟩:=s2.len;have h47:=s2.1;clear w0 w1 s2 hq h4;by_cases h40:40<l2.length
 ·go_enter Try.func3,Try.ntmps3
  go_wp2_with (go_at_call 8; refine A.out.mono ?_; rintro e w1 ⟨rfl,hb1⟩);go_ret;exact ⟨rfl,hb1⟩
 ·have R1:=Lib.hid fun t w'=>round_any t a1 w'
  have R2:=Lib.hid fun t w'=>rround_any t a1 w';have R3:=Lib.hid fun t w' h=>rounds_any t (.slice c l2.length cap) l2 w' h (by omega);have R4:=Lib.hid fun t w' h=>rrounds_any t (.slice c l2.length cap) l2 w' h (by omega);go_enter Try.func3,Try.ntmps3;go_wp2_with (first
   | (go_at_call 8; refine A.out.mono ?_; rintro e w1 ⟨rfl,hb1⟩)
   | (go_at_call 9; refine (mod_any _ _ _ (by omega) (by omega)).mono ?_; rintro e wm ⟨rfl,rfl⟩; rw [HQ.out]))
  have C0:Hid ((w1.alloc (.cells #[.int .i64 a0,.int .i64 ((q:Int) - 1)] 3)).cell? ⟨w1.heap.size,0,none⟩=some (.int .i64 a0)):=by show _=_; rw [World.cell?_alloc_at _ _ _ _ rfl]; rfl
  have C1:Hid ((w1.alloc (.cells #[.int .i64 a0,.int .i64 ((q:Int) - 1)] 3)).cell? ⟨w1.heap.size,1,none⟩=some (.int .i64 ((q:Int) - 1))):=by show _=_; rw [World.cell?_alloc_at _ _ _ _ rfl]; rfl
  have B2:=Lib.hid (below_new hb1 (.cells #[.int .i64 a0,.int .i64 ((q:Int) - 1)] 3));have hz:w1.heap.size<(w1.alloc (.cells #[.int .i64 a0,.int .i64 ((q:Int) - 1)] 3)).heap.size:=by simp
  have hge:=hb1.size;have S3:=Lib.hid (S2.out.below B2.out);generalize w1.alloc (.cells #[.int .i64 a0,.int .i64 ((q:Int) - 1)] 3)=w2 at *;clear hb1;go_loopw [20] (fun c wr=>∃i:Nat,i≤2∧c=.int .i64 i∧Hid (Below w2.heap.size w2 wr)) (fun c _=>2 - (intOf c).toNat)
  case atStart=>exact ⟨0,by omega,rfl,Below.refl _ _⟩
  case round=>
   obtain ⟨i,hi,rfl,hb⟩:=hrel;obtain ⟨wo,rfl⟩:∃wo:World,wo=wr:=⟨_,rfl⟩;by_cases hlt:i<2
   ·obtain ⟨x,hx⟩:∃x:Int,wo.cell? ⟨w1.heap.size,i,none⟩=some (.int .i64 x):=by
     obtain rfl | rfl:i=0∨i=1:=by omega
     ·exact ⟨_,(hb.out.cell (p:=⟨w1.heap.size,0,none⟩) hz).trans C0.out⟩
     ·exact ⟨_,(hb.out.cell (p:=⟨w1.heap.size,1,none⟩) hz).trans C1.out⟩
    have S4:=Lib.hid (S3.out.below hb.out);go_wp2_with (first
     | (go_at_call 11; refine (R1.out _ _).mono ?_; rintro e wa ⟨ua,rfl,hua,hba⟩)
     | (go_at_call 12; refine (R2.out _ _).mono ?_; rintro e wb ⟨ub,rfl,hub,hbb⟩)
     | (go_at_call 10; refine (same_any _ _ _ _ wb (hua.below hbb) hub).mono ?_; rintro e wc ⟨nc,rfl,rfl⟩; rw [decide_eq_true rfl]; have hbc:=below_drewN (below_then hba hbb) nc; have S5:=Lib.hid (S4.out.below hbc); have S6:=Lib.hid hbc; generalize wb.drewN nc=wc at *; clear hua hba hub hbb hbc)
     | (go_at_call 13; refine (R3.out _ _ S5.out).mono ?_; rintro e wd ⟨ud,rfl,hud,hbd⟩)
     | (go_at_call 14; refine (R4.out _ _ (S5.out.below hbd)).mono ?_; rintro e we ⟨ue,rfl,hue,hbe⟩)
     | (go_at_call 10; refine (same_any _ _ _ _ we (hud.below hbe) hue).mono ?_; rintro e wf ⟨nf,rfl,rfl⟩; rw [decide_eq_true rfl]))
    go_roundw
    case rel=>exact ⟨i+1,by omega,by go_num,Lib.hid (below_drewN (below_then (below_then (below_then hb.out S6.out) hbd) hbe) nf)⟩
    case measure=>simp [intOf]; omega
   ·go_wp2
    go_ret;exact ⟨rfl,below_then B2.out hb.out⟩
set_option maxRecDepth 100000 in
theorem lifted (os:Os) (started:os.Started) (H:Type) (enc:TypeId × Value→H) :
  ReturnsInHanded {} Try.checked os 3 .any (Rows.windowRoundsSpec.pre6 enc Try.prog Try.f3 Rows.windowRoundsRow.domain false) (Rows.windowRoundsSpec.post enc Try.prog Try.f3 false true false false):=by
 refine returnsInHanded_of_change_sized (C:=Try.checked) own started (by kernel_rfl) Try.func3
  (ChangeSpec.witness6 (enc:=enc) (C:=Try.checked) false ⟨#[],#[.int .i64 0,.int .i64 0,.slice none 0 0],[]⟩ 8 (by kernel_rfl) (by kernel_rfl) (by kernel_rfl) (by kernel_rfl)) ?_
 intro W base args ds gs before hval0 hW _ hsz0 _;have hsz:(DataW.weightsEach Try.prog (Try.f3.params.toList ++ Rows.windowRoundsSpec.plain.varTypes Try.prog) (ds ++ gs)).all (·≤reachBytes)=true:=hsz0;clear hsz0;have hval:∀(j:Nat) t v,Try.f3.params[j]?=some t→args[j]?=some v→Value.okWide Try.prog W .any base t v:=hval0;have hW':=hW;obtain ⟨p,q,hA0,hV,rfl,_,_⟩:=hW;have hA:DataW.TrodAll enc Try.prog W 0 (fun _=>true) true Try.f3.params.toList args.toList ds p:=hA0;rw [Try.params3] at hA hval hsz;obtain ⟨v0,vs0,d0,ds0,p0,q0,hargs,rfl,rfl,h0,rr0⟩:=trodAll_cons hA;obtain ⟨v1,vs1,d1,ds1,p1,q1,rfl,rfl,rfl,h1,rr1⟩:=trodAll_cons rr0;obtain ⟨v2,vs2,d2,ds2,p2,q2,rfl,rfl,rfl,h2,rr2⟩:=trodAll_cons rr1;obtain ⟨rfl,rfl,rfl⟩:=trodAll_nil rr2;obtain rfl:args=#[v0,v1,v2]:=by cases args; simp_all
 obtain ⟨rfl,rfl⟩:=trodVars_none hV;have k0:=h0;have k1:=h1;have k2:=h2;obtain ⟨a0,rfl,-,-,w0⟩:=open_int Try.underlying3 (hval 0 3 v0 rfl rfl) h0;obtain ⟨a1,rfl,-,-,w1⟩:=open_int Try.underlying3 (hval 1 3 v1 rfl rfl) h1;obtain ⟨l2,s2⟩:=view_sl (k:=.i64) Try.underlying22 Try.underlying3 (by kernel_rfl) (fun elems sp hd=>sized_slice hsz (j:=2) (t:=22) (e:=3) rfl (by rw [hd]; rfl) Try.underlying22) (of_decide_eq_true (by kernel_rfl)) (hval 2 22 v2 rfl rfl) h2;clear hA0 hval0;simp only [List.append_nil] at hW';have hlt:=hW'.lt;refine (walk W a0 w0 a1 w1 v2 l2 s2).mono fun e W' ⟨he,hb⟩=>?_;subst he;exact ⟨_,rfl,_,_,_,[],_,[],hW',trodAll_cons_mk (shut_bool Try.underlying4 _) trodAll_mk0,(trodAll_cons_mk (Below.trod Try.laidOut (by kernel_rfl) (of_decide_eq_true (by kernel_rfl)) k0 hb (fun x hx=>by simpa using hlt x (by simp [hx]))) (trodAll_cons_mk (Below.trod Try.laidOut (by kernel_rfl) (of_decide_eq_true (by kernel_rfl)) k1 hb (fun x hx=>by simpa using hlt x (by simp [hx]))) (trodAll_cons_mk (Below.trod Try.laidOut (by kernel_rfl) (of_decide_eq_true (by kernel_rfl)) k2 hb (fun x hx=>by simpa using hlt x (by simp [hx]))) trodAll_mk0))),rfl,hb.frame _,fun h=>by cases h⟩
theorem over:Rows.windowRoundsRow.holds Try.pinned (OpenSpec.ofChange Rows.windowRoundsSpec):=
 OpenClaim.holds_of_wide 3 Try.f3 rfl rfl rfl rfl rfl rfl rfl ⟨rfl,rfl,rfl,rfl,rfl⟩ rfl rfl rfl rfl rfl (by kernel_rfl) Try.func3 (by kernel_rfl)
  (of_decide_eq_true (by kernel_rfl)) (by unfold Func.isWrapper; first | (rw [if_pos (by decide +kernel)]; kernel_rfl) | (rw [if_neg (by decide +kernel)]; exact ⟨rfl,rfl⟩))
  (fun os started H enc _=>lifted os started H enc)
theorem proved:Rows.WindowRoundsSaid:=
 over
end Go.Proofs.Ytefnjhnlegjojaa.windowRounds
