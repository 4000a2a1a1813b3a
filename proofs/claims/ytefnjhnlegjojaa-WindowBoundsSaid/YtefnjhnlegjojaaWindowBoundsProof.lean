/- Proved: WindowBounds returns true for every four numbers; no condition. -/
import Derived.LoopTactic
import Derived.WalkKit
import Derived.ProofKit
import Derived.OpenShut
import Derived.SizedLaws
import Derived.Test.YtefnjhnlegjojaaB01
import Derived.Test.YtefnjhnlegjojaaB02
namespace Go.Proofs.Ytefnjhnlegjojaa.windowBounds
open Go.ChangeShapes Go.WideShapes Go.ChangeAt Go.RowKit
set_option linter.unusedVariables false
set_option linter.unusedSimpArgs false
set_option maxRecDepth 100000 in
set_option maxHeartbeats 4000000 in
theorem walk (w:World) (a0:Int) (w0:(Lit.int .i64 a0).wf=true) (a1:Int) (w1:(Lit.int .i64 a1).wf=true) (a2:Int) (w2:(Lit.int .u8 a2).wf=true) (a3:Int) (w3:(Lit.int .u8 a3).wf=true) :
  Calls Try.prog 5 #[.int .i64 a0,.int .i64 a1,.int .u8 a2,.int .u8 a3] w fun e w'=>e=.returned (.bool true)∧Below w.heap.size w w':=by
 have A:=Lib.hid (awakeN_any w);have P:=Lib.hid fun t r w'=>bound_any t r w';have Q:=Lib.hid fun t r w'=>rBound_any t r w';have hu2:=bounds_u8 w2;have hu3:=bounds_u8 w3;have g1:wrap64 (-a2)=-a2:=by unfold wrap64; omega
 have g2:wrap64 (990+a3)=990+a3:=by unfold wrap64; omega
 have g3:wrap64 a2=a2:=by unfold wrap64; omega
 have g4:wrap64 a3=a3:=by unfold wrap64; omega
 clear w0 w1 w2 w3;go_enter Try.func5,Try.ntmps5;go_wp2_with (first
  | (go_at_call 8; refine A.out.mono ?_; rintro e w1 ⟨rfl,hb1⟩)
  | (go_at_call 17; refine (P.out _ _ _).mono ?_; rintro e w' ⟨rfl,rfl⟩)
  | (go_at_call 18; refine (Q.out _ _ _).mono ?_; rintro e w' ⟨rfl,rfl⟩))
 go_ret;exact ⟨rfl,hb1⟩
set_option maxRecDepth 100000 in
theorem lifted (os:Os) (started:os.Started) (H:Type) (enc:TypeId × Value→H) :
  ReturnsInHanded {} Try.checked os 5 .any (Rows.windowBoundsSpec.pre6 enc Try.prog Try.f5 Rows.windowBoundsRow.domain false) (Rows.windowBoundsSpec.post enc Try.prog Try.f5 false true false false):=by
 refine returnsInHanded_of_change_sized (C:=Try.checked) own started (by kernel_rfl) Try.func5
  (ChangeSpec.witness6 (enc:=enc) (C:=Try.checked) false ⟨#[],#[.int .i64 0,.int .i64 0,.int .u8 0,.int .u8 0],[]⟩ 8 (by kernel_rfl) (by kernel_rfl) (by kernel_rfl) (by kernel_rfl)) ?_
 intro W base args ds gs before hval0 hW _ hsz0 _;have hsz:(DataW.weightsEach Try.prog (Try.f5.params.toList ++ Rows.windowBoundsSpec.plain.varTypes Try.prog) (ds ++ gs)).all (·≤reachBytes)=true:=hsz0;clear hsz0;have hval:∀(j:Nat) t v,Try.f5.params[j]?=some t→args[j]?=some v→Value.okWide Try.prog W .any base t v:=hval0;have hW':=hW;obtain ⟨p,q,hA0,hV,rfl,_,_⟩:=hW;have hA:DataW.TrodAll enc Try.prog W 0 (fun _=>true) true Try.f5.params.toList args.toList ds p:=hA0;rw [Try.params5] at hA hval hsz;obtain ⟨v0,vs0,d0,ds0,p0,q0,hargs,rfl,rfl,h0,rr0⟩:=trodAll_cons hA;obtain ⟨v1,vs1,d1,ds1,p1,q1,rfl,rfl,rfl,h1,rr1⟩:=trodAll_cons rr0;obtain ⟨v2,vs2,d2,ds2,p2,q2,rfl,rfl,rfl,h2,rr2⟩:=trodAll_cons rr1;obtain ⟨v3,vs3,d3,ds3,p3,q3,rfl,rfl,rfl,h3,rr3⟩:=trodAll_cons rr2;obtain ⟨rfl,rfl,rfl⟩:=trodAll_nil rr3;obtain rfl:args=#[v0,v1,v2,v3]:=by cases args; simp_all
 obtain ⟨rfl,rfl⟩:=trodVars_none hV;have k0:=h0;have k1:=h1;have k2:=h2;have k3:=h3;obtain ⟨a0,rfl,-,-,w0⟩:=open_int Try.underlying3 (hval 0 3 v0 rfl rfl) h0;obtain ⟨a1,rfl,-,-,w1⟩:=open_int Try.underlying3 (hval 1 3 v1 rfl rfl) h1;obtain ⟨a2,rfl,-,-,w2⟩:=open_int Try.underlying5 (hval 2 5 v2 rfl rfl) h2;obtain ⟨a3,rfl,-,-,w3⟩:=open_int Try.underlying5 (hval 3 5 v3 rfl rfl) h3;clear hA0 hval0;simp only [List.append_nil] at hW';have hlt:=hW'.lt;refine (walk W a0 w0 a1 w1 a2 w2 a3 w3).mono fun e W' ⟨he,hb⟩=>?_;subst he;exact ⟨_,rfl,_,_,_,[],_,[],hW',trodAll_cons_mk (shut_bool Try.underlying4 _) trodAll_mk0,(trodAll_cons_mk (Below.trod Try.laidOut (by kernel_rfl) (of_decide_eq_true (by kernel_rfl)) k0 hb (fun x hx=>by simpa using hlt x (by simp [hx]))) (trodAll_cons_mk (Below.trod Try.laidOut (by kernel_rfl) (of_decide_eq_true (by kernel_rfl)) k1 hb (fun x hx=>by simpa using hlt x (by simp [hx]))) (trodAll_cons_mk (Below.trod Try.laidOut (by kernel_rfl) (of_decide_eq_true (by kernel_rfl)) k2 hb (fun x hx=>by simpa using hlt x (by simp [hx]))) (trodAll_cons_mk (Below.trod Try.laidOut (by kernel_rfl) (of_decide_eq_true (by kernel_rfl)) k3 hb (fun x hx=>by simpa using hlt x (by simp [hx]))) trodAll_mk0)))),rfl,hb.frame _,fun h=>by cases h⟩
theorem over:Rows.windowBoundsRow.holds Try.pinned (OpenSpec.ofChange Rows.windowBoundsSpec):=
 OpenClaim.holds_of_wide 5 Try.f5 rfl rfl rfl rfl rfl rfl rfl ⟨rfl,rfl,rfl,rfl,rfl⟩ rfl rfl rfl rfl rfl (by kernel_rfl) Try.func5 (by kernel_rfl)
  (of_decide_eq_true (by kernel_rfl)) (by unfold Func.isWrapper; first | (rw [if_pos (by decide +kernel)]; kernel_rfl) | (rw [if_neg (by decide +kernel)]; exact ⟨rfl,rfl⟩))
  (fun os started H enc _=>lifted os started H enc)
theorem proved:Rows.WindowBoundsSaid:=
 over
end Go.Proofs.Ytefnjhnlegjojaa.windowBounds
