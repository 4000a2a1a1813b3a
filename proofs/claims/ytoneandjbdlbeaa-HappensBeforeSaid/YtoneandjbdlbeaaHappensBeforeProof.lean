/- Proved: HappensBefore returns true for every list of codes, every number and all indexes, and its arguments read afterwards as before; no condition. -/
import Derived.Deep.DeepCutAuto
import Derived.Deep.CutBlock
import Derived.LoopTactic
import Derived.WalkKit
import Derived.ProofKit
import Derived.OpenShut
import Derived.SizedLaws
import Derived.Test.YtoneandjbdlbeaaB01
import Derived.Test.YtoneandjbdlbeaaB05
import Derived.Test.YtoneandjbdlbeaaB04
namespace Go.Proofs.Ytoneandjbdlbeaa.happensBefore
open Go.ChangeShapes Go.WideShapes Go.ChangeAt Go.RowKit
set_option linter.unusedVariables false
set_option linter.unusedSimpArgs false
set_option maxRecDepth 100000 in
set_option maxHeartbeats 16000000 in
theorem walk (w:World) (v0:Value) (l0:List Int) (s0:SlI w .u8 v0 l0) (a1:Int) (w1:(Lit.int .u8 a1).wf=true) (a2:Int) (w2:(Lit.int .i64 a2).wf=true) (a3:Int) (w3:(Lit.int .i64 a3).wf=true) :
  Calls Try.prog 4 #[v0,.int .u8 a1,.int .i64 a2,.int .i64 a3] w fun e w'=>e=.returned (.bool true)∧Below w.heap.size w w':=by
 have AW:=Lib.hid (awakeH_any w);have HS0:=Lib.hid s0;clear s0;have hu8:0≤a1∧a1≤255:=by
  have h:=w1;unfold Lit.wf at h;simp only [Bool.and_eq_true,decide_eq_true_eq] at h;have e1:IntKind.u8.min=0:=by decide
  have e2:IntKind.u8.max=255:=by decide
  rw [e1,e2] at h;exact h
 have ht:1≤wrap64 (1+wrap64 (a1.tmod 4))∧wrap64 (1+wrap64 (a1.tmod 4))≤4:=by
  rw [Int.tmod_eq_emod_of_nonneg hu8.1];unfold wrap64;omega
 clear hu8;go_enter Try.func4,Try.ntmps4;go_wp2_with fail;refine AW.out.mono ?_; rintro e w2 ⟨rfl,hb1⟩;have HB1:=Lib.hid hb1;clear hb1 AW;go_upto_region 4 with fail
 obtain ⟨th,hth⟩:∃z,wrap64 (1+wrap64 (a1.tmod 4))=z:=⟨_,rfl⟩;rw [hth] at ht ⊢;clear hth;obtain ⟨ht1,ht4⟩:=ht;go_wp2_with fail;refine (itemsH_any v0 l0 th 24 w2 (HS0.out.below HB1.out) ⟨by omega,by omega⟩ ⟨by decide,by decide⟩).mono ?_; rintro e w3 ⟨u,l,rfl,hsl,hle,hg,hb3⟩;obtain ⟨tn,rfl⟩:∃tn:Nat,th=tn:=⟨th.toNat,by omega⟩;have HSL:=Lib.hid hsl;have HG:=Lib.hid hg;have HB3:=Lib.hid (below_then HB1.out hb3);have TB:=Lib.hid fun a b w' (hb:Below w3.heap.size w3 w')=>before_any l (tn:Int) a b u w' (hsl.below hb) ⟨by omega,by omega⟩ (fun x hx=>(hg x hx).2) (by omega);have TBR:=Lib.hid fun a b w' (hb:Below w3.heap.size w3 w')=>rBefore_any l tn u a b w' (hsl.below hb) ⟨by omega,by omega⟩ (fun x hx=>(hg x hx).2) (by omega);have TRA:=Lib.hid fun w' (hb:Below w3.heap.size w3 w')=>races_any l (tn:Int) u w' (hsl.below hb) ⟨by omega,by omega⟩ (fun x hx=>(hg x hx).2) (by omega);have TRR:=Lib.hid fun w' (hb:Below w3.heap.size w3 w')=>rraces_any l tn u w' (hsl.below hb) ⟨by omega,by omega⟩ (fun x hx=>(hg x hx).2) (by omega);obtain ⟨av,cap,rfl,-⟩:=hsl.len;obtain ⟨n,hn⟩:∃n,l.length=n:=⟨_,rfl⟩;have HN:=Lib.hid hn;have HRL:Hid ((racesP l l.length).length≤100000):=by have h1:=racesP_len l l.length; have h2:l.length * l.length≤24 * 24:=Nat.mul_le_mul (by omega) (by omega); show _≤_; omega
 rw [hn] at HSL TB TBR TRA TRR HRL hle ⊢;have hnm:n≤24:=by omega
 clear hsl hg hb3 hn hle HB1 HS0;obtain ⟨PP,hPP⟩:∃z,racesP l n=z:=⟨_,rfl⟩;rw [hPP] at TRA TRR HRL;clear hPP;go_wp2_with fail;go_loopw [11] (fun u11 wr=>∃i:Nat,u11=.int .i64 (i:Int)∧i≤n+2∧Hid (Below w3.heap.size w3 wr)) (fun u11 _=>n+3 - (intOf u11).toNat)
 case atStart=>exact ⟨0,rfl,by omega,Below.refl _ _⟩
 case round=>
  obtain ⟨i,rfl,hi,HB⟩:=hrel;obtain ⟨wo,rfl⟩:∃wo:World,wo=wr:=⟨_,rfl⟩;by_cases hlt:i<n
  ·have hltI:(i:Int)<(n:Int):=by omega
   go_wp2_with fail;go_loopw [30] (fun u30 wr=>∃k:Nat,u30=.int .i64 (k:Int)∧k≤n∧Hid (Below w3.heap.size w3 wr)) (fun u30 _=>n - (intOf u30).toNat)
   case atStart=>exact ⟨0,rfl,by omega,HB⟩
   case round=>
    clear HB;obtain ⟨k,rfl,hk,HBk⟩:=hrel;obtain ⟨wk,rfl⟩:∃wk:World,wk=wr:=⟨_,rfl⟩;by_cases hkl:k<n
    ·have hkI:(k:Int)<(n:Int):=by omega
     go_wp2_with fail;refine (TB.out (i:Int) (k:Int) wk HBk.out).mono ?_; rintro e w5 ⟨rfl,hb5⟩;have HB5:=Lib.hid (below_then HBk.out hb5);clear hb5;go_wp2_with fail;refine (TBR.out (i:Int) (k:Int) w5 HB5.out).mono ?_; rintro e w6 ⟨rfl,hb6⟩;have HB6:=Lib.hid (below_then HB5.out hb6);clear hb6 HB5 HBk;generalize befB l (i:Int) (k:Int)=q at *;cases q
     all_goals
      go_wp2_with fail;go_roundw
      case rel=>exact ⟨k+1,by go_num,by omega,HB6⟩
      case measure=>simp [intOf]; omega
    ·have hge:¬(k:Int)<(n:Int):=by omega
     go_wp2_with fail;go_roundw
     case rel=>exact ⟨i+3,(by go_num),by omega,HBk⟩
     case measure=>simp [intOf]; omega
  ·have hge:¬(i:Int)<(n:Int):=by omega
   go_wp2_with fail;refine (TB.out a2 a3 wo HB.out).mono ?_; rintro e w5 ⟨rfl,hb5⟩;have HB5:=Lib.hid (below_then HB.out hb5);clear hb5;go_wp2_with fail;refine (TBR.out a2 a3 w5 HB5.out).mono ?_; rintro e w6 ⟨rfl,hb6⟩;have HB6:=Lib.hid (below_then HB5.out hb6);clear hb6 HB5 HB TB TBR;generalize befB l a2 a3=q at *;cases q
   all_goals
    go_wp2_with fail;refine (TRA.out w6 HB6.out).mono ?_; rintro e w7 ⟨r7,rfl,ho7,hb7⟩;have HB7:=Lib.hid (below_then HB6.out hb7);have HS7:=Lib.hid (ho7.sls (by rw [prRows_length]; have:=HRL.out; omega));obtain ⟨p7,c7,rfl⟩:=ho7.len;clear ho7 hb7;go_wp2_with fail;refine (TRR.out w7 HB7.out).mono ?_; rintro e w8 ⟨r8,rfl,ho8,hb8⟩;have HB8:=Lib.hid (below_then HB7.out hb8);have HS8:=Lib.hid (ho8.sls (by rw [prRows_length]; have:=HRL.out; omega));have HS7:=Lib.hid (HS7.out.below hb8);obtain ⟨p8,c8,rfl⟩:=ho8.len;clear ho8 hb8;rw [pr_ka] at HS7 HS8;rw [pr_ka];go_wp2_with fail;refine (rsameC_any _ _ _ w8 HS7.out HS8.out).mono ?_; rintro e w9 ⟨rfl,hb9⟩;have HB9:=Lib.hid (below_then HB3.out (below_then HB8.out hb9));clear hb9;go_wp2;go_ret;exact ⟨rfl,HB9.out⟩
set_option maxRecDepth 100000 in
theorem lifted (os:Os) (started:os.Started) (H:Type) (enc:TypeId × Value→H) :
  ReturnsInHanded {} Try.checked os 4 .any (Rows.happensBeforeSpec.pre6 enc Try.prog Try.f4 Rows.happensBeforeRow.domain false) (Rows.happensBeforeSpec.post enc Try.prog Try.f4 false true false false):=by
 refine returnsInHanded_of_change_sized (C:=Try.checked) own started (by kernel_rfl) Try.func4
  (ChangeSpec.witness6 (enc:=enc) (C:=Try.checked) false ⟨#[],#[.slice none 0 0,.int .u8 0,.int .i64 0,.int .i64 0],[]⟩ 8 (by kernel_rfl) (by kernel_rfl) (by kernel_rfl) (by kernel_rfl)) ?_
 intro W base args ds gs before hval0 hW _ hsz0 _;have hsz:(DataW.weightsEach Try.prog (Try.f4.params.toList ++ Rows.happensBeforeSpec.plain.varTypes Try.prog) (ds ++ gs)).all (·≤reachBytes)=true:=hsz0;clear hsz0;have hval:∀(j:Nat) t v,Try.f4.params[j]?=some t→args[j]?=some v→Value.okWide Try.prog W .any base t v:=hval0;have hW':=hW;obtain ⟨p,q,hA0,hV,rfl,_,_⟩:=hW;have hA:DataW.TrodAll enc Try.prog W 0 (fun _=>true) true Try.f4.params.toList args.toList ds p:=hA0;rw [Try.params4] at hA hval hsz;obtain ⟨v0,vs0,d0,ds0,p0,q0,hargs,rfl,rfl,h0,rr0⟩:=trodAll_cons hA;obtain ⟨v1,vs1,d1,ds1,p1,q1,rfl,rfl,rfl,h1,rr1⟩:=trodAll_cons rr0;obtain ⟨v2,vs2,d2,ds2,p2,q2,rfl,rfl,rfl,h2,rr2⟩:=trodAll_cons rr1;obtain ⟨v3,vs3,d3,ds3,p3,q3,rfl,rfl,rfl,h3,rr3⟩:=trodAll_cons rr2;obtain ⟨rfl,rfl,rfl⟩:=trodAll_nil rr3;obtain rfl:args=#[v0,v1,v2,v3]:=by cases args; simp_all
 obtain ⟨rfl,rfl⟩:=trodVars_none hV;have k0:=h0;have k1:=h1;have k2:=h2;have k3:=h3;obtain ⟨l0,s0⟩:=view_sl (k:=.u8) Try.underlying22 Try.underlying5 (by kernel_rfl) (fun elems sp hd=>sized_slice hsz (j:=0) (t:=22) (e:=5) rfl (by rw [hd]; rfl) Try.underlying22) (of_decide_eq_true (by kernel_rfl)) (hval 0 22 v0 rfl rfl) h0;obtain ⟨a1,rfl,-,-,w1⟩:=open_int Try.underlying5 (hval 1 5 v1 rfl rfl) h1;obtain ⟨a2,rfl,-,-,w2⟩:=open_int Try.underlying3 (hval 2 3 v2 rfl rfl) h2;obtain ⟨a3,rfl,-,-,w3⟩:=open_int Try.underlying3 (hval 3 3 v3 rfl rfl) h3;clear hA0 hval0;simp only [List.append_nil] at hW';have hlt:=hW'.lt;refine (walk W v0 l0 s0 a1 w1 a2 w2 a3 w3).mono fun e W' ⟨he,hb⟩=>?_;subst he;exact ⟨_,rfl,_,_,_,[],_,[],hW',trodAll_cons_mk (shut_bool Try.underlying4 _) trodAll_mk0,(trodAll_cons_mk (Below.trod Try.laidOut (by kernel_rfl) (of_decide_eq_true (by kernel_rfl)) k0 hb (fun x hx=>by simpa using hlt x (by simp [hx]))) (trodAll_cons_mk (Below.trod Try.laidOut (by kernel_rfl) (of_decide_eq_true (by kernel_rfl)) k1 hb (fun x hx=>by simpa using hlt x (by simp [hx]))) (trodAll_cons_mk (Below.trod Try.laidOut (by kernel_rfl) (of_decide_eq_true (by kernel_rfl)) k2 hb (fun x hx=>by simpa using hlt x (by simp [hx]))) (trodAll_cons_mk (Below.trod Try.laidOut (by kernel_rfl) (of_decide_eq_true (by kernel_rfl)) k3 hb (fun x hx=>by simpa using hlt x (by simp [hx]))) trodAll_mk0)))),rfl,hb.frame _,fun h=>by cases h⟩
theorem over:Rows.happensBeforeRow.holds Try.pinned (OpenSpec.ofChange Rows.happensBeforeSpec):=
 OpenClaim.holds_of_wide 4 Try.f4 rfl rfl rfl rfl rfl rfl rfl ⟨rfl,rfl,rfl,rfl,rfl⟩ rfl rfl rfl rfl rfl (by kernel_rfl) Try.func4 (by kernel_rfl)
  (of_decide_eq_true (by kernel_rfl)) (by unfold Func.isWrapper; first | (rw [if_pos (by decide +kernel)]; kernel_rfl) | (rw [if_neg (by decide +kernel)]; exact ⟨rfl,rfl⟩))
  (fun os started H enc _=>lifted os started H enc)
theorem proved:Rows.HappensBeforeSaid:=
 over
end Go.Proofs.Ytoneandjbdlbeaa.happensBefore
