/- Proved: HappensTransitive returns true for every list of codes and every number, and its arguments read afterwards as before; no condition. -/
import Derived.Deep.DeepCutAuto
import Derived.Deep.CutBlock
import Derived.LoopTactic
import Derived.WalkKit
import Derived.ProofKit
import Derived.OpenShut
import Derived.SizedLaws
import Derived.Test.YtoneandjbdlbeaaB01
import Derived.Test.YtoneandjbdlbeaaB04
namespace Go.Proofs.Ytoneandjbdlbeaa.happensTransitive
open Go.ChangeShapes Go.WideShapes Go.ChangeAt Go.RowKit
set_option linter.unusedVariables false
set_option linter.unusedSimpArgs false
set_option maxRecDepth 100000 in
set_option maxHeartbeats 16000000 in
theorem walk (w:World) (v0:Value) (l0:List Int) (s0:SlI w .u8 v0 l0) (a1:Int) (w1:(Lit.int .u8 a1).wf=true) :
  Calls Try.prog 5 #[v0,.int .u8 a1] w fun e w'=>e=.returned (.bool true)∧Below w.heap.size w w':=by
 have AW:=Lib.hid (awakeH_any w);have HS0:=Lib.hid s0;clear s0;have hu8:0≤a1∧a1≤255:=by
  have h:=w1;unfold Lit.wf at h;simp only [Bool.and_eq_true,decide_eq_true_eq] at h;have e1:IntKind.u8.min=0:=by decide
  have e2:IntKind.u8.max=255:=by decide
  rw [e1,e2] at h;exact h
 have ht:1≤wrap64 (1+wrap64 (a1.tmod 4))∧wrap64 (1+wrap64 (a1.tmod 4))≤4:=by
  rw [Int.tmod_eq_emod_of_nonneg hu8.1];unfold wrap64;omega
 clear hu8;go_enter Try.func5,Try.ntmps5;go_wp2_with fail;refine AW.out.mono ?_; rintro e w2 ⟨rfl,hb1⟩;have HB1:=Lib.hid hb1;clear hb1 AW;go_upto_region 4 with fail
 obtain ⟨th,hth⟩:∃z,wrap64 (1+wrap64 (a1.tmod 4))=z:=⟨_,rfl⟩;rw [hth] at ht ⊢;clear hth;obtain ⟨ht1,ht4⟩:=ht;go_wp2_with fail;refine (itemsH_any v0 l0 th 14 w2 (HS0.out.below HB1.out) ⟨by omega,by omega⟩ ⟨by decide,by decide⟩).mono ?_; rintro e w3 ⟨u,l,rfl,hsl,hle,hg,hb3⟩;have HSL:=Lib.hid hsl;have HG:=Lib.hid hg;have HB3:=Lib.hid (below_then HB1.out hb3);have TB:=Lib.hid fun a b w' (hb:Below w3.heap.size w3 w')=>before_any l th a b u w' (hsl.below hb) ⟨by omega,by omega⟩ (fun x hx=>(hg x hx).2) (by omega);obtain ⟨av,cap,rfl,-⟩:=hsl.len;obtain ⟨n,hn⟩:∃n,l.length=n:=⟨_,rfl⟩;have HN:=Lib.hid hn;rw [hn] at HSL TB hle ⊢;have hnm:n≤14:=by omega
 clear hsl hg hb3 hn hle HB1 HS0;go_wp2_with fail;go_loopw [21] (fun u21 wr=>∃i:Nat,u21=.int .i64 (i:Int)∧i≤n∧Hid (Below w3.heap.size w3 wr)) (fun u21 _=>n - (intOf u21).toNat)
 case atStart=>exact ⟨0,rfl,by omega,Below.refl _ _⟩
 case round=>
  obtain ⟨i,rfl,hi,HB⟩:=hrel;obtain ⟨wo,rfl⟩:∃wo:World,wo=wr:=⟨_,rfl⟩;by_cases hlt:i<n
  ·have hltI:(i:Int)<(n:Int):=by omega
   go_wp2_with fail;go_loopw [8] (fun u8 wr=>∃k:Nat,u8=.int .i64 (k:Int)∧i+1≤k∧k≤n∧Hid (Below w3.heap.size w3 wr)) (fun u8 _=>n - (intOf u8).toNat)
   case atStart=>exact ⟨i+1,by go_num,by omega,by omega,HB⟩
   case round=>
    clear HB;obtain ⟨k,rfl,hik,hk,HBk⟩:=hrel;obtain ⟨wk,rfl⟩:∃wk:World,wk=wr:=⟨_,rfl⟩;by_cases hkl:k<n
    ·have hkI:(k:Int)<(n:Int):=by omega
     obtain ⟨bl,ol,cl,hve,hcl,hbl,kl⟩:=(HSL.out.below HBk.out).atK (by have:=HN.out; omega);rw [HN.out] at hve;simp only [Value.slice.injEq] at hve;obtain ⟨hv1,-,hv3⟩:=hve;subst hv1;subst hv3;obtain ⟨c0,-⟩:=kl i wk (by rw [HN.out]; exact hlt) (Below.refl _ _) _ rfl;obtain ⟨d0,-⟩:=kl k wk (by rw [HN.out]; exact hkl) (Below.refl _ _) _ rfl;obtain ⟨ti,hti⟩:∃z,(l.getD i noItem).thr=z:=⟨_,rfl⟩;obtain ⟨tk,htk⟩:∃z,(l.getD k noItem).thr=z:=⟨_,rfl⟩;rw [hti] at c0;rw [htk] at d0;have HQ:Hid (ti=tk→befB l (i:Int) (k:Int)=true):=fun e=>befB_thr (by omega) (by rw [HN.out]; exact hkl) (by rw [hti,htk,e]);obtain ⟨q1,hq1⟩:∃z,befB l (i:Int) (k:Int)=z:=⟨_,rfl⟩;rw [hq1] at HQ;have HQ1:=Lib.hid hq1;have T1:=Lib.hid fun w' (hb:Below w3.heap.size w3 w')=>TB.out (i:Int) (k:Int) w' hb;rw [hq1] at T1;clear kl hti htk hq1;go_upto_region 11 with fail
     go_cut [50] (fun s50 wx=>s50=.bool false∧Hid (Below w3.heap.size w3 wx))
     case first=>
      have X0:=ext_cell _ _ hbl _ c0;have X1:=ext_cell _ _ hbl _ d0;clear c0 d0;by_cases htt:ti=tk
      ·have hr:q1=true:=HQ.out htt
       have hbb:(ti == tk)=true:=by simpa using htt
       subst hr;refine wp_region_ext wk (by kernel_rfl) (by kernel_rfl) (Below.refl _ _) ?_
       repeat (go_big_quiet_step (first | (go_at_call 15; with_reducible exact calls_ext (T1.out _ (below_then HBk.out (Ext.below _))))))
       refine wpQuiet_nil ?_;intro _ hw';obtain ⟨n9,rfl⟩:=hw';have HB9:=Lib.hid (below_then HBk.out n9.below);generalize n9.wd=w9 at *;clear X0 X1;go_wp2_with fail;go_meet;exact ⟨rfl,HB9⟩
      ·have hbb:(ti == tk)=false:=by simpa using htt
       refine wp_region_ext wk (by kernel_rfl) (by kernel_rfl) (Below.refl _ _) ?_
       repeat (go_big_quiet_step (first | (go_at_call 15; with_reducible exact calls_ext (T1.out _ (below_then HBk.out (Ext.below _))))))
       refine wpQuiet_nil ?_;intro _ hw';obtain ⟨n9,rfl⟩:=hw';have HB9:=Lib.hid (below_then HBk.out n9.below);generalize n9.wd=w9 at *;clear X0 X1;go_wp2_with fail;go_meet;exact ⟨rfl,HB9⟩
     obtain ⟨rfl,HB5⟩:=hcut;obtain ⟨w5,rfl⟩:∃w5:World,w5=wc:=⟨_,rfl⟩;clear HBk c0 d0;go_wp2_with fail;refine (TB.out (k:Int) (i:Int) w5 HB5.out).mono ?_; rintro e w6 ⟨rfl,hb6⟩;rw [befB_back (l:=l) (a:=(k:Int)) (b:=(i:Int)) (by omega)];have HB6:=Lib.hid (below_then HB5.out hb6);clear hb6 HB5;go_wp2_with fail;refine (TB.out (i:Int) (i:Int) w6 HB6.out).mono ?_; rintro e w7 ⟨rfl,hb7⟩;rw [befB_back (l:=l) (a:=(i:Int)) (b:=(i:Int)) (by omega)];have HB7:=Lib.hid (below_then HB6.out hb7);clear hb7 HB6;go_wp2_with fail;go_loopw [9] (fun u9 wr=>∃m:Nat,u9=.int .i64 (m:Int)∧k+1≤m∧m≤n∧Hid (Below w3.heap.size w3 wr)) (fun u9 _=>n - (intOf u9).toNat)
     case atStart=>exact ⟨k+1,by go_num,by omega,by omega,HB7⟩
     case round=>
      clear HB7;obtain ⟨m,rfl,hkm,hm,HBm⟩:=hrel;obtain ⟨wm,rfl⟩:∃wm:World,wm=wr:=⟨_,rfl⟩;by_cases hml:m<n
      ·have hmI:(m:Int)<(n:Int):=by omega
       have HQ3:Hid (q1=true→befB l (k:Int) (m:Int)=true→befB l (i:Int) (m:Int)=true):=fun h1 h2=>befB_trans (by omega) (by omega) (by rw [HN.out]; exact hml) (HQ1.out.trans h1) h2;go_wp2_with fail;refine (T1.out wm HBm.out).mono ?_; rintro e w8 ⟨rfl,hb8⟩;have HB8:=Lib.hid (below_then HBm.out hb8);clear hb8 HBm;cases q1 with
       | false=>
        go_wp2_with fail;go_roundw
        case rel=>exact ⟨m+1,by go_num,by omega,by omega,HB8⟩
        case measure=>simp [intOf]; omega
       | true=>
        go_wp2_with fail;refine (TB.out (k:Int) (m:Int) w8 HB8.out).mono ?_; rintro e w9 ⟨rfl,hb9⟩;have HB9:=Lib.hid (below_then HB8.out hb9);obtain ⟨q2,hq2⟩:∃z,befB l (k:Int) (m:Int)=z:=⟨_,rfl⟩;rw [hq2] at HQ3 ⊢;clear hb9 hq2 HB8;cases q2 with
        | false=>
         go_wp2_with fail;go_roundw
         case rel=>exact ⟨m+1,by go_num,by omega,by omega,HB9⟩
         case measure=>simp [intOf]; omega
        | true=>
         go_wp2_with fail;refine (TB.out (i:Int) (m:Int) w9 HB9.out).mono ?_; rintro e w10 ⟨rfl,hb10⟩;rw [HQ3.out (by simp) (by simp)];have HB10:=Lib.hid (below_then HB9.out hb10);clear hb10 HB9 HQ3;go_wp2_with fail;go_roundw
         case rel=>exact ⟨m+1,by go_num,by omega,by omega,HB10⟩
         case measure=>simp [intOf]; omega
      ·have hge:¬(m:Int)<(n:Int):=by omega
       go_wp2_with fail;go_roundw
       case rel=>exact ⟨k+1,by go_num,by omega,by omega,HBm⟩
       case measure=>simp [intOf]; omega
    ·have hge:¬(k:Int)<(n:Int):=by omega
     go_wp2_with fail;go_roundw
     case rel=>exact ⟨i+1,by go_num,by omega,HBk⟩
     case measure=>simp [intOf]; omega
  ·have hge:¬(i:Int)<(n:Int):=by omega
   have HBF:=Lib.hid (below_then HB3.out HB.out);go_wp2
   all_goals (go_ret; exact ⟨rfl,HBF.out⟩)
set_option maxRecDepth 100000 in
theorem lifted (os:Os) (started:os.Started) (H:Type) (enc:TypeId × Value→H) :
  ReturnsInHanded {} Try.checked os 5 .any (Rows.happensTransitiveSpec.pre6 enc Try.prog Try.f5 Rows.happensTransitiveRow.domain false) (Rows.happensTransitiveSpec.post enc Try.prog Try.f5 false true false false):=by
 refine returnsInHanded_of_change_sized (C:=Try.checked) own started (by kernel_rfl) Try.func5
  (ChangeSpec.witness6 (enc:=enc) (C:=Try.checked) false ⟨#[],#[.slice none 0 0,.int .u8 0],[]⟩ 8 (by kernel_rfl) (by kernel_rfl) (by kernel_rfl) (by kernel_rfl)) ?_
 intro W base args ds gs before hval0 hW _ hsz0 _;have hsz:(DataW.weightsEach Try.prog (Try.f5.params.toList ++ Rows.happensTransitiveSpec.plain.varTypes Try.prog) (ds ++ gs)).all (·≤reachBytes)=true:=hsz0;clear hsz0;have hval:∀(j:Nat) t v,Try.f5.params[j]?=some t→args[j]?=some v→Value.okWide Try.prog W .any base t v:=hval0;have hW':=hW;obtain ⟨p,q,hA0,hV,rfl,_,_⟩:=hW;have hA:DataW.TrodAll enc Try.prog W 0 (fun _=>true) true Try.f5.params.toList args.toList ds p:=hA0;rw [Try.params5] at hA hval hsz;obtain ⟨v0,vs0,d0,ds0,p0,q0,hargs,rfl,rfl,h0,rr0⟩:=trodAll_cons hA;obtain ⟨v1,vs1,d1,ds1,p1,q1,rfl,rfl,rfl,h1,rr1⟩:=trodAll_cons rr0;obtain ⟨rfl,rfl,rfl⟩:=trodAll_nil rr1;obtain rfl:args=#[v0,v1]:=by cases args; simp_all
 obtain ⟨rfl,rfl⟩:=trodVars_none hV;have k0:=h0;have k1:=h1;obtain ⟨l0,s0⟩:=view_sl (k:=.u8) Try.underlying22 Try.underlying5 (by kernel_rfl) (fun elems sp hd=>sized_slice hsz (j:=0) (t:=22) (e:=5) rfl (by rw [hd]; rfl) Try.underlying22) (of_decide_eq_true (by kernel_rfl)) (hval 0 22 v0 rfl rfl) h0;obtain ⟨a1,rfl,-,-,w1⟩:=open_int Try.underlying5 (hval 1 5 v1 rfl rfl) h1;clear hA0 hval0;simp only [List.append_nil] at hW';have hlt:=hW'.lt;refine (walk W v0 l0 s0 a1 w1).mono fun e W' ⟨he,hb⟩=>?_;subst he;exact ⟨_,rfl,_,_,_,[],_,[],hW',trodAll_cons_mk (shut_bool Try.underlying4 _) trodAll_mk0,(trodAll_cons_mk (Below.trod Try.laidOut (by kernel_rfl) (of_decide_eq_true (by kernel_rfl)) k0 hb (fun x hx=>by simpa using hlt x (by simp [hx]))) (trodAll_cons_mk (Below.trod Try.laidOut (by kernel_rfl) (of_decide_eq_true (by kernel_rfl)) k1 hb (fun x hx=>by simpa using hlt x (by simp [hx]))) trodAll_mk0)),rfl,hb.frame _,fun h=>by cases h⟩
theorem over:Rows.happensTransitiveRow.holds Try.pinned (OpenSpec.ofChange Rows.happensTransitiveSpec):=
 OpenClaim.holds_of_wide 5 Try.f5 rfl rfl rfl rfl rfl rfl rfl ⟨rfl,rfl,rfl,rfl,rfl⟩ rfl rfl rfl rfl rfl (by kernel_rfl) Try.func5 (by kernel_rfl)
  (of_decide_eq_true (by kernel_rfl)) (by unfold Func.isWrapper; first | (rw [if_pos (by decide +kernel)]; kernel_rfl) | (rw [if_neg (by decide +kernel)]; exact ⟨rfl,rfl⟩))
  (fun os started H enc _=>lifted os started H enc)
theorem proved:Rows.HappensTransitiveSaid:=
 over
end Go.Proofs.Ytoneandjbdlbeaa.happensTransitive
