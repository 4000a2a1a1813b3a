/- Proved: HappensReads returns true for every list of codes and every number, and its arguments read afterwards as before; no condition. -/
import Derived.Deep.DeepCutAuto
import Derived.Deep.CutBlock
import Derived.LoopTactic
import Derived.WalkKit
import Derived.ProofKit
import Derived.OpenShut
import Derived.SizedLaws
import Derived.Test.YtoneandjbdlbeaaB01
import Derived.Test.YtoneandjbdlbeaaB04
namespace Go.Proofs.Ytoneandjbdlbeaa.happensReads
open Go.ChangeShapes Go.WideShapes Go.ChangeAt Go.RowKit
set_option linter.unusedVariables false
set_option linter.unusedSimpArgs false
def lastQ (l:List ItemM) (k i:Nat) (la:Int):Prop:=
 (la=-1∧∀j,j<i→¬(wrB (l.getD j noItem)=true∧(l.getD j noItem).acc.addr=(l.getD k noItem).acc.addr))∨
 ∃a:Nat,la=a∧a<i∧wrB (l.getD a noItem)=true∧(l.getD a noItem).acc.addr=(l.getD k noItem).acc.addr∧∀j,a<j→j<i→¬(wrB (l.getD j noItem)=true∧(l.getD j noItem).acc.addr=(l.getD k noItem).acc.addr)
theorem lastQ_step {l:List ItemM} {k i:Nat} {la ti bk bd bo bn bt bv th ak ad ao an at_ vl:Int} {bok ok:Bool} (h:lastQ l k i la) (hik:i<k) (hy:l.getD i noItem=⟨ti,⟨bk,bd,bo,bn,bt⟩,bv,bok⟩) (hx:l.getD k noItem=⟨th,⟨ak,ad,ao,an,at_⟩,vl,ok⟩):lastQ l k (i+1) (if (bd == ad && (bk == 2 || (bk == 3 && bok)))=true then (i:Int) else la):=by
 have hw:wrB (l.getD i noItem)=(bk == 2 || (bk == 3 && bok)):=by rw [hy]; rfl
 have ha:(l.getD i noItem).acc.addr=bd:=by rw [hy]
 have hd:(l.getD k noItem).acc.addr=ad:=by rw [hx]
 split
 ·next hc=>
  simp only [Bool.and_eq_true,beq_iff_eq] at hc;refine .inr ⟨i,rfl,Nat.lt_succ_self _,hw.trans hc.2,by rw [ha,hd,hc.1],fun j h1 h2=>by omega⟩
 ·next hc=>
  have hno:¬(wrB (l.getD i noItem)=true∧(l.getD i noItem).acc.addr=(l.getD k noItem).acc.addr):=by
   rw [hw,ha,hd];rintro ⟨h1,h2⟩;exact hc (by rw [h1,h2]; simp)
  rcases h with ⟨h1,h2⟩ | ⟨a,h1,h2,h3,h4,h5⟩
  ·refine .inl ⟨h1,fun j hj=>?_⟩
   rcases Nat.lt_succ_iff_lt_or_eq.1 hj with hj | rfl
   ·exact h2 j hj
   ·exact hno
  ·refine .inr ⟨a,h1,by omega,h3,h4,fun j hj1 hj2=>?_⟩
   rcases Nat.lt_succ_iff_lt_or_eq.1 hj2 with hj | rfl
   ·exact h5 j hj1 hj
   ·exact hno
set_option maxRecDepth 100000 in
set_option maxHeartbeats 16000000 in
theorem walk (w:World) (v0:Value) (l0:List Int) (s0:SlI w .u8 v0 l0) (a1:Int) (w1:(Lit.int .u8 a1).wf=true) :
  Calls Try.prog 6 #[v0,.int .u8 a1] w fun e w'=>e=.returned (.bool true)∧Below w.heap.size w w':=by
 have AW:=Lib.hid (awakeH_any w);have HS0:=Lib.hid s0;clear s0;have hu8:0≤a1∧a1≤255:=by
  have h:=w1;unfold Lit.wf at h;simp only [Bool.and_eq_true,decide_eq_true_eq] at h;have e1:IntKind.u8.min=0:=by decide
  have e2:IntKind.u8.max=255:=by decide
  rw [e1,e2] at h;exact h
 have ht:1≤wrap64 (1+wrap64 (a1.tmod 4))∧wrap64 (1+wrap64 (a1.tmod 4))≤4:=by
  rw [Int.tmod_eq_emod_of_nonneg hu8.1];unfold wrap64;omega
 clear hu8;go_enter Try.func6,Try.ntmps6;go_wp2_with fail;refine AW.out.mono ?_; rintro e w2 ⟨rfl,hb1⟩;have HB1:=Lib.hid hb1;clear hb1 AW;go_upto_region 4 with fail
 obtain ⟨th,hth⟩:∃z,wrap64 (1+wrap64 (a1.tmod 4))=z:=⟨_,rfl⟩;rw [hth] at ht ⊢;clear hth;obtain ⟨ht1,ht4⟩:=ht;go_wp2_with fail;refine (itemsH_any v0 l0 th 24 w2 (HS0.out.below HB1.out) ⟨by omega,by omega⟩ ⟨by decide,by decide⟩).mono ?_; rintro e w3 ⟨u,l,rfl,hsl,hle,hg,hb3⟩;have HSL:=Lib.hid hsl;have HG:=Lib.hid hg;have HB3:=Lib.hid (below_then HB1.out hb3);have TB:=Lib.hid fun a b w' (hb:Below w3.heap.size w3 w')=>before_any l th a b u w' (hsl.below hb) ⟨by omega,by omega⟩ (fun x hx=>(hg x hx).2) (by omega);obtain ⟨av,cap,rfl,-⟩:=hsl.len;obtain ⟨n,hn⟩:∃n,l.length=n:=⟨_,rfl⟩;have HN:=Lib.hid hn;rw [hn] at HSL TB hle ⊢;have hnm:n≤24:=by omega
 clear hsl hg hb3 hn hle HB1 HS0;go_wp2_with fail;go_loopw [22] (fun u22 wr=>∃k:Nat,u22=.int .i64 (k:Int)∧k≤n∧Hid (Below w3.heap.size w3 wr)) (fun u22 _=>n - (intOf u22).toNat)
 case atStart=>exact ⟨0,rfl,by omega,Below.refl _ _⟩
 case round=>
  obtain ⟨k,rfl,hk,HB⟩:=hrel;obtain ⟨wk,rfl⟩:∃wk:World,wk=wr:=⟨_,rfl⟩;by_cases hlt:k<n
  ·have hltI:(k:Int)<(n:Int):=by omega
   obtain ⟨bl,ol,cl,hve,hcl,hbl,kl⟩:=(HSL.out.below HB.out).atK (by have:=HN.out; omega);rw [HN.out] at hve;simp only [Value.slice.injEq] at hve;obtain ⟨hv1,-,hv3⟩:=hve;subst hv1;subst hv3;have KL:=Lib.hid fun i w' hi hb x hx=>kl i w' hi hb x hx;obtain ⟨x,hx⟩:∃x,l.getD k noItem=x:=⟨_,rfl⟩;obtain ⟨-,c1,c2,-⟩:=kl k wk (by rw [HN.out]; exact hlt) (Below.refl _ _) x hx;have HX:=Lib.hid hx;obtain ⟨th9,⟨ak,ad,ao,an,at_⟩,vl,ok⟩:=x;dsimp only at c1 c2;have HRD:Hid (¬(ak≠1∧ak≠4∧ak≠3)→rdB (l.getD k noItem)=true):=fun h=>by
    rw [HX.out];unfold rdB;simp only [Bool.or_eq_true,beq_iff_eq];omega
   clear kl hx;by_cases h1:ak≠1∧ak≠4∧ak≠3
   ·obtain ⟨n1,n4,n3⟩:=h1
    have b1:(ak != 1)=true:=by simpa using n1
    have b4:(ak != 4)=true:=by simpa using n4
    have b3:(ak != 3)=true:=by simpa using n3
    go_wp2_with fail;go_roundw
    case rel=>exact ⟨k+1,by go_num,by omega,HB⟩
    case measure=>simp [intOf]; omega
   ·have hrd:=HRD.out h1
    have HRR:=Lib.hid hrd;go_upto_region 9 with fail
    go_cut [40] (fun s40 wx=>s40=.bool false∧Hid (Below w3.heap.size w3 wx))
    case first=>
     by_cases e1:ak=1
     ·have b1:(ak != 1)=false:=by simp [e1]
      go_wp2_with fail;go_meet;exact ⟨rfl,HB⟩
     ·have b1:(ak != 1)=true:=by simpa using e1
      by_cases e4:ak=4
      ·have b4:(ak != 4)=false:=by simp [e4]
       go_wp2_with fail;go_meet;exact ⟨rfl,HB⟩
      ·have b4:(ak != 4)=true:=by simpa using e4
       have e3:ak=3:=by omega
       have b3:(ak != 3)=false:=by simp [e3]
       go_wp2_with fail;go_meet;exact ⟨rfl,HB⟩
    obtain ⟨rfl,HB5⟩:=hcut;obtain ⟨w5,rfl⟩:∃w5:World,w5=wc:=⟨_,rfl⟩;clear HB c1 c2 h1 hrd HRD;go_wp2_with fail;go_loopw [9,10] (fun u9 u10 wr=>∃(i:Nat) (la:Int),u10=.int .i64 (i:Int)∧i≤k∧u9=.int .i64 la∧Hid (lastQ l k i la)∧Hid (Below w3.heap.size w3 wr)) (fun _ u10 _=>k - (intOf u10).toNat)
    case atStart=>exact ⟨0,-1,rfl,by omega,rfl,.inl ⟨rfl,fun j hj=>by omega⟩,HB5⟩
    case round=>
     clear HB5;obtain ⟨i,la,rfl,hi,rfl,HLA,HBi⟩:=hrel;obtain ⟨wi,rfl⟩:∃wi:World,wi=wr:=⟨_,rfl⟩;by_cases hil:i<k
     ·have hilI:(i:Int)<(k:Int):=by omega
      have hinI:(i:Int)<(n:Int):=by omega
      obtain ⟨bl2,ol2,cl2,hve,-,hbl2,kl2⟩:=(HSL.out.below HBi.out).atK (by have:=HN.out; omega);rw [HN.out] at hve;simp only [Value.slice.injEq,Option.some.injEq,Addr.mk.injEq,and_true,true_and] at hve;obtain ⟨⟨hv1,hv2⟩,hv3⟩:=hve;subst hv1;subst hv2;obtain ⟨y,hy⟩:∃y,l.getD i noItem=y:=⟨_,rfl⟩;obtain ⟨d0,d1,d2,d3,d4,d5,d6,d7⟩:=kl2 i wi (by rw [HN.out]; omega) (Below.refl _ _) y hy;obtain ⟨e0,e1,e2,e3,e4,e5,e6,e7⟩:=kl2 k wi (by rw [HN.out]; exact hlt) (Below.refl _ _) _ HX.out;have HY:=Lib.hid hy;obtain ⟨ti,⟨bk,bd,bo,bn,bt⟩,bv,bok⟩:=y;dsimp only at d1 d2 d7 e2;clear d0 d3 d4 d5 d6 e0 e1 e3 e4 e5 e6 e7 kl2 hy hv3;have HST:Hid (lastQ l k (i+1) (if (bd == ad && (bk == 2 || (bk == 3 && bok)))=true then (i:Int) else la)):=lastQ_step HLA.out hil HY.out HX.out;go_upto_region 14 with fail
      go_cut [83] (fun s83 wx=>s83=.bool (bd == ad && (bk == 2 || (bk == 3 && bok)))∧Hid (Below w3.heap.size w3 wx))
      case first=>
       have Xd1:=ext_cell _ _ hbl2 _ d1;have Xd2:=ext_cell _ _ hbl2 _ d2;have Xd7:=ext_cell _ _ hbl2 _ d7;have Xe2:=ext_cell _ _ hbl2 _ e2;clear d1 d2 d7 e2;obtain ⟨f1,hf1⟩:∃z,(bd == ad)=z:=⟨_,rfl⟩;obtain ⟨f2,hf2⟩:∃z,(bk == 2)=z:=⟨_,rfl⟩;obtain ⟨f3,hf3⟩:∃z,(bk == 3)=z:=⟨_,rfl⟩;cases f1 <;> cases f2 <;> cases f3 <;> (
        refine wp_region_ext wi (by kernel_rfl) (by kernel_rfl) (Below.refl _ _) ?_
        repeat (go_big_quiet_step (fail))
        refine wpQuiet_nil ?_;intro _ hw';obtain ⟨n9,rfl⟩:=hw';have HB9:=Lib.hid (below_then HBi.out n9.below);generalize n9.wd=w9 at *;go_wp2_with fail;go_meet;exact ⟨by rw [hf1,hf2,hf3]; simp,HB9⟩)
      obtain ⟨rfl,HB6⟩:=hcut;obtain ⟨w6,rfl⟩:∃w6:World,w6=wc:=⟨_,rfl⟩;obtain ⟨wb,hwb⟩:∃z,(bd == ad && (bk == 2 || (bk == 3 && bok)))=z:=⟨_,rfl⟩;rw [hwb] at HST ⊢;clear HBi d1 d2 d7 e2 hwb;cases wb with
      | false=>
       go_wp2_with fail;go_roundw
       case rel=>exact ⟨i+1,la,by go_num,by omega,rfl,by have h:=HST.out; simp at h; exact h,HB6⟩
       case measure=>simp [intOf]; omega
      | true=>
       go_wp2_with fail;go_roundw
       case rel=>exact ⟨i+1,(i:Int),by go_num,by omega,rfl,by have h:=HST.out; simp at h; exact h,HB6⟩
       case measure=>simp [intOf]; omega
     ·have hge:¬(i:Int)<(k:Int):=by omega
      have hik:i=k:=by omega
      subst hik;rcases HLA.out with ⟨hla,-⟩ | ⟨a,hla,hak,hwr,had,hno⟩
      ·subst hla
       go_wp2_with fail;go_roundw
       case rel=>exact ⟨i+1,by go_num,by omega,HBi⟩
       case measure=>simp [intOf]; omega
      ·subst hla
       have hbf:=reads_last hak (by rw [HN.out]; exact hlt) HRR.out hwr had hno;have TB1:=Lib.hid (TB.out (a:Int) (i:Int) wi HBi.out);rw [hbf] at TB1;have ha0:(0:Int)≤(a:Int):=by omega
       clear hbf hno hwr had;go_wp2_with fail;refine TB1.out.mono ?_; rintro e w7 ⟨rfl,hb7⟩;have HB7:=Lib.hid (below_then HBi.out hb7);clear hb7 TB1;go_wp2_with fail;go_roundw
       case rel=>exact ⟨i+1,by go_num,by omega,HB7⟩
       case measure=>simp [intOf]; omega
  ·have hge:¬(k:Int)<(n:Int):=by omega
   have HBF:=Lib.hid (below_then HB3.out HB.out);go_wp2
   all_goals (go_ret; exact ⟨rfl,HBF.out⟩)
set_option maxRecDepth 100000 in
theorem lifted (os:Os) (started:os.Started) (H:Type) (enc:TypeId × Value→H) :
  ReturnsInHanded {} Try.checked os 6 .any (Rows.happensReadsSpec.pre6 enc Try.prog Try.f6 Rows.happensReadsRow.domain false) (Rows.happensReadsSpec.post enc Try.prog Try.f6 false true false false):=by
 refine returnsInHanded_of_change_sized (C:=Try.checked) own started (by kernel_rfl) Try.func6
  (ChangeSpec.witness6 (enc:=enc) (C:=Try.checked) false ⟨#[],#[.slice none 0 0,.int .u8 0],[]⟩ 8 (by kernel_rfl) (by kernel_rfl) (by kernel_rfl) (by kernel_rfl)) ?_
 intro W base args ds gs before hval0 hW _ hsz0 _;have hsz:(DataW.weightsEach Try.prog (Try.f6.params.toList ++ Rows.happensReadsSpec.plain.varTypes Try.prog) (ds ++ gs)).all (·≤reachBytes)=true:=hsz0;clear hsz0;have hval:∀(j:Nat) t v,Try.f6.params[j]?=some t→args[j]?=some v→Value.okWide Try.prog W .any base t v:=hval0;have hW':=hW;obtain ⟨p,q,hA0,hV,rfl,_,_⟩:=hW;have hA:DataW.TrodAll enc Try.prog W 0 (fun _=>true) true Try.f6.params.toList args.toList ds p:=hA0;rw [Try.params6] at hA hval hsz;obtain ⟨v0,vs0,d0,ds0,p0,q0,hargs,rfl,rfl,h0,rr0⟩:=trodAll_cons hA;obtain ⟨v1,vs1,d1,ds1,p1,q1,rfl,rfl,rfl,h1,rr1⟩:=trodAll_cons rr0;obtain ⟨rfl,rfl,rfl⟩:=trodAll_nil rr1;obtain rfl:args=#[v0,v1]:=by cases args; simp_all
 obtain ⟨rfl,rfl⟩:=trodVars_none hV;have k0:=h0;have k1:=h1;obtain ⟨l0,s0⟩:=view_sl (k:=.u8) Try.underlying22 Try.underlying5 (by kernel_rfl) (fun elems sp hd=>sized_slice hsz (j:=0) (t:=22) (e:=5) rfl (by rw [hd]; rfl) Try.underlying22) (of_decide_eq_true (by kernel_rfl)) (hval 0 22 v0 rfl rfl) h0;obtain ⟨a1,rfl,-,-,w1⟩:=open_int Try.underlying5 (hval 1 5 v1 rfl rfl) h1;clear hA0 hval0;simp only [List.append_nil] at hW';have hlt:=hW'.lt;refine (walk W v0 l0 s0 a1 w1).mono fun e W' ⟨he,hb⟩=>?_;subst he;exact ⟨_,rfl,_,_,_,[],_,[],hW',trodAll_cons_mk (shut_bool Try.underlying4 _) trodAll_mk0,(trodAll_cons_mk (Below.trod Try.laidOut (by kernel_rfl) (of_decide_eq_true (by kernel_rfl)) k0 hb (fun x hx=>by simpa using hlt x (by simp [hx]))) (trodAll_cons_mk (Below.trod Try.laidOut (by kernel_rfl) (of_decide_eq_true (by kernel_rfl)) k1 hb (fun x hx=>by simpa using hlt x (by simp [hx]))) trodAll_mk0)),rfl,hb.frame _,fun h=>by cases h⟩
theorem over:Rows.happensReadsRow.holds Try.pinned (OpenSpec.ofChange Rows.happensReadsSpec):=
 OpenClaim.holds_of_wide 6 Try.f6 rfl rfl rfl rfl rfl rfl rfl ⟨rfl,rfl,rfl,rfl,rfl⟩ rfl rfl rfl rfl rfl (by kernel_rfl) Try.func6 (by kernel_rfl)
  (of_decide_eq_true (by kernel_rfl)) (by unfold Func.isWrapper; first | (rw [if_pos (by decide +kernel)]; kernel_rfl) | (rw [if_neg (by decide +kernel)]; exact ⟨rfl,rfl⟩))
  (fun os started H enc _=>lifted os started H enc)
theorem proved:Rows.HappensReadsSaid:=
 over
end Go.Proofs.Ytoneandjbdlbeaa.happensReads
