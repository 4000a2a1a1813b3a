/- Proved: HappensClocks returns true for every list of codes, every list of records and every number, and its arguments read afterwards as before; no condition. -/
import Derived.Deep.DeepCutAuto
import Derived.Deep.CutBlock
import Derived.LoopTactic
import Derived.WalkKit
import Derived.ProofKit
import Derived.OpenShut
import Derived.SizedLaws
import Derived.Test.YtfbdehcibgdagaaB01
import Derived.Test.YtfbdehcibgdagaaB05
import Derived.Test.YtfbdehcibgdagaaB04
import Derived.Test.YtfbdehcibgdagaaB06
namespace Go.Proofs.Ytfbdehcibgdagaa.happensClocks
open Go.ChangeShapes Go.WideShapes Go.ChangeAt Go.RowKit
set_option linter.unusedVariables false
set_option linter.unusedSimpArgs false
theorem flatT_set (l:List ItemM) (i:Nat) (y:Int) (hi:i<l.length):(l.flatMap itemCells).set (i * 8) (.int .i64 y)=(l.set i { l.getD i noItem with thr:=y }).flatMap itemCells:=by
 induction l generalizing i with
 | nil=>simp at hi
 | cons x l ih=>
  cases i with
  | zero=>rfl
  | succ i=>
   have hx:(itemCells x).length=8:=rfl;have e:=ih i (by simpa using hi);rw [List.flatMap_cons,List.set_append_right _ _ (by rw [hx]; omega),hx,show (i+1) * 8 - 8=i * 8 by omega,e,List.set_cons_succ,List.flatMap_cons];simp
theorem ownT_thr {w:World} {base g n cap:Nat} {l:List ItemM} (h:OwnT w base (.slice (some ⟨g,0,none⟩) n cap) l) (i:Nat) (y:Int) (hi:i<l.length) (hn:n=l.length) :
  OwnT (w.setCell ⟨g,i * 8,none⟩ (.int .i64 y)) base (.slice (some ⟨g,0,none⟩) n cap) (l.set i { l.getD i noItem with thr:=y }):=by
 subst hn;have:=(World.ownsRow.stored h (i * 8) (.int .i64 y)).1;unfold OwnT;rw [List.length_set,← flatT_set l i y hi];exact this
theorem ownT_cell {w:World} {base g n cap:Nat} {l:List ItemM} (h:OwnT w base (.slice (some ⟨g,0,none⟩) n cap) l) (i:Nat) (hi:i<l.length) (hn:n=l.length):w.cell? ⟨g,i * 8,none⟩=some (.int .i64 (l.getD i noItem).thr)∧w.frozen? ⟨g,i * 8,none⟩=false:=by
 subst hn;refine ⟨?_,h.frozenAt _⟩;have e:=flatT_get l i 0 hi (by omega);rw [Nat.add_zero] at e;rw [World.ownsRow.cellAt h (i * 8) (by omega),e];rfl
theorem getD_setT (l:List ItemM) (i j:Nat) (x:ItemM) (hi:i<l.length):(l.set i x).getD j noItem=if i=j then x else l.getD j noItem:=by
 rw [List.getD_eq_getElem?_getD,List.getD_eq_getElem?_getD,List.getElem?_set];by_cases e:i=j
 ·subst e; simp [hi]
 ·simp [e]
theorem thr_good {x:ItemM} (h:x.good) (y:Int) (hy:y=IntKind.i64.wrap y):({ x with thr:=y }:ItemM).good:=⟨hy,h.acc,h.val⟩
set_option maxRecDepth 100000 in
set_option maxHeartbeats 16000000 in
theorem walk (w:World) (v0:Value) (l0:List Int) (s0:SlI w .u8 v0 l0) (v1:Value) (l1:List ItemM) (s1:SlT w v1 l1) (a2:Int) (w2:(Lit.int .u8 a2).wf=true) :
  Calls Try.prog 3 #[v0,v1,.int .u8 a2] w fun e w'=>e=.returned (.bool true)∧Below w.heap.size w w':=by
 have AW:=Lib.hid (awakeH_any w);have HS0:=Lib.hid s0;have HS1:=Lib.hid s1;have hg1:=s1.2.1;have hl47:=s1.1;obtain ⟨a1,cap1,rfl,-⟩:=s1.len;clear s0 s1;have hu8:0≤a2∧a2≤255:=by
  have h:=w2;unfold Lit.wf at h;simp only [Bool.and_eq_true,decide_eq_true_eq] at h;have e1:IntKind.u8.min=0:=by decide
  have e2:IntKind.u8.max=255:=by decide
  rw [e1,e2] at h;exact h
 have ht:1≤wrap64 (1+wrap64 (a2.tmod 4))∧wrap64 (1+wrap64 (a2.tmod 4))≤4:=by
  rw [Int.tmod_eq_emod_of_nonneg hu8.1];unfold wrap64;omega
 clear hu8 w2;have HG1:=Lib.hid hg1;obtain ⟨m,hm⟩:∃m,l1.length=m:=⟨_,rfl⟩;have HM:=Lib.hid hm;rw [hm] at hl47 HS1 ⊢;clear hm hg1;go_enter Try.func3,Try.ntmps3;go_wp2_with fail;refine AW.out.mono ?_; rintro e w2 ⟨rfl,hb1⟩;have HB1:=Lib.hid hb1;clear hb1 AW;go_upto_region 4 with fail
 obtain ⟨th,hth⟩:∃z,wrap64 (1+wrap64 (a2.tmod 4))=z:=⟨_,rfl⟩;rw [hth] at ht ⊢;clear hth;obtain ⟨ht1,ht4⟩:=ht;obtain ⟨tn,rfl⟩:∃tn:Nat,th=tn:=⟨th.toNat,by omega⟩;by_cases h30:30<m
 ·have h30I:(30:Int)<(m:Int):=by omega
  go_wp2;go_ret;exact ⟨rfl,HB1.out⟩
 have hmI:(m:Int)≤30:=by omega
 have hm30:m≤30:=by omega
 have hsz2:=HB1.out.size;go_upto_region 7 with (at_builtin; refine wp_copy_item_any w2 rfl _ _ rfl _ l1 rfl rfl (HS1.out.below HB1.out) (by have:=HM.out; omega) w.heap.size hsz2 ?_)
 intro V w3 ho3 hb3;have HO3:=Lib.hid ho3;have HB3:=Lib.hid (below_then HB1.out hb3);obtain ⟨aV,cV,hV⟩:∃a c,V=.slice a m c:=by
  obtain ⟨a,c,hv⟩:=ho3.len;exact ⟨a,c,by rw [hv,HM.out]⟩
 subst hV;clear ho3 hb3 HB1;go_wp2;go_loopw [28] (fun c wr=>∃i:Nat,∃l:List ItemM,i≤m∧c=.int .i64 i∧Hid (l.length=m)∧Hid (∀x∈l,x.good)∧Hid (∀j,j<i→0≤(l.getD j noItem).thr∧(l.getD j noItem).thr<tn)∧Hid (OwnT wr w.heap.size (.slice aV m cV) l)∧Hid (Below w.heap.size w wr)) (fun c _=>m - (intOf c).toNat)
 case atStart=>exact ⟨0,l1,by omega,rfl,HM,HG1,fun j hj=>by omega,HO3,HB3⟩
 case round=>
  clear HO3 HB3;obtain ⟨i,l,hi,rfl,hlm,hgd,hth,ho,hb⟩:=hrel;obtain ⟨wo,rfl⟩:∃wo:World,wo=wr:=⟨_,rfl⟩;by_cases hlt:i<m
  ·obtain ⟨g,cap,hv,hg1,hg2,-⟩:∃g cap,Value.slice aV m cV=.slice (some ⟨g,0,none⟩) m cap∧w.heap.size≤g∧g<wo.heap.size∧True:=by
    rcases ho.out.shape with ⟨h1,h2⟩ | ⟨g,cap,h1,h2,h3,-⟩
    ·have:=hlm.out; rw [h2] at this; simp at this; omega
    ·exact ⟨g,cap,by rw [h1,hlm.out],h2,h3,trivial⟩
   simp only [Value.slice.injEq] at hv;obtain ⟨rfl,-,rfl⟩:=hv;have hil:i<l.length:=by rw [hlm.out]; exact hlt
   obtain ⟨c1,c2⟩:=ownT_cell ho.out i hil hlm.out.symm;obtain ⟨x,hx⟩:∃x,l.getD i noItem=x:=⟨_,rfl⟩;rw [hx] at c1;have hxg:x.good:=by
    rw [← hx,List.getD_eq_getElem?_getD,List.getElem?_eq_getElem hil];exact hgd.out _ (List.getElem_mem hil)
   have K0:=Int.emod_nonneg x.thr (show (tn:Int)≠0 by omega);have K1:=Int.emod_lt_of_pos x.thr (show (0:Int)<(tn:Int) by omega);obtain ⟨y,hy⟩:∃y,x.thr % (tn:Int)=y:=⟨_,rfl⟩;rw [hy] at K0 K1;have T1:=ownT_thr ho.out i y hil hlm.out.symm;rw [hx] at T1;have T2:=hb.out.setCell (p:=⟨g,i * 8,none⟩) hg1 (.int .i64 y);have T3:(l.set i { x with thr:=y }).length=m:=by simpa using hlm.out
   have T4:∀z∈l.set i { x with thr:=y },z.good:=fun z hz=>by
    rcases List.mem_or_eq_of_mem_set hz with h | rfl
    ·exact hgd.out z h
    ·exact thr_good hxg y (by rw [IntKind.wrap_i64]; omega)
   have T5:∀j,j<i+1→0≤((l.set i { x with thr:=y }).getD j noItem).thr∧((l.set i { x with thr:=y }).getD j noItem).thr<tn:=fun j hj=>by
    rw [getD_setT _ _ _ _ hil];split
    ·exact ⟨K0,K1⟩
    ·exact hth.out j (by omega)
   have TT:=Lib.hid (And.intro T3 (And.intro T4 (And.intro T5 (And.intro T1 T2))));have MD:=Lib.hid fun w'=>mod_any x.thr (tn:Int) w' (by omega) (by omega);rw [hy] at MD;obtain ⟨xt,hxt⟩:∃z,x.thr=z:=⟨_,rfl⟩;rw [hxt] at c1 MD;have hi8:i * 8<240:=by omega
   clear T1 T2 T3 T4 T5 hxg hx hy hxt hgd hth ho hil;go_wp2_with (go_at_call 10; refine (MD.out _).mono ?_; rintro e w' ⟨rfl,rfl⟩);go_roundw
   case rel=>exact ⟨i+1,_,by omega,by go_num,TT.out.1,TT.out.2.1,TT.out.2.2.1,TT.out.2.2.2.1,TT.out.2.2.2.2⟩
   case measure=>simp [intOf]; omega
  ·obtain rfl:i=m:=by omega
   have ST:=Lib.hid (ho.out.read (by rw [hlm.out]; omega) hgd.out);have HTH:Hid (∀x∈l,0≤x.thr∧x.thr<(tn:Int)):=fun x hx=>by
    obtain ⟨j,hj,rfl⟩:=List.getElem_of_mem hx;have h:=hth.out j (by rw [← hlm.out]; exact hj);rw [List.getD_eq_getElem?_getD,List.getElem?_eq_getElem hj] at h;exact h
   have IT:=Lib.hid fun w' h=>itemsH_any v0 l0 (tn:Int) 30 w' h ⟨by omega,by omega⟩ ⟨by decide,by decide⟩;clear HS1 HG1 hgd hth;go_upto_region 12 with fail
   have HS0':=Lib.hid (HS0.out.below hb.out);go_upto_region 13 with (go_at_call 11; refine (IT.out _ HS0'.out).mono ?_; rintro e w4 ⟨u,lu,rfl,hsu,hlu,hgu,hb4⟩; obtain ⟨pu,cu,rfl,-⟩:=hsu.len; obtain ⟨nu,hnu⟩:∃n,lu.length=n:=⟨_,rfl⟩; have HNU:=Lib.hid hnu; have HSU:=Lib.hid hsu; rw [hnu] at HSU hlu ⊢; clear hnu hsu)
   have HBW:=Lib.hid (below_then hb.out hb4);have ST4:=Lib.hid (ST.out.below hb4);have HGU:=Lib.hid hgu;obtain ⟨W2,hW2⟩:∃W,w4.alloc (.cells #[.slice pu nu cu,.slice aV i cV] 23)=W:=⟨_,rfl⟩;have C0:Hid (W2.cell? ⟨w4.heap.size,0,none⟩=some (.slice pu nu cu)):=by show _=_; rw [← hW2,World.cell?_alloc_at _ _ _ _ rfl]; rfl
   have C1:Hid (W2.cell? ⟨w4.heap.size,1,none⟩=some (.slice aV i cV)):=by show _=_; rw [← hW2,World.cell?_alloc_at _ _ _ _ rfl]; rfl
   have HBN:Hid (Below w4.heap.size w4 W2):=hW2▸below_new (Below.refl _ _) _;have hz2:w4.heap.size<W2.heap.size:=by rw [← hW2]; simp
   have HB2:=Lib.hid (below_then HBW.out HBN.out);rw [hW2]
   -- what each of the two lists is
   have EACH:Hid (∀j,j<2→∃p n c lj,W2.cell? ⟨w4.heap.size,j,none⟩=some (.slice p n c)∧lj.length=n∧n≤30∧SlT W2 (.slice p n c) lj∧∀x∈lj,0≤x.thr∧x.thr<(tn:Int)):=fun j hj=>by
    obtain rfl | rfl:j=0∨j=1:=by omega
    ·exact ⟨pu,nu,cu,lu,C0.out,HNU.out,by omega,HSU.out.below HBN.out,fun x hx=>(HGU.out x hx).2⟩
    ·exact ⟨aV,i,cV,l,C1.out,hlm.out,by omega,ST4.out.below HBN.out,HTH.out⟩
   clear hlu hgu hb4 hW2 C0 C1 HSU HGU ST ST4 HTH ho hb IT HS0 HS0' HBN HBW HNU hlm;generalize w4.heap.size=G at *;go_wp2;go_loopw [49] (fun c wr=>∃j:Nat,j≤2∧c=.int .i64 j∧Hid (Below W2.heap.size W2 wr)) (fun c _=>2 - (intOf c).toNat)
   case atStart=>exact ⟨0,by omega,rfl,Below.refl _ _⟩
   case round=>
    obtain ⟨j,hj,rfl,hb⟩:=hrel;obtain ⟨wo,rfl⟩:∃wo:World,wo=wr:=⟨_,rfl⟩;by_cases hj2:j<2
    ·obtain ⟨p,n,c,lj,hc,hlj,hn30,hst,hthj⟩:=EACH.out j hj2
     have hc:=(hb.out.cell (p:=⟨G,j,none⟩) hz2).trans hc;have STo:=hst.below hb.out;have TC1:=Lib.hid (clocksL_any lj tn _ wo STo ⟨by omega,by omega⟩ hthj (by omega));have TC2:=Lib.hid fun w' (h:Below wo.heap.size wo w')=>rclocks_any lj tn _ w' (STo.below h) ⟨by omega,by omega⟩ hthj (by omega);rw [hlj] at TC1 TC2;have hn47:n≤140737488351232:=by omega
     clear hst hthj hlj STo;go_upto_region 16 with (first
      | (go_at_call 12; refine TC1.out.mono ?_; rintro e wa ⟨r1,rfl,vs1,hk1⟩)
      | (go_at_call 13; refine (TC2.out wa hk1.bw).mono ?_; rintro e wb ⟨r2,rfl,vs2,hk2⟩))
     have HR2:=Lib.hid (clk_readK hk2 (by omega) (by omega));have HR1:=Lib.hid ((clk_readK hk1 (by omega) (by omega)).below hk2.bw);have HBb:=Lib.hid (below_then (below_then hb.out hk1.bw) hk2.bw);obtain ⟨p1,c1,rfl⟩:=HR1.out.len;obtain ⟨p2,c2,rfl⟩:=HR2.out.len;clear hk1 hk2 TC1 TC2 hb;have hnn:((n:Int) != (n:Int))=false:=by simp
     go_wp2;go_loopw [66] (fun c wr=>∃q:Nat,q≤n∧c=.int .i64 q∧Hid (Below wb.heap.size wb wr)) (fun c _=>n - (intOf c).toNat)
     case atStart=>exact ⟨0,by omega,rfl,Below.refl _ _⟩
     case round=>
      obtain ⟨q,hq,rfl,HB⟩:=hrel;obtain ⟨wi,rfl⟩:∃wi:World,wi=wr:=⟨_,rfl⟩;by_cases hqn:q<n
      ·have hqI:(q:Int)<(n:Int):=by omega
       obtain ⟨b1,o1,d1,hve,hb1,k1⟩:=(HR1.out.below HB.out).at (by omega);simp only [Value.slice.injEq] at hve;obtain ⟨hv1,-,hv3⟩:=hve;subst hv1;subst hv3;obtain ⟨b2,o2,d2,hve,hb2,k2⟩:=(HR2.out.below HB.out).at (by omega);simp only [Value.slice.injEq] at hve;obtain ⟨hv1,-,hv3⟩:=hve;subst hv1;subst hv3;have e1:=k1 q wi hqn (Below.refl _ _);have e2:=k2 q wi hqn (Below.refl _ _);have s1:=(HR1.out.below HB.out).2.2 q hqn;have s2:=(HR2.out.below HB.out).2.2 q hqn;obtain ⟨x1,hx1⟩:∃z,vs1.getD q (.slice none 0 0)=z:=⟨_,rfl⟩;obtain ⟨x2,hx2⟩:∃z,vs2.getD q (.slice none 0 0)=z:=⟨_,rfl⟩;rw [hx1] at e1 s1;rw [hx2] at e2 s2;have TS:Hid (∀w',Below wi.heap.size wi w'→Calls Try.prog 14 #[x1,x2] w' fun e w2=>e=.returned (.bool true)∧Below w'.heap.size w' w2):=fun w' hb=>(same_any x1 x2 _ _ w' (s1.below hb) (s2.below hb)).mono fun e w2 ⟨m,h1,h2⟩=>⟨by rw [h1]; simp,by rw [← h2]; exact below_drewN (Below.refl _ _) m⟩;clear k1 k2 s1 s2 hx1 hx2;go_upto_region 21 with fail
       have X1:=ext_cell _ _ hb1 _ e1;have X2:=ext_cell _ _ hb2 _ e2;clear e1 e2;refine wp_region_ext wi (by kernel_rfl) (by kernel_rfl) (Below.refl _ _) ?_
       repeat (go_big_quiet_step (first | (go_at_call 14; with_reducible exact calls_ext (TS.out _ (Ext.below _)))))
       refine wpQuiet_nil ?_;intro _ hw';obtain ⟨n9,rfl⟩:=hw';have HB9:=Lib.hid (below_then HB.out n9.below);generalize n9.wd=w9 at *;clear X1 X2 TS;go_wp2_with fail;go_roundw
       case rel=>exact ⟨q+1,by omega,by go_num,HB9⟩
       case measure=>simp [intOf]; omega
      ·have hge:¬(q:Int)<(n:Int):=by omega
       have HBF:=Lib.hid (below_then HBb.out HB.out);go_wp2;go_roundw
       case rel=>exact ⟨j+1,by omega,by go_num,HBF⟩
       case measure=>simp [intOf]; omega
    ·go_wp2
     go_ret;exact ⟨rfl,below_then HB2.out hb.out⟩
set_option maxRecDepth 100000 in
theorem lifted (os:Os) (started:os.Started) (H:Type) (enc:TypeId × Value→H) :
  ReturnsInHanded {} Try.checked os 3 .any (Rows.happensClocksSpec.pre6 enc Try.prog Try.f3 Rows.happensClocksRow.domain false) (Rows.happensClocksSpec.post enc Try.prog Try.f3 false true false false):=by
 refine returnsInHanded_of_change_sized (C:=Try.checked) own started (by kernel_rfl) Try.func3
  (ChangeSpec.witness6 (enc:=enc) (C:=Try.checked) false ⟨#[],#[.slice none 0 0,.slice none 0 0,.int .u8 0],[]⟩ 8 (by kernel_rfl) (by kernel_rfl) (by kernel_rfl) (by kernel_rfl)) ?_
 intro W base args ds gs before hval0 hW _ hsz0 _;have hsz:(DataW.weightsEach Try.prog (Try.f3.params.toList ++ Rows.happensClocksSpec.plain.varTypes Try.prog) (ds ++ gs)).all (·≤reachBytes)=true:=hsz0;clear hsz0;have hval:∀(j:Nat) t v,Try.f3.params[j]?=some t→args[j]?=some v→Value.okWide Try.prog W .any base t v:=hval0;have hW':=hW;obtain ⟨p,q,hA0,hV,rfl,_,_⟩:=hW;have hA:DataW.TrodAll enc Try.prog W 0 (fun _=>true) true Try.f3.params.toList args.toList ds p:=hA0;rw [Try.params3] at hA hval hsz;obtain ⟨v0,vs0,d0,ds0,p0,q0,hargs,rfl,rfl,h0,rr0⟩:=trodAll_cons hA;obtain ⟨v1,vs1,d1,ds1,p1,q1,rfl,rfl,rfl,h1,rr1⟩:=trodAll_cons rr0;obtain ⟨v2,vs2,d2,ds2,p2,q2,rfl,rfl,rfl,h2,rr2⟩:=trodAll_cons rr1;obtain ⟨rfl,rfl,rfl⟩:=trodAll_nil rr2;obtain rfl:args=#[v0,v1,v2]:=by cases args; simp_all
 obtain ⟨rfl,rfl⟩:=trodVars_none hV;have k0:=h0;have k1:=h1;have k2:=h2;obtain ⟨l0,s0⟩:=view_sl (k:=.u8) Try.underlying22 Try.underlying5 (by kernel_rfl) (fun elems sp hd=>sized_slice hsz (j:=0) (t:=22) (e:=5) rfl (by rw [hd]; rfl) Try.underlying22) (of_decide_eq_true (by kernel_rfl)) (hval 0 22 v0 rfl rfl) h0;obtain ⟨l1,s1⟩:=view_items (fun elems sp hd=>sized_slice hsz (j:=1) (t:=23) (e:=30) rfl (by rw [hd]; rfl) Try.underlying23) (hval 1 23 v1 rfl rfl) h1;obtain ⟨a2,rfl,-,-,w2⟩:=open_int Try.underlying5 (hval 2 5 v2 rfl rfl) h2;clear hA0 hval0;simp only [List.append_nil] at hW';have hlt:=hW'.lt;refine (walk W v0 l0 s0 v1 l1 s1 a2 w2).mono fun e W' ⟨he,hb⟩=>?_;subst he;exact ⟨_,rfl,_,_,_,[],_,[],hW',trodAll_cons_mk (shut_bool Try.underlying4 _) trodAll_mk0,(trodAll_cons_mk (Below.trod Try.laidOut (by kernel_rfl) (of_decide_eq_true (by kernel_rfl)) k0 hb (fun x hx=>by simpa using hlt x (by simp [hx]))) (trodAll_cons_mk (Below.trod Try.laidOut (by kernel_rfl) (of_decide_eq_true (by kernel_rfl)) k1 hb (fun x hx=>by simpa using hlt x (by simp [hx]))) (trodAll_cons_mk (Below.trod Try.laidOut (by kernel_rfl) (of_decide_eq_true (by kernel_rfl)) k2 hb (fun x hx=>by simpa using hlt x (by simp [hx]))) trodAll_mk0))),rfl,hb.frame _,fun h=>by cases h⟩
theorem over:Rows.happensClocksRow.holds Try.pinned (OpenSpec.ofChange Rows.happensClocksSpec):=
 OpenClaim.holds_of_wide 3 Try.f3 rfl rfl rfl rfl rfl rfl rfl ⟨rfl,rfl,rfl,rfl,rfl⟩ rfl rfl rfl rfl rfl (by kernel_rfl) Try.func3 (by kernel_rfl)
  (of_decide_eq_true (by kernel_rfl)) (by unfold Func.isWrapper; first | (rw [if_pos (by decide +kernel)]; kernel_rfl) | (rw [if_neg (by decide +kernel)]; exact ⟨rfl,rfl⟩))
  (fun os started H enc _=>lifted os started H enc)
theorem proved:Rows.HappensClocksSaid:=
 over
end Go.Proofs.Ytfbdehcibgdagaa.happensClocks
