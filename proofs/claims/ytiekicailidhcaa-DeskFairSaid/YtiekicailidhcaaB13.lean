import Derived.Deep.DeepCutAuto
import Derived.Deep.CutBlock
import Derived.RegionTactic
import Derived.BigRegion
import Derived.Test.YtiekicailidhcaaB12
import Derived.Test.YtiekicailidhcaaB10
import Derived.Test.YtiekicailidhcaaB05
import Derived.Test.YtiekicailidhcaaB09
import Derived.Test.YtiekicailidhcaaB02
import Derived.Test.YtiekicailidhcaaB01
set_option linter.unusedVariables false
set_option linter.unusedSimpArgs false
namespace Go.Proofs.Ytiekicailidhcaa
open Go.ChangeShapes Go.WideShapes Go.ChangeAt Go.RowKit
set_option maxRecDepth 100000
set_option maxRecDepth 100000 in
set_option maxHeartbeats 16000000 in
theorem pattempt_any (P:Nat→Prop) (v vo:Value) (d:DeskM) (thr:Int) (op:OpM) (w:World) (h:DeskX P w v d) (hd:d.ok) (ho:OpY P w vo op) (hf:op.fine) (hk:op.kind=1∨op.kind=2∨op.kind=4) (HCL:op.cases.length≤100000) (hP:∀b,w.heap.size≤b→P b):Calls Try.prog 48 #[v,.int .i64 thr,vo] w (DoRQ P (doD d thr op) w):=by
 have hX:=h.tight;obtain ⟨vc,vw,rfl,hch,hwt⟩:=h;obtain ⟨vcs,vds,rfl,hcs,hds,hac,had⟩:=ho;have HD:=Lib.hid hd;have HP:=Lib.hid hP;obtain ⟨ac,kc,rfl,-⟩:=hch.slH.len;obtain ⟨aw,kw,rfl,-⟩:=hwt.slW.len;have HX:=Lib.hid hX;obtain ⟨kd,md,oc,ov,odl,cs,ds⟩:=op;dsimp only at *;obtain ⟨a3,cap3,rfl⟩:=hcs.len;obtain ⟨a4,cap4,rfl,-⟩:=hds.len;obtain ⟨Q,hq⟩:∃z,doD d thr ⟨kd,md,oc,ov,odl,cs,ds⟩=z:=⟨_,rfl⟩;obtain ⟨td,tl,tb⟩:=Q;have HG:=Lib.hid hq;rw [hq];obtain ⟨TQ,hTQ⟩:∃z,DoRQ P (td,tl,tb) w=z:=⟨_,rfl⟩;have HT:Hid (∀w' u v,DeskX P w' u td→SlS w' 6 v (doneRows tl)→nilOr v tl→atP (fun b=>w.heap.size≤b) v→Below w.heap.size w w'→TQ (.returned (.tuple #[u,v,.bool tb])) w'):=fun w' u v h1 h2 h3 h4 h5=>by rw [← hTQ]; exact ⟨u,v,rfl,h1,h2,h3,h4,h5⟩
 rw [hTQ];obtain ⟨PP,hPP⟩:∃z:Nat→Prop,(fun b=>P b∧¬(w.heap.size≤b∧b<w.heap.size+3))=z:=⟨_,rfl⟩;have HPP:Hid ((∀b,PP b→P b)∧(∀b,PP b→b≠w.heap.size+2)∧(∀b,w.heap.size+3≤b→PP b)∧(∀b,P b→b<w.heap.size→PP b)∧(∀b,PP b→b≠w.heap.size)):=by
  rw [← hPP];exact ⟨fun b hb=>hb.1,fun b hb=>by have:=hb.2; omega,fun b hb=>⟨HP.out b (by omega),by omega⟩,fun b h1 h2=>⟨h1,by omega⟩,fun b hb=>by have:=hb.2; omega⟩
 obtain ⟨t,htt⟩:∃z,d.tick=z:=⟨_,rfl⟩;obtain ⟨cn,hcn⟩:∃z,d.chans.length=z:=⟨_,rfl⟩;obtain ⟨wn,hwn⟩:∃z,d.wait.length=z:=⟨_,rfl⟩;have HTT:=Lib.hid htt;have HWN:=Lib.hid hwn;have HCN:=Lib.hid hcn;have HCS:=Lib.hid hcs;have HDS:=Lib.hid hds;have HAC:=Lib.hid hac;have HAD:=Lib.hid had;have HF:=Lib.hid hf;rw [hcn,hwn,htt] at HX ⊢;have HXP:Hid (DeskX PP w (.agg #[.slice ac cn kc,.slice aw wn kw,.int .i64 t]) d):=HX.out.mono fun b hb=>by rw [← hPP]; exact ⟨hb.1,by have:=hb.2; omega⟩
 clear hq hTQ htt hwn hcn hch hwt hd hP hX hcs hds hac had hPP hf;have TCH:=Lib.hid fun w' (hb:Below w.heap.size w w')=>choose_any _ _ d thr ⟨kd,md,oc,ov,odl,cs,ds⟩ w' ((HX.out.below hb).deskV) HD.out ⟨_,_,rfl,HCS.out.below hb,HDS.out.below hb⟩ hk (by
  have h1:=HF.out.len;unfold casesE at h1;by_cases h4:kd=4
  ·rw [if_pos h4] at h1; exact h1
  ·exact HCL)
 have TLT:=Lib.hid fun w' (hb:Below w.heap.size w w')=>isLate_any _ _ d ⟨kd,md,oc,ov,odl,cs,ds⟩ w' ((HX.out.below hb).deskV) ⟨_,_,rfl,HCS.out.below hb,HDS.out.below hb⟩;rw [HTT.out] at TLT;unfold ChQ at TCH;dsimp only at TCH TLT;obtain ⟨pk,hpk⟩:∃z,pickD d thr ⟨kd,md,oc,ov,odl,cs,ds⟩=z:=⟨_,rfl⟩;have hg:=HG.out;unfold doD at hg;rw [if_neg (by show ¬kd=3; rcases hk with h | h | h <;> (have h:kd=_:=h; omega)),if_neg (by show ¬(kd=5∨kd=6); rcases hk with h | h | h <;> (have h:kd=_:=h; omega)),hpk] at hg;have HPK:Hid (0≤pk→∀xs xc xv oi,(casesE ⟨kd,md,oc,ov,odl,cs,ds⟩).getD pk.toNat noCase=⟨xs,xc,xv⟩→namedI ⟨kd,md,oc,ov,odl,cs,ds⟩ pk=oi→exB d.chans xc=true∧xv=IntKind.u64.wrap xv∧tb=false∧(xs=true→td=(sendG d thr oi ⟨xs,xc,xv⟩ (partI d thr ⟨xs,xc,xv⟩)).1∧tl=(sendG d thr oi ⟨xs,xc,xv⟩ (partI d thr ⟨xs,xc,xv⟩)).2)∧(xs=false→td=(recvG d thr oi ⟨xs,xc,xv⟩ (partI d thr ⟨xs,xc,xv⟩)).1∧tl=(recvG d thr oi ⟨xs,xc,xv⟩ (partI d thr ⟨xs,xc,xv⟩)).2)):=fun h0 xs xc xv oi hx ho=>by
  have hne:kd≠4→0<(casesE ⟨kd,md,oc,ov,odl,cs,ds⟩).length:=fun h4=>by
   unfold casesE;rw [if_neg h4,if_pos (by unfold oneB; rcases hk with h | h | h <;> (have h:kd=_:=h; subst h; first | rfl | exact absurd rfl h4))];simp
  obtain ⟨i,h1,h2,h3⟩:=pickD_spec (d:=d) (thr:=thr) (op:=⟨kd,md,oc,ov,odl,cs,ds⟩) (by rw [hpk]; exact h0) hne;have h4:=readyD_ex h3;rw [hpk] at h1;subst h1;rw [Int.toNat_natCast] at hx;have h5:=casesE_val HF.out i;rw [hx] at h4 h5;rw [if_pos h0,Int.toNat_natCast,hx] at hg;unfold doG at hg;rw [ho] at hg;simp only [Prod.mk.injEq] at hg;refine ⟨h4,h5,hg.2.2.symm,fun hs=>?_,fun hs=>?_⟩
  ·rw [if_pos hs] at hg
   exact ⟨hg.1.symm,hg.2.1.symm⟩
  ·rw [if_neg (by rw [hs]; decide)] at hg
   exact ⟨hg.1.symm,hg.2.1.symm⟩
 have HNO:Hid (¬0≤pk→(md=1→td=d∧tl=[⟨thr,⟨3,-1,0,false,0⟩⟩]∧tb=false)∧(md≠1→(md=2∧odl≤t→td=d∧tl=[⟨thr,⟨4,-1,0,false,0⟩⟩]∧tb=false)∧(¬(md=2∧odl≤t)→td=⟨d.chans,d.wait ++ [⟨thr,⟨kd,md,oc,ov,odl,cs,ds⟩⟩],t⟩∧tl=[]∧tb=true))):=fun h0=>by
  rw [if_neg h0,HTT.out] at hg;refine ⟨fun h1=>?_,fun h1=>⟨fun h2=>?_,fun h2=>?_⟩⟩
  ·rw [if_pos h1] at hg
   simp only [Prod.mk.injEq] at hg;exact ⟨hg.1.symm,hg.2.1.symm,hg.2.2.symm⟩
  ·rw [if_neg h1,if_pos h2] at hg
   simp only [Prod.mk.injEq] at hg;exact ⟨hg.1.symm,hg.2.1.symm,hg.2.2.symm⟩
  ·rw [if_neg h1,if_neg h2] at hg
   simp only [Prod.mk.injEq] at hg;exact ⟨hg.1.symm,hg.2.1.symm,hg.2.2.symm⟩
 rw [hpk] at TCH;have TW3:=Lib.hid fun w'=>with0_any thr ⟨3,(-1),0,false,0⟩ w';have TW4:=Lib.hid fun w'=>with0_any thr ⟨4,(-1),0,false,0⟩ w';unfold resW at TW3 TW4;dsimp only at TW3 TW4;clear hpk hg hk HG;obtain ⟨W,hW,HB,R0,R1,R2,hz⟩:=three_new w (.cells #[.slice ac cn kc,.slice aw wn kw,.int .i64 t] 34) (.cells #[.int .i64 kd,.int .i64 md,.int .i64 oc,.int .u64 ov,.int .i64 odl,.slice a3 cs.length cap3,.slice a4 ds.length cap4] 44) (.cells #[.slice none 0 0,.slice none 0 0,.int .i64 0] 34);have HW:=Lib.hid hW;clear hW;go_enter Try.func48,Try.ntmps48;go_upto_region 1 with fail
 rw [HW.out];clear HW;obtain ⟨x0_0,x0_1,x0_2⟩:=rowc3 R0.out;obtain ⟨x1_0,x1_1,x1_2,x1_3,x1_4,x1_5,x1_6⟩:=rowc7 R1.out;go_wp2_with fail;refine (TCH.out _ HB.out).mono ?_; rintro e w1 ⟨xs,xc,xv,oi,rfl,hpo,hb1⟩;have Q0:=Lib.hid (row_below3 hb1 R0.out);have Q1:=Lib.hid (row_below3 hb1 R1.out);have Q2:=Lib.hid (row_below3 hb1 R2.out);have HB1:=Lib.hid (below_then HB.out hb1);have HPO:=Lib.hid hpo;have hw1:w.heap.size+2<w1.heap.size:=(ltR Q2);clear x0_0 x0_1 x0_2 x1_0 x1_1 x1_2 x1_3 x1_4 x1_5 x1_6 hb1 TCH hpo;obtain ⟨Ws,hWs⟩:∃Ws,(w1.alloc (.cells #[.bool false,.int .i64 0,.int .u64 0,.int .i64 0] 94)).setRow w1.heap.size #[.bool xs,.int .i64 xc,.int .u64 xv,.int .i64 oi]=Ws:=⟨_,rfl⟩;have Ns:Hid ((w1.alloc (.cells #[.bool false,.int .i64 0,.int .u64 0,.int .i64 0] 94)).heap[w1.heap.size]?=some (.cells #[.bool false,.int .i64 0,.int .u64 0,.int .i64 0] 94 (0,0))):=heap_alloc_new _ _;have HBs:Hid (Below w1.heap.size w1 Ws):=hWs▸row_below (below_new (Below.refl _ _) _) (Nat.le_refl _) _;have Rs:Hid (Ws.heap[w1.heap.size]?=some (.cells #[.bool xs,.int .i64 xc,.int .u64 xv,.int .i64 oi] 94 (0,0))):=hWs▸setRow_heap _ _ _ _ _ (0,0) Ns.out;have HWs:=Lib.hid hWs;clear hWs;go_upto_region 2 with (refine wpList_store_row rfl 94 _ _ rfl (w1.heap.size) _ rfl rfl 94 _ Ns.out (by kernel_rfl) rfl (by simp [Value.oneCell']) ?_)
 rw [HWs.out];try simp only [Act.put]
 clear HWs Ns;obtain ⟨S,hS⟩:∃S,w1.heap.size=S:=⟨_,rfl⟩;rw [hS] at Rs;rw [hS];have hSp:w1.heap.size=S:=hS;clear hS;have T0:=Lib.hid (row_below3 HBs.out Q0.out);have T1:=Lib.hid (row_below3 HBs.out Q1.out);have T2:=Lib.hid (row_below3 HBs.out Q2.out);have HBS:=Lib.hid (below_then HB1.out HBs.out);have hSl:S<Ws.heap.size:=(ltR Rs);have hws:w.heap.size+3≤Ws.heap.size:=by omega
 clear Q0 Q1 Q2;obtain ⟨s0,s1,s2,s3⟩:=rowc4s Rs.out;obtain ⟨x0,x1,x2⟩:=rowc3 T0.out;have hdk:decide (0≤pk)=true∨decide (0≤pk)=false:=by cases decide (0≤pk) <;> simp
 rcases hdk with hdk | hdk
 ·have hp0:0≤pk:=of_decide_eq_true hdk
  obtain ⟨hpo1,hpo2⟩:=HPO.out hp0;obtain ⟨hex,hxw,rfl,hqt,hqf⟩:=HPK.out hp0 _ _ _ _ hpo1 hpo2;clear hpo1 hpo2;cases xs with
  | true=>
   obtain ⟨hd1,hd2⟩:=hqt rfl;subst hd2;subst hd1;have TG:=Lib.hid (pgive_any PP (.agg #[.slice ac cn kc,.slice aw wn kw,.int .i64 t]) d thr oi ⟨true,xc,xv⟩ Ws (HXP.out.below HBS.out) HD.out rfl hex hxw (fun b hb=>HPP.out.2.2.1 b (by omega)));dsimp only at TG;clear HPK HNO HPO hqt hqf TLT TW3 TW4 hex hxw;go_wp2_with fail;refine TG.out.mono ?_; rintro e w3 ⟨u,lv,rfl,hx,hs,hn,ha,hb3⟩;have S2:=Lib.hid (row_below3 hb3 T2.out);have HB3:=Lib.hid (below_then HBS.out hb3);have ha:atP (fun b=>w.heap.size+3≤b) lv:=ha.mono fun b hb=>by omega
   clear TG s0 s1 s2 s3 x0 x1 x2 hb3;have HXd:=Lib.hid hx;obtain ⟨vc8,vw8,rfl,hc8,hw8⟩:=hx;obtain ⟨t8,ht8⟩:∃z,(sendG d thr oi ⟨true,xc,xv⟩ (partI d thr ⟨true,xc,xv⟩)).1.tick=z:=⟨_,rfl⟩;rw [ht8] at HXd ⊢;obtain ⟨pc8,nc8,kc8,rfl⟩:=SlHX.sh hc8;obtain ⟨aw8,kw8,hve8,-⟩:=hw8.slW.len;obtain ⟨n8,hn8⟩:∃z,(sendG d thr oi ⟨true,xc,xv⟩ (partI d thr ⟨true,xc,xv⟩)).1.wait.length=z:=⟨_,rfl⟩;rw [hn8] at hve8;subst hve8;clear hc8 hw8 ht8 hn8;have HS:=Lib.hid hs;have HN:=Lib.hid hn;have HA:=Lib.hid ha;clear hs hn ha;obtain ⟨Wo,hWo⟩:∃Wo,(w3.alloc (.cells #[.slice none 0 0,.slice none 0 0,.int .i64 0] 34)).setRow w3.heap.size #[.slice pc8 nc8 kc8,.slice aw8 n8 kw8,.int .i64 t8]=Wo:=⟨_,rfl⟩;have No:Hid ((w3.alloc (.cells #[.slice none 0 0,.slice none 0 0,.int .i64 0] 34)).heap[w3.heap.size]?=some (.cells #[.slice none 0 0,.slice none 0 0,.int .i64 0] 34 (0,0))):=heap_alloc_new _ _;have HBo:Hid (Below w3.heap.size w3 Wo):=hWo▸row_below (below_new (Below.refl _ _) _) (Nat.le_refl _) _;have Ro:Hid (Wo.heap[w3.heap.size]?=some (.cells #[.slice pc8 nc8 kc8,.slice aw8 n8 kw8,.int .i64 t8] 34 (0,0))):=hWo▸setRow_heap _ _ _ _ _ (0,0) No.out;have HWo:=Lib.hid hWo;clear hWo;go_upto_region 4 with (refine wpList_store_row rfl 34 _ _ rfl (w3.heap.size) _ rfl rfl 34 _ No.out (by kernel_rfl) rfl (by simp [Value.oneCell']) ?_)
   rw [HWo.out];try simp only [Act.put]
   clear HWo No;obtain ⟨O,hO⟩:∃O,w3.heap.size=O:=⟨_,rfl⟩;rw [hO] at Ro;rw [hO];clear hO;have O2:=Lib.hid (row_below3 HBo.out S2.out);have HXo:=Lib.hid (HXd.out.below HBo.out);have HSo:=Lib.hid (HS.out.below HBo.out);have HBO:=Lib.hid (below_then HB3.out HBo.out);obtain ⟨o0,o1,o2⟩:=rowc3 Ro.out;have hg8:=row_grown Wo (w.heap.size+2) #[.slice pc8 nc8 kc8,.slice aw8 n8 kw8,.int .i64 t8];have HFin:=Lib.hid (HT.out _ (.agg #[.slice pc8 nc8 kc8,.slice aw8 n8 kw8,.int .i64 t8]) lv ((HXo.out.off hg8 HPP.out.2.1).mono HPP.out.1) (SlS.off HSo.out hg8 HA.out (fun b hb=>by omega)) HN.out (HA.out.mono fun b hb=>by omega) (row_below HBO.out (show w.heap.size≤w.heap.size+2 by omega) #[.slice pc8 nc8 kc8,.slice aw8 n8 kw8,.int .i64 t8]));clear HT hg8 HXd HXo HSo HS;go_wp2_with (refine wpList_store_row rfl 34 _ _ rfl (w.heap.size+2) _ rfl rfl 34 _ O2.out (by kernel_rfl) rfl (by simp [Value.oneCell']) ?_);refine bodyPost_ret (v:=.tuple #[.agg #[.slice pc8 nc8 kc8,.slice aw8 n8 kw8,.int .i64 t8],lv,.bool false]) (results_cell_tmp2 Try.results48 _ _ (w.heap.size+2) 34 _ (0,0) _ rfl (setRow_heap _ _ _ _ 34 (0,0) O2.out) Try.underlying34 rfl (by kernel_rfl) _ rfl _ rfl) rfl ?_;exact HFin.out
  | false=>
   obtain ⟨hd1,hd2⟩:=hqf rfl;subst hd2;subst hd1;have TG:=Lib.hid (ptake_any PP (.agg #[.slice ac cn kc,.slice aw wn kw,.int .i64 t]) d thr oi ⟨false,xc,xv⟩ Ws (HXP.out.below HBS.out) HD.out rfl hex hxw (fun b hb=>HPP.out.2.2.1 b (by omega)));dsimp only at TG;clear HPK HNO HPO hqt hqf TLT TW3 TW4 hex hxw;go_wp2_with fail;refine TG.out.mono ?_; rintro e w3 ⟨u,lv,rfl,hx,hs,hn,ha,hb3⟩;have S2:=Lib.hid (row_below3 hb3 T2.out);have HB3:=Lib.hid (below_then HBS.out hb3);have ha:atP (fun b=>w.heap.size+3≤b) lv:=ha.mono fun b hb=>by omega
   clear TG s0 s1 s2 s3 x0 x1 x2 hb3;have HXd:=Lib.hid hx;obtain ⟨vc8,vw8,rfl,hc8,hw8⟩:=hx;obtain ⟨t8,ht8⟩:∃z,(recvG d thr oi ⟨false,xc,xv⟩ (partI d thr ⟨false,xc,xv⟩)).1.tick=z:=⟨_,rfl⟩;rw [ht8] at HXd ⊢;obtain ⟨pc8,nc8,kc8,rfl⟩:=SlHX.sh hc8;obtain ⟨aw8,kw8,hve8,-⟩:=hw8.slW.len;obtain ⟨n8,hn8⟩:∃z,(recvG d thr oi ⟨false,xc,xv⟩ (partI d thr ⟨false,xc,xv⟩)).1.wait.length=z:=⟨_,rfl⟩;rw [hn8] at hve8;subst hve8;clear hc8 hw8 ht8 hn8;have HS:=Lib.hid hs;have HN:=Lib.hid hn;have HA:=Lib.hid ha;clear hs hn ha;obtain ⟨Wo,hWo⟩:∃Wo,(w3.alloc (.cells #[.slice none 0 0,.slice none 0 0,.int .i64 0] 34)).setRow w3.heap.size #[.slice pc8 nc8 kc8,.slice aw8 n8 kw8,.int .i64 t8]=Wo:=⟨_,rfl⟩;have No:Hid ((w3.alloc (.cells #[.slice none 0 0,.slice none 0 0,.int .i64 0] 34)).heap[w3.heap.size]?=some (.cells #[.slice none 0 0,.slice none 0 0,.int .i64 0] 34 (0,0))):=heap_alloc_new _ _;have HBo:Hid (Below w3.heap.size w3 Wo):=hWo▸row_below (below_new (Below.refl _ _) _) (Nat.le_refl _) _;have Ro:Hid (Wo.heap[w3.heap.size]?=some (.cells #[.slice pc8 nc8 kc8,.slice aw8 n8 kw8,.int .i64 t8] 34 (0,0))):=hWo▸setRow_heap _ _ _ _ _ (0,0) No.out;have HWo:=Lib.hid hWo;clear hWo;go_upto_region 7 with (refine wpList_store_row rfl 34 _ _ rfl (w3.heap.size) _ rfl rfl 34 _ No.out (by kernel_rfl) rfl (by simp [Value.oneCell']) ?_)
   rw [HWo.out];try simp only [Act.put]
   clear HWo No;obtain ⟨O,hO⟩:∃O,w3.heap.size=O:=⟨_,rfl⟩;rw [hO] at Ro;rw [hO];clear hO;have O2:=Lib.hid (row_below3 HBo.out S2.out);have HXo:=Lib.hid (HXd.out.below HBo.out);have HSo:=Lib.hid (HS.out.below HBo.out);have HBO:=Lib.hid (below_then HB3.out HBo.out);obtain ⟨o0,o1,o2⟩:=rowc3 Ro.out;have hg8:=row_grown Wo (w.heap.size+2) #[.slice pc8 nc8 kc8,.slice aw8 n8 kw8,.int .i64 t8];have HFin:=Lib.hid (HT.out _ (.agg #[.slice pc8 nc8 kc8,.slice aw8 n8 kw8,.int .i64 t8]) lv ((HXo.out.off hg8 HPP.out.2.1).mono HPP.out.1) (SlS.off HSo.out hg8 HA.out (fun b hb=>by omega)) HN.out (HA.out.mono fun b hb=>by omega) (row_below HBO.out (show w.heap.size≤w.heap.size+2 by omega) #[.slice pc8 nc8 kc8,.slice aw8 n8 kw8,.int .i64 t8]));clear HT hg8 HXd HXo HSo HS;go_wp2_with (refine wpList_store_row rfl 34 _ _ rfl (w.heap.size+2) _ rfl rfl 34 _ O2.out (by kernel_rfl) rfl (by simp [Value.oneCell']) ?_);refine bodyPost_ret (v:=.tuple #[.agg #[.slice pc8 nc8 kc8,.slice aw8 n8 kw8,.int .i64 t8],lv,.bool false]) (results_cell_tmp2 Try.results48 _ _ (w.heap.size+2) 34 _ (0,0) _ rfl (setRow_heap _ _ _ _ 34 (0,0) O2.out) Try.underlying34 rfl (by kernel_rfl) _ rfl _ rfl) rfl ?_;exact HFin.out
 ·have hp0:¬0≤pk:=of_decide_eq_false hdk
  obtain ⟨ha1,ha2⟩:=HNO.out (by omega);clear HPK HNO HPO;by_cases hm1:md=1
  ·obtain ⟨hd1,hd2,rfl⟩:=ha1 hm1
   subst hm1;have HTD:=Lib.hid hd1;have HTL:=Lib.hid hd2;clear ha1 ha2 hd1 hd2 s0 s1 s2 s3 x0 x1 x2 TW4 TLT;obtain ⟨o0,o1,o2,o3,o4,o5,o6⟩:=rowc7 T1.out;have KS:Hid (∀w',OffS [some (w.heap.size+2)] Ws w'→(fun w':World=>(w'.cell? ⟨w.heap.size,0,none⟩=some (.slice ac cn kc)∧w'.cell? ⟨w.heap.size,1,none⟩=some (.slice aw wn kw)∧w'.cell? ⟨w.heap.size,2,none⟩=some (.int .i64 t))) w'):=fun w' hg=>rowc3 ((hg.2 _ (ltR T0) (by simp only [List.mem_cons,List.not_mem_nil,Option.some.injEq,or_false]; omega)).trans T0.out);go_upto_region 9 with fail
   clear o0 o1 o2 o3 o4 o5 o6;refine wp_region_until (fun w':World=>(w'.cell? ⟨w.heap.size,0,none⟩=some (.slice ac cn kc)∧w'.cell? ⟨w.heap.size,1,none⟩=some (.slice aw wn kw)∧w'.cell? ⟨w.heap.size,2,none⟩=some (.int .i64 t))) 6 7 (by kernel_rfl) rfl ?_;obtain ⟨u0,hu0,hU0⟩:=drew_pack Ws;rw [hu0];clear hu0;have HU0:Hid (OffS [some (w.heap.size+2)] Ws u0):=OffS.below hU0.out;have HBU:=Lib.hid (below_then HBS.out hU0.out);have ZC:=Lib.hid (row_below3 hU0.out T2.out);have hb:=hU0.out;clear hU0 hb;have hSU0:=KS.out _ HU0.out;apply tkV 0 hSU0 rfl (by kernel_rfl) (fun _ _ _ h=>h) rfl;intro w hSw;(go_simp<;>with_reducible rfl);simp only [J0,J1,J2,J3,J4];apply tkV 1 hSU0 rfl (by kernel_rfl) (fun _ _ _ h=>h) rfl;intro w hSw;(go_simp<;>with_reducible rfl);simp only [J0,J1,J2,J3,J4];apply tkV 2 hSU0 rfl (by kernel_rfl) (fun _ _ _ h=>h) rfl;intro w hSw;(go_simp<;>with_reducible rfl);simp only [J0,J1,J2,J3,J4];refine consU 3 rfl (by kernel_rfl) rfl fun K hK=>?_;have hsz:=(ltR ZC);go_simp;go_at_call 50;refine (TW3.out u0).mono ?_;rintro e u1 ⟨g9,c9,rfl,hg1,hg2,ho,hb⟩;have HU1:=Lib.hid (HU0.out.trans1 (OffS.below hb));have HBU:=Lib.hid (below_then HBU.out hb);have ZC:=Lib.hid (row_below3 hb ZC.out);have HO9:=Lib.hid (ho.move (b2:=w.heap.size+3) (by omega));clear ho hsz;clear hb;refine hK.out _ _ ?_ fun hSU1=>?_;exact KS.out _ HU1.out;clear hK K hSU0;(try simp only [J0,J1,J2,J3,J4]);refine consU 4 rfl (by kernel_rfl) rfl fun K hK=>?_;refine step_store_row rfl 34 _ _ rfl (w.heap.size+2) _ rfl rfl 34 _ ZC.out (by kernel_rfl) rfl (by simp [Value.oneCell']) ?_;have hgz:=row_grown u1 (w.heap.size+2) #[.slice ac cn kc,.slice aw wn kw,.int .i64 t];have RZ:=Lib.hid (setRow_heap u1 (w.heap.size+2) _ #[.slice ac cn kc,.slice aw wn kw,.int .i64 t] 34 (0,0) ZC.out);have HBU:=Lib.hid (row_below HBU.out (show w.heap.size≤(w.heap.size+2) by omega) #[.slice ac cn kc,.slice aw wn kw,.int .i64 t]);have HO9:=Lib.hid (HO9.out.kept hgz (HO9.out.ne (by omega)));generalize u1.setRow (w.heap.size+2) #[.slice ac cn kc,.slice aw wn kw,.int .i64 t]=u2 at *
   have HU2:=Lib.hid (HU1.out.trans1 (OffS.grown hgz (.inr (by simp))));clear hgz;refine hK.out _ _ ?_ fun hSU2=>?_;exact KS.out _ HU2.out;clear hK K hSU1;(try simp only [J0,J1,J2,J3,J4]);apply tkV 5 hSU2 rfl (by kernel_rfl) (fun _ _ _ h=>h) rfl;intro w hSw;(go_simp<;>with_reducible rfl);simp only [J0,J1,J2,J3,J4];refine freeU 6 rfl (by kernel_rfl) rfl (by kernel_rfl) fun K hK=>?_;go_simp;refine hK.out _ _ ?_;clear hK K hSU2;(try simp only [J0,J1,J2,J3,J4]);refine wpAnyU_done (by kernel_rfl) ?_ _;have HF9:=Lib.hid (HT.out _ (.agg #[.slice ac cn kc,.slice aw wn kw,.int .i64 t]) (.slice (some ⟨g9,0,none⟩) 1 c9) (HTD.out▸(HX.out.below HBU.out).mono fun b hb=>hb.1) (HTL.out▸HO9.out.sls (by simp [doneRows])) (HTL.out▸.inr (by simp)) (HO9.out.isP fun b hb=>by omega) HBU.out);clear HT;go_wp2_with fail;refine bodyPost_ret (v:=.tuple #[.agg #[.slice ac cn kc,.slice aw wn kw,.int .i64 t],.slice (some ⟨g9,0,none⟩) 1 c9,.bool false]) (results_cell_tmp2 Try.results48 _ _ (w.heap.size+2) 34 _ (0,0) _ rfl RZ.out Try.underlying34 rfl (by kernel_rfl) _ rfl _ rfl) rfl ?_;exact HF9.out
  ·obtain ⟨ha3,ha4⟩:=ha2 hm1
   have hm1b:(md == 1)=false:=by simpa using hm1
   have HA3:=Lib.hid ha3;have HA4:=Lib.hid ha4;obtain ⟨o0,o1,o2,o3,o4,o5,o6⟩:=rowc7 T1.out;clear ha1 ha2 ha3 ha4 s0 s1 s2 s3 TW3 hm1;go_wp2_with fail;refine (TLT.out _ HBS.out).mono ?_; rintro e w3 ⟨rfl,hb3⟩;have U0:=Lib.hid (row_below3 hb3 T0.out);have U1:=Lib.hid (row_below3 hb3 T1.out);have U2:=Lib.hid (row_below3 hb3 T2.out);have HB3:=Lib.hid (below_then HBS.out hb3);clear x0 x1 x2 o0 o1 o2 o3 o4 o5 o6 TLT T0 T1 T2 hb3;have hql:decide (md=2∧odl≤t)=true∨decide (md=2∧odl≤t)=false:=by cases decide (md=2∧odl≤t) <;> simp
   rcases hql with hql | hql
   ·obtain ⟨hd1,hd2,rfl⟩:=HA3.out (of_decide_eq_true hql)
    have HTD:=Lib.hid hd1;have HTL:=Lib.hid hd2;rw [hql];clear hd1 hd2 HA3 HA4 hql;have KS:Hid (∀w',OffS [some (w.heap.size+2)] w3 w'→(fun w':World=>(w'.cell? ⟨w.heap.size,0,none⟩=some (.slice ac cn kc)∧w'.cell? ⟨w.heap.size,1,none⟩=some (.slice aw wn kw)∧w'.cell? ⟨w.heap.size,2,none⟩=some (.int .i64 t))) w'):=fun w' hg=>rowc3 ((hg.2 _ (ltR U0) (by simp only [List.mem_cons,List.not_mem_nil,Option.some.injEq,or_false]; omega)).trans U0.out);go_upto_region 11 with fail
    refine wp_region_until (fun w':World=>(w'.cell? ⟨w.heap.size,0,none⟩=some (.slice ac cn kc)∧w'.cell? ⟨w.heap.size,1,none⟩=some (.slice aw wn kw)∧w'.cell? ⟨w.heap.size,2,none⟩=some (.int .i64 t))) 6 7 (by kernel_rfl) rfl ?_;obtain ⟨u0,hu0,hU0⟩:=drew_pack w3;rw [hu0];clear hu0;have HU0:Hid (OffS [some (w.heap.size+2)] w3 u0):=OffS.below hU0.out;have HBU:=Lib.hid (below_then HB3.out hU0.out);have ZC:=Lib.hid (row_below3 hU0.out U2.out);have hb:=hU0.out;clear hU0 hb;have hSU0:=KS.out _ HU0.out;apply tkV 0 hSU0 rfl (by kernel_rfl) (fun _ _ _ h=>h) rfl;intro w hSw;(go_simp<;>with_reducible rfl);simp only [J0,J1,J2,J3,J4];apply tkV 1 hSU0 rfl (by kernel_rfl) (fun _ _ _ h=>h) rfl;intro w hSw;(go_simp<;>with_reducible rfl);simp only [J0,J1,J2,J3,J4];apply tkV 2 hSU0 rfl (by kernel_rfl) (fun _ _ _ h=>h) rfl;intro w hSw;(go_simp<;>with_reducible rfl);simp only [J0,J1,J2,J3,J4];refine consU 3 rfl (by kernel_rfl) rfl fun K hK=>?_;have hsz:=(ltR ZC);go_simp;go_at_call 50;refine (TW4.out u0).mono ?_;rintro e u1 ⟨g9,c9,rfl,hg1,hg2,ho,hb⟩;have HU1:=Lib.hid (HU0.out.trans1 (OffS.below hb));have HBU:=Lib.hid (below_then HBU.out hb);have ZC:=Lib.hid (row_below3 hb ZC.out);have HO9:=Lib.hid (ho.move (b2:=w.heap.size+3) (by omega));clear ho hsz;clear hb;refine hK.out _ _ ?_ fun hSU1=>?_;exact KS.out _ HU1.out;clear hK K hSU0;(try simp only [J0,J1,J2,J3,J4]);refine consU 4 rfl (by kernel_rfl) rfl fun K hK=>?_;refine step_store_row rfl 34 _ _ rfl (w.heap.size+2) _ rfl rfl 34 _ ZC.out (by kernel_rfl) rfl (by simp [Value.oneCell']) ?_;have hgz:=row_grown u1 (w.heap.size+2) #[.slice ac cn kc,.slice aw wn kw,.int .i64 t];have RZ:=Lib.hid (setRow_heap u1 (w.heap.size+2) _ #[.slice ac cn kc,.slice aw wn kw,.int .i64 t] 34 (0,0) ZC.out);have HBU:=Lib.hid (row_below HBU.out (show w.heap.size≤(w.heap.size+2) by omega) #[.slice ac cn kc,.slice aw wn kw,.int .i64 t]);have HO9:=Lib.hid (HO9.out.kept hgz (HO9.out.ne (by omega)));generalize u1.setRow (w.heap.size+2) #[.slice ac cn kc,.slice aw wn kw,.int .i64 t]=u2 at *
    have HU2:=Lib.hid (HU1.out.trans1 (OffS.grown hgz (.inr (by simp))));clear hgz;refine hK.out _ _ ?_ fun hSU2=>?_;exact KS.out _ HU2.out;clear hK K hSU1;(try simp only [J0,J1,J2,J3,J4]);apply tkV 5 hSU2 rfl (by kernel_rfl) (fun _ _ _ h=>h) rfl;intro w hSw;(go_simp<;>with_reducible rfl);simp only [J0,J1,J2,J3,J4];refine freeU 6 rfl (by kernel_rfl) rfl (by kernel_rfl) fun K hK=>?_;go_simp;refine hK.out _ _ ?_;clear hK K hSU2;(try simp only [J0,J1,J2,J3,J4]);refine wpAnyU_done (by kernel_rfl) ?_ _;have HF9:=Lib.hid (HT.out _ (.agg #[.slice ac cn kc,.slice aw wn kw,.int .i64 t]) (.slice (some ⟨g9,0,none⟩) 1 c9) (HTD.out▸(HX.out.below HBU.out).mono fun b hb=>hb.1) (HTL.out▸HO9.out.sls (by simp [doneRows])) (HTL.out▸.inr (by simp)) (HO9.out.isP fun b hb=>by omega) HBU.out);clear HT;go_wp2_with fail;refine bodyPost_ret (v:=.tuple #[.agg #[.slice ac cn kc,.slice aw wn kw,.int .i64 t],.slice (some ⟨g9,0,none⟩) 1 c9,.bool false]) (results_cell_tmp2 Try.results48 _ _ (w.heap.size+2) 34 _ (0,0) _ rfl RZ.out Try.underlying34 rfl (by kernel_rfl) _ rfl _ rfl) rfl ?_;exact HF9.out
   ·obtain ⟨hd1,hd2,rfl⟩:=HA4.out (of_decide_eq_false hql)
    subst hd1 hd2;rw [hql];clear HA3 HA4 hql TW4;obtain ⟨vc0,vw0,he0,hch0,rows,hrl,hss,hrr,hat⟩:=HX.out;simp only [Value.agg.injEq,Array.mk.injEq,List.cons.injEq,and_true] at he0;obtain ⟨rfl,rfl,-⟩:=he0;have hwl:wn≤1000:=by have:=HD.out.wl; rw [HWN.out] at this; exact this
    have HRN:Hid (rows.length=wn):=by show _=_; rw [hrl,HWN.out]
    have HSS:=Lib.hid hss;have HFIN:Hid (∀w' v',Below w.heap.size w w'→SlS w' 8 v' (rows ++ [[.int .i64 thr,.int .i64 kd,.int .i64 md,.int .i64 oc,.int .u64 ov,.int .i64 odl,.slice a3 cs.length cap3,.slice a4 ds.length cap4]])→atP PP v'→DeskX PP w' (.agg #[.slice ac cn kc,v',.int .i64 t]) ⟨d.chans,d.wait ++ [⟨thr,⟨kd,md,oc,ov,odl,cs,ds⟩⟩],t⟩):=fun w' v' hb hs ha=>⟨.slice ac cn kc,v',rfl,(hch0.below hb).mono fun b hb=>HPP.out.2.2.2.1 b hb.1 hb.2,SlWX.push (x:=⟨thr,⟨kd,md,oc,ov,odl,cs,ds⟩⟩) hrl (fun i hi=>by
     obtain ⟨vc,vd,e,k1,k2,k3,k4⟩:=hrr i hi;exact ⟨vc,vd,e,k1,k2,k3.mono fun b hb=>HPP.out.2.2.2.1 b hb.1 hb.2,k4.mono fun b hb=>HPP.out.2.2.2.1 b hb.1 hb.2⟩) hb hs (HCS.out.below hb) (HDS.out.below hb) ((HAC.out.and HCS.out.inB).mono fun b hb=>HPP.out.2.2.2.1 b hb.1 hb.2) ((HAD.out.and HDS.out.inB).mono fun b hb=>HPP.out.2.2.2.1 b hb.1 hb.2) ha⟩
    clear hss hrr hat hch0 hrl;obtain ⟨V,hV⟩:∃V,(w3.alloc (.cells #[.int .i64 thr,.int .i64 kd,.int .i64 md,.int .i64 oc,.int .u64 ov,.int .i64 odl,.slice a3 cs.length cap3,.slice a4 ds.length cap4] 66)).alloc (.cells #[.slice aw wn kw,.slice (some ⟨w3.heap.size,0,none⟩) 1 1] 32)=V:=⟨_,rfl⟩;have hs1:(w3.alloc (.cells #[.int .i64 thr,.int .i64 kd,.int .i64 md,.int .i64 oc,.int .u64 ov,.int .i64 odl,.slice a3 cs.length cap3,.slice a4 ds.length cap4] 66)).heap.size=w3.heap.size+1:=by simp
    have hr1:=heap_alloc_new (w3.alloc (.cells #[.int .i64 thr,.int .i64 kd,.int .i64 md,.int .i64 oc,.int .u64 ov,.int .i64 odl,.slice a3 cs.length cap3,.slice a4 ds.length cap4] 66)) (.cells #[.slice aw wn kw,.slice (some ⟨w3.heap.size,0,none⟩) 1 1] 32);rw [hs1,hV] at hr1;have hbA:Below w3.heap.size w3 V:=hV▸below_new (below_new (Below.refl _ _) _) _;have hl1:=(SlS.lit1 w3 66 [.int .i64 thr,.int .i64 kd,.int .i64 md,.int .i64 oc,.int .u64 ov,.int .i64 odl,.slice a3 cs.length cap3,.slice a4 ds.length cap4] 8 rfl (by intro u hu; simp only [List.mem_cons,List.not_mem_nil,or_false] at hu; rcases hu with rfl | rfl | rfl | rfl | rfl | rfl | rfl | rfl <;> rfl)).below (below_new (Below.refl (w3.alloc (.cells #[.int .i64 thr,.int .i64 kd,.int .i64 md,.int .i64 oc,.int .u64 ov,.int .i64 odl,.slice a3 cs.length cap3,.slice a4 ds.length cap4] 66)).heap.size _) (.cells #[.slice aw wn kw,.slice (some ⟨w3.heap.size,0,none⟩) 1 1] 32));have hl2:SlS V 8 (.slice (some ⟨w3.heap.size,0,none⟩) 1 1) [[.int .i64 thr,.int .i64 kd,.int .i64 md,.int .i64 oc,.int .u64 ov,.int .i64 odl,.slice a3 cs.length cap3,.slice a4 ds.length cap4]]:=hV▸hl1;have HLS:=Lib.hid (SlLS.two hr1 (HSS.out.below (below_then HB3.out hbA)) hl2);have HBA:=Lib.hid hbA;have HVE:=Lib.hid hV;clear hV hs1 hr1 hbA hl1 hl2;obtain ⟨x0,x1,x2⟩:=rowc3 U0.out;obtain ⟨o0,o1,o2,o3,o4,o5,o6⟩:=rowc7 U1.out;go_wp2_with fail;rw [HVE.out];refine (concatW_any _ _ _ V HLS.out (by simp) (by have:=HRN.out; simp; omega)).mono ?_; rintro e w6 ⟨v2,rfl,ho2,hb6⟩;rw [flat_two] at ho2;obtain ⟨p2,n2,k2,rfl⟩:=own_sh ho2;have hbW:Below w3.heap.size w3 w6:=below_then HBA.out hb6;have hVW:w3.heap.size≤V.heap.size:=HBA.out.size;have HO4:=Lib.hid ho2;have HB7:=Lib.hid (below_then HB3.out hbW);have hw3:w.heap.size+2<w3.heap.size:=(ltR U2);have HN:=Lib.hid (HFIN.out w6 _ HB7.out (HO4.out.sls (by rw [List.length_append]; have:=HRN.out; simp; omega)) (HO4.out.isP fun b hb=>HPP.out.2.2.1 b (by omega)));have Z0:=Lib.hid (row_below3 hbW U0.out);have Z2:=Lib.hid (row_below3 hbW U2.out)
    clear ho2 hb6 HLS HBA HVE hbW x0 x1 x2 o0 o1 o2 o3 o4 o5 o6 U0 U1 U2 HFIN HSS;obtain ⟨x0,x1,x2⟩:=rowc3 Z0.out;have ff:=frozen_of_row w6 w.heap.size 1 _ _ Z0.out;go_upto_region 13 with fail
    obtain ⟨v7,hv7⟩:∃v7,w6.setCell ⟨w.heap.size,1,none⟩ (.slice p2 n2 k2)=v7:=⟨_,rfl⟩;have HGv7:Hid (w6.grownBy v7 (some (w.heap.size))):=by rw [← hv7]; exact (grownBy_setCell w6 ⟨w.heap.size,1,none⟩ (.slice p2 n2 k2))
    have V0:Hid (v7.heap[w.heap.size]?=some (.cells #[.slice ac cn kc,.slice p2 n2 k2,.int .i64 t] 34 (0,0))):=by
     rw [← hv7];have r1:=(heap_setCell_same w6 w.heap.size 1 _ _ (.slice p2 n2 k2) Z0.out);simp at r1;exact r1
    rw [hv7];clear hv7;clear x0 x1 x2 ff;have V2:=Lib.hid (row_keepD HGv7.out Z2.out (by omega));have HN7:=Lib.hid (HN.out.off HGv7.out (fun b hb=>HPP.out.2.2.2.2 b hb));have HB8:Hid (Below w.heap.size w v7):=below_grown HB7.out HGv7.out (Nat.le_refl _);obtain ⟨x0,x1,x2⟩:=rowc3 V0.out;have hg8:=row_grown v7 (w.heap.size+2) #[.slice ac cn kc,.slice p2 n2 k2,.int .i64 t];have HF9:=Lib.hid (HT.out _ (.agg #[.slice ac cn kc,.slice p2 n2 k2,.int .i64 t]) (.slice none 0 0) ((HN7.out.off hg8 (fun b hb=>HPP.out.2.1 b hb)).mono HPP.out.1) (SlS.nil _ _) (.inl rfl) (fun a n c e=>by simp at e) (row_below HB8.out (show w.heap.size≤w.heap.size+2 by omega) #[.slice ac cn kc,.slice p2 n2 k2,.int .i64 t]));clear HT hg8 HN7;go_wp2_with (refine wpList_store_row rfl 34 _ _ rfl (w.heap.size+2) _ rfl rfl 34 _ V2.out (by kernel_rfl) rfl (by simp [Value.oneCell']) ?_);refine bodyPost_ret (v:=.tuple #[.agg #[.slice ac cn kc,.slice p2 n2 k2,.int .i64 t],.slice none 0 0,.bool true]) (results_cell_tmp2 Try.results48 _ _ (w.heap.size+2) 34 _ (0,0) _ rfl (setRow_heap _ _ _ _ 34 (0,0) V2.out) Try.underlying34 rfl (by kernel_rfl) _ rfl _ rfl) rfl ?_;exact HF9.out
set_option maxRecDepth 100000 in
set_option maxHeartbeats 16000000 in
theorem pDoA_any (P:Nat→Prop) (v vo:Value) (d:DeskM) (thr:Int) (op:OpM) (w:World) (h:DeskX P w v d) (hd:d.ok) (ho:OpY P w vo op) (hf:op.fine) (hk:op.kind=1∨op.kind=2∨op.kind=4) (HCL:op.cases.length≤100000) (hP:∀b,w.heap.size≤b→P b):Calls Try.prog 21 #[v,.int .i64 thr,vo] w (DoRQ P (doD d thr op) w):=by
 have hX:=h.tight;obtain ⟨vc,vw,rfl,hch,hwt⟩:=h;obtain ⟨vcs,vds,rfl,hcs,hds,hac,had⟩:=ho;have HD:=Lib.hid hd;have HP:=Lib.hid hP;obtain ⟨ac,kc,rfl,-⟩:=hch.slH.len;obtain ⟨aw,kw,rfl,-⟩:=hwt.slW.len;have HX:=Lib.hid hX;obtain ⟨kd,md,oc,ov,odl,cs,ds⟩:=op;dsimp only at *;obtain ⟨a3,cap3,rfl⟩:=hcs.len;obtain ⟨a4,cap4,rfl,-⟩:=hds.len;obtain ⟨Q,hq⟩:∃z,doD d thr ⟨kd,md,oc,ov,odl,cs,ds⟩=z:=⟨_,rfl⟩;obtain ⟨td,tl,tb⟩:=Q;have HG:=Lib.hid hq;rw [hq];obtain ⟨TQ,hTQ⟩:∃z,DoRQ P (td,tl,tb) w=z:=⟨_,rfl⟩;have HT:Hid (∀w' u v,DeskX P w' u td→SlS w' 6 v (doneRows tl)→nilOr v tl→atP (fun b=>w.heap.size≤b) v→Below w.heap.size w w'→TQ (.returned (.tuple #[u,v,.bool tb])) w'):=fun w' u v h1 h2 h3 h4 h5=>by rw [← hTQ]; exact ⟨u,v,rfl,h1,h2,h3,h4,h5⟩
 rw [hTQ];obtain ⟨PP,hPP⟩:∃z:Nat→Prop,(fun b=>P b∧¬(w.heap.size≤b∧b<w.heap.size+3))=z:=⟨_,rfl⟩;have HPP:Hid ((∀b,PP b→P b)∧(∀b,PP b→b≠w.heap.size+2)∧(∀b,w.heap.size+3≤b→PP b)∧(∀b,P b→b<w.heap.size→PP b)∧(∀b,PP b→b≠w.heap.size)):=by
  rw [← hPP];exact ⟨fun b hb=>hb.1,fun b hb=>by have:=hb.2; omega,fun b hb=>⟨HP.out b (by omega),by omega⟩,fun b h1 h2=>⟨h1,by omega⟩,fun b hb=>by have:=hb.2; omega⟩
 obtain ⟨t,htt⟩:∃z,d.tick=z:=⟨_,rfl⟩;obtain ⟨cn,hcn⟩:∃z,d.chans.length=z:=⟨_,rfl⟩;obtain ⟨wn,hwn⟩:∃z,d.wait.length=z:=⟨_,rfl⟩;have HTT:=Lib.hid htt;have HWN:=Lib.hid hwn;have HCN:=Lib.hid hcn;have HCS:=Lib.hid hcs;have HDS:=Lib.hid hds;have HAC:=Lib.hid hac;have HAD:=Lib.hid had;have HF:=Lib.hid hf;rw [hcn,hwn,htt] at HX ⊢;have HPA:Hid (atP PP (.slice a3 cs.length cap3)∧atP PP (.slice a4 ds.length cap4)):=⟨(HAC.out.and HCS.out.inB).mono fun b hb=>HPP.out.2.2.2.1 b hb.1 hb.2,(HAD.out.and HDS.out.inB).mono fun b hb=>HPP.out.2.2.2.1 b hb.1 hb.2⟩;have HXP:Hid (DeskX PP w (.agg #[.slice ac cn kc,.slice aw wn kw,.int .i64 t]) d):=HX.out.mono fun b hb=>by rw [← hPP]; exact ⟨hb.1,by have:=hb.2; omega⟩
 clear hq hTQ htt hwn hcn hch hwt hd hP hX hcs hds hac had hPP hf;have TA:=Lib.hid fun w' (hb:Below w.heap.size w w')=>pattempt_any PP (.agg #[.slice ac cn kc,.slice aw wn kw,.int .i64 t]) (.agg #[.int .i64 kd,.int .i64 md,.int .i64 oc,.int .u64 ov,.int .i64 odl,.slice a3 cs.length cap3,.slice a4 ds.length cap4]) d thr ⟨kd,md,oc,ov,odl,cs,ds⟩ w' (HXP.out.below hb) HD.out ⟨_,_,rfl,HCS.out.below hb,HDS.out.below hb,HPA.out.1,HPA.out.2⟩ HF.out hk HCL;rw [HG.out] at TA;clear HG;obtain ⟨W,hW,HB,R0,R1,R2,hz⟩:=three_new w (.cells #[.slice ac cn kc,.slice aw wn kw,.int .i64 t] 34) (.cells #[.int .i64 kd,.int .i64 md,.int .i64 oc,.int .u64 ov,.int .i64 odl,.slice a3 cs.length cap3,.slice a4 ds.length cap4] 44) (.cells #[.slice none 0 0,.slice none 0 0,.int .i64 0] 34);have HW:=Lib.hid hW;clear hW;go_enter Try.func21,Try.ntmps21;go_upto_region 1 with fail
 rw [HW.out];clear HW;obtain ⟨x0_0,x0_1,x0_2⟩:=rowc3 R0.out;obtain ⟨x1_0,x1_1,x1_2,x1_3,x1_4,x1_5,x1_6⟩:=rowc7 R1.out;rcases hk with hk | hk | hk
 all_goals
  have hk:kd=_:=hk;subst hk;go_wp2_with fail;refine (TA.out _ HB.out (fun b hb=>HPP.out.2.2.1 b (by omega))).mono ?_;rintro e w3 ⟨u,lv,rfl,hx,hs,hn,ha,hb3⟩;dsimp only at hx hs hn;have S2:=Lib.hid (row_below3 hb3 R2.out);have HB3:=Lib.hid (below_then HB.out hb3);have ha:atP (fun b=>w.heap.size+3≤b) lv:=ha.mono fun b hb=>by omega
  clear TA x0_0 x0_1 x0_2 x1_0 x1_1 x1_2 x1_3 x1_4 x1_5 x1_6 hb3;have HXd:=Lib.hid hx;obtain ⟨vc8,vw8,rfl,hc8,hw8⟩:=hx;obtain ⟨t8,ht8⟩:∃z,td.tick=z:=⟨_,rfl⟩;rw [ht8] at HXd ⊢;obtain ⟨pc8,nc8,kc8,rfl⟩:=SlHX.sh hc8;obtain ⟨aw8,kw8,hve8,-⟩:=hw8.slW.len;obtain ⟨n8,hn8⟩:∃z,td.wait.length=z:=⟨_,rfl⟩;rw [hn8] at hve8;subst hve8;clear hc8 hw8 ht8 hn8;have hg8:=row_grown w3 (w.heap.size+2) #[.slice pc8 nc8 kc8,.slice aw8 n8 kw8,.int .i64 t8];have HF9:=Lib.hid (HT.out _ (.agg #[.slice pc8 nc8 kc8,.slice aw8 n8 kw8,.int .i64 t8]) lv ((HXd.out.off hg8 HPP.out.2.1).mono HPP.out.1) (SlS.off hs hg8 ha (fun b hb=>by omega)) hn (ha.mono fun b hb=>by omega) (row_below HB3.out (show w.heap.size≤w.heap.size+2 by omega) #[.slice pc8 nc8 kc8,.slice aw8 n8 kw8,.int .i64 t8]));clear HT hg8 HXd hs hn ha;go_wp2_with (refine wpList_store_row rfl 34 _ _ rfl (w.heap.size+2) _ rfl rfl 34 _ S2.out (by kernel_rfl) rfl (by simp [Value.oneCell']) ?_);refine bodyPost_ret (v:=.tuple #[.agg #[.slice pc8 nc8 kc8,.slice aw8 n8 kw8,.int .i64 t8],lv,.bool tb]) (results_cell_tmp2 Try.results21 _ _ (w.heap.size+2) 34 _ (0,0) _ rfl (setRow_heap _ _ _ _ 34 (0,0) S2.out) Try.underlying34 rfl (by kernel_rfl) _ rfl _ rfl) rfl ?_;exact HF9.out
def awC:ConfM:=⟨[0],[0],2⟩
def awS:OpM:=⟨1,0,0,5,0,[],[]⟩
def awR:OpM:=⟨2,0,0,0,0,[],[]⟩
def awD0:DeskM:=⟨[⟨0,[],false⟩],[],0⟩
def awD1:DeskM:=⟨[⟨0,[],false⟩],[⟨0,awS⟩],0⟩
def awD2:DeskM:=⟨[⟨0,[],false⟩],[],0⟩
theorem awC_good:awC.good:=⟨by decide,rfl,by decide,by decide,by decide⟩
theorem aw_new:nchE awC.caps=awD0.chans:=by rfl
theorem aw_do1:doD awD0 0 awS=(awD1,[],true):=by rfl
theorem aw_do2:doD awD1 1 awR=(awD2,[⟨0,⟨1,-1,0,false,0⟩⟩,⟨1,⟨2,-1,5,true,0⟩⟩],false):=by rfl
theorem awS_fine:awS.fine:=⟨⟨rfl,rfl⟩,(fun x hx=>by cases hx),by decide⟩
theorem awR_fine:awR.fine:=⟨⟨rfl,rfl⟩,(fun x hx=>by cases hx),by decide⟩
theorem awS_y (P:Nat→Prop) (w:World):OpY P w (.agg #[.int .i64 1,.int .i64 0,.int .i64 0,.int .u64 5,.int .i64 0,.slice none 0 0,.slice none 0 0]) awS:=⟨_,_,rfl,SlC.nil _,SlI.nil _ _,fun a n c e=>by simp at e,fun a n c e=>by simp at e⟩
theorem awR_y (P:Nat→Prop) (w:World):OpY P w (.agg #[.int .i64 2,.int .i64 0,.int .i64 0,.int .u64 0,.int .i64 0,.slice none 0 0,.slice none 0 0]) awR:=⟨_,_,rfl,SlC.nil _,SlI.nil _ _,fun a n c e=>by simp at e,fun a n c e=>by simp at e⟩
theorem awD0_ok:awD0.ok:=⟨by decide,by decide,(fun c hc=>by rw [List.mem_singleton.1 hc]; decide),(fun x hx=>by cases hx)⟩
theorem awD1_ok:awD1.ok:=⟨by decide,by decide,(fun c hc=>by rw [List.mem_singleton.1 hc]; decide),(fun x hx=>by rw [List.mem_singleton.1 hx]; exact awS_fine)⟩
set_option maxRecDepth 100000 in
set_option maxHeartbeats 16000000 in
theorem awakeD_any (w:World):Calls Try.prog 9 #[] w fun e w'=>e=.returned (.bool true)∧Below w.heap.size w w':=by
 obtain ⟨W,hW⟩:∃W,(w.alloc (.cells #[.int .i64 0] 3)).alloc (.cells #[.int .u64 0] 41)=W:=⟨_,rfl⟩;have hs1:(w.alloc (.cells #[.int .i64 0] 3)).heap.size=w.heap.size+1:=by simp
 have HB:Hid (Below w.heap.size w W):=hW▸below_new (below_new (Below.refl _ _) _) _;have hl1:=(SlI.lit w .i64 3 [0] (by decide) (by simp)).below (below_new (Below.refl (w.alloc (.cells #[.int .i64 0] 3)).heap.size _) (.cells #[.int .u64 0] 41));have hl2:=SlI.lit (w.alloc (.cells #[.int .i64 0] 3)) .u64 41 [0] (by decide) (by simp);have hz:w.heap.size+2=W.heap.size:=by rw [← hW]; simp
 have HC:Hid (ConfV W (.agg #[.slice (some ⟨w.heap.size,0,none⟩) 1 1,.slice (some ⟨w.heap.size+1,0,none⟩) 1 1,.int .i64 2]) awC):=by
  rw [hs1] at hl2;rw [← hW];exact ⟨_,_,rfl,hl1,hl2⟩
 have HW:=Lib.hid hW;clear hW hs1 hl1 hl2;go_enter Try.func9,Try.ntmps9;go_wp2_with fail;rw [HW.out];clear HW;refine (pNewD_any _ awC W HC.out awC_good).mono ?_; rintro e w2 ⟨u,rfl,hx,hb2⟩;rw [aw_new] at hx;have HB2:=Lib.hid (below_then HB.out hb2);have hx:=hx.tight;obtain ⟨vc,vw,rfl,hc,hw⟩:=hx;have HX:=Lib.hid (⟨vc,vw,rfl,hc,hw⟩:DeskX _ w2 (.agg #[vc,vw,.int .i64 0]) awD0);obtain ⟨pc,nc,kc,rfl⟩:=SlHX.sh hc;obtain ⟨aw,kw,rfl,-⟩:=hw.slW.len;have hn0:([]:List WaitM).length=0:=rfl;rw [hn0] at HX ⊢;clear hc hw hb2 hn0;obtain ⟨Wd,hWd⟩:∃Wd,(w2.alloc (.cells #[.slice none 0 0,.slice none 0 0,.int .i64 0] 34)).setRow w2.heap.size #[.slice pc nc kc,.slice aw 0 kw,.int .i64 0]=Wd:=⟨_,rfl⟩;have Nd:Hid ((w2.alloc (.cells #[.slice none 0 0,.slice none 0 0,.int .i64 0] 34)).heap[w2.heap.size]?=some (.cells #[.slice none 0 0,.slice none 0 0,.int .i64 0] 34 (0,0))):=heap_alloc_new _ _;have HBd:Hid (Below w2.heap.size w2 Wd):=hWd▸row_below (below_new (Below.refl _ _) _) (Nat.le_refl _) _;have Rd:Hid (Wd.heap[w2.heap.size]?=some (.cells #[.slice pc nc kc,.slice aw 0 kw,.int .i64 0] 34 (0,0))):=hWd▸setRow_heap _ _ _ _ _ (0,0) Nd.out;have HWd:=Lib.hid hWd;clear hWd;go_upto_region 2 with (refine wpList_store_row rfl 34 _ _ rfl (w2.heap.size) _ rfl rfl 34 _ Nd.out (by kernel_rfl) rfl (by simp [Value.oneCell']) ?_)
 rw [HWd.out];try simp only [Act.put]
 clear HWd Nd;obtain ⟨D,hD⟩:∃D,w2.heap.size=D:=⟨_,rfl⟩;rw [hD] at Rd;rw [hD];have hDp:w2.heap.size=D:=hD;clear hD;have HBD:=Lib.hid (below_then HB2.out HBd.out);have hwD:w.heap.size≤D:=by have:=HB2.out.size; omega
 have hDl:D<Wd.heap.size:=(ltR Rd);have HX0:Hid (DeskX (fun b=>W.heap.size≤b∧b<w2.heap.size) w2 (.agg #[.slice pc nc kc,.slice aw 0 kw,.int .i64 0]) awD0):=HX.out;have T1:=Lib.hid (pDoA_any (fun b=>b≠D) (.agg #[.slice pc nc kc,.slice aw 0 kw,.int .i64 0]) (.agg #[.int .i64 1,.int .i64 0,.int .i64 0,.int .u64 5,.int .i64 0,.slice none 0 0,.slice none 0 0]) awD0 0 awS Wd ((HX0.out.below HBd.out).mono fun b hb=>by omega) awD0_ok (awS_y _ _) awS_fine (.inl rfl) (by decide) (fun b hb=>by omega));rw [aw_do1] at T1;unfold DoRQ at T1;dsimp only at T1;obtain ⟨x0,x1,x2⟩:=rowc3 Rd.out;go_wp2_with fail;refine T1.out.mono ?_; rintro e w3 ⟨u,lv,rfl,hx,hs,hn,ha,hb3⟩;have hlv:lv=.slice none 0 0:=by
  rcases hn with h | h
  ·exact h
  ·exact absurd rfl h
 subst hlv;have HB3:=Lib.hid (below_then HBD.out hb3);have S0:=Lib.hid (row_below3 hb3 Rd.out);obtain ⟨vc,vw,rfl,hc,hw⟩:=hx;have HX3:=Lib.hid (⟨vc,vw,rfl,hc,hw⟩:DeskX _ w3 (.agg #[vc,vw,.int .i64 0]) awD1);obtain ⟨pc3,nc3,kc3,rfl⟩:=SlHX.sh hc;obtain ⟨aw3,kw3,rfl,-⟩:=hw.slW.len;have hn1:([⟨0,awS⟩]:List WaitM).length=1:=rfl;have hn2:awD1.wait.length=1:=rfl;have hn3:awD1.tick=0:=rfl;try rw [hn2] at HX3 ⊢
 try rw [hn3]
 clear hc hw hs hn ha x0 x1 x2 T1 hb3 hn1 hn2 hn3 HX HX0;obtain ⟨x0,x1,x2⟩:=rowc3 S0.out;obtain ⟨X3,hX3⟩:∃X3,w3.setRow D #[.slice pc3 nc3 kc3,.slice aw3 1 kw3,.int .i64 0]=X3:=⟨_,rfl⟩;have hg3:w3.grownBy X3 (some D):=hX3▸row_grown w3 D #[.slice pc3 nc3 kc3,.slice aw3 1 kw3,.int .i64 0];have K0:Hid (X3.heap[D]?=some (.cells #[.slice pc3 nc3 kc3,.slice aw3 1 kw3,.int .i64 0] 34 (0,0))):=hX3▸setRow_heap _ _ _ _ _ (0,0) S0.out;have HX3b:DeskX (fun b=>b≠D) w3 (.agg #[.slice pc3 nc3 kc3,.slice aw3 1 kw3,.int .i64 0]) awD1:=HX3.out;have HX4:=Lib.hid (HX3b.off hg3 (fun b hb=>hb));have HB4:Hid (Below w.heap.size w X3):=below_grown HB3.out hg3 (by omega);have hD3:D<X3.heap.size:=(ltR K0);have HSX:=Lib.hid hX3;have T2:=Lib.hid (pDoA_any (fun b=>True) (.agg #[.slice pc3 nc3 kc3,.slice aw3 1 kw3,.int .i64 0]) (.agg #[.int .i64 2,.int .i64 0,.int .i64 0,.int .u64 0,.int .i64 0,.slice none 0 0,.slice none 0 0]) awD1 1 awR X3 (HX4.out.mono fun b hb=>trivial) awD1_ok (awR_y _ _) awR_fine (.inr (.inl rfl)) (by decide) (fun b hb=>trivial));rw [aw_do2] at T2;unfold DoRQ at T2;dsimp only at T2;clear hX3 hg3 HX3 HX3b x0 x1 x2;go_upto_region 3 with (refine wpList_store_row rfl 34 _ _ rfl D _ rfl rfl 34 _ S0.out (by kernel_rfl) rfl (by simp [Value.oneCell']) ?_)
 rw [HSX.out];try simp only [Act.put]
 clear HSX S0;obtain ⟨x0,x1,x2⟩:=rowc3 K0.out;go_wp2_with fail;refine T2.out.mono ?_; rintro e w4 ⟨u,lv,rfl,hx,hs,hn,ha,hb4⟩;try dsimp only at hx hs
 have HB5:=Lib.hid (below_then HB4.out hb4);obtain ⟨vc,vw,rfl,hc,hw⟩:=hx;obtain ⟨pc5,nc5,kc5,rfl⟩:=SlHX.sh hc;obtain ⟨aw5,kw5,rfl,-⟩:=hw.slW.len;have hn2:awD2.wait.length=0:=rfl;have hn3:awD2.tick=0:=rfl;try rw [hn2]
 try rw [hn3]
 have HS:=Lib.hid hs;clear hc hw hs hn ha x0 x1 x2 T2 hb4 hn2 hn3;obtain ⟨We,hWe⟩:∃We,(w4.alloc (.cells #[.slice none 0 0,.slice none 0 0,.int .i64 0] 34)).setRow w4.heap.size #[.slice pc5 nc5 kc5,.slice aw5 0 kw5,.int .i64 0]=We:=⟨_,rfl⟩;have Ne:Hid ((w4.alloc (.cells #[.slice none 0 0,.slice none 0 0,.int .i64 0] 34)).heap[w4.heap.size]?=some (.cells #[.slice none 0 0,.slice none 0 0,.int .i64 0] 34 (0,0))):=heap_alloc_new _ _;have HBe:Hid (Below w4.heap.size w4 We):=hWe▸row_below (below_new (Below.refl _ _) _) (Nat.le_refl _) _;have Re:Hid (We.heap[w4.heap.size]?=some (.cells #[.slice pc5 nc5 kc5,.slice aw5 0 kw5,.int .i64 0] 34 (0,0))):=hWe▸setRow_heap _ _ _ _ _ (0,0) Ne.out;have HWe:=Lib.hid hWe;clear hWe;go_upto_region 4 with (refine wpList_store_row rfl 34 _ _ rfl (w4.heap.size) _ rfl rfl 34 _ Ne.out (by kernel_rfl) rfl (by simp [Value.oneCell']) ?_)
 rw [HWe.out];try simp only [Act.put]
 clear HWe Ne;obtain ⟨E,hE⟩:∃E,w4.heap.size=E:=⟨_,rfl⟩;rw [hE] at Re;rw [hE];clear hE;have HBF:=Lib.hid (below_then HB5.out HBe.out);obtain ⟨b,off,cap,rfl,hbl,k0,k1,k2,k3,k4,k5⟩:=(HS.out.below HBe.out).done 0 (by decide) (x:=⟨0,⟨1,-1,0,false,0⟩⟩) rfl;obtain ⟨b',off',cap',hve,-,m0,m1,m2,m3,m4,m5⟩:=(HS.out.below HBe.out).done 1 (by decide) (x:=⟨1,⟨2,-1,5,true,0⟩⟩) rfl;simp only [Value.slice.injEq,Option.some.injEq,Addr.mk.injEq] at hve;obtain ⟨⟨rfl,rfl,-⟩,-,rfl⟩:=hve;dsimp only at k1 m3;simp only [List.length_cons,List.length_nil] at *;simp only [Nat.zero_mul,Nat.add_zero,Nat.one_mul] at k1 m3;clear k0 k2 k3 k4 k5 m0 m1 m2 m4 m5;go_wp2
 all_goals (go_ret; exact ⟨rfl,HBF.out⟩)
structure DeskM.okN (N:Nat) (d:DeskM):Prop where
 cl:d.chans.length≤N
 wl:d.wait.length≤N
 bf:∀c∈d.chans,c.buf.length≤N
 wop:∀x∈d.wait,x.op.fine
theorem DeskM.okN.ok {N:Nat} {d:DeskM} (h:d.okN N) (hN:N≤1000):d.ok:=
 ⟨Nat.le_trans h.cl hN,Nat.le_trans h.wl hN,fun c hc=>Nat.le_trans (h.bf c hc) hN,h.wop⟩
theorem DeskM.okN.mono {N M:Nat} {d:DeskM} (h:d.okN N) (hN:N≤M):d.okN M:=
 ⟨Nat.le_trans h.cl hN,Nat.le_trans h.wl hN,fun c hc=>Nat.le_trans (h.bf c hc) hN,h.wop⟩
theorem DeskM.okN.chE {N:Nat} {d:DeskM} (h:d.okN N) (ch:Int):(chE d.chans ch).buf.length≤N:=by
 by_cases hi:ch.toNat<d.chans.length
 ·have e:Go.Proofs.Ytiekicailidhcaa.chE d.chans ch=d.chans[ch.toNat]:=getD_lt hi
  rw [e];exact h.bf _ (List.getElem_mem hi)
 ·have e:Go.Proofs.Ytiekicailidhcaa.chE d.chans ch=noChan:=by
   show d.chans.getD ch.toNat noChan=noChan;rw [List.getD_eq_getElem?_getD,List.getElem?_eq_none (by omega)];rfl
  rw [e];exact Nat.zero_le _
theorem DeskM.okN.leave {N:Nat} {d:DeskM} (h:d.okN N) (k:Nat):(leaveD d k).okN N:=
 ⟨h.cl,by
  have:=h.wl;show (d.wait.take k ++ d.wait.drop (k+1)).length≤N;rw [List.length_append,List.length_take,List.length_drop];omega,h.bf,fun x hx=>by
  have hx:x∈d.wait.take k ++ d.wait.drop (k+1):=hx;rcases List.mem_append.1 hx with hx | hx
  ·exact h.wop x (List.mem_of_mem_take hx)
  ·exact h.wop x (List.mem_of_mem_drop hx)⟩
theorem DeskM.okN.put {N:Nat} {d:DeskM} (h:d.okN N) {n:Nat} {c:ChanM} (hc:c.buf.length≤N):(putD d n c).okN N:=
 ⟨by show (d.chans.set n c).length≤N; rw [List.length_set]; exact h.cl,h.wl,fun x hx=>by
  have hx:x∈d.chans.set n c:=hx;rcases List.mem_or_eq_of_mem_set hx with hx | hx
  ·exact h.bf x hx
  ·rw [hx]; exact hc,h.wop⟩
theorem DeskM.okN.filter {N:Nat} {d:DeskM} (h:d.okN N) (p:WaitM→Bool) (t:Int):DeskM.okN N ⟨d.chans,d.wait.filter p,t⟩:=
 ⟨h.cl,Nat.le_trans (List.length_filter_le _ _) h.wl,h.bf,fun x hx=>h.wop x (List.mem_filter.1 hx).1⟩
theorem DeskM.okN.tick {N:Nat} {d:DeskM} (h:d.okN N) (n:Int):(tickD d n).1.okN N:=by
 unfold tickD;split
 ·exact h
 ·exact h.filter _ _
theorem DeskM.okN.shut {N:Nat} {d:DeskM} (h:d.okN N) (thr ch:Int):(shutE d thr ch).1.okN N:=by
 unfold shutE;split
 ·exact ((h.put (n:=ch.toNat) (c:={ Go.Proofs.Ytiekicailidhcaa.chE d.chans ch with closed:=true }) (h.chE ch)).filter _ _).filter _ _
 ·exact h
theorem DeskM.okN.send {N:Nat} {d:DeskM} (h:d.okN N) (thr own:Int) (x:CaseM) (k:Int):(sendG d thr own x k).1.okN (N+1):=by
 unfold sendG;split
 ·exact h.mono (Nat.le_succ _)
 ·split
  ·exact (h.leave _).mono (Nat.le_succ _)
  ·refine (h.mono (Nat.le_succ _)).put ?_
   have:=h.chE x.chan;simp;omega
theorem DeskM.okN.recv {N:Nat} {d:DeskM} (h:d.okN N) (thr own:Int) (x:CaseM) (k:Int):(recvG d thr own x k).1.okN (N+1):=by
 have hb:=h.chE x.chan;unfold recvG;split
 ·next hn=>
  split
  ·exact ((h.leave _).put hb).mono (Nat.le_succ _)
  ·exact h.mono (Nat.le_succ _)
 ·next v l hn=>
  rw [hn] at hb;split
  ·exact ((h.leave _).mono (Nat.le_succ _)).put (by simp at hb ⊢; omega)
  ·exact (h.mono (Nat.le_succ _)).put (by simp at hb ⊢; omega)
theorem DeskM.okN.does {N:Nat} {d:DeskM} (h:d.okN N) (thr:Int) {op:OpM} (hf:op.fine):(doD d thr op).1.okN (N+1):=by
 unfold doD;split
 ·exact (h.shut _ _).mono (Nat.le_succ _)
 ·split
  ·exact h.mono (Nat.le_succ _)
  ·split
   ·show (doG d thr op (pickD d thr op) _).1.okN (N+1)
    unfold doG;split
    ·exact h.send _ _ _ _
    ·exact h.recv _ _ _ _
   ·split
    ·exact h.mono (Nat.le_succ _)
    ·split
     ·exact h.mono (Nat.le_succ _)
     ·exact ⟨Nat.le_succ_of_le h.cl,by have:=h.wl; show (d.wait ++ [_]).length≤N+1; rw [List.length_append,List.length_singleton]; omega,fun c hc=>Nat.le_succ_of_le (h.bf c hc),fun x hx=>by
       rcases List.mem_append.1 hx with hx | hx
       ·exact h.wop x hx
       ·rw [List.mem_singleton.1 hx]; exact hf⟩
theorem doD_tick (d:DeskM) (thr:Int) (op:OpM):(doD d thr op).1.tick=d.tick:=by
 unfold doD;split
 ·unfold shutE; split <;> rfl
 ·split
  ·rfl
  ·split
   ·show (doG d thr op (pickD d thr op) _).1.tick=d.tick
    unfold doG;split
    ·unfold sendG; split
     ·rfl
     ·split <;> rfl
    ·unfold recvG; split <;> (split <;> rfl)
   ·split
    ·rfl
    ·split <;> rfl
theorem tickD_tick {d:DeskM} (h:0≤d.tick∧d.tick≤1099511627776) (n:Int):0≤(tickD d n).1.tick∧(tickD d n).1.tick≤1099511627776:=by
 unfold tickD;split
 ·exact h
 ·show 0≤newT d.tick n∧newT d.tick n≤1099511627776
  unfold newT;split <;> omega
theorem leftD (g:Nat) (w:World) (h:CodesE w g):Calls Try.prog 15 #[.pointer (some ⟨g,0,none⟩)] w fun e w'=>∃b,e=.returned (.bool b)∧Below w.heap.size w w':=by
 obtain ⟨r,val,h⟩:=h;refine (left_any g r val w h).mono ?_;rintro e w' ⟨n,rfl,rfl⟩;exact ⟨_,rfl,below_drewN (Below.refl _ _) n⟩
theorem OpM.good.kinds {op:OpM} (h:op.good):1≤op.kind∧op.kind≤6:=by
 have h1:=h.check;unfold checkE at h1;by_cases hk:kindB op=false
 ·rw [if_pos hk] at h1; simp at h1
 ·unfold kindB at hk
  simp at hk;omega
def RchQ (g:Nat) (w:World) (e:Ending) (w':World):Prop:=∃u d,e=.returned u∧DeskX (fun b=>b≠g) w' u d∧d.okN 200∧(0≤d.tick∧d.tick≤1099511627776)∧CodesE w' g∧w.grownBy w' (some g)
structure RchI (w wr:World) (g D:Nat) (cr row:Array Value) (d:DeskM) (N:Nat):Prop where
 glt:g<w.heap.size
 codes:CodesE wr g
 grown:w.grownBy wr (some g)
 bw:w.heap.size+2≤D
 r4:wr.heap[w.heap.size]?=some (.cells cr 29 (0,0))
 r6:wr.heap[w.heap.size+1]?=some (.cells #[.slice none 0 0,.slice none 0 0,.int .i64 0] 34 (0,0))
 r7:wr.heap[D]?=some (.cells row 34 (0,0))
 desk:DeskX (fun b=>b≠g∧b≠w.heap.size∧b≠w.heap.size+1∧b≠D) wr (.agg row) d
 ok:d.okN N
 tick:0≤d.tick∧d.tick≤1099511627776
theorem RchI.Dlt {w wr:World} {g D:Nat} {cr row:Array Value} {d:DeskM} {N:Nat} (h:RchI w wr g D cr row d N):D<wr.heap.size:=(Array.getElem?_eq_some_iff.1 h.r7).1
theorem RchI.hP {w wr:World} {g D:Nat} {cr row:Array Value} {d:DeskM} {N:Nat} (h:RchI w wr g D cr row d N):∀b,wr.heap.size≤b→b≠g∧b≠w.heap.size∧b≠w.heap.size+1∧b≠D:=fun b hb=>by
 have h1:=h.Dlt;have h2:=h.bw;have h3:=h.glt;exact ⟨by omega,by omega,by omega,by omega⟩
theorem RchI.below {w wr w2:World} {g D:Nat} {cr row:Array Value} {d:DeskM} {N:Nat} (h:RchI w wr g D cr row d N) (hb:Below wr.heap.size wr w2):RchI w w2 g D cr row d N:=
 ⟨h.glt,h.codes.kept h.codes.lt hb,grownBy_trans h.grown (grown_belowD hb),h.bw,row_below3 hb h.r4,row_below3 hb h.r6,row_below3 hb h.r7,h.desk.below hb,h.ok,h.tick⟩
theorem RchI.next {w wr w2:World} {g D:Nat} {cr row:Array Value} {d:DeskM} {N:Nat} (h:RchI w wr g D cr row d N) (hc:CodesE w2 g) (hg:wr.grownBy w2 (some g)):RchI w w2 g D cr row d N:=by
 have h3:=h.glt;have h2:=h.bw;exact ⟨h.glt,hc,grownBy_trans h.grown hg,h.bw,row_keepD hg h.r4 (by omega),row_keepD hg h.r6 (by omega),row_keepD hg h.r7 (by omega),h.desk.off hg (fun b hb=>hb.1),h.ok,h.tick⟩
theorem RchI.store {w wr:World} {g D:Nat} {cr row row2:Array Value} {d d2:DeskM} {N N2:Nat} (h:RchI w wr g D cr row d N) (hx:DeskX (fun b=>b≠g∧b≠w.heap.size∧b≠w.heap.size+1∧b≠D) wr (.agg row2) d2) (ho:d2.okN N2) (ht:0≤d2.tick∧d2.tick≤1099511627776):RchI w (wr.setRow D row2) g D cr row2 d2 N2:=by
 have h3:=h.glt;have h2:=h.bw;have hg:=row_grown wr D row2;have hD:=h.Dlt;have hgr:=h.grown.size;obtain ⟨r,val,hco⟩:=h.codes;refine ⟨h.glt,?_,grown_newD h.grown hg (by omega),h.bw,row_keepD hg h.r4 (by omega),row_keepD hg h.r6 (by omega),setRow_heap _ _ _ _ _ (0,0) h.r7,hx.off hg (fun b hb=>hb.2.2.2),ho,ht⟩;exact h.codes.kept (B:=D) (by omega) (row_below (Below.refl D wr) (Nat.le_refl _) _)
theorem RchI.exit {w wr:World} {g D:Nat} {cr row:Array Value} {d:DeskM} {N:Nat} (h:RchI w wr g D cr row d N) (hN:N≤200):RchQ g w (.returned (.agg row)) (wr.setRow (w.heap.size+1) row):=by
 have h3:=h.glt;have hg:=row_grown wr (w.heap.size+1) row;exact ⟨_,d,rfl,(h.desk.off hg (fun b hb=>hb.2.2.1)).mono fun b hb=>hb.1,h.ok.mono hN,h.tick,h.codes.kept (B:=w.heap.size+1) (by omega) (row_below (Below.refl (w.heap.size+1) wr) (Nat.le_refl _) _),grown_newD h.grown hg (by omega)⟩
theorem RchI.more {w wr:World} {g D:Nat} {cr row:Array Value} {d:DeskM} {N M:Nat} (h:RchI w wr g D cr row d N) (hN:N≤M):RchI w wr g D cr row d M:=⟨h.glt,h.codes,h.grown,h.bw,h.r4,h.r6,h.r7,h.desk,h.ok.mono hN,h.tick⟩
set_option maxRecDepth 100000 in
set_option maxHeartbeats 16000000 in
theorem reach_any (g:Nat) (v:Value) (c:ConfM) (mo:Nat) (w:World) (h:CodesE w g) (hv:ConfX w g v c) (hc:c.good) (hm:mo≤100):Calls Try.prog 24 #[.pointer (some ⟨g,0,none⟩),v,.int .i64 (mo:Int)] w (RchQ g w):=by
 have hgl:=h.lt;have HC:=Lib.hid h;have HV:=Lib.hid hv;have HG:=Lib.hid hc;obtain ⟨vc,vs,rfl,h1,h2,-⟩:=hv;obtain ⟨a,cap,rfl,-⟩:=h1.len;obtain ⟨a2,cap2,rfl,-⟩:=h2.len;obtain ⟨l1,hl1⟩:∃z,c.caps.length=z:=⟨_,rfl⟩;obtain ⟨l2,hl2⟩:∃z,c.starts.length=z:=⟨_,rfl⟩;obtain ⟨th,hth⟩:∃z,c.threads=z:=⟨_,rfl⟩;have ht:=hc.thr;have hl:=hc.len;rw [hl1,hl2,hth] at HV ⊢;rw [hth] at ht;have HL1:=Lib.hid hl1;clear h1 h2 hl1 hl2 hth h hc;obtain ⟨W,hW,HB,R0,R1,hz⟩:=two_new w (.cells #[.slice a l1 cap,.slice a2 l2 cap2,.int .i64 th] 29) (.cells #[.slice none 0 0,.slice none 0 0,.int .i64 0] 34);have HW:=Lib.hid hW;clear hW;go_enter Try.func24,Try.ntmps24;go_upto_region 1 with fail
 rw [HW.out];clear HW;obtain ⟨x0_0,x0_1,x0_2⟩:=rowc3 R0.out;go_wp2_with fail;refine (rNewD_any (.agg #[.slice a l1 cap,.slice a2 l2 cap2,.int .i64 th]) c W (HV.out.below HB.out).conf HG.out).mono ?_; rintro e w1 ⟨u,rfl,hx,hb1⟩;have HXd:=Lib.hid hx;obtain ⟨vc8,vw8,rfl,hc8,hw8⟩:=hx;dsimp only at HXd ⊢;obtain ⟨pc8,nc8,kc8,rfl⟩:=SlHX.sh hc8;obtain ⟨aw8,kw8,hve8,-⟩:=hw8.slW.len;obtain ⟨n8,hn8⟩:∃z,(⟨nchE c.caps,[],0⟩:DeskM).wait.length=z:=⟨_,rfl⟩;rw [hn8] at hve8;subst hve8;clear hc8 hw8 hn8;obtain ⟨Wd,hWd⟩:∃Wd,(w1.alloc (.cells #[.slice none 0 0,.slice none 0 0,.int .i64 0] 34)).setRow w1.heap.size #[.slice pc8 nc8 kc8,.slice aw8 n8 kw8,.int .i64 0]=Wd:=⟨_,rfl⟩;have Nd:Hid ((w1.alloc (.cells #[.slice none 0 0,.slice none 0 0,.int .i64 0] 34)).heap[w1.heap.size]?=some (.cells #[.slice none 0 0,.slice none 0 0,.int .i64 0] 34 (0,0))):=heap_alloc_new _ _;have HBd:Hid (Below w1.heap.size w1 Wd):=hWd▸row_below (below_new (Below.refl _ _) _) (Nat.le_refl _) _;have Rd:Hid (Wd.heap[w1.heap.size]?=some (.cells #[.slice pc8 nc8 kc8,.slice aw8 n8 kw8,.int .i64 0] 34 (0,0))):=hWd▸setRow_heap _ _ _ _ _ (0,0) Nd.out;have HWd:=Lib.hid hWd;clear hWd;go_upto_region 2 with (refine wpList_store_row rfl 34 _ _ rfl (w1.heap.size) _ rfl rfl 34 _ Nd.out (by kernel_rfl) rfl (by simp [Value.oneCell']) ?_)
 rw [HWd.out];try simp only [Act.put]
 clear HWd Nd;obtain ⟨D,hD⟩:∃D,w1.heap.size=D:=⟨_,rfl⟩;rw [hD] at Rd;rw [hD];have hDp:w1.heap.size=D:=hD;clear hD;have hw1:=hb1.size;have HI0:Hid (RchI w Wd g D #[.slice a l1 cap,.slice a2 l2 cap2,.int .i64 th] #[.slice pc8 nc8 kc8,.slice aw8 n8 kw8,.int .i64 0] ⟨nchE c.caps,[],0⟩ (8+0)):=by
  have hbb:=below_then (below_then HB.out hb1) HBd.out;refine ⟨hgl,HC.out.kept hgl hbb,grown_below hbb,by omega,row_below3 HBd.out (row_below3 hb1 R0.out),row_below3 HBd.out (row_below3 hb1 R1.out),Rd.out,(HXd.out.tight.below HBd.out).mono (fun b hb=>⟨by have:=hb.1; omega,by have:=hb.1; omega,by have:=hb.1; omega,by have:=hb.2; omega⟩),⟨?_,Nat.zero_le _,?_,fun x hx=>by simp at hx⟩,⟨Int.le_refl _,by show (0:Int)≤1099511627776; decide⟩⟩
  ·show (nchE c.caps).length≤8+0
   unfold nchE;rw [List.length_map];omega
  ·intro x hx
   obtain ⟨y,-,rfl⟩:=List.mem_map.1 (show x∈c.caps.map _ from hx);exact Nat.zero_le _
 clear HXd hb1 HBd Rd R0 R1 x0_0 x0_1 x0_2;go_wp2_with fail;go_loopw [8] (fun u8 wr=>∃(i:Nat) (ac:Option Addr) (cn kc:Nat) (aw:Option Addr) (wn kw:Nat) (t:Int) (d:DeskM),u8=.int .i64 (i:Int)∧i≤mo∧Hid (RchI w wr g D #[.slice a l1 cap,.slice a2 l2 cap2,.int .i64 th] #[.slice ac cn kc,.slice aw wn kw,.int .i64 t] d (8+i))) (fun u8 _=>mo - (intOf u8).toNat)
 case atStart=>exact ⟨0,_,_,_,_,_,_,_,_,rfl,by omega,HI0⟩
 case round=>
  clear HI0;obtain ⟨i,ac,cn,kc,aw,wn,kw,t,d,rfl,hi,HI⟩:=hrel;obtain ⟨wo,rfl⟩:∃wo:World,wo=wr:=⟨_,rfl⟩;by_cases hlt:i<mo
  ·have hltI:(i:Int)<(mo:Int):=by omega
   have hi1:IntKind.i64.wrap ((i:Int)+1)=(i:Int)+1:=(i64_small _ (by omega) (by omega)).symm;go_wp2_with fail;refine (leftD g _ HI.out.codes).mono ?_; rintro e wl ⟨lf,rfl,hbl⟩;have HI1:=Lib.hid (HI.out.below hbl);clear hbl HI;cases lf with
   | false=>
    obtain ⟨d0,d1,d2⟩:=rowc3 HI1.out.r7;have HE:=Lib.hid (HI1.out.exit (by omega));have HR6:=Lib.hid HI1.out.r6;go_wp2_with (refine wpList_store_row rfl 34 _ _ rfl (w.heap.size+1) _ rfl rfl 34 _ HR6.out (by kernel_rfl) rfl (by simp [Value.oneCell']) ?_);refine bodyPost_ret (v:=.agg #[.slice ac cn kc,.slice aw wn kw,.int .i64 t]) (results_cell_row Try.results24 _ _ (w.heap.size+1) 34 _ (0,0) _ rfl (setRow_heap _ _ _ _ 34 (0,0) HR6.out) Try.underlying34 rfl (by kernel_rfl)) rfl ?_;exact HE.out
   | true=>
    go_wp2_with fail;refine (nextE g 10 _ HI1.out.codes (by omega) (by omega)).mono ?_; rintro e w2 ⟨z0,rfl,z00,z01,hc2,hg2⟩;have HI2:=Lib.hid (HI1.out.next hc2 hg2);clear hc2 hg2 HI1;by_cases hz9:z0=9
    ·subst hz9
     go_upto_region 6 with fail
     refine wp_region_until (fun w':World=>(w'.cell? ⟨D,0,none⟩=some (.slice ac cn kc)∧w'.cell? ⟨D,1,none⟩=some (.slice aw wn kw)∧w'.cell? ⟨D,2,none⟩=some (.int .i64 t))) 7 8 (by kernel_rfl) rfl ?_;obtain ⟨u0,hu0,hU0⟩:=drew_pack w2;rw [hu0];clear hu0;have HIa:=Lib.hid (HI2.out.below hU0.out);have hSU0:=rowc3 HIa.out.r7;apply tkV 0 hSU0 rfl (by kernel_rfl) (fun _ _ _ h=>h) rfl;intro w hSw;(go_simp<;>with_reducible rfl);simp only [J0,J1,J2,J3,J4];apply tkV 1 hSU0 rfl (by kernel_rfl) (fun _ _ _ h=>h) rfl;intro w hSw;(go_simp<;>with_reducible rfl);simp only [J0,J1,J2,J3,J4];refine consU 2 rfl (by kernel_rfl) rfl fun K hK=>?_;go_simp;go_at_call 16;refine (nextE g 4 _ HIa.out.codes (by omega) (by omega)).mono ?_;rintro e u1 ⟨z2,rfl,z20,z21,hc2,hg2⟩;have HIb:=Lib.hid (HIa.out.next hc2 hg2);clear hc2 hg2;refine hK.out _ _ ?_ fun hSU1=>?_;exact rowc3 HIb.out.r7;clear hK K hSU0;(try simp only [J0,J1,J2,J3,J4]);refine consU 3 rfl (by kernel_rfl) rfl fun K hK=>?_;go_simp;go_at_call 18;refine (rtick_any (fun b=>b≠g∧b≠w.heap.size∧b≠w.heap.size+1∧b≠D) (.agg #[.slice ac cn kc,.slice aw wn kw,.int .i64 t]) d z2 _ HIb.out.desk (HIb.out.ok.ok (by omega)) HIb.out.tick HIb.out.hP).mono ?_;rintro e u2 ⟨u,lv,rfl,hx,-,-,-,hb2⟩;have HIc:=Lib.hid (HIb.out.below hb2);clear hb2;have HXd:=Lib.hid hx;obtain ⟨vc8,vw8,rfl,hc8,hw8⟩:=hx;obtain ⟨t8,ht8⟩:∃z,(tickD d z2).1.tick=z:=⟨_,rfl⟩;rw [ht8] at HXd ⊢;obtain ⟨pc8,nc8,kc8,rfl⟩:=SlHX.sh hc8;obtain ⟨aw8,kw8,hve8,-⟩:=hw8.slW.len;obtain ⟨n8,hn8⟩:∃z,(tickD d z2).1.wait.length=z:=⟨_,rfl⟩;rw [hn8] at hve8;subst hve8;clear hc8 hw8 ht8 hn8;refine hK.out _ _ ?_ fun hSU2=>?_;exact rowc3 HIc.out.r7;clear hK K hSU1;(try simp only [J0,J1,J2,J3,J4]);apply tkV 4 hSU2 rfl (by kernel_rfl) (fun _ _ _ h=>h) rfl;intro w hSw;(go_simp<;>with_reducible rfl);simp only [J0,J1,J2,J3,J4];apply tkV 5 hSU2 rfl (by kernel_rfl) (fun _ _ _ h=>h) rfl;intro w hSw;(go_simp<;>with_reducible rfl);simp only [J0,J1,J2,J3,J4];apply tkW 6 (fun _=>hSU2) rfl (by kernel_rfl) (fun _ _ _ h=>h) rfl;intro w;(go_simp<;>with_reducible rfl);simp only [J0,J1,J2,J3,J4]
     refine freeU 7 rfl (by kernel_rfl) rfl (by kernel_rfl) fun K hK=>?_;refine step_store_row rfl 34 _ _ rfl D _ rfl rfl 34 #[.slice ac cn kc,.slice aw wn kw,.int .i64 t] HIc.out.r7 (by kernel_rfl) rfl (by simp [Value.oneCell']) ?_;have HId:=Lib.hid ((HIc.out.store HXd.out (HIc.out.ok.tick z2) (tickD_tick HIc.out.tick z2)).more (show 8+i≤8+(i+1) by omega));generalize u2.setRow D #[.slice pc8 nc8 kc8,.slice aw8 n8 kw8,.int .i64 t8]=u3 at *;refine hK.out _ _ ?_;clear hK K hSU2;(try simp only [J0,J1,J2,J3,J4]);refine wpAnyU_done (by kernel_rfl) ?_ _;go_wp2_with fail;go_roundw
     case rel=>exact ⟨i+1,_,_,_,_,_,_,_,_,by go_num,by omega,HId⟩
     case measure=>simp [intOf]; omega
    ·skip
     obtain ⟨x0,x1,x2⟩:=rowc3 HI2.out.r4;go_wp2_with fail;refine (nextE g th _ HI2.out.codes (by omega) (by omega)).mono ?_; rintro e w3 ⟨z1,rfl,z10,z11,hc3,hg3⟩;have HI3:=Lib.hid (HI2.out.next hc3 hg3);clear hc3 hg3 HI2 x0 x1 x2;obtain ⟨x0,x1,x2⟩:=rowc3 HI3.out.r4;go_wp2_with fail;refine (opE g (.agg #[.slice a l1 cap,.slice a2 l2 cap2,.int .i64 th]) c _ HI3.out.codes (HV.out.grown HI3.out.grown) HG.out.len).mono ?_; rintro e w4 ⟨u,op,rfl,hop,hgood,hc4,hg4⟩;have HI4:=Lib.hid (HI3.out.next hc4 hg4);have HP3:=Lib.hid HI3.out.hP;have HGD:=Lib.hid hgood;clear hc4 hg4 HI3 x0 x1 x2 hgood;obtain ⟨vc,vd,rfl,ho1,ho2,ho3,ho4⟩:=hop;obtain ⟨kd,md,oc,ov,odl,cs,ds⟩:=op;dsimp only at *;obtain ⟨a3,cap3,rfl⟩:=ho1.len;obtain ⟨a4,cap4,rfl,-⟩:=ho2.len;have HO1:=Lib.hid ho1;have HO2:=Lib.hid ho2;have HO3:Hid (atP (fun b=>b≠g∧b≠w.heap.size∧b≠w.heap.size+1∧b≠D) (.slice a3 cs.length cap3)):=fun a n c e=>(ho3 a n c e).imp id (fun h=>HP3.out _ h);have HO4:Hid (atP (fun b=>b≠g∧b≠w.heap.size∧b≠w.heap.size+1∧b≠D) (.slice a4 ds.length cap4)):=fun a n c e=>(ho4 a n c e).imp id (fun h=>HP3.out _ h);clear ho1 ho2 ho3 ho4 HP3;obtain ⟨Wo,hWo⟩:∃Wo,(w4.alloc (.cells #[.int .i64 0,.int .i64 0,.int .i64 0,.int .u64 0,.int .i64 0,.slice none 0 0,.slice none 0 0] 44)).setRow w4.heap.size #[.int .i64 kd,.int .i64 md,.int .i64 oc,.int .u64 ov,.int .i64 odl,.slice a3 cs.length cap3,.slice a4 ds.length cap4]=Wo:=⟨_,rfl⟩;have No:Hid ((w4.alloc (.cells #[.int .i64 0,.int .i64 0,.int .i64 0,.int .u64 0,.int .i64 0,.slice none 0 0,.slice none 0 0] 44)).heap[w4.heap.size]?=some (.cells #[.int .i64 0,.int .i64 0,.int .i64 0,.int .u64 0,.int .i64 0,.slice none 0 0,.slice none 0 0] 44 (0,0))):=heap_alloc_new _ _;have HBo:Hid (Below w4.heap.size w4 Wo):=hWo▸row_below (below_new (Below.refl _ _) _) (Nat.le_refl _) _;have Ro:Hid (Wo.heap[w4.heap.size]?=some (.cells #[.int .i64 kd,.int .i64 md,.int .i64 oc,.int .u64 ov,.int .i64 odl,.slice a3 cs.length cap3,.slice a4 ds.length cap4] 44 (0,0))):=hWo▸setRow_heap _ _ _ _ _ (0,0) No.out
     have HWo:=Lib.hid hWo;clear hWo;go_upto_region 9 with (refine wpList_store_row rfl 44 _ _ rfl (w4.heap.size) _ rfl rfl 44 _ No.out (by kernel_rfl) rfl (by simp [Value.oneCell']) ?_)
     rw [HWo.out];try simp only [Act.put]
     clear HWo No;obtain ⟨O,hO⟩:∃O,w4.heap.size=O:=⟨_,rfl⟩;rw [hO] at Ro;rw [hO];clear hO;have HI5:=Lib.hid (HI4.out.below HBo.out);have HOY:Hid (OpY (fun b=>b≠g∧b≠w.heap.size∧b≠w.heap.size+1∧b≠D) Wo (.agg #[.int .i64 kd,.int .i64 md,.int .i64 oc,.int .u64 ov,.int .i64 odl,.slice a3 cs.length cap3,.slice a4 ds.length cap4]) ⟨kd,md,oc,ov,odl,cs,ds⟩):=⟨_,_,rfl,HO1.out.below HBo.out,HO2.out.below HBo.out,HO3.out,HO4.out⟩;clear HBo HI4 HO1 HO2 HO3 HO4;obtain ⟨d0,d1,d2⟩:=rowc3 HI5.out.r7;go_wp2_with fail;refine (waits_any (.agg #[.slice ac cn kc,.slice aw wn kw,.int .i64 t]) d z1 _ HI5.out.desk.deskV).mono ?_; rintro e w6 ⟨rfl,hb6⟩;have HI6:=Lib.hid (HI5.out.below hb6);have HOY6:=Lib.hid (HOY.out.below hb6);have Ro6:=Lib.hid (row_below3 hb6 Ro.out);clear hb6 HI5 HOY Ro d0 d1 d2;obtain ⟨wb,hwb⟩:∃z,waitsD d z1=z:=⟨_,rfl⟩;rw [hwb];clear hwb;cases wb with
     | true=>
      have HI7:=Lib.hid (HI6.out.more (show 8+i≤8+(i+1) by omega));go_wp2_with fail;go_roundw
      case rel=>exact ⟨i+1,_,_,_,_,_,_,_,_,by go_num,by omega,HI7⟩
      case measure=>simp [intOf]; omega
     | false=>
      obtain ⟨d0,d1,d2⟩:=rowc3 HI6.out.r7;obtain ⟨o0,o1,o2,o3,o4,o5,o6⟩:=rowc7 Ro6.out;go_wp2_with fail;refine (rDo_any (fun b=>b≠g∧b≠w.heap.size∧b≠w.heap.size+1∧b≠D) (.agg #[.slice ac cn kc,.slice aw wn kw,.int .i64 t]) (.agg #[.int .i64 kd,.int .i64 md,.int .i64 oc,.int .u64 ov,.int .i64 odl,.slice a3 cs.length cap3,.slice a4 ds.length cap4]) d z1 ⟨kd,md,oc,ov,odl,cs,ds⟩ _ HI6.out.desk (HI6.out.ok.ok (by omega)) HOY6.out HGD.out.fine HGD.out.kinds HI6.out.hP).mono ?_; rintro e w7 ⟨u,lv,rfl,hx,-,-,-,hb7⟩;have HI7:=Lib.hid (HI6.out.below hb7);clear hb7 HI6 HOY6 Ro6 d0 d1 d2 o0 o1 o2 o3 o4 o5 o6;have HXd:=Lib.hid hx;obtain ⟨vc8,vw8,rfl,hc8,hw8⟩:=hx;obtain ⟨t8,ht8⟩:∃z,(doD d z1 ⟨kd,md,oc,ov,odl,cs,ds⟩).1.tick=z:=⟨_,rfl⟩;rw [ht8] at HXd ⊢;obtain ⟨pc8,nc8,kc8,rfl⟩:=SlHX.sh hc8;obtain ⟨aw8,kw8,hve8,-⟩:=hw8.slW.len;obtain ⟨n8,hn8⟩:∃z,(doD d z1 ⟨kd,md,oc,ov,odl,cs,ds⟩).1.wait.length=z:=⟨_,rfl⟩;rw [hn8] at hve8;subst hve8;clear hc8 hw8 ht8 hn8;have HR7:=Lib.hid HI7.out.r7;have HId:=Lib.hid (HI7.out.store HXd.out (HI7.out.ok.does z1 HGD.out.fine) (by rw [doD_tick]; exact HI7.out.tick));obtain ⟨w8,hw8⟩:∃w8,w7.setRow D #[.slice pc8 nc8 kc8,.slice aw8 n8 kw8,.int .i64 t8]=w8:=⟨_,rfl⟩;rw [hw8] at HId;have HW8:=Lib.hid hw8;clear hw8;go_upto_region 4 with (refine wpList_store_row rfl 34 _ _ rfl D _ rfl rfl 34 _ HR7.out (by kernel_rfl) rfl (by simp [Value.oneCell']) ?_)
      rw [HW8.out];try simp only [Act.put]
      go_wp2_with fail;go_roundw
      case rel=>exact ⟨i+1,_,_,_,_,_,_,_,_,by go_num,by omega,HId⟩
      case measure=>simp [intOf]; omega
  ·have hge:¬(i:Int)<(mo:Int):=by omega
   obtain ⟨d0,d1,d2⟩:=rowc3 HI.out.r7;have HE:=Lib.hid (HI.out.exit (by omega));have HR6:=Lib.hid HI.out.r6;go_wp2_with (refine wpList_store_row rfl 34 _ _ rfl (w.heap.size+1) _ rfl rfl 34 _ HR6.out (by kernel_rfl) rfl (by simp [Value.oneCell']) ?_);refine bodyPost_ret (v:=.agg #[.slice ac cn kc,.slice aw wn kw,.int .i64 t]) (results_cell_row Try.results24 _ _ (w.heap.size+1) 34 _ (0,0) _ rfl (setRow_heap _ _ _ _ 34 (0,0) HR6.out) Try.underlying34 rfl (by kernel_rfl)) rfl ?_;exact HE.out
theorem below_poke {w a b:World} {g:Nat} (h:Below w.heap.size w a) (hg:a.grownBy b (some g)) (hw:w.heap.size≤g):Below w.heap.size w b:=below_grown h hg hw
theorem DeskX.val {P:Nat→Prop} {w:World} {u:Value} {d:DeskM} (h:DeskX P w u d):∃pc nc kc aw kw,u=.agg #[.slice pc nc kc,.slice aw d.wait.length kw,.int .i64 d.tick]:=by
 obtain ⟨vc,vw,rfl,hc,hw⟩:=h;obtain ⟨pc,nc,kc,rfl⟩:=SlHX.sh hc;obtain ⟨aw,kw,rfl,-⟩:=hw.slW.len;exact ⟨_,_,_,_,_,rfl⟩
def chEqB (c d:ChanM):Bool:=c.cap == d.cap && (c.closed == d.closed && c.buf == d.buf)
def sameB (l m:List ChanM):Bool:=l.length == m.length && (List.range l.length).all fun i=>chEqB (l.getD i noChan) (m.getD i noChan)
theorem sameB_len {l m:List ChanM} (h:l.length≠m.length):sameB l m=false:=by
 unfold sameB;rw [show (l.length == m.length)=false by simpa using h];rfl
theorem sameB_no {l m:List ChanM} {i:Nat} (hi:i<l.length) (h:chEqB (l.getD i noChan) (m.getD i noChan)=false):sameB l m=false:=by
 unfold sameB;rw [show ((List.range l.length).all fun i=>chEqB (l.getD i noChan) (m.getD i noChan))=false from List.all_eq_false.2 ⟨i,List.mem_range.2 hi,by rw [h]; simp⟩,Bool.and_false]
theorem sameB_yes {l m:List ChanM} (h:l.length=m.length) (h2:∀i,i<l.length→chEqB (l.getD i noChan) (m.getD i noChan)=true):sameB l m=true:=by
 unfold sameB;rw [h];simp only [beq_self_eq_true,Bool.true_and];rw [← h];exact List.all_eq_true.2 fun i hi=>h2 i (List.mem_range.1 hi)
theorem sameB_refl (l:List ChanM):sameB l l=true:=sameB_yes rfl fun i _=>by
 unfold chEqB;simp
theorem StM.open {G:World→Prop} {v:Value} {m:MemM} (h:StM G v m) (w:World) (hG:G w):∃a cap a2 cap2,v=.agg #[.slice a m.words.length cap,.slice a2 m.lists.length cap2,.int .i64 m.tick]:=by
 obtain ⟨vw,vl,us,rfl,hall⟩:=h;obtain ⟨h1,h2⟩:=hall w hG;obtain ⟨a,cap,rfl,-⟩:=h1.len;obtain ⟨a2,cap2,rfl,-⟩:=h2.len;exact ⟨_,_,_,_,rfl⟩
theorem StM.words {G:World→Prop} {a a2:Option Addr} {n cap n2 cap2:Nat} {t:Int} {m:MemM} (h:StM G (.agg #[.slice a n cap,.slice a2 n2 cap2,.int .i64 t]) m) (w:World) (hG:G w):SlI w .u64 (.slice a n cap) m.words:=by
 obtain ⟨vw,vl,us,e,hall⟩:=h;obtain ⟨h1,h2⟩:=hall w hG;simp only [Value.agg.injEq,Array.mk.injEq,List.cons.injEq,and_true] at e;rw [e.1]; exact h1
theorem sameWords_any (u v:Value) (l m:List Int) (w:World) (hl:SlI w .u64 u l) (hm:SlI w .u64 v m) :
  Calls Try.prog 62 #[u,v] w fun e w'=>∃n,e=.returned (.bool (decide (l=m)))∧w.drewN n=w':=by
 have hmx:=hl.1;have hmx2:=hm.1;obtain ⟨_,_,a,cap,rfl,h4,h5⟩:=hl;obtain ⟨_,_,a',cap',rfl,h4',h5'⟩:=hm;clear h4 h4';by_cases hll:l.length=m.length
 ·have hq:((l.length:Int) != (m.length:Int))=false:=by simp [hll]
  have HL:=Lib.hid hll;have HS:=Lib.hid (ext_same l m hll);clear hll;go_enter Try.func62,Try.ntmps62;go_wp2;go_loopw [5] (fun c wr=>∃k n:Nat,k≤l.length∧c=.int .i64 k∧wr=w.drewN n∧Hid (∀j,j<k→l.getD j 0=m.getD j 0)) (fun c _=>l.length - (intOf c).toNat)
  case atStart=>exact ⟨0,0,by omega,rfl,rfl,fun j hj=>by omega⟩
  case round=>
   obtain ⟨k,n,hk,rfl,rfl,hno⟩:=hrel;by_cases hlt:k<l.length
   ·obtain ⟨b,off,rfl,_,hc⟩:=h5 k hlt
    obtain ⟨b',off',rfl,_,hc'⟩:=h5' k (by rw [← HL.out]; exact hlt);have hlt':k<m.length:=by rw [← HL.out]; exact hlt
    have H5:=Lib.hid h5;have H5':=Lib.hid h5';clear h5 h5';generalize hy:l.getD k 0=y at hc;generalize hz:m.getD k 0=z at hc';have Hy:=Lib.hid hy;have Hz:=Lib.hid hz;clear hy hz;by_cases hyx:y=z
    ·subst hyx
     go_wp2;go_quiet (fail);go_wp2;go_roundw
     case rel=>exact ⟨k+1,n+nq,by omega,by go_num,rfl,fun j hj=>by
      by_cases e:j=k
      ·rw [e,Hy.out,Hz.out]
      ·exact hno.out j (by omega)⟩
     case measure=>simp [intOf]; omega
    ·have hq2:(y == z)=false:=by simpa using hyx
     go_wp2;go_quiet (fail);go_wp2;go_ret;exact ⟨n+nq,ret_bool (by symm; apply decide_eq_false; intro e; apply hyx; rw [← Hy.out,← Hz.out,e]),(World.drewN_drewN w n nq).symm⟩
   ·have e:k=l.length:=by omega
    have E:=Lib.hid e;clear e;go_wp2;go_ret;exact ⟨n,ret_bool (by symm; exact decide_eq_true (HS.out fun j hj=>hno.out j (by rw [E.out]; exact hj))),rfl⟩
 ·have hq:((l.length:Int) != (m.length:Int))=true:=by simpa using fun h=>hll (by omega)
  have hr:=Lib.hid (show decide (l=m)=false from decide_eq_false (by rintro rfl; exact hll rfl));clear hll;go_enter Try.func62,Try.ntmps62;go_wp2;go_ret;exact ⟨0,by rw [hr.out]; rfl,rfl⟩
set_option maxRecDepth 100000 in
set_option maxHeartbeats 16000000 in
theorem rSame_any (v v2:Value) (l m:List ChanM) (w:World) (hv:SlH w v l) (hv2:SlH w v2 m):Calls Try.prog 32 #[v,v2] w fun e w'=>e=.returned (.bool (sameB l m))∧Below w.heap.size w w':=by
 have HV:=Lib.hid hv;have HV2:=Lib.hid hv2;obtain ⟨rb,hrb⟩:∃b,sameB l m=b:=⟨_,rfl⟩;have HLEN:=Lib.hid fun (h:l.length≠m.length)=>sameB_len h;have HNO:=Lib.hid fun i (hi:i<l.length) (h:chEqB (l.getD i noChan) (m.getD i noChan)=false)=>sameB_no (m:=m) hi h;have HYES:=Lib.hid fun (h:l.length=m.length) (h2:∀i,i<l.length→chEqB (l.getD i noChan) (m.getD i noChan)=true)=>sameB_yes h h2;rw [hrb] at HLEN HNO HYES ⊢;obtain ⟨a,cap,hve,-⟩:=hv.len;subst hve;obtain ⟨a2,cap2,hve,-⟩:=hv2.len;subst hve;have hm1:=hv.bound;clear hv hv2 hrb;by_cases hl:l.length=m.length
 ·have HL:=Lib.hid hl
  have hq:((l.length:Int) != (m.length:Int))=false:=by simp [hl]
  obtain ⟨n,hn⟩:∃n,l.length=n:=⟨_,rfl⟩;have hn2:m.length=n:=by rw [← hl,hn]
  rw [hn] at hq hm1;rw [hn2] at hq;rw [hn] at HV ⊢;rw [hn2] at HV2 ⊢;have HN:=Lib.hid (And.intro hn hn2);clear hl hn hn2;go_enter Try.func32,Try.ntmps32;go_wp2_with fail;go_loopw [5] (fun u17 wr=>∃i:Nat,u17=.int .i64 i∧i≤n∧Hid (∀j,j<i→chEqB (l.getD j noChan) (m.getD j noChan)=true)∧Hid (Below w.heap.size w wr)) (fun u17 _=>n - (intOf u17).toNat)
  case atStart=>exact ⟨0,rfl,by omega,fun j hj=>by omega,Below.refl _ _⟩
  case round=>
   obtain ⟨i,rfl,hi,HE,HBi⟩:=hrel;obtain ⟨wo,rfl⟩:∃wo:World,wo=wr:=⟨_,rfl⟩;by_cases hlt:i<n
   ·have hltI:(i:Int)<(n:Int):=by omega
    obtain ⟨b,off,capx,u,hve,hb,c0,c1,c2,hu⟩:=(HV.out.below HBi.out).at i (by rw [HN.out.1]; exact hlt);rw [HN.out.1] at hve;simp only [Value.slice.injEq] at hve;obtain ⟨rfl,-,rfl⟩:=hve;obtain ⟨b2,off2,capx2,u2,hve,hb2,d0,d1,d2,hu2⟩:=(HV2.out.below HBi.out).at i (by rw [HN.out.2]; exact hlt);rw [HN.out.2] at hve;simp only [Value.slice.injEq] at hve;obtain ⟨rfl,-,rfl⟩:=hve;obtain ⟨⟨cc,bf,cl⟩,hx⟩:∃c,l.getD i noChan=c:=⟨_,rfl⟩;obtain ⟨⟨cc2,bf2,cl2⟩,hy⟩:∃c,m.getD i noChan=c:=⟨_,rfl⟩;rw [hx] at c0 c2 hu;rw [hy] at d0 d2 hu2;dsimp only at c0 c2 hu d0 d2 hu2;obtain ⟨ua,uc,rfl,-⟩:=hu.len;obtain ⟨ua2,uc2,rfl,-⟩:=hu2.len;have HXY:=Lib.hid (And.intro hx hy);have TS:=Lib.hid fun w' (hb:Below wo.heap.size wo w')=>(sameWords_any _ _ bf bf2 w' (hu.below hb) (hu2.below hb)).mono fun e w2 (h:∃n,e=_∧w'.drewN n=w2)=>(show e=_∧∃n,w'.drewN n=w2 from by obtain ⟨n,h1,h2⟩:=h; exact ⟨h1,n,h2⟩);obtain ⟨b1,hb1⟩:∃b,(cc != cc2)=b:=⟨_,rfl⟩;obtain ⟨b2q,hb2q⟩:∃b,(cl != cl2)=b:=⟨_,rfl⟩;obtain ⟨b3,hb3⟩:∃b,decide (bf=bf2)=b:=⟨_,rfl⟩;rw [hb3] at TS;have HQ:Hid (chEqB ⟨cc,bf,cl⟩ ⟨cc2,bf2,cl2⟩=(!b1 && (!b2q && b3))):=by
     show _=_;unfold chEqB;dsimp only;have hdec:(bf == bf2)=decide (bf=bf2):=by rw [Bool.eq_iff_iff]; simp
     rw [← hb1,← hb2q,← hb3,hdec];cases cl <;> cases cl2 <;> simp [bne]
    clear hx hy hu hu2 hb3;cases b1 with
    | true=>
     go_upto_region 6 with fail
     have Xc0:=ext_cell _ _ (hb) _ c0;have Xc1:=ext_cell _ _ (hb) _ c1;have Xc2:=ext_cell _ _ (hb) _ c2;have Xd0:=ext_cell _ _ (hb2) _ d0;have Xd1:=ext_cell _ _ (hb2) _ d1;have Xd2:=ext_cell _ _ (hb2) _ d2;clear c0 c1 c2 d0 d1 d2;refine wp_region_ext wo (by kernel_rfl) (by kernel_rfl) (Below.refl _ _) ?_
     repeat (go_big_quiet_step (first | (go_at_call 62; with_reducible exact calls_ext_draw (TS.out _ (Ext.below _)))))
     refine wpQuiet_nil ?_;intro _ hw';obtain ⟨n9,rfl⟩:=hw';have HB9:=Lib.hid (below_then HBi.out n9.below);generalize n9.wd=w9 at *;clear Xc0 Xc1 Xc2 Xd0 Xd1 Xd2 hb hb2 TS;have HQ:Hid (chEqB ⟨cc,bf,cl⟩ ⟨cc2,bf2,cl2⟩=false):=by show _=_; rw [HQ.out]; rfl
     have hr:rb=false:=HNO.out i (by rw [HN.out.1]; exact hlt) (by rw [HXY.out.1,HXY.out.2]; exact HQ.out);subst hr;go_wp2;go_ret;exact ⟨rfl,HB9.out⟩
    | false=>
     cases cl <;> cases cl2
     ·cases b3 with
      | false=>
       go_upto_region 6 with fail
       have Xc0:=ext_cell _ _ (hb) _ c0;have Xc1:=ext_cell _ _ (hb) _ c1;have Xc2:=ext_cell _ _ (hb) _ c2;have Xd0:=ext_cell _ _ (hb2) _ d0;have Xd1:=ext_cell _ _ (hb2) _ d1;have Xd2:=ext_cell _ _ (hb2) _ d2;clear c0 c1 c2 d0 d1 d2;refine wp_region_ext wo (by kernel_rfl) (by kernel_rfl) (Below.refl _ _) ?_
       repeat (go_big_quiet_step (first | (go_at_call 62; with_reducible exact calls_ext_draw (TS.out _ (Ext.below _)))))
       refine wpQuiet_nil ?_;intro _ hw';obtain ⟨n9,rfl⟩:=hw';have HB9:=Lib.hid (below_then HBi.out n9.below);generalize n9.wd=w9 at *;clear Xc0 Xc1 Xc2 Xd0 Xd1 Xd2 hb hb2 TS;have hq9:=HQ.out; rw [← hb2q] at hq9; have HQ:=Lib.hid (hq9.trans (show _=false from rfl));have hr:rb=false:=HNO.out i (by rw [HN.out.1]; exact hlt) (by rw [HXY.out.1,HXY.out.2]; exact HQ.out);subst hr;go_wp2;go_ret;exact ⟨rfl,HB9.out⟩
      | true=>
       go_upto_region 6 with fail
       have Xc0:=ext_cell _ _ (hb) _ c0;have Xc1:=ext_cell _ _ (hb) _ c1;have Xc2:=ext_cell _ _ (hb) _ c2;have Xd0:=ext_cell _ _ (hb2) _ d0;have Xd1:=ext_cell _ _ (hb2) _ d1;have Xd2:=ext_cell _ _ (hb2) _ d2;clear c0 c1 c2 d0 d1 d2;refine wp_region_ext wo (by kernel_rfl) (by kernel_rfl) (Below.refl _ _) ?_
       repeat (go_big_quiet_step (first | (go_at_call 62; with_reducible exact calls_ext_draw (TS.out _ (Ext.below _)))))
       refine wpQuiet_nil ?_;intro _ hw';obtain ⟨n9,rfl⟩:=hw';have HB9:=Lib.hid (below_then HBi.out n9.below);generalize n9.wd=w9 at *;clear Xc0 Xc1 Xc2 Xd0 Xd1 Xd2 hb hb2 TS;have hq9:=HQ.out; rw [← hb2q] at hq9; have HQ:=Lib.hid (hq9.trans (show _=true from rfl));go_wp2_with fail;go_roundw
       case rel=>exact ⟨i+1,by go_num,by omega,fun j hj=>by
        by_cases e:j=i
        ·rw [e,HXY.out.1,HXY.out.2]; exact HQ.out
        ·exact HE.out j (by omega),HB9⟩
       case measure=>simp [intOf]; omega
     ·skip
      go_upto_region 6 with fail
      have Xc0:=ext_cell _ _ (hb) _ c0;have Xc1:=ext_cell _ _ (hb) _ c1;have Xc2:=ext_cell _ _ (hb) _ c2;have Xd0:=ext_cell _ _ (hb2) _ d0;have Xd1:=ext_cell _ _ (hb2) _ d1;have Xd2:=ext_cell _ _ (hb2) _ d2;clear c0 c1 c2 d0 d1 d2;refine wp_region_ext wo (by kernel_rfl) (by kernel_rfl) (Below.refl _ _) ?_
      repeat (go_big_quiet_step (first | (go_at_call 62; with_reducible exact calls_ext_draw (TS.out _ (Ext.below _)))))
      refine wpQuiet_nil ?_;intro _ hw';obtain ⟨n9,rfl⟩:=hw';have HB9:=Lib.hid (below_then HBi.out n9.below);generalize n9.wd=w9 at *;clear Xc0 Xc1 Xc2 Xd0 Xd1 Xd2 hb hb2 TS;have hq9:=HQ.out; rw [← hb2q] at hq9; have HQ:=Lib.hid (hq9.trans (show _=false from rfl));have hr:rb=false:=HNO.out i (by rw [HN.out.1]; exact hlt) (by rw [HXY.out.1,HXY.out.2]; exact HQ.out);subst hr;go_wp2;go_ret;exact ⟨rfl,HB9.out⟩
     ·skip
      go_upto_region 6 with fail
      have Xc0:=ext_cell _ _ (hb) _ c0;have Xc1:=ext_cell _ _ (hb) _ c1;have Xc2:=ext_cell _ _ (hb) _ c2;have Xd0:=ext_cell _ _ (hb2) _ d0;have Xd1:=ext_cell _ _ (hb2) _ d1;have Xd2:=ext_cell _ _ (hb2) _ d2;clear c0 c1 c2 d0 d1 d2;refine wp_region_ext wo (by kernel_rfl) (by kernel_rfl) (Below.refl _ _) ?_
      repeat (go_big_quiet_step (first | (go_at_call 62; with_reducible exact calls_ext_draw (TS.out _ (Ext.below _)))))
      refine wpQuiet_nil ?_;intro _ hw';obtain ⟨n9,rfl⟩:=hw';have HB9:=Lib.hid (below_then HBi.out n9.below);generalize n9.wd=w9 at *;clear Xc0 Xc1 Xc2 Xd0 Xd1 Xd2 hb hb2 TS;have hq9:=HQ.out; rw [← hb2q] at hq9; have HQ:=Lib.hid (hq9.trans (show _=false from rfl));have hr:rb=false:=HNO.out i (by rw [HN.out.1]; exact hlt) (by rw [HXY.out.1,HXY.out.2]; exact HQ.out);subst hr;go_wp2;go_ret;exact ⟨rfl,HB9.out⟩
     ·cases b3 with
      | false=>
       go_upto_region 6 with fail
       have Xc0:=ext_cell _ _ (hb) _ c0;have Xc1:=ext_cell _ _ (hb) _ c1;have Xc2:=ext_cell _ _ (hb) _ c2;have Xd0:=ext_cell _ _ (hb2) _ d0;have Xd1:=ext_cell _ _ (hb2) _ d1;have Xd2:=ext_cell _ _ (hb2) _ d2;clear c0 c1 c2 d0 d1 d2;refine wp_region_ext wo (by kernel_rfl) (by kernel_rfl) (Below.refl _ _) ?_
       repeat (go_big_quiet_step (first | (go_at_call 62; with_reducible exact calls_ext_draw (TS.out _ (Ext.below _)))))
       refine wpQuiet_nil ?_;intro _ hw';obtain ⟨n9,rfl⟩:=hw';have HB9:=Lib.hid (below_then HBi.out n9.below);generalize n9.wd=w9 at *;clear Xc0 Xc1 Xc2 Xd0 Xd1 Xd2 hb hb2 TS;have hq9:=HQ.out; rw [← hb2q] at hq9; have HQ:=Lib.hid (hq9.trans (show _=false from rfl));have hr:rb=false:=HNO.out i (by rw [HN.out.1]; exact hlt) (by rw [HXY.out.1,HXY.out.2]; exact HQ.out);subst hr;go_wp2;go_ret;exact ⟨rfl,HB9.out⟩
      | true=>
       go_upto_region 6 with fail
       have Xc0:=ext_cell _ _ (hb) _ c0;have Xc1:=ext_cell _ _ (hb) _ c1;have Xc2:=ext_cell _ _ (hb) _ c2;have Xd0:=ext_cell _ _ (hb2) _ d0;have Xd1:=ext_cell _ _ (hb2) _ d1;have Xd2:=ext_cell _ _ (hb2) _ d2;clear c0 c1 c2 d0 d1 d2;refine wp_region_ext wo (by kernel_rfl) (by kernel_rfl) (Below.refl _ _) ?_
       repeat (go_big_quiet_step (first | (go_at_call 62; with_reducible exact calls_ext_draw (TS.out _ (Ext.below _)))))
       refine wpQuiet_nil ?_;intro _ hw';obtain ⟨n9,rfl⟩:=hw';have HB9:=Lib.hid (below_then HBi.out n9.below);generalize n9.wd=w9 at *;clear Xc0 Xc1 Xc2 Xd0 Xd1 Xd2 hb hb2 TS;have hq9:=HQ.out; rw [← hb2q] at hq9; have HQ:=Lib.hid (hq9.trans (show _=true from rfl));go_wp2_with fail;go_roundw
       case rel=>exact ⟨i+1,by go_num,by omega,fun j hj=>by
        by_cases e:j=i
        ·rw [e,HXY.out.1,HXY.out.2]; exact HQ.out
        ·exact HE.out j (by omega),HB9⟩
       case measure=>simp [intOf]; omega
   ·have hge:¬(i:Int)<(n:Int):=by omega
    have hr:rb=true:=HYES.out HL.out fun j hj=>HE.out j (by rw [HN.out.1] at hj; omega);subst hr;go_wp2;go_ret;exact ⟨rfl,HBi.out⟩
 ·have hq:((l.length:Int) != (m.length:Int))=true:=by simp; omega
  have hr:rb=false:=HLEN.out hl;subst hr;clear hl;go_enter Try.func32,Try.ntmps32;go_wp2;go_ret;exact ⟨rfl,Below.refl _ _⟩
end Go.Proofs.Ytiekicailidhcaa
