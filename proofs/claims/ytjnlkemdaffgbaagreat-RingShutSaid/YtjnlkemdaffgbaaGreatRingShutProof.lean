/- Proved: RingShut returns true, and its arguments read afterwards as before, for every list of codes, every list of picks and every number; no condition. -/
import Derived.LoopTactic
import Derived.WalkKit
import Derived.ProofKit
import Derived.OpenShut
import Derived.SizedLaws
import Derived.Test.YtjnlkemdaffgbaaGreatB01
import Derived.Test.YtjnlkemdaffgbaaGreatB26
namespace Go.Proofs.YtjnlkemdaffgbaaGreat.ringShut
open Go.ChangeShapes Go.WideShapes Go.ChangeAt Go.RowKit
set_option linter.unusedVariables false
set_option linter.unusedSimpArgs false
set_option maxRecDepth 100000 in
set_option maxHeartbeats 32000000 in
theorem walk (w:World) (v0:Value) (l0:List Int) (s0:SlI w .u8 v0 l0) (v1:Value) (l1:List Int) (s1:SlI w .u8 v1 l1) (a2:Int) (w2:(Lit.int .u8 a2).wf=true) :
  Calls Tryz.prog 4 #[v0,v1,.int .u8 a2] w fun e w'=>e=.returned (.bool true)∧Below w.heap.size w w':=by
 have HS0:=Lib.hid s0;have HS1:=Lib.hid s1;have hn1:0≤a2∧a2<256:=by
  have h1:=wrap_of_wf w2;rw [IntKind.wrap_u8] at h1;omega
 obtain ⟨q,hq⟩:∃q:Nat,a2.tmod 3=(q:Int):=⟨(a2.tmod 3).toNat,by have:=Int.tmod_nonneg 3 hn1.1; omega⟩;have hq4:q≤2:=by have:=Int.tmod_lt_of_pos a2 (b:=3) (by omega); omega
 have hqu:IntKind.u8.wrap (q:Int)=q:=by rw [IntKind.wrap_u8]; omega
 have hqi:IntKind.i64.wrap (q:Int)=q:=by rw [IntKind.wrap_i64]; omega
 have hqm:a2 % 3=(q:Int):=by rw [← hq,Int.tmod_eq_emod_of_nonneg hn1.1]
 have hq5:IntKind.i64.wrap (1+(q:Int))=((q+1:Nat):Int):=by rw [IntKind.wrap_i64]; omega
 clear s0 s1 w2 hn1;go_enter Tryz.func4,Tryz.ntmps4;go_wp2_with fail;refine (awake8_any _).mono ?_; rintro e wa ⟨rfl,hba⟩;have HBA:=Lib.hid hba;clear hba;have HO:=Lib.hid (run_any v0 v1 l0 l1 (q+1) (by omega) wa (HS0.out.below HBA.out) (HS1.out.below HBA.out));go_upto_region 3 with fail
 go_wp2_with fail;try rw [hq5]
 refine HO.out.mono ?_;clear hq hqu hqi hqm hq5 HO HS0 HS1;rintro e wb ⟨B,g,x,y,c,N,k0,is,rfl,HL,HW,HIS,HG⟩;have HN:Hid (1≤N∧N≤11):=by
  obtain ⟨j,hj,-⟩:=HG.out.2.2.2.2.2 (by omega);have:=HG.out.2.2.2.2.1;exact ⟨by omega,by omega⟩
 have HSH:Hid (y.l.countP shutB=1∧(y.t.map fun z=>(z.thr.toNat,casI z)).foldl (follow y.l) (some false)=some true):=by
  obtain ⟨j,hj,hjw⟩:=HG.out.2.2.2.2.2 (by omega);have hjl:j<k0.length:=by rw [HG.out.2.2.2.1]; exact hj
  have h1:=ring_shut HG.out.1 HG.out.2.1 (newE_fits HG.out.1) k0 HG.out.2.2.1 (by have:=HN.out.2; have:=HG.out.2.2.2.1; omega) is (fun i hi=>by rw [HG.out.2.2.2.1]; exact HIS.out.1 i hi) j hjl (hjw _ (List.getElem?_eq_getElem hjl)) (by have:=HIS.out.2 j hj; have:=HN.out.2; have:=HG.out.2.2.2.1; omega);rw [← HW.out] at h1;exact h1
 have HGC:Hid (c.good∧1≤c.caps.length):=⟨HG.out.1,HG.out.2.1⟩;have hLN:Hid (y.l.length=N):=by have h1:=HL.out.fr.1; have h2:=HL.out.len; show _=_; omega
 have row0:=HL.out.wi.row;unfold WV.rrow at row0;rw [HL.out.len] at row0;obtain ⟨x0,x1,x2,x3,x4,x5,x6,x7,x8⟩:=rowc9 row0;clear row0 x0 x1 x2 x3 x4 x5 x7 x8 HW HIS HG hq4;go_wp2_with fail;clear x6;go_loopw [8,29] (fun u8 u29 wr=>∃(i:Nat),u8=.int .i64 ((y.l.take i).countP shutB:Nat)∧u29=.int .i64 i∧i≤N∧Hid (RL wa wr [some g] B x y c N (200+200 * 20))) (fun _ u29 _=>20 - (intOf u29).toNat)
 case atStart=>exact ⟨0,rfl,rfl,by omega,HL⟩
 case round=>
  clear HL;obtain ⟨i,rfl,rfl,hi,HL⟩:=hrel;obtain ⟨wo,rfl⟩:∃wo:World,wo=wr:=⟨_,rfl⟩;by_cases hlt:i<N
  ·have hltI:(i:Int)<(N:Int):=by omega
   obtain ⟨m,hm⟩:∃m,y.l[i]?=some m:=⟨_,List.getElem?_eq_getElem (by rw [hLN.out]; omega)⟩;have hct:=countP_take (p:=shutB) y.l i m hm;obtain ⟨sb,hsb⟩:∃sb,shutB m=sb:=⟨_,rfl⟩;rw [hsb] at hct;have HCT:=Lib.hid hct;unfold shutB at hsb;obtain ⟨fl,fc,v,r0,r1,s2,k2,l2,s3,k3,l3,s4,k4,l4,hin,hfl,hBl,c6,f0,f1,f2,f3,f4,f5,f6,TE⟩:=HL.out.ends i m hm;have HM:=Lib.hid hm;obtain ⟨wh,hwh⟩:∃wh,m.what=wh:=⟨_,rfl⟩;obtain ⟨ok,hok⟩:∃ok,m.ok=ok:=⟨_,rfl⟩;obtain ⟨ov,hov⟩:∃ov,m.ov=ov:=⟨_,rfl⟩;obtain ⟨pb,hpb⟩:∃pb,(m.pl == 0)=pb:=⟨_,rfl⟩;have HWH:=Lib.hid hwh;rw [hwh,hok,hov,hpb] at TE;rw [hwh,hok,hpb] at hsb;rw [hwh] at f0;have HSB:=Lib.hid hsb;clear hct hsb hwh hok hov hpb hm;go_wp2_with fail;refine (TE.out _ (Below.refl _ _)).mono ?_; rintro e we ⟨rfl,hbe⟩;have HLe:=Lib.hid (HL.out.next hbe);clear hbe c6 f0 f1 f2 f3 f4 f5 f6 TE hfl hBl HL;obtain ⟨W7,hW7⟩:∃W7,(we.alloc (.cells #[.int .i64 0,.int .u64 0] 47)).setRow we.heap.size #[.int .i64 ok,.int .u64 ov]=W7:=⟨_,rfl⟩;have N7:Hid ((we.alloc (.cells #[.int .i64 0,.int .u64 0] 47)).heap[we.heap.size]?=some (.cells #[.int .i64 0,.int .u64 0] 47 (0,0))):=heap_alloc_new _ _;have HB7:Hid (Below we.heap.size we W7):=hW7▸row_below (below_new (Below.refl _ _) _) (Nat.le_refl _) _;have R7:Hid (W7.heap[we.heap.size]?=some (.cells #[.int .i64 ok,.int .u64 ov] 47 (0,0))):=hW7▸setRow_heap _ _ _ _ _ (0,0) N7.out;have HW7:=Lib.hid hW7;clear hW7;go_upto_region 9 with (refine wpList_store_row rfl 47 _ _ rfl (we.heap.size) _ rfl rfl 47 _ N7.out (by kernel_rfl) rfl (by simp [Value.oneCell']) ?_)
   rw [HW7.out];try simp only [Act.put]
   clear HW7 N7;have HLo:=Lib.hid (HLe.out.next HB7.out);obtain ⟨o0,o1⟩:=rowc2 R7.out;obtain ⟨fl2,fc2,v2,r02,r12,s22,k22,l22,s32,k32,l32,s42,k42,l42,hin2,hfl2,hBl2,c62,f02,f12,f22,f32,f42,f52,f62,-⟩:=HLo.out.ends i m HM.out;rw [HWH.out] at f02;clear f12 f22 f32 f42 f52 f62 HLe HB7 R7 hin hin2;go_cut [59] (fun s59 wx=>Hid (s59=.bool sb)∧Hid (RL wa wx [some g] B x y c N (200+200 * 20)))
   case first=>
    cases pb with
    | false=>
     clear o0 o1 c62 f02;go_wp2_with fail;go_meet;exact ⟨Lib.hid (by rw [← HSB.out]; simp),HLo⟩
    | true=>
     by_cases hw5:wh=5
     ·subst hw5
      by_cases ho1:ok=1
      ·subst ho1
       go_wp2_with fail;go_meet;exact ⟨Lib.hid (by rw [← HSB.out]; simp),HLo⟩
      ·have ho2:=ne_beq ho1
       go_wp2_with fail;go_meet;exact ⟨Lib.hid (by rw [← HSB.out]; simp [ho1]),HLo⟩
     ·have hw6:=ne_beq hw5
      clear o0 o1;go_wp2_with fail;go_meet;exact ⟨Lib.hid (by rw [← HSB.out]; simp [hw5]),HLo⟩
   case rest=>
    clear HLo o0 o1 c62 f02;obtain ⟨hs,HLo⟩:=hcut;obtain ⟨w9,rfl⟩:∃w9:World,w9=wc:=⟨_,rfl⟩;have hs59:=hs.out;subst hs59;clear hs HSB;obtain ⟨kk,hkk⟩:∃kk:Nat,(y.l.take i).countP shutB=kk:=⟨_,rfl⟩;have hk5:kk≤11:=by rw [← hkk]; exact Nat.le_trans List.countP_le_length (by rw [List.length_take]; have:=HN.out.2; omega)
    have HCT2:Hid ((y.l.take (i+1)).countP shutB=kk+if sb=true then 1 else 0):=by rw [← hkk]; exact HCT.out
    have hkw:IntKind.i64.wrap ((kk:Int)+1)=((kk+1:Nat):Int):=by rw [IntKind.wrap_i64]; omega
    rw [hkk];clear hkk HCT;have hi20:i≤11:=by have:=HN.out.2; omega
    cases sb with
    | true=>
     go_wp2_with fail;go_roundw
     case rel=>exact ⟨i+1,by rw [HCT2.out]; first | exact congrArg (Value.int .i64) hkw | rfl | (simp; omega),by go_num,by omega,HLo⟩
     case measure=>simp [intOf]; omega
    | false=>
     go_wp2_with fail;go_roundw
     case rel=>exact ⟨i+1,by rw [HCT2.out]; first | rfl | simp,by go_num,by omega,HLo⟩
     case measure=>simp [intOf]; omega
  ·have hge:¬(i:Int)<(N:Int):=by omega
   have hin:i=N:=by omega
   have htk:(y.l.take i).countP shutB=1:=by rw [hin,← hLN.out,List.take_length]; exact HSH.out.1
   rw [htk];obtain ⟨T,hT⟩:∃T,y.t.length=T:=⟨_,rfl⟩;have HT:Hid (y.t.length=T):=hT;have hT5:T≤4200:=by rw [← hT]; exact HL.out.small.1
   have row0:=HL.out.wi.row;unfold WV.rrow at row0;rw [hT] at row0;obtain ⟨x0,x1,x2,x3,x4,x5,x6,x7,x8⟩:=rowc9 row0;clear row0 x0 x1 x2 x3 x4 x5 x6 x8 hT hin htk hlt hi;go_wp2_with fail;clear x7 hge;go_loopw [12,68] (fun u12 u68 wr=>∃(i:Nat) (cl:Bool),u12=.bool cl∧u68=.int .i64 i∧i≤T∧Hid (((y.t.map fun z=>(z.thr.toNat,casI z)).take i).foldl (follow y.l) (some false)=some cl)∧Hid (RL wa wr [some g] B x y c N (200+200 * 20))) (fun _ u68 _=>4201 - (intOf u68).toNat)
   case atStart=>exact ⟨0,false,rfl,rfl,by omega,Lib.hid rfl,HL⟩
   case round=>
    clear HL;obtain ⟨i,cl,rfl,rfl,hi,HF,HL⟩:=hrel;obtain ⟨wo,rfl⟩:∃wo:World,wo=wr:=⟨_,rfl⟩;by_cases hlt:i<T
    ·have hltI:(i:Int)<(T:Int):=by omega
     have hit:i<y.t.length:=by rw [HT.out]; exact hlt
     obtain ⟨tl,tc,htA,htc,htl,hr⟩:=HL.out.wi.traceAt i hit;obtain ⟨z,hz⟩:∃z,y.t[i]=z:=⟨_,rfl⟩;rw [hz] at hr;have hthr:=HL.out.thr _ (List.getElem_mem hit);rw [hz] at hthr;have HFA:=Lib.hid (follow_at y.l (y.t.map fun z=>(z.thr.toNat,casI z)) true HSH.out.2 i (z.thr.toNat,casI z) (by rw [List.getElem?_map,List.getElem?_eq_getElem hit,hz]; rfl) cl HF.out);obtain ⟨th,⟨kd,ad,od,nw,ti⟩,vl,ok⟩:=z;obtain ⟨tn,htn⟩:∃tn:Nat,th=(tn:Int):=⟨th.toNat,by have h0:(0:Int)≤th:=hthr.1; omega⟩;subst htn;have htN:tn<N:=by have:=hthr.2; exact Int.ofNat_lt.1 this
     have g0:=hr 0 _ rfl;have g1:=hr 1 _ rfl;have g2:=hr 2 _ rfl;have g3:=hr 3 _ rfl;have g4:=hr 4 _ rfl;have g5:=hr 5 _ rfl;have g6:=hr 6 _ rfl;have g7:=hr 7 _ rfl;simp only [Addr.add,Nat.add_zero] at g0 g1 g2 g3 g4 g5 g6 g7;have HTA:=Lib.hid htA;have HTC:=Lib.hid htc;clear hr hz hit hthr htA htc HF;obtain ⟨W7,hW7⟩:∃W7,(wo.alloc (.cells #[.int .i64 0,.int .i64 0,.int .i64 0,.int .u64 0,.int .u64 0,.int .i64 0,.int .u64 0,.bool false] 58)).setRow wo.heap.size #[.int .i64 tn,.int .i64 kd,.int .i64 ad,.int .u64 od,.int .u64 nw,.int .i64 ti,.int .u64 vl,.bool ok]=W7:=⟨_,rfl⟩;have N7:Hid ((wo.alloc (.cells #[.int .i64 0,.int .i64 0,.int .i64 0,.int .u64 0,.int .u64 0,.int .i64 0,.int .u64 0,.bool false] 58)).heap[wo.heap.size]?=some (.cells #[.int .i64 0,.int .i64 0,.int .i64 0,.int .u64 0,.int .u64 0,.int .i64 0,.int .u64 0,.bool false] 58 (0,0))):=heap_alloc_new _ _;have HB7:Hid (Below wo.heap.size wo W7):=hW7▸row_below (below_new (Below.refl _ _) _) (Nat.le_refl _) _;have R7:Hid (W7.heap[wo.heap.size]?=some (.cells #[.int .i64 tn,.int .i64 kd,.int .i64 ad,.int .u64 od,.int .u64 nw,.int .i64 ti,.int .u64 vl,.bool ok] 58 (0,0))):=hW7▸setRow_heap _ _ _ _ _ (0,0) N7.out;have HW7:=Lib.hid hW7;clear hW7;have e2:=HTA.out;rw [e2];clear e2;go_upto_region 16 with (refine wpList_store_row rfl 58 _ _ rfl (wo.heap.size) _ rfl rfl 58 _ N7.out (by kernel_rfl) rfl (by simp [Value.oneCell']) ?_)
     rw [HW7.out];try simp only [Act.put]
     have HLo:=Lib.hid (HL.out.next HB7.out);have hP:Hid (wo.heap.size<W7.heap.size):=(ltR R7);obtain ⟨PI,hPI⟩:∃PI,wo.heap.size=PI:=⟨_,rfl⟩;rw [hPI] at R7 hP;rw [hPI];clear g0 g1 g2 g3 g4 g5 g6 g7 HW7 N7 HB7 hPI HL htl;have hcv:=HLo.out.wi.confV;rw [HLo.out.ce] at hcv;unfold WV.vc WV.vs at hcv;have TT:=Lib.hid fun w' (hb:Below W7.heap.size W7 w')=>rtail_any _ c 0 w' (hcv.below hb) (Nat.zero_le _) HGC.out.1;rw [show c.base 0=0 from rfl] at TT;have row0:=HLo.out.wi.row;unfold WV.rrow at row0;rw [HLo.out.ce] at row0;obtain ⟨x0,x1,x2,x3,x4,x5,x6,x7,x8⟩:=rowc9 row0;have hBl:=HLo.out.wi.lt;have X0:=ext_cell _ _ hBl _ x0;have X1:=ext_cell _ _ hBl _ x1;have X2:=ext_cell _ _ hBl _ x2;obtain ⟨g0,g1,g2,g3,g4,g5,g6,g7⟩:=rowc8 R7.out;have G1:=ext_cell _ _ hP.out _ g1;have G2:=ext_cell _ _ hP.out _ g2;have G7:=ext_cell _ _ hP.out _ g7;obtain ⟨ci,hci⟩:∃ci,casI ⟨(tn:Int),⟨kd,ad,od,nw,ti⟩,vl,ok⟩=ci:=⟨_,rfl⟩;rw [hci] at HFA;unfold casI at hci;have HCI:Hid ((kd == 3 && (ad == 0 && ok))=ci):=hci;clear hci row0 x0 x1 x2 x3 x4 x5 x6 x7 x8 g0 g1 g2 g3 g4 g5 g6 g7 hcv;go_cut [91] (fun s91 wx=>Hid (s91=.bool (!ci))∧Hid (RL wa wx [some g] B x y c N (200+200 * 20))∧Hid (wx.heap[PI]?=some (.cells #[.int .i64 tn,.int .i64 kd,.int .i64 ad,.int .u64 od,.int .u64 nw,.int .i64 ti,.int .u64 vl,.bool ok] 58 (0,0))))
     case first=>
      by_cases hk:kd=3
      ·subst hk
       cases ok with
       | false=>
        clear X0 X1 X2 TT;refine wp_region_ext W7 (by kernel_rfl) (by kernel_rfl) (Below.refl _ _) ?_
        repeat (go_big_quiet_step (fail))
        refine wpQuiet_nil ?_;intro _ hw';obtain ⟨n9,rfl⟩:=hw';have HL9:=Lib.hid (HLo.out.next n9.below);have R9:=Lib.hid ((n9.below.block PI hP.out).trans R7.out);generalize n9.wd=w10 at *;go_wp2_with fail;go_meet;exact ⟨Lib.hid (by rw [← HCI.out]; simp),HL9,R9⟩
       | true=>
        by_cases ha:ad=0
        ·subst ha
         refine wp_region_ext W7 (by kernel_rfl) (by kernel_rfl) (Below.refl _ _) ?_
         repeat (go_big_quiet_step (first
          | (go_at_call 7; with_reducible exact calls_ext (TT.out _ (Ext.below _)))))
         refine wpQuiet_nil ?_;intro _ hw';obtain ⟨n9,rfl⟩:=hw';have HL9:=Lib.hid (HLo.out.next n9.below);have R9:=Lib.hid ((n9.below.block PI hP.out).trans R7.out);generalize n9.wd=w10 at *;go_wp2_with fail;go_meet;exact ⟨Lib.hid (by rw [← HCI.out]; simp),HL9,R9⟩
        ·have ha2:=ne_beq ha
         refine wp_region_ext W7 (by kernel_rfl) (by kernel_rfl) (Below.refl _ _) ?_
         repeat (go_big_quiet_step (first
          | (go_at_call 7; with_reducible exact calls_ext (TT.out _ (Ext.below _)))))
         refine wpQuiet_nil ?_;intro _ hw';obtain ⟨n9,rfl⟩:=hw';have HL9:=Lib.hid (HLo.out.next n9.below);have R9:=Lib.hid ((n9.below.block PI hP.out).trans R7.out);generalize n9.wd=w10 at *;go_wp2_with fail;go_meet;exact ⟨Lib.hid (by rw [← HCI.out]; simp [bne]),HL9,R9⟩
      ·have hk2:=ne_beq hk
       have hk3:(kd != 3)=true:=by simp [bne,hk2]
       clear X0 X1 X2 TT;refine wp_region_ext W7 (by kernel_rfl) (by kernel_rfl) (Below.refl _ _) ?_
       repeat (go_big_quiet_step (fail))
       refine wpQuiet_nil ?_;intro _ hw';obtain ⟨n9,rfl⟩:=hw';have HL9:=Lib.hid (HLo.out.next n9.below);have R9:=Lib.hid ((n9.below.block PI hP.out).trans R7.out);generalize n9.wd=w10 at *;go_wp2_with fail;go_meet;exact ⟨Lib.hid (by rw [← HCI.out]; simp [hk]),HL9,R9⟩
     case rest=>
      clear HLo X0 X1 X2 G1 G2 G7 TT hBl hP R7;obtain ⟨hs,HLo,R9⟩:=hcut;obtain ⟨w9,rfl⟩:∃w9:World,w9=wc:=⟨_,rfl⟩;have hs91:=hs.out;subst hs91;clear hs HCI;cases ci with
      | false=>
       have HF2:=Lib.hid (HFA.out.1 rfl);clear HFA;go_wp2_with fail;go_roundw
       case rel=>exact ⟨i+1,cl,rfl,by go_num,by omega,HF2,HLo⟩
       case measure=>simp [intOf]; omega
      | true=>
       obtain ⟨hcl,hf2⟩:=HFA.out.2 rfl;subst hcl;have HF2:=Lib.hid hf2;clear HFA hf2;obtain ⟨m,hm⟩:∃m,y.l[tn]?=some m:=⟨_,List.getElem?_eq_getElem (by rw [hLN.out]; exact htN)⟩;obtain ⟨fl2,fc2,v2,r02,r12,s22,k22,l22,s32,k32,l32,s42,k42,l42,hin2,hfl2,hBl2,c62,f02,f12,f22,f32,f42,f52,f62,-⟩:=HLo.out.ends tn m hm;have HE:Hid (((y.l[((tn:Nat):Int).toNat]?.map MachM.what) == some 5)=(m.what == 5)):=by
        rw [Int.toNat_natCast,hm];rfl
       have HF3:Hid (((y.t.map fun z=>(z.thr.toNat,casI z)).take (i+1)).foldl (follow y.l) (some false)=some (m.what == 5)):=by rw [← HE.out]; exact HF2.out
       obtain ⟨wh,hwh⟩:∃wh,m.what=wh:=⟨_,rfl⟩;rw [hwh] at f02 HF3;have htnI:(tn:Int)<(N:Int):=by omega
       have hPl:=(ltR R9);have X6:=ext_cell _ _ hBl2 _ c62;have F0:=ext_cell _ _ hfl2 _ f02;have G0:=ext_cell _ _ hPl _ (rowc8 R9.out).1;clear f12 f22 f32 f42 f52 f62 c62 f02 HE HF2 hm hwh hin2;go_upto_region 19 with fail
       refine wp_region_ext w9 (by kernel_rfl) (by kernel_rfl) (Below.refl _ _) ?_
       repeat (go_big_quiet_step (fail))
       refine wpQuiet_nil ?_;intro _ hw';obtain ⟨n9,rfl⟩:=hw';have HL9:=Lib.hid (HLo.out.next n9.below);generalize n9.wd=w10 at *;clear X6 F0 G0 HLo R9 hPl;go_wp2_with fail;go_roundw
       case rel=>exact ⟨i+1,wh == 5,by first | rfl | simp,by go_num,by omega,HF3,HL9⟩
       case measure=>simp [intOf]; omega
    ·have hge:¬(i:Int)<(T:Int):=by omega
     have hcl:cl=true:=by
      have h1:=HF.out;rw [List.take_of_length_le (by rw [List.length_map,HT.out]; omega),HSH.out.2] at h1;exact (Option.some.inj h1).symm
     subst hcl;have HBF:=Lib.hid (below_then HBA.out HL.out.wi.below);clear HL HF;go_wp2_with fail;go_ret;exact ⟨rfl,HBF.out⟩
set_option maxRecDepth 100000 in
theorem lifted (os:Os) (started:os.Started) (H:Type) (enc:TypeId × Value→H) :
  ReturnsInHanded {} Tryz.checked os 4 .any (Rows.ringShutSpec.pre6 enc Tryz.prog Tryz.f4 Rows.ringShutRow.domain false) (Rows.ringShutSpec.post enc Tryz.prog Tryz.f4 false true false false):=by
 refine returnsInHanded_of_change_sized (C:=Tryz.checked) own started (by kernel_rfl) Tryz.func4
  (ChangeSpec.witness6 (enc:=enc) (C:=Tryz.checked) false ⟨#[],#[.slice none 0 0,.slice none 0 0,.int .u8 0],[]⟩ 8 (by kernel_rfl) (by kernel_rfl) (by kernel_rfl) (by kernel_rfl)) ?_
 intro W base args ds gs before hval0 hW _ hsz0 _;have hsz:(DataW.weightsEach Tryz.prog (Tryz.f4.params.toList ++ Rows.ringShutSpec.plain.varTypes Tryz.prog) (ds ++ gs)).all (·≤reachBytes)=true:=hsz0;clear hsz0;have hval:∀(j:Nat) t v,Tryz.f4.params[j]?=some t→args[j]?=some v→Value.okWide Tryz.prog W .any base t v:=hval0;have hW':=hW;obtain ⟨p,q,hA0,hV,rfl,_,_⟩:=hW;have hA:DataW.TrodAll enc Tryz.prog W 0 (fun _=>true) true Tryz.f4.params.toList args.toList ds p:=hA0;rw [Tryz.params4] at hA hval hsz;obtain ⟨v0,vs0,d0,ds0,p0,q0,hargs,rfl,rfl,h0,r0⟩:=trodAll_cons hA;obtain ⟨v1,vs1,d1,ds1,p1,q1,rfl,rfl,rfl,h1,r1⟩:=trodAll_cons r0;obtain ⟨v2,vs2,d2,ds2,p2,q2,rfl,rfl,rfl,h2,r2⟩:=trodAll_cons r1;obtain ⟨rfl,rfl,rfl⟩:=trodAll_nil r2;obtain rfl:args=#[v0,v1,v2]:=by cases args; simp_all
 obtain ⟨rfl,rfl⟩:=trodVars_none hV;have k0:=h0;have k1:=h1;have k2:=h2;obtain ⟨l0,s0⟩:=view_sl (k:=.u8) Tryz.underlying22 Tryz.underlying5 (by kernel_rfl) (fun elems sp hd=>sized_slice hsz (j:=0) (t:=22) (e:=5) rfl (by rw [hd]; rfl) Tryz.underlying22) (of_decide_eq_true (by kernel_rfl)) (hval 0 22 v0 rfl rfl) h0;obtain ⟨l1,s1⟩:=view_sl (k:=.u8) Tryz.underlying22 Tryz.underlying5 (by kernel_rfl) (fun elems sp hd=>sized_slice hsz (j:=1) (t:=22) (e:=5) rfl (by rw [hd]; rfl) Tryz.underlying22) (of_decide_eq_true (by kernel_rfl)) (hval 1 22 v1 rfl rfl) h1;obtain ⟨a2,rfl,-,-,w2⟩:=open_int Tryz.underlying5 (hval 2 5 v2 rfl rfl) h2;clear hA0 hval0;simp only [List.append_nil] at hW';have hlt:=hW'.lt;refine (walk W v0 l0 s0 v1 l1 s1 a2 w2).mono fun e W' ⟨he,hb⟩=>?_;subst he;exact ⟨_,rfl,_,_,_,[],_,[],hW',trodAll_cons_mk (shut_bool Tryz.underlying4 _) trodAll_mk0,(trodAll_cons_mk (Below.trod Tryz.laidOut (by kernel_rfl) (of_decide_eq_true (by kernel_rfl)) k0 hb (fun x hx=>by simpa using hlt x (by simp [hx]))) (trodAll_cons_mk (Below.trod Tryz.laidOut (by kernel_rfl) (of_decide_eq_true (by kernel_rfl)) k1 hb (fun x hx=>by simpa using hlt x (by simp [hx]))) (trodAll_cons_mk (Below.trod Tryz.laidOut (by kernel_rfl) (of_decide_eq_true (by kernel_rfl)) k2 hb (fun x hx=>by simpa using hlt x (by simp [hx]))) trodAll_mk0))),rfl,hb.frame _,fun h=>by cases h⟩
theorem over:Rows.ringShutRow.holds Tryz.pinned (OpenSpec.ofChange Rows.ringShutSpec):=
 OpenClaim.holds_of_wide 4 Tryz.f4 rfl rfl rfl rfl rfl rfl rfl ⟨rfl,rfl,rfl,rfl,rfl⟩ rfl rfl rfl rfl rfl (by kernel_rfl) Tryz.func4 (by kernel_rfl)
  (of_decide_eq_true (by kernel_rfl)) (by unfold Func.isWrapper; first | (rw [if_pos (by decide +kernel)]; kernel_rfl) | (rw [if_neg (by decide +kernel)]; exact ⟨rfl,rfl⟩))
  (fun os started H enc _=>lifted os started H enc)
theorem proved:Rows.RingShutSaid:=
 over
end Go.Proofs.YtjnlkemdaffgbaaGreat.ringShut
