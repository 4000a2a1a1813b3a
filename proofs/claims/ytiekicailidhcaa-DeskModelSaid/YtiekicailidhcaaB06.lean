import Derived.Deep.DeepCutAuto
import Derived.Deep.CutBlock
import Derived.Deep.RegionLaw
import Derived.Test.YtiekicailidhcaaB02
import Derived.Test.YtiekicailidhcaaB03
import Derived.Test.YtiekicailidhcaaB05
import Derived.Test.YtiekicailidhcaaB04
import Derived.Test.YtiekicailidhcaaB01
set_option linter.unusedVariables false
set_option linter.unusedSimpArgs false
namespace Go.Proofs.Ytiekicailidhcaa
open Go.ChangeShapes Go.WideShapes Go.ChangeAt Go.RowKit
set_option maxRecDepth 100000
def halfM (l:List ChanM) (v:Int) (o1 o2:Option CaseM):Bool:=match o1,o2 with
 | some p,some q=>p.send && !q.send && decide (p.chan=q.chan) && exB l p.chan && decide ((chE l p.chan).cap≤0) && !(chE l p.chan).closed && decide (v=p.val)
 | _,_=>false
theorem halfB_eq (l:List ChanM) (a:OpM) (x:ResM) (b:OpM) (y:ResM):halfB l a x b y=(decide (x.kind=1∧y.kind=2) && onlyB x false false && onlyB y true false && y.ok && halfM l y.val (chosenE a x) (chosenE b y)):=rfl
set_option maxRecDepth 100000 in
set_option maxHeartbeats 16000000 in
theorem rhalf_any (v va vb:Value) (l:List ChanM) (a:OpM) (x:ResM) (b:OpM) (y:ResM) (w:World) (hv:SlH w v l) (ha:OpV w va a) (hb:OpV w vb b):Calls Try.prog 90 #[v,va,resW x,vb,resW y] w fun e w'=>e=.returned (.bool (halfB l a x b y))∧Below w.heap.size w w':=by
 have TXa:=Lib.hid fun w' (h:Below w.heap.size w w')=>mchosen_any va a x w' (ha.below h);have TXb:=Lib.hid fun w' (h:Below w.heap.size w w')=>mchosen_any vb b y w' (hb.below h);have TE:=Lib.hid fun n w' (h:Below w.heap.size w w')=>mexists_any v l n w' (hv.below h);have TO1:=Lib.hid fun w'=>monly_any x false false w';have TO2:=Lib.hid fun w'=>monly_any y true false w';have HV:=Lib.hid hv;obtain ⟨mb,hmb⟩:∃z,halfB l a x b y=z:=⟨_,rfl⟩;rw [hmb];rw [halfB_eq] at hmb;obtain ⟨oa,hoa⟩:∃o,chosenE a x=o:=⟨_,rfl⟩;obtain ⟨ob,hob⟩:∃o,chosenE b y=o:=⟨_,rfl⟩;rw [hoa,hob] at hmb;rw [hoa] at TXa;rw [hob] at TXb;obtain ⟨bo1,ho1⟩:∃o,onlyB x false false=o:=⟨_,rfl⟩;obtain ⟨bo2,ho2⟩:∃o,onlyB y true false=o:=⟨_,rfl⟩;rw [ho1,ho2] at hmb;rw [ho1] at TO1;rw [ho2] at TO2;clear hoa hob ho1 ho2;obtain ⟨vc,vd,rfl,hc,hd⟩:=ha;obtain ⟨kd,md,ch,vl,dl,cs,ds⟩:=a;dsimp only at *;obtain ⟨a3,cap3,rfl⟩:=hc.len;obtain ⟨a4,cap4,rfl,-⟩:=hd.len;obtain ⟨vc2,vd2,rfl,hc2,hd2⟩:=hb;obtain ⟨kd2,md2,ch2,vl2,dl2,cs2,ds2⟩:=b;dsimp only at *;obtain ⟨a32,cap32,rfl⟩:=hc2.len;obtain ⟨a42,cap42,rfl,-⟩:=hd2.len;obtain ⟨rk,rc,rv,rok,nm⟩:=x;obtain ⟨rk2,rc2,rv2,rok2,nm2⟩:=y;unfold resW at TO1 TO2 TXa TXb ⊢;dsimp only at TO1 TO2 TXa TXb hmb ⊢;have HMB:=Lib.hid hmb;obtain ⟨aq,cap,hve,-⟩:=hv.len;subst hve;clear hv hmb hc hd hc2 hd2;obtain ⟨W,hW,HB,R0,R1,R2,R3,hz⟩:=four_new w (.cells #[.int .i64 kd,.int .i64 md,.int .i64 ch,.int .u64 vl,.int .i64 dl,.slice a3 cs.length cap3,.slice a4 ds.length cap4] 44) (.cells #[.int .i64 rk,.int .i64 rc,.int .u64 rv,.bool rok,.int .i64 nm] 73) (.cells #[.int .i64 kd2,.int .i64 md2,.int .i64 ch2,.int .u64 vl2,.int .i64 dl2,.slice a32 cs2.length cap32,.slice a42 ds2.length cap42] 44) (.cells #[.int .i64 rk2,.int .i64 rc2,.int .u64 rv2,.bool rok2,.int .i64 nm2] 73);have HW:=Lib.hid hW;clear hW;go_enter Try.func90,Try.ntmps90;go_upto_region 1 with fail
 rw [HW.out];clear HW;obtain ⟨x0_0,x0_1,x0_2,x0_3,x0_4,x0_5,x0_6⟩:=rowc7 R0.out;obtain ⟨x1_0,x1_1,x1_2,x1_3,x1_4⟩:=rowc5 R1.out;obtain ⟨x2_0,x2_1,x2_2,x2_3,x2_4,x2_5,x2_6⟩:=rowc7 R2.out;obtain ⟨x3_0,x3_1,x3_2,x3_3,x3_4⟩:=rowc5 R3.out;clear x0_0 x0_1 x0_2 x0_3 x0_4 x0_5 x0_6 x1_0 x1_1 x1_2 x1_3 x1_4 x2_0 x2_1 x2_2 x2_3 x2_4 x2_5 x2_6 x3_0 x3_1 x3_2 x3_3 x3_4;obtain ⟨o0,o1,o2,o3,o4,o5,o6⟩:=rowc7 R0.out;obtain ⟨r0,r1,r2,r3,r4⟩:=rowc5 R1.out;obtain ⟨p0,p1,p2,p3,p4,p5,p6⟩:=rowc7 R2.out;obtain ⟨zz0,zz1,zz2,zz3,zz4⟩:=rowc5 R3.out;by_cases k1:rk=1
 case neg=>
  have k1b:(rk != 1)=true:=by simpa using k1
  have hr:mb=false:=by rw [← HMB.out]; simp [k1]
  subst hr;clear HMB;go_wp2;go_ret;exact ⟨rfl,HB.out⟩
 subst k1;by_cases k2:rk2=2
 case neg=>
  have k2b:(rk2 != 2)=true:=by simpa using k2
  have hr:mb=false:=by rw [← HMB.out]; simp [k2]
  subst hr;clear HMB;go_wp2;go_ret;exact ⟨rfl,HB.out⟩
 subst k2;go_wp2_with fail;refine (TO1.out _).mono ?_; rintro e w1 ⟨rfl,hb1⟩;have HB1:=Lib.hid (below_then HB.out hb1);clear o0 o1 o2 o3 o4 o5 o6 r0 r1 r2 r3 r4 p0 p1 p2 p3 p4 p5 p6 zz0 zz1 zz2 zz3 zz4;have C1_0:=keepR hb1 R0;have C1_1:=keepR hb1 R1;have C1_2:=keepR hb1 R2;have C1_3:=keepR hb1 R3;clear hb1 TO1;obtain ⟨o0,o1,o2,o3,o4,o5,o6⟩:=rowc7 C1_0.out;obtain ⟨r0,r1,r2,r3,r4⟩:=rowc5 C1_1.out;obtain ⟨p0,p1,p2,p3,p4,p5,p6⟩:=rowc7 C1_2.out;obtain ⟨zz0,zz1,zz2,zz3,zz4⟩:=rowc5 C1_3.out;cases bo1 with
 | false=>
  have hr:mb=false:=by rw [← HMB.out]; simp
  subst hr;clear HMB;go_wp2;go_ret;exact ⟨rfl,HB1.out⟩
 | true=>
  go_wp2_with fail;refine (TO2.out _).mono ?_; rintro e w2 ⟨rfl,hb2⟩;have HB2:=Lib.hid (below_then HB1.out hb2);clear o0 o1 o2 o3 o4 o5 o6 r0 r1 r2 r3 r4 p0 p1 p2 p3 p4 p5 p6 zz0 zz1 zz2 zz3 zz4;have C2_0:=keepR hb2 C1_0;have C2_1:=keepR hb2 C1_1;have C2_2:=keepR hb2 C1_2;have C2_3:=keepR hb2 C1_3;clear hb2 TO2;obtain ⟨o0,o1,o2,o3,o4,o5,o6⟩:=rowc7 C2_0.out;obtain ⟨r0,r1,r2,r3,r4⟩:=rowc5 C2_1.out;obtain ⟨p0,p1,p2,p3,p4,p5,p6⟩:=rowc7 C2_2.out;obtain ⟨zz0,zz1,zz2,zz3,zz4⟩:=rowc5 C2_3.out;cases bo2 with
  | false=>
   have hr:mb=false:=by rw [← HMB.out]; simp
   subst hr;clear HMB;go_wp2;go_ret;exact ⟨rfl,HB2.out⟩
  | true=>
   cases rok2 with
   | false=>
    have hr:mb=false:=by rw [← HMB.out]; simp
    subst hr;clear HMB;go_wp2;go_ret;exact ⟨rfl,HB2.out⟩
   | true=>
    have HR:Hid (mb=halfM l rv2 oa ob):=by show _=_; rw [← HMB.out]; simp
    clear HMB;go_wp2_with fail;refine (TXa.out _ HB2.out).mono ?_; rintro e w3 ⟨⟨s1,s2,s3⟩,b1,rfl,hx1,hb3⟩;unfold caseW;dsimp only;have HX1:=Lib.hid hx1;have HB3:=Lib.hid (below_then HB2.out hb3);clear o0 o1 o2 o3 o4 o5 o6 r0 r1 r2 r3 r4 p0 p1 p2 p3 p4 p5 p6 zz0 zz1 zz2 zz3 zz4;have C3_0:=keepR hb3 C2_0;have C3_1:=keepR hb3 C2_1;have C3_2:=keepR hb3 C2_2;have C3_3:=keepR hb3 C2_3;clear hb3 hx1 TXa;obtain ⟨Wx,hWx⟩:∃Wx,(w3.alloc (.cells #[.bool false,.int .i64 0,.int .u64 0] 58)).setRow w3.heap.size #[.bool s1,.int .i64 s2,.int .u64 s3]=Wx:=⟨_,rfl⟩;have Nx:Hid ((w3.alloc (.cells #[.bool false,.int .i64 0,.int .u64 0] 58)).heap[w3.heap.size]?=some (.cells #[.bool false,.int .i64 0,.int .u64 0] 58 (0,0))):=heap_alloc_new _ _;have HBx:Hid (Below w3.heap.size w3 Wx):=hWx▸row_below (below_new (Below.refl _ _) _) (Nat.le_refl _) _;have Rx:Hid (Wx.heap[w3.heap.size]?=some (.cells #[.bool s1,.int .i64 s2,.int .u64 s3] 58 (0,0))):=hWx▸setRow_heap _ _ _ _ _ (0,0) Nx.out;have HWx:=Lib.hid hWx;clear hWx;go_upto_region 4 with (refine wpList_store_row rfl 58 _ _ rfl (w3.heap.size) _ rfl rfl 58 _ Nx.out (by kernel_rfl) rfl (by simp [Value.oneCell']) ?_)
    rw [HWx.out];try simp only [Act.put]
    clear HWx Nx;obtain ⟨X,hX⟩:∃X,w3.heap.size=X:=⟨_,rfl⟩;rw [hX] at Rx;rw [hX];clear hX;have C4_0:=keepR HBx.out C3_0;have C4_1:=keepR HBx.out C3_1;have C4_2:=keepR HBx.out C3_2;have C4_3:=keepR HBx.out C3_3;have HBX:=Lib.hid (below_then HB3.out HBx.out);obtain ⟨p0,p1,p2,p3,p4,p5,p6⟩:=rowc7 C4_2.out;obtain ⟨zz0,zz1,zz2,zz3,zz4⟩:=rowc5 C4_3.out;go_wp2_with fail;refine (TXb.out _ HBX.out).mono ?_; rintro e w5 ⟨⟨t1,t2,t3⟩,b2,rfl,hx2,hb5⟩;unfold caseW;dsimp only;have HX2:=Lib.hid hx2;have HB5:=Lib.hid (below_then HBX.out hb5);clear p0 p1 p2 p3 p4 p5 p6 zz0 zz1 zz2 zz3 zz4;have C5_0:=keepR hb5 C4_0;have C5_1:=keepR hb5 C4_1;have C5_2:=keepR hb5 C4_2;have C5_3:=keepR hb5 C4_3;have C5_4:=keepR hb5 Rx;clear hb5 hx2 TXb;obtain ⟨Wy,hWy⟩:∃Wy,(w5.alloc (.cells #[.bool false,.int .i64 0,.int .u64 0] 58)).setRow w5.heap.size #[.bool t1,.int .i64 t2,.int .u64 t3]=Wy:=⟨_,rfl⟩;have Ny:Hid ((w5.alloc (.cells #[.bool false,.int .i64 0,.int .u64 0] 58)).heap[w5.heap.size]?=some (.cells #[.bool false,.int .i64 0,.int .u64 0] 58 (0,0))):=heap_alloc_new _ _;have HBy:Hid (Below w5.heap.size w5 Wy):=hWy▸row_below (below_new (Below.refl _ _) _) (Nat.le_refl _) _;have Ry:Hid (Wy.heap[w5.heap.size]?=some (.cells #[.bool t1,.int .i64 t2,.int .u64 t3] 58 (0,0))):=hWy▸setRow_heap _ _ _ _ _ (0,0) Ny.out;have HWy:=Lib.hid hWy;clear hWy;go_upto_region 5 with (refine wpList_store_row rfl 58 _ _ rfl (w5.heap.size) _ rfl rfl 58 _ Ny.out (by kernel_rfl) rfl (by simp [Value.oneCell']) ?_)
    rw [HWy.out];try simp only [Act.put]
    clear HWy Ny;obtain ⟨Y,hY⟩:∃Y,w5.heap.size=Y:=⟨_,rfl⟩;rw [hY] at Ry;rw [hY];clear hY;have C6_0:=keepR HBy.out C5_0;have C6_1:=keepR HBy.out C5_1;have C6_2:=keepR HBy.out C5_2;have C6_3:=keepR HBy.out C5_3;have C6_4:=keepR HBy.out C5_4;have HBY:=Lib.hid (below_then HB5.out HBy.out);obtain ⟨o0,o1,o2,o3,o4,o5,o6⟩:=rowc7 C6_0.out;obtain ⟨r0,r1,r2,r3,r4⟩:=rowc5 C6_1.out;obtain ⟨p0,p1,p2,p3,p4,p5,p6⟩:=rowc7 C6_2.out;obtain ⟨zz0,zz1,zz2,zz3,zz4⟩:=rowc5 C6_3.out;obtain ⟨x0,x1,x2⟩:=rowc3 C6_4.out;obtain ⟨y0,y1,y2⟩:=rowc3 Ry.out;have HA:Hid (b1=true→oa=some ⟨s1,s2,s3⟩):=fun h=>by
     rcases HX1.out with ⟨-,h2⟩ | ⟨h2,-⟩
     ·exact h2
     ·rw [h] at h2; cases h2
    have HNA:Hid (b1=false→oa=none):=fun h=>by
     rcases HX1.out with ⟨h2,-⟩ | ⟨-,h2⟩
     ·rw [h] at h2; cases h2
     ·exact h2
    have HBq:Hid (b2=true→ob=some ⟨t1,t2,t3⟩):=fun h=>by
     rcases HX2.out with ⟨-,h2⟩ | ⟨h2,-⟩
     ·exact h2
     ·rw [h] at h2; cases h2
    have HNB:Hid (b2=false→ob=none):=fun h=>by
     rcases HX2.out with ⟨h2,-⟩ | ⟨-,h2⟩
     ·rw [h] at h2; cases h2
     ·exact h2
    clear HX1 HX2;cases b1 with
    | false=>
     have hr:mb=false:=by rw [HR.out]; rw [HNA.out rfl]; rfl
     subst hr;clear HR;go_wp2;go_ret;exact ⟨rfl,HBY.out⟩
    | true=>
     cases b2 with
     | false=>
      have hr:mb=false:=by rw [HR.out]; rw [HNB.out rfl]; cases oa <;> rfl
      subst hr;clear HR;go_wp2;go_ret;exact ⟨rfl,HBY.out⟩
     | true=>
      rw [HA.out rfl,HBq.out rfl] at HR;unfold halfM at HR;dsimp only at HR;clear HA HNA HBq HNB;cases s1 with
      | false=>
       have hr:mb=false:=by rw [HR.out]; rfl
       subst hr;clear HR;go_wp2;go_ret;exact ⟨rfl,HBY.out⟩
      | true=>
       cases t1 with
       | true=>
        have hr:mb=false:=by rw [HR.out]; rfl
        subst hr;clear HR;go_wp2;go_ret;exact ⟨rfl,HBY.out⟩
       | false=>
        by_cases hch:s2=t2
        case neg=>
         have hchb:(s2 != t2)=true:=by simpa using hch
         have hr:mb=false:=by rw [HR.out]; simp [hch]
         subst hr;clear HR;go_wp2;go_ret;exact ⟨rfl,HBY.out⟩
        subst hch;obtain ⟨ex,hex⟩:∃b,exB l s2=b:=⟨_,rfl⟩;have TE1:=Lib.hid (TE.out s2 _ HBY.out);rw [hex] at TE1 HR;have HEX:=Lib.hid hex;clear hex;go_wp2_with fail;refine TE1.out.mono ?_; rintro e w' ⟨rfl,rfl⟩;clear TE1;cases ex with
        | false=>
         have hr:mb=false:=by rw [HR.out]; simp
         subst hr;clear HR;go_wp2;go_ret;exact ⟨rfl,HBY.out⟩
        | true=>
         obtain ⟨i,hi,hil,hce⟩:=exB_nat HEX.out;subst hi;have hiI:(i:Int)<(l.length:Int):=by omega
         obtain ⟨b,off,cap',u,hve,hb,c0,c1,c2,hu⟩:=(HV.out.below HBY.out).at i hil;simp only [Value.slice.injEq] at hve;obtain ⟨rfl,-,rfl⟩:=hve;obtain ⟨⟨cc,bf,cl⟩,hcc⟩:∃c,l.getD i noChan=c:=⟨_,rfl⟩;rw [hcc] at c0 c2 hu hce;dsimp only at c0 c2 hu;rw [hce] at HR;dsimp only at HR;obtain ⟨ua,uc,rfl,-⟩:=hu.len;clear hcc hce hu HEX TE HV;obtain ⟨Wq,hWq⟩:∃Wq,(Wy.alloc (.cells #[.int .i64 0,.slice none 0 0,.bool false] 63)).setRow Wy.heap.size #[.int .i64 cc,.slice ua bf.length uc,.bool cl]=Wq:=⟨_,rfl⟩;have Nq:Hid ((Wy.alloc (.cells #[.int .i64 0,.slice none 0 0,.bool false] 63)).heap[Wy.heap.size]?=some (.cells #[.int .i64 0,.slice none 0 0,.bool false] 63 (0,0))):=heap_alloc_new _ _;have HBq:Hid (Below Wy.heap.size Wy Wq):=hWq▸row_below (below_new (Below.refl _ _) _) (Nat.le_refl _) _;have Rq:Hid (Wq.heap[Wy.heap.size]?=some (.cells #[.int .i64 cc,.slice ua bf.length uc,.bool cl] 63 (0,0))):=hWq▸setRow_heap _ _ _ _ _ (0,0) Nq.out;have HWq:=Lib.hid hWq;clear hWq;go_upto_region 8 with (refine wpList_store_row rfl 63 _ _ rfl (Wy.heap.size) _ rfl rfl 63 _ Nq.out (by kernel_rfl) rfl (by simp [Value.oneCell']) ?_)
         rw [HWq.out];try simp only [Act.put]
         clear HWq Nq;obtain ⟨Q,hQ⟩:∃Q,Wy.heap.size=Q:=⟨_,rfl⟩;rw [hQ] at Rq;rw [hQ];clear hQ;clear o0 o1 o2 o3 o4 o5 o6 r0 r1 r2 r3 r4 p0 p1 p2 p3 p4 p5 p6 zz0 zz1 zz2 zz3 zz4 x0 x1 x2 y0 y1 y2;have C7_0:=keepR HBq.out C6_0;have C7_1:=keepR HBq.out C6_1;have C7_2:=keepR HBq.out C6_2;have C7_3:=keepR HBq.out C6_3;have C7_4:=keepR HBq.out C6_4;have C7_5:=keepR HBq.out Ry;obtain ⟨o0,o1,o2,o3,o4,o5,o6⟩:=rowc7 C7_0.out;obtain ⟨r0,r1,r2,r3,r4⟩:=rowc5 C7_1.out;obtain ⟨p0,p1,p2,p3,p4,p5,p6⟩:=rowc7 C7_2.out;obtain ⟨zz0,zz1,zz2,zz3,zz4⟩:=rowc5 C7_3.out;obtain ⟨x0,x1,x2⟩:=rowc3 C7_4.out;obtain ⟨y0,y1,y2⟩:=rowc3 C7_5.out;have HBQ:=Lib.hid (below_then HBY.out HBq.out);obtain ⟨q0,q1,q2⟩:=rowc3 Rq.out;clear c0 c1 c2 hb;obtain ⟨b3,hb3⟩:∃b,decide (cc≤0)=b:=⟨_,rfl⟩;obtain ⟨b4,hb4⟩:∃b,decide (rv2=s3)=b:=⟨_,rfl⟩;have hb4':(rv2 == s3)=b4:=by rw [← hb4,Bool.eq_iff_iff]; simp
         rw [hb3,hb4] at HR;cases b3 <;> cases cl
         all_goals (
          have hr:=HR.out;clear HR;go_wp2;go_ret;exact ⟨by rw [hr]; first | rfl | simp [*],HBQ.out⟩)
set_option maxRecDepth 100000 in
set_option maxHeartbeats 16000000 in
theorem rPair_any (v va vb:Value) (l:List ChanM) (a:OpM) (x:ResM) (b:OpM) (y:ResM) (w:World) (hv:SlH w v l) (ha:OpV w va a) (hb:OpV w vb b):Calls Try.prog 64 #[v,va,resW x,vb,resW y] w fun e w'=>e=.returned (.bool (pairB l a x b y))∧Below w.heap.size w w':=by
 have T1:=Lib.hid fun w' (h:Below w.heap.size w w')=>rhalf_any v va vb l a x b y w' (hv.below h) (ha.below h) (hb.below h);have T3:=Lib.hid fun w' (h:Below w.heap.size w w')=>rhalf_any v vb va l b y a x w' (hv.below h) (hb.below h) (ha.below h);obtain ⟨mb,hmb⟩:∃z,pairB l a x b y=z:=⟨_,rfl⟩;rw [hmb];unfold pairB at hmb;obtain ⟨h1,hh1⟩:∃z,halfB l a x b y=z:=⟨_,rfl⟩;obtain ⟨h2,hh2⟩:∃z,halfB l b y a x=z:=⟨_,rfl⟩;rw [hh1,hh2] at hmb;rw [hh1] at T1;rw [hh2] at T3;clear hh1 hh2;obtain ⟨vc,vd,rfl,hc,hd⟩:=ha;obtain ⟨kd,md,ch,vl,dl,cs,ds⟩:=a;dsimp only at *;obtain ⟨a3,cap3,rfl⟩:=hc.len;obtain ⟨a4,cap4,rfl,-⟩:=hd.len;obtain ⟨vc2,vd2,rfl,hc2,hd2⟩:=hb;obtain ⟨kd2,md2,ch2,vl2,dl2,cs2,ds2⟩:=b;dsimp only at *;obtain ⟨a32,cap32,rfl⟩:=hc2.len;obtain ⟨a42,cap42,rfl,-⟩:=hd2.len;obtain ⟨rk,rc,rv,rok,nm⟩:=x;obtain ⟨rk2,rc2,rv2,rok2,nm2⟩:=y;unfold resW at T1 T3 ⊢;dsimp only at T1 T3 ⊢;have HMB:=Lib.hid hmb;obtain ⟨aq,cap,hve,-⟩:=hv.len;subst hve;clear hv hmb hc hd hc2 hd2;obtain ⟨W,hW,HB,R0,R1,R2,R3,hz⟩:=four_new w (.cells #[.int .i64 kd,.int .i64 md,.int .i64 ch,.int .u64 vl,.int .i64 dl,.slice a3 cs.length cap3,.slice a4 ds.length cap4] 44) (.cells #[.int .i64 rk,.int .i64 rc,.int .u64 rv,.bool rok,.int .i64 nm] 73) (.cells #[.int .i64 kd2,.int .i64 md2,.int .i64 ch2,.int .u64 vl2,.int .i64 dl2,.slice a32 cs2.length cap32,.slice a42 ds2.length cap42] 44) (.cells #[.int .i64 rk2,.int .i64 rc2,.int .u64 rv2,.bool rok2,.int .i64 nm2] 73);have HW:=Lib.hid hW;clear hW;go_enter Try.func64,Try.ntmps64;go_upto_region 1 with fail
 rw [HW.out];clear HW;obtain ⟨x0_0,x0_1,x0_2,x0_3,x0_4,x0_5,x0_6⟩:=rowc7 R0.out;obtain ⟨x1_0,x1_1,x1_2,x1_3,x1_4⟩:=rowc5 R1.out;obtain ⟨x2_0,x2_1,x2_2,x2_3,x2_4,x2_5,x2_6⟩:=rowc7 R2.out;obtain ⟨x3_0,x3_1,x3_2,x3_3,x3_4⟩:=rowc5 R3.out;clear x0_0 x0_1 x0_2 x0_3 x0_4 x0_5 x0_6 x1_0 x1_1 x1_2 x1_3 x1_4 x2_0 x2_1 x2_2 x2_3 x2_4 x2_5 x2_6 x3_0 x3_1 x3_2 x3_3 x3_4;obtain ⟨o0,o1,o2,o3,o4,o5,o6⟩:=rowc7 R0.out;obtain ⟨r0,r1,r2,r3,r4⟩:=rowc5 R1.out;obtain ⟨p0,p1,p2,p3,p4,p5,p6⟩:=rowc7 R2.out;obtain ⟨zz0,zz1,zz2,zz3,zz4⟩:=rowc5 R3.out;go_wp2_with fail;refine (T1.out _ HB.out).mono ?_; rintro e w1 ⟨rfl,hb1⟩;have HB1:=Lib.hid (below_then HB.out hb1);clear o0 o1 o2 o3 o4 o5 o6 r0 r1 r2 r3 r4 p0 p1 p2 p3 p4 p5 p6 zz0 zz1 zz2 zz3 zz4;have C1_0:=keepR hb1 R0;have C1_1:=keepR hb1 R1;have C1_2:=keepR hb1 R2;have C1_3:=keepR hb1 R3;clear hb1 T1;obtain ⟨o0,o1,o2,o3,o4,o5,o6⟩:=rowc7 C1_0.out;obtain ⟨r0,r1,r2,r3,r4⟩:=rowc5 C1_1.out;obtain ⟨p0,p1,p2,p3,p4,p5,p6⟩:=rowc7 C1_2.out;obtain ⟨zz0,zz1,zz2,zz3,zz4⟩:=rowc5 C1_3.out;cases h1 with
 | true=>
  have hr:mb=true:=by rw [← HMB.out]; rfl
  subst hr;clear HMB;go_wp2;go_ret;exact ⟨rfl,HB1.out⟩
 | false=>
  have HR:Hid (mb=h2):=by show _=_; rw [← HMB.out]; rfl
  clear HMB;go_wp2_with fail;refine (T3.out _ HB1.out).mono ?_; rintro e w2 ⟨rfl,hb2⟩;have HB2:=Lib.hid (below_then HB1.out hb2);clear hb2 T3 o0 o1 o2 o3 o4 o5 o6 r0 r1 r2 r3 r4 p0 p1 p2 p3 p4 p5 p6 zz0 zz1 zz2 zz3 zz4;go_wp2;go_ret;exact ⟨by rw [HR.out]; rfl,HB2.out⟩
def nchE (caps:List Int):List ChanM:=caps.map fun x=>⟨x,[],false⟩
theorem made3 (a b c:Value) (n:Nat):(madeCells #[a,b,c] (n * 3)).toList=(List.replicate n [a,b,c]).flatten:=by
 unfold madeCells;rw [Array.toList_map,Array.toList_range];induction n with
 | zero=>rfl
 | succ n ih=>
  rw [show (n+1) * 3=n * 3+1+1+1 by omega,List.range_succ,List.range_succ,List.range_succ,List.map_append,List.map_append,List.map_append,ih,List.replicate_succ',List.flatten_append];have h0:n * 3 % 3=0:=by omega
  have h1:(n * 3+1) % 3=1:=by omega
  have h2:(n * 3+1+1) % 3=2:=by omega
  simp [h0,h1,h2]
def nchA (caps:List Int) (i:Nat):List ChanM:=(List.range caps.length).map fun j=>⟨if j<i then caps.getD j 0 else 0,[],false⟩
def nils (n:Nat):List Value:=List.replicate n (.slice none 0 0)
theorem nils_get (n i:Nat):(nils n).getD i (.slice none 0 0)=.slice none 0 0:=by
 unfold nils;rw [List.getD_eq_getElem?_getD,List.getElem?_replicate];split <;> rfl
theorem nchA_length (caps:List Int) (i:Nat):(nchA caps i).length=caps.length:=by simp [nchA]
theorem nchA_end (caps:List Int):nchA caps caps.length=nchE caps:=by
 unfold nchA nchE;refine List.ext_getElem (by simp) fun i h1 h2=>?_;simp only [List.length_map,List.length_range] at h1;simp [h1,List.getD_eq_getElem?_getD]
theorem nchA_set (caps:List Int) (i:Nat) (hi:i<caps.length):(nchA caps i).set i ⟨caps.getD i 0,[],false⟩=nchA caps (i+1):=by
 unfold nchA;refine List.ext_getElem (by simp) fun j h1 h2=>?_;simp only [List.length_set,List.length_map,List.length_range] at h1;rw [List.getElem_set];simp only [List.getElem_map,List.getElem_range];by_cases h:i=j
 ·subst h; simp
 ·rw [if_neg h]
  by_cases h3:j<i
  ·rw [if_pos h3,if_pos (by omega)]
  ·rw [if_neg h3,if_neg (by omega)]
theorem nchA_zero (caps:List Int):chRows (nchA caps 0) (nils caps.length)=List.replicate caps.length [.int .i64 0,.slice none 0 0,.bool false]:=by
 unfold nchA nils;simp only [Nat.not_lt_zero,if_false];generalize caps.length=n;rw [List.map_const',List.length_range];induction n with
 | zero=>rfl
 | succ n ih=>
  rw [List.replicate_succ,List.replicate_succ,List.replicate_succ];show chRow _ _ :: chRows _ _=_;rw [ih];rfl
theorem nchA_get (caps:List Int) (i j:Nat) (hj:j<caps.length):(nchA caps i).getD j noChan=⟨if j<i then caps.getD j 0 else 0,[],false⟩:=by
 unfold nchA;rw [List.getD_eq_getElem?_getD];simp [hj]
theorem nchE_length (caps:List Int):(nchE caps).length=caps.length:=List.length_map _
theorem nchE_get (caps:List Int) (j:Nat) (hj:j<caps.length):(nchE caps).getD j noChan=⟨caps.getD j 0,[],false⟩:=by
 rw [← nchA_end,nchA_get _ _ _ hj,if_pos hj]
theorem OwnS.mono_base {w:World} {base b' s:Nat} {e:TypeId} {v:Value} {rows:List (List Value)} (h:OwnS w base e s v rows) (hb:b'≤base):OwnS w b' e s v rows:=by
 refine ⟨h.1,h.2.1,?_⟩;rcases h.2.2 with h1 | ⟨g,cap,cur,h1,h2,h3⟩
 ·exact .inl h1
 ·exact .inr ⟨g,cap,cur,h1,Nat.le_trans hb h2,h3⟩
set_option maxRecDepth 100000 in
set_option maxHeartbeats 16000000 in
theorem rNew_any (v:Value) (c:ConfM) (w:World) (h:ConfV w v c) (hg:c.caps.length≤8):Calls Try.prog 37 #[v] w fun e w'=>∃u,e=.returned u∧OwnS w' w.heap.size 63 3 u (chRows (nchE c.caps) (nils c.caps.length))∧Below w.heap.size w w':=by
 obtain ⟨vc,vs,rfl,h1,h2⟩:=h;obtain ⟨caps,starts,thr⟩:=c;dsimp only at *;have HC:=Lib.hid h1;obtain ⟨a1,cap1,rfl,-⟩:=h1.len;obtain ⟨a2,cap2,rfl,-⟩:=h2.len;have HSTEP:Hid (∀i,i<caps.length→chRows (nchE (caps.take (i+1))) (nils (i+1))=chRows (nchE (caps.take i)) (nils i) ++ [chRow ⟨caps.getD i 0,[],false⟩ (.slice none 0 0)]):=fun i hi=>by
  have e1:nchE (caps.take (i+1))=nchE (caps.take i) ++ [⟨caps.getD i 0,[],false⟩]:=by
   unfold nchE;rw [List.take_add_one,List.map_append,List.getD_eq_getElem?_getD,List.getElem?_eq_getElem hi];rfl
  have e2:nils (i+1)=nils i ++ [.slice none 0 0]:=by
   unfold nils;rw [List.replicate_succ']
  rw [e1,e2,chRows_snoc _ _ _ _ (by rw [nchE_length,List.length_take,Nat.min_eq_left (by omega)]; simp [nils])]
 have HRL:Hid (∀i,i≤caps.length→(chRows (nchE (caps.take i)) (nils i)).length=i):=fun i hi=>by
  rw [chRows_length _ _ (by rw [nchE_length,List.length_take,Nat.min_eq_left hi]; simp [nils]),nchE_length,List.length_take,Nat.min_eq_left hi]
 clear h1 h2;obtain ⟨W,hW,HB,R0,hz⟩:=one_new w (.cells #[.slice a1 caps.length cap1,.slice a2 starts.length cap2,.int .i64 thr] 29);have HW:=Lib.hid hW;clear hW;go_enter Try.func37,Try.ntmps37;go_upto_region 1 with fail
 rw [HW.out];clear HW;obtain ⟨x0_0,x0_1,x0_2⟩:=rowc3 R0.out;clear x0_0 x0_1 x0_2;go_wp2_with fail;go_loopw [3,4] (fun u3 u4 wr=>∃(i:Nat) (u:Value),u=u3∧u4=.int .i64 i∧i≤caps.length∧Hid (OwnS wr W.heap.size 63 3 u (chRows (nchE (caps.take i)) (nils i)))∧Hid (Below W.heap.size W wr)) (fun _ u4 _=>caps.length - (intOf u4).toNat)
 case atStart=>exact ⟨0,_,rfl,rfl,by omega,OwnS.nil _ _ _ _,Below.refl _ _⟩
 case round=>
  obtain ⟨i,u,rfl,rfl,hi,HO,HBi⟩:=hrel;obtain ⟨wo,rfl⟩:∃wo:World,wo=wr:=⟨_,rfl⟩;have R0o:=keepR HBi.out R0;obtain ⟨x0,x1,x2⟩:=rowc3 R0o.out;have hil:=HRL.out i hi;by_cases hlt:i<caps.length
  ·have hltI:(i:Int)<(caps.length:Int):=by omega
   obtain ⟨b,off,capx,hve,-,hb,hc⟩:=(HC.out.below (below_then HB.out HBi.out)).open (by intro h0; rw [h0] at hlt; simp at hlt);simp only [Value.slice.injEq] at hve;obtain ⟨rfl,-,rfl⟩:=hve;have c0:=hc i hlt;obtain ⟨y,hy⟩:∃y,caps.getD i 0=y:=⟨_,rfl⟩;rw [hy] at c0;have HST:=Lib.hid (HSTEP.out i hlt);rw [hy] at HST;clear hc hy;go_upto_region 4 with (at_builtin; refine wp_append_ss 31 (by kernel_rfl) Try.info_chan rfl (by decide) (by decide) rfl _ _ rfl rfl (HO.out.below (below_new (Below.refl _ _) _)) [chRow ⟨y,[],false⟩ (.slice none 0 0)] (by intro r hr; rw [List.mem_singleton.1 hr]; exact ⟨rfl,by intro u hu; simp only [chRow,List.mem_cons,List.not_mem_nil,or_false] at hu; rcases hu with rfl | rfl | rfl <;> rfl⟩) _ 1 rfl rfl (by show (Array.push _ _)[_]?=_; exact Array.getElem?_push_size) (by rw [hil]; show i+1≤_; omega) (by have:=HBi.out.size; simp; omega) ?_; intro v2 w2 h1 h2; have H1:=Lib.hid h1; have H2:=Lib.hid h2; clear h1 h2)
   have HB5:Hid (Below W.heap.size W w2):=(below_new HBi.out _).grown H2.out (by have:=HBi.out.size; simp; omega) (fun j hj=>(HO.out.lt j hj).1);have HO5:Hid (OwnS w2 W.heap.size 63 3 v2 (chRows (nchE (caps.take (i+1))) (nils (i+1)))):=by rw [HST.out]; exact H1
   clear H1 H2 x0 x1 x2 c0 hil hb;go_wp2_with fail;go_roundw
   case rel=>exact ⟨i+1,_,rfl,by go_num,by omega,HO5,HB5⟩
   case measure=>simp [intOf]; omega
  ·have hge:¬(i:Int)<(caps.length:Int):=by omega
   have hil2:i=caps.length:=by omega
   have HS:=HO.out;rw [hil2,List.take_length] at HS;have hbz:=HB.out.size;obtain ⟨H1,H2⟩:=HS;have HSS:Hid (OwnS wo w.heap.size 63 3 u (chRows (nchE caps) (nils caps.length))):=OwnS.mono_base ⟨H1,H2⟩ hbz;have HBB:=Lib.hid (below_then HB.out HBi.out);clear H1 H2 hil hil2 HO HSTEP HRL;go_wp2;go_ret;exact ⟨u,rfl,HSS.out,HBB.out⟩
theorem OwnS.lit {w:World} {e:TypeId} {s n base:Nat} (rows:List (List Value)) (hr:Rows' s rows) (hn:rows.length=n) (hm:n≤maxLen) (hb:base≤w.heap.size):OwnS (w.alloc (.cells rows.flatten.toArray e)) base e s (.slice (some ⟨w.heap.size,0,none⟩) n n) rows:=by
 subst hn;refine ⟨hr,flatS_length rows hr,.inr ⟨w.heap.size,rows.length,rows.flatten.toArray,rfl,hb,heap_alloc_new _ _,Nat.le_refl _,hm,?_,?_⟩⟩
 ·simp only [List.size_toArray]; exact flatS_length rows hr
 ·rw [List.take_of_length_le (by simp only [List.toList_toArray]; rw [flatS_length rows hr]; exact Nat.le_refl _)]
theorem OwnS.move {w:World} {base b2 s:Nat} {e:TypeId} {v:Value} {rows:List (List Value)} (h:OwnS w base e s v rows) (hb:b2≤base):OwnS w b2 e s v rows:=h.mono_base hb
theorem chosen_iff (op:OpM) (r:ResM) (x:CaseM):chosenE op r=some x↔∃i:Nat,i<(casesE op).length∧(casesE op).getD i noCase=x∧r.case=numE op i:=by
 unfold chosenE casesE numE;by_cases h4:op.kind=4
 ·rw [if_pos h4,if_pos h4]
  simp only [if_pos h4];constructor
  ·intro h
   split at h
   ·cases h
   ·rename_i h2
    exact ⟨r.case.toNat,by omega,Option.some.inj h,by omega⟩
  ·rintro ⟨i,hi,hx,hr⟩
   rw [if_neg (by omega)];rw [hr,Int.toNat_natCast,hx]
 ·rw [if_neg h4,if_neg h4]
  simp only [if_neg h4];cases h1:oneB op with
  | false=>simp
  | true=>
   simp only [true_and,if_true];constructor
   ·intro h
    split at h
    ·exact ⟨0,by simp,Option.some.inj h,by assumption⟩
    ·cases h
   ·rintro ⟨i,hi,hx,hr⟩
    have:i=0:=by simp at hi; exact hi
    subst this;rw [if_pos hr];exact congrArg some hx
theorem rdv_exB {l:List ChanM} {p q:CaseM} (h:p.chan=q.chan):rdvB l p q=rdvB l q p:=by
 unfold rdvB fndE;rw [h];cases exB l q.chan <;> cases p.send <;> cases q.send <;> simp
theorem half_iff (l:List ChanM) (a:OpM) (x:ResM) (b:OpM) (y:ResM):halfB l a x b y=true↔∃p q,chosenE a x=some p∧chosenE b y=some q∧p.send=true∧q.send=false∧rdvB l p q=true∧passB p.val x y=true:=by
 rw [halfB_eq];constructor
 ·intro h
  simp only [Bool.and_eq_true,decide_eq_true_eq] at h;obtain ⟨⟨⟨⟨⟨h1,h2⟩,h3⟩,h4⟩,h5⟩,h6⟩:=h;unfold halfM at h6;cases hp:chosenE a x with
  | none=>rw [hp] at h6; cases h6
  | some p=>
   cases hq:chosenE b y with
   | none=>rw [hp,hq] at h6; cases h6
   | some q=>
    rw [hp,hq] at h6;simp only [Bool.and_eq_true,decide_eq_true_eq,Bool.not_eq_true'] at h6;obtain ⟨⟨⟨⟨⟨⟨k1,k2⟩,k3⟩,k4⟩,k5⟩,k6⟩,k7⟩:=h6;refine ⟨p,q,rfl,rfl,k1,k2,?_,?_⟩
    ·unfold rdvB fndE
     rw [k4,if_pos rfl];rw [k3] at k5 k6;simp [k3,k1,k2,k5,k6]
    ·unfold onlyB at h3 h4
     simp only [Bool.false_or,Bool.true_or,Bool.true_and,Bool.and_eq_true,beq_iff_eq,Bool.not_eq_true'] at h3 h4;unfold passB;simp [h1,h2,h3,h4,h5,k7]
 ·rintro ⟨p,q,hp,hq,k1,k2,hr,hs⟩
  unfold passB at hs;simp only [Bool.and_eq_true,beq_iff_eq,Bool.not_eq_true'] at hs;obtain ⟨⟨s1,s2,s3,s4⟩,s5,s6,s7,s8⟩:=hs;unfold rdvB fndE at hr;simp only [Bool.and_eq_true,beq_iff_eq,Bool.not_eq_true',decide_eq_true_eq] at hr;obtain ⟨r1,r2,r3,r4,r5⟩:=hr;rw [r1,if_pos rfl] at r4 r5;unfold onlyB halfM;rw [hp,hq];simp [s1,s2,s3,s4,s5,s6,s7,s8,k1,k2,r1,← r2,r4,r5]
theorem pairP_eq (l:List ChanM) (a:OpM) (x:ResM) (b:OpM) (y:ResM):pairP l a x b y=pairB l a x b y:=by
 rw [Bool.eq_iff_iff];unfold pairB;rw [Bool.or_eq_true,half_iff,half_iff];unfold pairP pairC;constructor
 ·intro h
  cases hp:chosenE a x with
  | none=>rw [hp] at h; cases h
  | some p=>
   cases hq:chosenE b y with
   | none=>rw [hp,hq] at h; cases h
   | some q=>
    rw [hp,hq] at h;simp only [Bool.and_eq_true] at h;obtain ⟨h1,h2⟩:=h;have hne:p.send≠q.send∧p.chan=q.chan:=by
     unfold rdvB at h1;simp only [Bool.and_eq_true,beq_iff_eq,bne_iff_ne] at h1;exact ⟨h1.2.2.1,h1.2.1⟩
    cases hs:p.send with
    | true=>
     rw [hs,if_pos rfl] at h2;exact .inl ⟨p,q,rfl,rfl,hs,by rw [hs] at hne; cases hq2:q.send <;> simp_all,h1,h2⟩
    | false=>
     rw [hs,if_neg (by simp)] at h2;refine .inr ⟨q,p,rfl,rfl,by rw [hs] at hne; cases hq2:q.send <;> simp_all,hs,?_,h2⟩;rw [rdv_exB hne.2.symm]; exact h1
 ·rintro (⟨p,q,hp,hq,h1,h2,h3,h4⟩ | ⟨q,p,hq,hp,h1,h2,h3,h4⟩)
  ·rw [hp,hq]
   simp [h1,h3,h4]
  ·rw [hp,hq]
   have hch:q.chan=p.chan:=by
    unfold rdvB at h3;simp only [Bool.and_eq_true,beq_iff_eq] at h3;exact h3.2.1
   simp [h2,h4,rdv_exB hch.symm,h3]
theorem pairB_meetPQ {l:List ChanM} {a b:OpM} {i k:Nat} (hi:i<(casesE a).length) (hk:k<(casesE b).length):pairB l a (meetPQ a b i k).1 b (meetPQ a b i k).2=rdvB l ((casesE a).getD i noCase) ((casesE b).getD k noCase):=by
 rw [← pairP_eq];unfold pairP meetPQ;have ha:∀r:ResM,r.case=numE a i→chosenE a r=some ((casesE a).getD i noCase):=fun r hr=>(chosen_iff a r _).2 ⟨i,hi,rfl,hr⟩;have hb:∀r:ResM,r.case=numE b k→chosenE b r=some ((casesE b).getD k noCase):=fun r hr=>(chosen_iff b r _).2 ⟨k,hk,rfl,hr⟩;generalize (casesE a).getD i noCase=x at ha ⊢;generalize (casesE b).getD k noCase=y at hb ⊢;cases hs:x.send with
 | true=>
  simp only [if_true];rw [ha _ rfl,hb _ rfl];unfold pairC;simp [hs,passB]
 | false=>
  simp only [Bool.false_eq_true,if_false];rw [ha _ rfl,hb _ rfl];unfold pairC;simp [hs,passB]
abbrev nilV:Value:=.slice none 0 0
structure ChI (w0 wr:World) (g B gv cv:Nat) (l:List ChanM) (us:List Value):Prop where
 len:us.length=l.length
 rows:OwnS wr B 63 3 (.slice (some ⟨gv,0,none⟩) l.length cv) (chRows l us)
 own:∀j,j<l.length→OwnI wr B 41 .u64 (us.getD j nilV) (l.getD j noChan).buf
 val:∀j,j<l.length→∀x∈(l.getD j noChan).buf,x=IntKind.u64.wrap x
 cap:∀j,j<l.length→0≤(l.getD j noChan).cap∧(l.getD j noChan).cap≤16
 buf:∀j,j<l.length→(l.getD j noChan).buf.length≤16
 apart:∀a b,a≠b→a<l.length→b<l.length→(us.getD a nilV).ownBlock=none∨(us.getD a nilV).ownBlock≠(us.getD b nilV).ownBlock
 code:CodesE wr g
 grown:w0.grownBy wr (some g)
 gB:g<B
 B0:w0.heap.size≤B
 Bw:B≤wr.heap.size
theorem ChI.vg {w0 wr:World} {g B gv cv:Nat} {l:List ChanM} {us:List Value} (h:ChI w0 wr g B gv cv l us):B≤gv∧gv<wr.heap.size:=h.rows.lt gv rfl
theorem ChI.off {w0 wr:World} {g B gv cv:Nat} {l:List ChanM} {us:List Value} (h:ChI w0 wr g B gv cv l us) {j:Nat} (hj:j<l.length):(us.getD j nilV).ownBlock≠some gv:=fun e=>by
 have h1:=h.own j hj;rcases h1.2 with ⟨h2,_⟩ | ⟨g2,cap,cur,h2,_,hg2,_⟩
 ·rw [h2] at e; cases e
 ·rw [h2] at e
  simp only [Value.ownBlock,Option.some.injEq] at e;rcases h.rows.2.2 with ⟨h3,_⟩ | ⟨g3,cap3,cur3,h3,_,hg3,_⟩
  ·cases h3
  ·simp only [Value.slice.injEq,Option.some.injEq,Addr.mk.injEq] at h3
   rw [← h3.1.1,← e] at hg3;rw [hg2] at hg3;simp only [Option.some.injEq,Obj.cells.injEq] at hg3;exact absurd hg3.2.1 (by decide)
theorem ChI.draw {w0 wr w2:World} {g B gv cv:Nat} {l:List ChanM} {us:List Value} (h:ChI w0 wr g B gv cv l us) (hg:wr.grownBy w2 (some g)) (hc:CodesE w2 g):ChI w0 w2 g B gv cv l us:=
 ⟨h.len,h.rows.kept hg (h.rows.ne h.gB),fun j hj=>(h.own j hj).kept hg ((h.own j hj).ne h.gB),h.val,h.cap,h.buf,h.apart,hc,grownBy_trans h.grown hg,h.gB,h.B0,Nat.le_trans h.Bw hg.size⟩
theorem ChI.below {w0 wr w2:World} {g B gv cv:Nat} {l:List ChanM} {us:List Value} (h:ChI w0 wr g B gv cv l us) (hb:Below wr.heap.size wr w2):ChI w0 w2 g B gv cv l us:=
 ⟨h.len,h.rows.below hb,fun j hj=>(h.own j hj).below hb,h.val,h.cap,h.buf,h.apart,h.code.kept h.code.lt hb,grownBy_of_below h.grown (hb.mono h.grown.size),h.gB,h.B0,Nat.le_trans h.Bw hb.size⟩
theorem codes_row {w w2:World} {g:Nat} (h:CodesE w g) (hg:w2.heap[g]?=w.heap[g]?) (hs:w.heap.size≤w2.heap.size) (hlt:∀j,j<g→w2.heap[j]?=w.heap[j]?):CodesE w2 g:=by
 obtain ⟨r,val,v,l,k,h1,h2,h3,h4,h5⟩:=h;refine ⟨r,val,v,l,k,by rw [hg]; exact h1,?_,h3,h4,h5⟩;obtain ⟨q1,q2,a,cap,rfl,q4,q5⟩:=h2;refine ⟨q1,q2,a,cap,rfl,q4,fun t ht=>?_⟩;obtain ⟨b,off,rfl,hb,hc⟩:=q5 t ht;have hbg:b<g:=h5 (by intro e; rw [e] at ht; simp at ht) _ _ _ rfl _ rfl;refine ⟨b,off,rfl,Nat.lt_of_lt_of_le hb hs,?_⟩;unfold World.cell? at hc ⊢;rw [hlt b hbg];exact hc
theorem codes_grown {w w2:World} {g B:Nat} {row:Option Nat} (h:CodesE w g) (hg:w.grownBy w2 row) (hr:∀j,row=some j→B≤j) (hB:g<B):CodesE w2 g:=
 codes_row h (hg.block g h.lt (fun e=>by have:=hr g e.symm; omega)) hg.size (fun j hj=>hg.block j (by have:=h.lt; omega) (fun e=>by have:=hr j e.symm; omega))
theorem ChI.push {w0 wr u2:World} {g B gv cv i:Nat} {l:List ChanM} {us:List Value} {v6:Value} {x:Int} (h:ChI w0 wr g B gv cv l us) (hi:i<l.length) (hx:x=IntKind.u64.wrap x) (hl:(l.getD i noChan).buf.length≤15)
  (hg:wr.grownBy u2 (us.getD i nilV).ownBlock) (ho:OwnI u2 B 41 .u64 v6 ((l.getD i noChan).buf ++ [x])) (hn:v6.ownBlock=(us.getD i nilV).ownBlock∨v6.ownBlock=some wr.heap.size) :
  ChI w0 (u2.setCell ⟨gv,i * 3+1,none⟩ v6) g B gv cv (l.set i { l.getD i noChan with buf:=(l.getD i noChan).buf ++ [x] }) (us.set i v6):=by
 have hlen:=chRows_length l us h.len;have hv6:v6.oneCell'=true:=by rcases ho.shape with ⟨rfl,-⟩ | ⟨g2,c2,rfl,-⟩ <;> rfl
 have hob:∀j,(us.getD i nilV).ownBlock=some j→B≤j:=fun j hj=>(h.own i hi).own_ge j hj;have hvg:=h.vg;have hr2:=h.rows.kept hg (.inr fun e=>h.off hi e.symm);have hcode:CodesE u2 g:=codes_grown h.code hg hob h.gB;have hgr:w0.grownBy u2 (some g):=grownBy_of_new h.grown hg (fun k hk=>Nat.le_trans h.B0 (hob k hk));have hset:w0.grownBy (u2.setCell ⟨gv,i * 3+1,none⟩ v6) (some g):=grownBy_of_new hgr (grownBy_setCell u2 ⟨gv,i * 3+1,none⟩ v6) (fun k hk=>by cases hk; have:=h.B0; show w0.heap.size≤gv; omega);have hv6g:v6.ownBlock≠some gv:=fun e=>by
  rcases hn with h1 | h1
  ·exact h.off hi (h1.symm.trans e)
  ·rw [h1] at e; cases e; exact absurd hvg.2 (Nat.lt_irrefl _)
 have hi2:i<(chRows l us).length:=by omega
 refine ⟨by rw [List.length_set,List.length_set]; exact h.len,?_,fun j hj=>?_,fun j hj=>?_,fun j hj=>?_,fun j hj=>?_,fun a b hab ha hb=>?_,codes_grown hcode (grownBy_setCell u2 ⟨gv,i * 3+1,none⟩ v6) (fun j hj=>by cases hj; exact hvg.1) h.gB,hset,h.gB,h.B0,?_⟩
 ·rw [List.length_set,← chRows_set l us i _ _ h.len]
  exact hr2.setCell i hi2 [.int .i64 (l.getD i noChan).cap] [.bool (l.getD i noChan).closed] _ v6 (by rw [chRows_row l us i h.len hi hi2]; rfl) hv6
 ·rw [List.length_set] at hj
  rw [getD_setL,getD_setL];by_cases hji:i=j
  ·rw [if_pos ⟨hji,by rw [h.len]; exact hj⟩,if_pos ⟨hji,hj⟩]
   exact ho.kept (grownBy_setCell u2 ⟨gv,i * 3+1,none⟩ v6) (.inr hv6g)
  ·rw [if_neg (fun e=>hji e.1),if_neg (fun e=>hji e.1)]
   exact ((h.own j hj).kept hg (h.apart j i (fun e=>hji e.symm) hj hi)).kept (grownBy_setCell u2 ⟨gv,i * 3+1,none⟩ v6) (.inr (h.off hj))
 ·rw [List.length_set] at hj
  rw [getD_setL];split
  ·intro y hy
   rcases List.mem_append.1 hy with h1 | h1
   ·exact h.val i hi y h1
   ·rw [List.mem_singleton.1 h1]; exact hx
  ·exact h.val j hj
 ·rw [List.length_set] at hj
  rw [getD_setL];split
  ·exact h.cap i hi
  ·exact h.cap j hj
 ·rw [List.length_set] at hj
  rw [getD_setL];split
  ·show ((l.getD i noChan).buf ++ [x]).length≤16
   rw [List.length_append];show _+1≤16;omega
  ·exact h.buf j hj
 ·rw [List.length_set] at ha hb
  rw [getD_setL,getD_setL,h.len];by_cases hia:i=a
  ·rw [if_pos ⟨hia,ha⟩,if_neg (fun e=>hab (hia.symm.trans e.1))]
   subst hia;rcases hn with h1 | h1
   ·rw [h1]; exact h.apart i b hab ha hb
   ·rw [h1]
    refine .inr fun e=>?_;have:=(h.own b hb).2;rcases (h.own b hb).shape with ⟨e2,-⟩ | ⟨g2,c2,e2,-,hg2,-⟩
    ·rw [e2] at e; cases e
    ·rw [e2] at e; cases e; exact absurd hg2 (Nat.lt_irrefl _)
  ·rw [if_neg (fun e=>hia e.1)]
   by_cases hib:i=b
   ·rw [if_pos ⟨hib,hb⟩]
    subst hib;rcases hn with h1 | h1
    ·rw [h1]; exact h.apart a i hab ha hb
    ·rw [h1]
     rcases (h.own a ha).shape with ⟨e2,-⟩ | ⟨g2,c2,e2,-,hg2,-⟩
     ·rw [e2]; exact .inl rfl
     ·rw [e2]
      refine .inr fun e=>?_;cases e; exact absurd hg2 (Nat.lt_irrefl _)
   ·rw [if_neg (fun e=>hib e.1)]
    exact h.apart a b hab ha hb
 ·have:=hg.size
  have:=h.Bw;simp;omega
theorem ChI.shut {w0 wr:World} {g B gv cv i:Nat} {l:List ChanM} {us:List Value} {b:Bool} (h:ChI w0 wr g B gv cv l us) (hi:i<l.length) :
  ChI w0 (wr.setCell ⟨gv,i * 3+2,none⟩ (.bool b)) g B gv cv (l.set i { l.getD i noChan with closed:=b }) us:=by
 have hlen:=chRows_length l us h.len;have hvg:=h.vg;have hi2:i<(chRows l us).length:=by omega
 have hset:w0.grownBy (wr.setCell ⟨gv,i * 3+2,none⟩ (.bool b)) (some g):=grownBy_of_new h.grown (grownBy_setCell wr ⟨gv,i * 3+2,none⟩ (.bool b)) (fun k hk=>by cases hk; have:=h.B0; show w0.heap.size≤gv; omega);have hself:us.set i (us.getD i nilV)=us:=by
  rw [List.getD_eq_getElem?_getD,List.getElem?_eq_getElem (by rw [h.len]; exact hi)];exact List.set_getElem_self (by rw [h.len]; exact hi)
 refine ⟨by rw [List.length_set]; exact h.len,?_,fun j hj=>?_,fun j hj=>?_,fun j hj=>?_,fun j hj=>?_,fun a b hab ha hb=>?_,codes_grown h.code (grownBy_setCell wr ⟨gv,i * 3+2,none⟩ (.bool b)) (fun j hj=>by cases hj; exact hvg.1) h.gB,hset,h.gB,h.B0,?_⟩
 ·have h9:=chRows_set l us i { l.getD i noChan with closed:=b } (us.getD i nilV) h.len
  rw [hself] at h9;rw [List.length_set,← h9];exact h.rows.setCell i hi2 [.int .i64 (l.getD i noChan).cap,us.getD i nilV] [] _ (.bool b) (by rw [chRows_row l us i h.len hi hi2]; rfl) rfl
 ·rw [List.length_set] at hj
  rw [getD_setL];have hk:=(h.own j hj).kept (grownBy_setCell wr ⟨gv,i * 3+2,none⟩ (.bool b)) (.inr (h.off hj));split
  ·rename_i e; obtain ⟨rfl,-⟩:=e; exact hk
  ·exact hk
 ·rw [List.length_set] at hj
  rw [getD_setL];split
  ·exact h.val i hi
  ·exact h.val j hj
 ·rw [List.length_set] at hj
  rw [getD_setL];split
  ·exact h.cap i hi
  ·exact h.cap j hj
 ·rw [List.length_set] at hj
  rw [getD_setL];split
  ·exact h.buf i hi
  ·exact h.buf j hj
 ·rw [List.length_set] at ha hb
  exact h.apart a b hab ha hb
 ·have:=h.Bw
  simp;omega
theorem ChI.slH {w0 wr:World} {g B gv cv:Nat} {l:List ChanM} {us:List Value} (h:ChI w0 wr g B gv cv l us) (hl:l.length≤1000000):SlH wr (.slice (some ⟨gv,0,none⟩) l.length cv) l:=
 h.rows.slH h.len hl (fun i hi=>(h.own i hi).slU (by have:=h.buf i hi; omega) (h.val i hi)) (fun c hc=>by
  obtain ⟨i,hi,rfl⟩:=List.mem_iff_getElem.1 hc;have:=h.cap i hi;rw [List.getD_eq_getElem?_getD,List.getElem?_eq_getElem hi] at this;exact i64_small _ (by have:=this.1; simp only [Option.getD_some] at this; omega) (by have:=this.2; simp only [Option.getD_some] at this; omega))
theorem ChI.start {w0 w1 w2:World} {g gv cv:Nat} {caps:List Int} (hg:w0.grownBy w1 (some g)) (hb:Below w1.heap.size w1 w2) (hc:CodesE w1 g) (ho:OwnS w2 w1.heap.size 63 3 (.slice (some ⟨gv,0,none⟩) caps.length cv) (chRows (nchE caps) (nils caps.length))) (hcap:∀x∈caps,0≤x∧x≤16):ChI w0 w2 g w1.heap.size gv cv (nchE caps) (nils caps.length):=by
 refine ⟨by rw [nchE_length]; simp [nils],by rw [nchE_length]; exact ho,fun j hj=>?_,fun j hj=>?_,fun j hj=>?_,fun j hj=>?_,fun a b _ _ _=>?_,hc.kept hc.lt hb,grownBy_of_below hg (hb.mono hg.size),hc.lt,hg.size,hb.size⟩
 ·rw [nchE_length] at hj
  rw [nils_get,nchE_get caps j hj]; exact OwnI.nil _ _ _ _
 ·rw [nchE_length] at hj
  rw [nchE_get caps j hj]; intro x hx; cases hx
 ·rw [nchE_length] at hj
  rw [nchE_get caps j hj];show 0≤caps.getD j 0∧caps.getD j 0≤16;rw [List.getD_eq_getElem?_getD,List.getElem?_eq_getElem hj];exact hcap _ (List.getElem_mem hj)
 ·rw [nchE_length] at hj
  rw [nchE_get caps j hj]; exact Nat.zero_le _
 ·rw [nils_get]; exact .inl rfl
theorem CfgOk.good {caps starts:List Int} {t:Int} (h:CfgOk caps starts caps.length) (hl:caps.length≤3) (ht:1≤t∧t≤8):ConfM.good ⟨caps,starts,t⟩:=
 ⟨by show caps.length≤8; omega,h.2.1,fun x hx=>by have:=h.2.2.1 x hx; omega,h.2.2.2,ht⟩
theorem configG (g:Nat) (w:World) (h:CodesE w g) :
  Calls Try.prog 11 #[.pointer (some ⟨g,0,none⟩)] w fun e w'=>∃(vc vs:Value) (c:ConfM),e=.returned (.agg #[vc,vs,.int .i64 c.threads])∧SlI w' .i64 vc c.caps∧SlI w' .u64 vs c.starts∧offB g vc∧offB g vs∧c.good∧1≤c.caps.length∧c.caps.length≤3∧CodesE w' g∧w.grownBy w' (some g):=by
 obtain ⟨r,val,h⟩:=h;refine (config_any g r val w h).mono ?_;rintro e w' ⟨vc,vs,t,caps,starts,r',rfl,h1,h2,h3,h4,h5,h6,h7,h8,h9,h10,h11,h12⟩;exact ⟨vc,vs,⟨caps,starts,t⟩,rfl,h1,h2,h10,h11,h12.good h5 (by omega),h4,h5,⟨_,_,h8⟩,h9⟩
theorem grown_of_below {a b:World} {row:Option Nat} (h:Below a.heap.size a b):a.grownBy b row:=⟨h.os,h.tape,h.output,h.size,fun j hj _=>h.block j hj⟩
theorem u64_ok (x:Int) (h0:0≤x) (h1:x≤18446744073709551615):x=IntKind.u64.wrap x:=by
 rw [IntKind.wrap_u64]; omega
theorem value_step {w:World} {g k:Nat} {v:Value} {val x:Int} {l r:List Int} (hg:w.heap[g]?=some (.cells #[v,.int .i64 k,.int .u64 val] 77 (0,0))) (h:CodesAt w g r val) :
  CodesAt (w.setCell ⟨g,2,none⟩ (.int .u64 x)) g r x∧w.grownBy (w.setCell ⟨g,2,none⟩ (.int .u64 x)) (some g)∧(w.setCell ⟨g,2,none⟩ (.int .u64 x)).cell? ⟨g,2,none⟩=some (.int .u64 x):=by
 have hs:=heap_setCell_same w g 2 _ _ (.int .u64 x) hg;have hgr:=grownBy_setCell w ⟨g,2,none⟩ (.int .u64 x);refine ⟨?_,hgr,by simpa using cell_of_row _ g 2 _ _ _ hs⟩;obtain ⟨v',l',k',hg',hl,hk,hr,ho⟩:=h;rw [hg] at hg';simp only [Option.some.injEq,Obj.cells.injEq,Array.mk.injEq,List.cons.injEq,and_true] at hg';obtain ⟨rfl,hkk⟩:=hg';simp only [Value.int.injEq,true_and,and_true] at hkk;obtain rfl:k=k':=by omega
 refine ⟨v,l',k,by simpa using hs,?_,hk,hr,ho⟩;refine hl.grown hgr fun a n c e=>?_;subst e;by_cases hne:l'=[]
 ·obtain ⟨a',cap',e,-⟩:=hl.len
  rw [hne] at e;simp only [Value.slice.injEq] at e;exact .inl e.2.1
 ·exact .inr (by have:=ho hne (some a) n c rfl a rfl; simp; omega)
theorem valueE (g:Nat) (w:World) (h:CodesE w g) :
  Calls Try.prog 47 #[.pointer (some ⟨g,0,none⟩)] w fun e w'=>∃x:Int,e=.returned (.int .u64 x)∧x=IntKind.u64.wrap x∧CodesE w' g∧w.grownBy w' (some g):=by
 obtain ⟨r,val,h⟩:=h;obtain ⟨v,l,k,hg,-⟩:=id h;have c2:=cell_of_row w g 2 _ _ _ hg;have f2:=frozen_of_row w g 2 _ _ hg;simp at c2;have ST:=Lib.hid fun x=>value_step (x:=x) (l:=l) hg h;obtain ⟨x,hx⟩:∃x,IntKind.u64.wrap (val+1)=x:=⟨_,rfl⟩;obtain ⟨s1,s2,s3⟩:=ST.out x;have HS:=Lib.hid (And.intro s1 s2);have HX:Hid (x=IntKind.u64.wrap x):=by
  show _=_;rw [← hx,IntKind.wrap_u64,IntKind.wrap_u64]; omega
 clear hg h ST s1 s2;go_enter Try.func47,Try.ntmps47;go_wp2;go_ret;exact ⟨x,rfl,HX.out,⟨r,x,HS.out.1⟩,HS.out.2⟩
theorem row7 {w:World} {g:Nat} {T:TypeId} {v0 v1 v2 v3 v4 v5 v6:Value} (h:w.heap[g]?=some (.cells #[v0,v1,v2,v3,v4,v5,v6] T (0,0))) :
  w.cell? ⟨g,0,none⟩=some v0∧w.cell? ⟨g,1,none⟩=some v1∧w.cell? ⟨g,2,none⟩=some v2∧w.cell? ⟨g,3,none⟩=some v3∧w.cell? ⟨g,4,none⟩=some v4∧w.cell? ⟨g,5,none⟩=some v5∧w.cell? ⟨g,6,none⟩=some v6:=
 ⟨cell_of_row _ _ 0 _ _ _ h,cell_of_row _ _ 1 _ _ _ h,cell_of_row _ _ 2 _ _ _ h,cell_of_row _ _ 3 _ _ _ h,cell_of_row _ _ 4 _ _ _ h,cell_of_row _ _ 5 _ _ _ h,cell_of_row _ _ 6 _ _ _ h⟩
theorem row3 {w:World} {g:Nat} {T:TypeId} {v0 v1 v2:Value} (h:w.heap[g]?=some (.cells #[v0,v1,v2] T (0,0))) :
  w.cell? ⟨g,0,none⟩=some v0∧w.cell? ⟨g,1,none⟩=some v1∧w.cell? ⟨g,2,none⟩=some v2:=
 ⟨cell_of_row _ _ 0 _ _ _ h,cell_of_row _ _ 1 _ _ _ h,cell_of_row _ _ 2 _ _ _ h⟩
theorem grownBy_setRow (w:World) (g:Nat) (cs:Array Value):w.grownBy (w.setRow g cs) (some g):=
 ⟨rfl,rfl,rfl,by simp [World.setRow],fun k _ hk=>setRow_other w g k cs (fun e=>hk (by rw [e]))⟩
def zeroOp:Array Value:=#[.int .i64 0,.int .i64 0,.int .i64 0,.int .u64 0,.int .i64 0,.slice none 0 0,.slice none 0 0]
theorem mode_end {w w1 W:World} {g:Nat} (hlt:g<w.heap.size) (hg:w.grownBy w1 (some g)) (hc:CodesE w1 g) (hb:Below w.heap.size w1 W):CodesE W g∧w.grownBy W (some g):=
 ⟨hc.kept hlt hb,⟨hb.os.trans hg.os,hb.tape.trans hg.tape,hb.output.trans hg.output,Nat.le_trans hg.size hb.size,fun k hk hr=>(hb.block k hk).trans (hg.block k hk hr)⟩⟩
set_option maxRecDepth 100000 in
set_option maxHeartbeats 1000000 in
theorem modeE (g:Nat) (kd md ch vl dl:Int) (vc vd:Value) (cs:List CaseM) (ds:List Int) (w:World) (h:CodesE w g) (hc:SlC w vc cs) (hd:SlI w .i64 vd ds) :
  Calls Try.prog 45 #[.pointer (some ⟨g,0,none⟩),.agg #[.int .i64 kd,.int .i64 md,.int .i64 ch,.int .u64 vl,.int .i64 dl,vc,vd]] w fun e w'=>
   ∃m d,e=.returned (.agg #[.int .i64 kd,.int .i64 m,.int .i64 ch,.int .u64 vl,.int .i64 d,vc,vd])∧((m=md∧d=dl)∨(m=1∧d=dl)∨(m=2∧0≤d∧d<5))∧CodesE w' g∧w.grownBy w' (some g):=by
 have hlt:=h.lt;have HC:=Lib.hid h;obtain ⟨a3,cap3,rfl⟩:=hc.len;obtain ⟨a4,cap4,rfl,-⟩:=hd.len;clear h hc hd;generalize cs.length=nc at *;generalize ds.length=nd at *;obtain ⟨W,hW⟩:∃W,(w.alloc (.cells #[.int .i64 kd,.int .i64 md,.int .i64 ch,.int .u64 vl,.int .i64 dl,.slice a3 nc cap3,.slice a4 nd cap4] 44)).alloc (.cells zeroOp 44)=W:=⟨_,rfl⟩;have HB:Hid (Below w.heap.size w W):=hW▸below_new (below_new (Below.refl w.heap.size w) _) _;have hz:w.heap.size+2≤W.heap.size:=by rw [← hW]; simp
 have R0:Hid (W.heap[w.heap.size]?=some (.cells #[.int .i64 kd,.int .i64 md,.int .i64 ch,.int .u64 vl,.int .i64 dl,.slice a3 nc cap3,.slice a4 nd cap4] 44 (0,0))):=by
  show _=_;rw [← hW]; exact heap_alloc2_old _ _ _
 have R1:Hid (W.heap[w.heap.size+1]?=some (.cells zeroOp 44 (0,0))):=by
  show _=_;rw [← hW]; exact heap_alloc2_new _ _ _
 have HCW:=Lib.hid (HC.out.kept hlt HB.out);have HGW:Hid (w.grownBy W (some g)):=grown_of_below HB.out;have HW:=Lib.hid hW;clear hW;go_enter Try.func45,Try.ntmps45;go_wp2_with fail;rw [show (#[.int .i64 0,.int .i64 0,.int .i64 0,.int .u64 0,.int .i64 0,.slice none 0 0,.slice none 0 0]:Array Value)=zeroOp from rfl,HW.out];refine (nextE g 8 _ HCW.out (by omega) (by omega)).mono ?_; rintro e w1 ⟨x,rfl,hx0,hx1,hc1,hg1⟩;have HC1:=Lib.hid hc1;have HG1:=Lib.hid (grownBy_trans HGW.out hg1);have S0:=Lib.hid ((hg1.block w.heap.size (by omega) (by simp; omega)).trans R0.out);have S1:=Lib.hid ((hg1.block (w.heap.size+1) (by omega) (by simp; omega)).trans R1.out);have hg1s:w.heap.size+2≤w1.heap.size:=Nat.le_trans hz hg1.size;clear hc1 hg1;obtain ⟨c0,c1,c2,c3,c4,c5,c6⟩:=row7 S0.out;have f1:=frozen_of_row _ _ 1 _ _ S0.out;have f4:=frozen_of_row _ _ 4 _ _ S0.out;rcases (show (x=5∨x=6)∨x=7∨((x == 5)=false∧(x == 6)=false∧(x == 7)=false) by simp; omega) with hx | rfl | ⟨x5,x6,x7⟩
 ·have T0:=Lib.hid (heap_setCell_same w1 w.heap.size 1 _ _ (.int .i64 1) S0.out)
  have TROW:=Lib.hid ((heap_setCell_other w1 ⟨w.heap.size,1,none⟩ (w.heap.size+1) (.int .i64 1) (by simp)).trans S1.out);have HG:=HG1;have HCC:=HC1;simp at T0;obtain ⟨d0,d1,d2,d3,d4,d5,d6⟩:=row7 T0.out;rcases hx with rfl | rfl
  all_goals
   go_wp2_with (refine wpList_store_row rfl 44 _ _ rfl (w.heap.size+1) _ rfl rfl 44 zeroOp TROW.out (by kernel_rfl) rfl (by simp [Value.oneCell']) ?_);refine bodyPost_ret (v:=.agg #[.int .i64 kd,.int .i64 1,.int .i64 ch,.int .u64 vl,.int .i64 dl,.slice a3 nc cap3,.slice a4 nd cap4]) (results_cell_row Try.results45 _ _ (w.heap.size+1) 44 _ (0,0) _ rfl (setRow_heap _ _ _ _ 44 (0,0) TROW.out) Try.underlying44 rfl (by kernel_rfl)) rfl ?_;obtain ⟨f2,f3⟩:=mode_end hlt HG.out HCC.out (W:=_) (below_setRow ((Below.refl _ _).setCell (p:=⟨w.heap.size,1,none⟩) (Nat.le_refl _) _) (Nat.le_succ _) _);exact ⟨1,dl,rfl,.inr (.inl ⟨rfl,rfl⟩),f2,f3⟩
 ·go_wp2_with fail
  refine (nextE g 5 _ HC1.out (by omega) (by omega)).mono ?_; rintro e w2 ⟨y,rfl,hy0,hy1,hc2,hg2⟩;have HCC:=Lib.hid hc2;have HG:=Lib.hid (grownBy_trans HG1.out hg2);have S20:=Lib.hid ((hg2.block w.heap.size (by omega) (by simp; omega)).trans S0.out);have S21:=Lib.hid ((hg2.block (w.heap.size+1) (by omega) (by simp; omega)).trans S1.out);clear hc2 hg2 c0 c1 c2 c3 c4 c5 c6 f1 f4;obtain ⟨c0,c1,c2,c3,c4,c5,c6⟩:=row7 S20.out;have f1:=frozen_of_row _ _ 1 _ _ S20.out;have f4:=frozen_of_row _ _ 4 _ _ S20.out;have T0:=Lib.hid (heap_setCell_same w2 w.heap.size 1 _ _ (.int .i64 2) S20.out);simp at T0;have g4:=frozen_of_row _ _ 4 _ _ T0.out;have U0:=Lib.hid (heap_setCell_same _ w.heap.size 4 _ _ (.int .i64 y) T0.out);simp at U0;obtain ⟨e0,e1,e2,e3,e4,e5,e6⟩:=row7 T0.out;obtain ⟨d0,d1,d2,d3,d4,d5,d6⟩:=row7 U0.out;have TROW:=Lib.hid ((heap_setCell_other _ ⟨w.heap.size,4,none⟩ (w.heap.size+1) (.int .i64 y) (by simp)).trans ((heap_setCell_other w2 ⟨w.heap.size,1,none⟩ (w.heap.size+1) (.int .i64 2) (by simp)).trans S21.out));go_wp2_with (refine wpList_store_row rfl 44 _ _ rfl (w.heap.size+1) _ rfl rfl 44 zeroOp TROW.out (by kernel_rfl) rfl (by simp [Value.oneCell']) ?_);refine bodyPost_ret (v:=.agg #[.int .i64 kd,.int .i64 2,.int .i64 ch,.int .u64 vl,.int .i64 y,.slice a3 nc cap3,.slice a4 nd cap4]) (results_cell_row Try.results45 _ _ (w.heap.size+1) 44 _ (0,0) _ rfl (setRow_heap _ _ _ _ 44 (0,0) TROW.out) Try.underlying44 rfl (by kernel_rfl)) rfl ?_;obtain ⟨f2,f3⟩:=mode_end hlt HG.out HCC.out (W:=_) (below_setRow (((Below.refl _ _).setCell (p:=⟨w.heap.size,1,none⟩) (Nat.le_refl _) _).setCell (p:=⟨w.heap.size,4,none⟩) (Nat.le_refl _) _) (Nat.le_succ _) _);exact ⟨2,y,rfl,.inr (.inr ⟨rfl,hy0,hy1⟩),f2,f3⟩
 ·have TROW:=S1
  have HG:=HG1;have HCC:=HC1;go_wp2_with (refine wpList_store_row rfl 44 _ _ rfl (w.heap.size+1) _ rfl rfl 44 zeroOp TROW.out (by kernel_rfl) rfl (by simp [Value.oneCell']) ?_);refine bodyPost_ret (v:=.agg #[.int .i64 kd,.int .i64 md,.int .i64 ch,.int .u64 vl,.int .i64 dl,.slice a3 nc cap3,.slice a4 nd cap4]) (results_cell_row Try.results45 _ _ (w.heap.size+1) 44 _ (0,0) _ rfl (setRow_heap _ _ _ _ 44 (0,0) TROW.out) Try.underlying44 rfl (by kernel_rfl)) rfl ?_;obtain ⟨f2,f3⟩:=mode_end hlt HG.out HCC.out (W:=_) (below_setRow (Below.refl _ _) (Nat.le_succ _) _);exact ⟨md,dl,rfl,.inl ⟨rfl,rfl⟩,f2,f3⟩
structure SelInv (w0 w:World) (g:Nat) (cc:Array Value) (vc vd:Value) (cs:List CaseM) (ds:List Int):Prop where
 lt:g<w0.heap.size
 size:w0.heap.size+3≤w.heap.size
 codes:CodesE w g
 grown:w0.grownBy w (some g)
 box:w.heap[w0.heap.size]?=some (.cells cc 29 (0,0))
 res:w.heap[w0.heap.size+1]?=some (.cells zeroOp 44 (0,0))
 var:w.heap[w0.heap.size+2]?=some (.cells #[.int .i64 4,.int .i64 0,.int .i64 0,.int .u64 0,.int .i64 0,vc,vd] 44 (0,0))
 oc:OwnC w (w0.heap.size+3) vc cs
 od:OwnI w (w0.heap.size+3) 3 .i64 vd ds
theorem SelInv.next {w0 w w':World} {g:Nat} {cc:Array Value} {vc vd:Value} {cs:List CaseM} {ds:List Int} (h:SelInv w0 w g cc vc vd cs ds) (hc:CodesE w' g) (hg:w.grownBy w' (some g)):SelInv w0 w' g cc vc vd cs ds:=by
 have hs:=h.size;have hl:=h.lt;have b:∀j,w0.heap.size≤j→j<w0.heap.size+3→w'.heap[j]?=w.heap[j]?:=fun j h1 h2=>hg.block j (by omega) (by simp; omega);exact ⟨hl,Nat.le_trans hs hg.size,hc,grownBy_trans h.grown hg,(b _ (by omega) (by omega)).trans h.box,(b _ (by omega) (by omega)).trans h.res,(b _ (by omega) (by omega)).trans h.var,h.oc.kept hg (h.oc.ne (by omega)),h.od.kept hg (h.od.ne (by omega))⟩
theorem SelInv.below {w0 w w':World} {g:Nat} {cc:Array Value} {vc vd:Value} {cs:List CaseM} {ds:List Int} (h:SelInv w0 w g cc vc vd cs ds) (hb:Below w.heap.size w w'):SelInv w0 w' g cc vc vd cs ds:=
 h.next (h.codes.kept h.codes.lt hb) (grown_of_below hb)
theorem SelInv.mine {w0 w:World} {g b o:Nat} {u:Value} {cc:Array Value} {vc vd:Value} {cs:List CaseM} {ds:List Int} {T:TypeId} {cells:Array Value} (h:SelInv w0 w g cc vc vd cs ds)
  (hb:w.heap[b]?=some (.cells cells T (0,0))) (hT:T≠3) (hb3:w0.heap.size+3≤b) (hC:T≠58∨vc.ownBlock≠some b):SelInv w0 (w.setCell ⟨b,o,none⟩ u) g cc vc vd cs ds:=by
 have hs:=h.size;have hl:=h.lt;have hgr:=grownBy_setCell w ⟨b,o,none⟩ u;have e:∀j,j≠b→(w.setCell ⟨b,o,none⟩ u).heap[j]?=w.heap[j]?:=fun j hj=>heap_setCell_other w ⟨b,o,none⟩ j u hj;have hbl:Below (w0.heap.size+3) w (w.setCell ⟨b,o,none⟩ u):=(Below.refl _ w).setCell (p:=⟨b,o,none⟩) hb3 u;refine ⟨hl,by simpa using hs,h.codes.kept (B:=w0.heap.size+3) (by omega) hbl,?_,(e _ (by omega)).trans h.box,(e _ (by omega)).trans h.res,(e _ (by omega)).trans h.var,h.oc.kept hgr ?_,h.od.kept hgr ?_⟩
 ·exact grownBy_of_new h.grown hgr (fun k hk=>by cases hk; simp; omega)
 ·cases hv:vc.ownBlock with
  | none=>exact .inl rfl
  | some q=>
   refine .inr fun eq=>?_;simp only [Option.some.injEq] at eq;subst eq;rcases hC with hC | hC
   ·rcases h.oc.2 with ⟨rfl,_⟩ | ⟨g',cap,cur,rfl,_,hg',_⟩
    ·simp [Value.ownBlock] at hv
    ·simp only [Value.ownBlock,Option.some.injEq] at hv
     subst hv;rw [hb] at hg';simp only [Option.some.injEq,Obj.cells.injEq] at hg';exact hC hg'.2.1
   ·exact hC hv
 ·cases hv:vd.ownBlock with
  | none=>exact .inl rfl
  | some q=>
   refine .inr fun eq=>?_;simp only [Option.some.injEq] at eq;subst eq;rcases h.od.2 with ⟨rfl,_⟩ | ⟨g',cap,cur,rfl,_,hg',_⟩
   ·simp [Value.ownBlock] at hv
   ·simp only [Value.ownBlock,Option.some.injEq] at hv
    subst hv;rw [hb] at hg';simp only [Option.some.injEq,Obj.cells.injEq] at hg';exact hT hg'.2.1
theorem SelInv.addCase {w0 w w1:World} {g:Nat} {cc:Array Value} {vc vd vc':Value} {cs cs':List CaseM} {ds:List Int} (h:SelInv w0 w g cc vc vd cs ds) (ho:OwnC w1 (w0.heap.size+3) vc' cs') (hg:w.grownBy w1 vc.ownBlock) :
  SelInv w0 (w1.setCell ⟨w0.heap.size+2,5,none⟩ vc') g cc vc' vd cs' ds:=by
 have hs:=h.size;have hl:=h.lt;have hge:=h.oc.own_ge;have b:∀j,j<w0.heap.size+3→w1.heap[j]?=w.heap[j]?:=fun j hj=>hg.block j (by omega) (fun e=>by have:=hge j e.symm; omega);have b2:∀j,j≠w0.heap.size+2→(w1.setCell ⟨w0.heap.size+2,5,none⟩ vc').heap[j]?=w1.heap[j]?:=fun j hj=>heap_setCell_other w1 ⟨w0.heap.size+2,5,none⟩ j _ hj;have hb:Below (w0.heap.size+2) w (w1.setCell ⟨w0.heap.size+2,5,none⟩ vc'):=by
  refine ⟨hg.os,hg.tape,hg.output,by simpa using hg.size,fun k hk=>(b2 k (by omega)).trans (b k (by omega))⟩
 have hv:=heap_setCell_same w1 (w0.heap.size+2) 5 _ _ vc' ((b _ (by omega)).trans h.var);refine ⟨hl,?_,h.codes.kept (by omega) hb,?_,(b2 _ (by omega)).trans ((b _ (by omega)).trans h.box),(b2 _ (by omega)).trans ((b _ (by omega)).trans h.res),by simpa using hv,?_,?_⟩
 ·simpa using Nat.le_trans hs hg.size
 ·exact grownBy_of_new (grownBy_of_new h.grown hg (fun k hk=>by have:=hge k hk; omega)) (grownBy_setCell w1 ⟨w0.heap.size+2,5,none⟩ vc') (fun k hk=>by cases hk; simp)
 ·exact ho.kept (grownBy_setCell w1 ⟨w0.heap.size+2,5,none⟩ vc') (ho.ne (Nat.lt_succ_self _))
 ·have h1:=h.od.kept hg (rows_apart h.od h.oc (by decide))
  exact h1.kept (grownBy_setCell w1 ⟨w0.heap.size+2,5,none⟩ vc') (h1.ne (Nat.lt_succ_self _))
theorem SelInv.addDraw {w0 w w1:World} {g:Nat} {cc:Array Value} {vc vd vd':Value} {cs:List CaseM} {ds ds':List Int} (h:SelInv w0 w g cc vc vd cs ds) (ho:OwnI w1 (w0.heap.size+3) 3 .i64 vd' ds') (hg:w.grownBy w1 vd.ownBlock) :
  SelInv w0 (w1.setCell ⟨w0.heap.size+2,6,none⟩ vd') g cc vc vd' cs ds':=by
 have hs:=h.size;have hl:=h.lt;have hge:=h.od.own_ge;have b:∀j,j<w0.heap.size+3→w1.heap[j]?=w.heap[j]?:=fun j hj=>hg.block j (by omega) (fun e=>by have:=hge j e.symm; omega);have b2:∀j,j≠w0.heap.size+2→(w1.setCell ⟨w0.heap.size+2,6,none⟩ vd').heap[j]?=w1.heap[j]?:=fun j hj=>heap_setCell_other w1 ⟨w0.heap.size+2,6,none⟩ j _ hj;have hb:Below (w0.heap.size+2) w (w1.setCell ⟨w0.heap.size+2,6,none⟩ vd'):=by
  refine ⟨hg.os,hg.tape,hg.output,by simpa using hg.size,fun k hk=>(b2 k (by omega)).trans (b k (by omega))⟩
 have hv:=heap_setCell_same w1 (w0.heap.size+2) 6 _ _ vd' ((b _ (by omega)).trans h.var);refine ⟨hl,?_,h.codes.kept (by omega) hb,?_,(b2 _ (by omega)).trans ((b _ (by omega)).trans h.box),(b2 _ (by omega)).trans ((b _ (by omega)).trans h.res),by simpa using hv,?_,?_⟩
 ·simpa using Nat.le_trans hs hg.size
 ·exact grownBy_of_new (grownBy_of_new h.grown hg (fun k hk=>by have:=hge k hk; omega)) (grownBy_setCell w1 ⟨w0.heap.size+2,6,none⟩ vd') (fun k hk=>by cases hk; simp)
 ·have h1:=h.oc.kept hg (rows_apart h.oc h.od (by decide))
  exact h1.kept (grownBy_setCell w1 ⟨w0.heap.size+2,6,none⟩ vd') (h1.ne (Nat.lt_succ_self _))
 ·exact ho.kept (grownBy_setCell w1 ⟨w0.heap.size+2,6,none⟩ vd') (ho.ne (Nat.lt_succ_self _))
theorem SelInv.own_lt {w0 w:World} {g:Nat} {cc:Array Value} {vc vd:Value} {cs:List CaseM} {ds:List Int} (h:SelInv w0 w g cc vc vd cs ds) (b:Nat) (hb:w.heap.size≤b):vc.ownBlock≠some b:=by
 intro e;have:=(World.ownsRow.lt h.oc b e).2;omega
structure YInv (w0 w:World) (g:Nat) (cc:Array Value) (vc vd:Value) (cs:List CaseM) (ds:List Int) (Y:Nat) (cells:Array Value):Prop where
 inv:SelInv w0 w g cc vc vd cs ds
 row:w.heap[Y]?=some (.cells cells 58 (0,0))
 ge:w0.heap.size+3≤Y
 ne:vc.ownBlock≠some Y
def zeroCase:Array Value:=#[.bool false,.int .i64 0,.int .u64 0]
theorem YInv.new {w0 w:World} {g:Nat} {cc:Array Value} {vc vd:Value} {cs:List CaseM} {ds:List Int} (h:SelInv w0 w g cc vc vd cs ds):YInv w0 (w.alloc (.cells zeroCase 58)) g cc vc vd cs ds w.heap.size zeroCase:=
 ⟨h.below (below_new (Below.refl _ _) _),heap_alloc_new _ _,h.size,h.own_lt _ (Nat.le_refl _)⟩
theorem YInv.lit {w0 w:World} {g:Nat} {cc:Array Value} {vc vd:Value} {cs:List CaseM} {ds:List Int} (h:SelInv w0 w g cc vc vd cs ds) (cells:Array Value):YInv w0 (w.alloc (.cells cells 58)) g cc vc vd cs ds w.heap.size cells:=
 ⟨h.below (below_new (Below.refl _ _) _),heap_alloc_new _ _,h.size,h.own_lt _ (Nat.le_refl _)⟩
theorem YInv.frozen {w0 w:World} {g:Nat} {cc:Array Value} {vc vd:Value} {cs:List CaseM} {ds:List Int} {Y:Nat} {cells:Array Value} (h:YInv w0 w g cc vc vd cs ds Y cells):w.frozen? ⟨Y,0,none⟩=false∧w.frozen? ⟨Y,1,none⟩=false∧w.frozen? ⟨Y,2,none⟩=false:=
 ⟨frozen_of_row _ _ 0 _ _ h.row,frozen_of_row _ _ 1 _ _ h.row,frozen_of_row _ _ 2 _ _ h.row⟩
theorem YInv.next {w0 w w':World} {g:Nat} {cc:Array Value} {vc vd:Value} {cs:List CaseM} {ds:List Int} {Y:Nat} {cells:Array Value} (h:YInv w0 w g cc vc vd cs ds Y cells) (hc:CodesE w' g) (hg:w.grownBy w' (some g)):YInv w0 w' g cc vc vd cs ds Y cells:=by
 have hl:=h.inv.lt;have hge:=h.ge;exact ⟨h.inv.next hc hg,(hg.block Y (Array.getElem?_eq_some_iff.1 h.row).1 (by simp; omega)).trans h.row,h.ge,h.ne⟩
theorem YInv.set {w0 w:World} {g:Nat} {cc:Array Value} {vc vd:Value} {cs:List CaseM} {ds:List Int} {Y:Nat} {cells:Array Value} (h:YInv w0 w g cc vc vd cs ds Y cells) (o:Nat) (u:Value):YInv w0 (w.setCell ⟨Y,o,none⟩ u) g cc vc vd cs ds Y (cells.setIfInBounds o u):=
 ⟨h.inv.mine h.row (by decide) h.ge (.inr h.ne),heap_setCell_same w Y o _ _ u h.row,h.ge,h.ne⟩
theorem YInv.set3 {w0 w:World} {g:Nat} {cc:Array Value} {vc vd:Value} {cs:List CaseM} {ds:List Int} {Y:Nat} (h:YInv w0 w g cc vc vd cs ds Y zeroCase) (a b c:Value):YInv w0 (((w.setCell ⟨Y,0,none⟩ a).setCell ⟨Y,1,none⟩ b).setCell ⟨Y,2,none⟩ c) g cc vc vd cs ds Y #[a,b,c]:=by
 have:=((h.set 0 a).set 1 b).set 2 c;simpa [zeroCase] using this
theorem SelInv.varAt {w0 w w1:World} {g:Nat} {cc:Array Value} {vc vd:Value} {cs:List CaseM} {ds:List Int} {row:Option Nat} (h:SelInv w0 w g cc vc vd cs ds) (hg:w.grownBy w1 row) (hr:∀j,row=some j→w0.heap.size+3≤j) :
  w1.heap[w0.heap.size+2]?=some (.cells #[.int .i64 4,.int .i64 0,.int .i64 0,.int .u64 0,.int .i64 0,vc,vd] 44 (0,0)):=
 (hg.block _ (by have:=h.size; omega) (fun e=>by have:=hr _ e.symm; omega)).trans h.var
theorem OwnC.shape_ne {w:World} {base:Nat} {v:Value} {l:List CaseM} {y:CaseM} (h:OwnC w base v (l ++ [y])):∃g cap,v=.slice (some ⟨g,0,none⟩) (l.length+1) cap:=by
 rcases h.shape with ⟨_,h1⟩ | ⟨g,cap,h1,_⟩
 ·exact absurd h1 (by simp)
 ·exact ⟨g,cap,by simpa using h1⟩
theorem OwnC.one {w:World} {base:Nat} {v:Value} {l:List CaseM} (h:OwnC w base v l):v.oneCell'=true:=by
 rcases h.shape with ⟨rfl,_⟩ | ⟨g,cap,rfl,_⟩ <;> rfl
theorem OwnI.one {w:World} {base:Nat} {e:TypeId} {k:IntKind} {v:Value} {l:List Int} (h:OwnI w base e k v l):v.oneCell'=true:=by
 rcases h.shape with ⟨rfl,_⟩ | ⟨g,cap,rfl,_⟩ <;> rfl
def newB (B:Nat) (v:Value):Prop:=∀a n c,v=.slice (some a) n c→n=0∨B≤a.block
theorem newB.off {B g:Nat} {v:Value} (h:newB B v) (hg:g<B):offB g v:=fun a n c e=>(h a n c e).imp id fun h=>by omega
theorem newB.mono {B C:Nat} {v:Value} (h:newB B v) (hc:C≤B):newB C v:=fun a n c e=>(h a n c e).imp id fun h=>by omega
theorem newB.nil (B:Nat):newB B (.slice none 0 0):=fun a n c e=>by simp at e
theorem OwnI.newB {w:World} {base:Nat} {e:TypeId} {k:IntKind} {v:Value} {l:List Int} (h:OwnI w base e k v l):newB base v:=by
 intro a n c e;subst e;exact .inr (h.own_ge a.block rfl)
theorem OwnC.newB {w:World} {base:Nat} {v:Value} {l:List CaseM} (h:OwnC w base v l):newB base v:=by
 intro a n c e;subst e;exact .inr (h.own_ge a.block rfl)
def OpN (w:World) (B:Nat) (v:Value) (op:OpM):Prop:=
 ∃vc vd,v=.agg #[.int .i64 op.kind,.int .i64 op.mode,.int .i64 op.chan,.int .u64 op.val,.int .i64 op.dl,vc,vd]∧SlC w vc op.cases∧SlI w .i64 vd op.draws∧newB B vc∧newB B vd
theorem OpN.grown {w w':World} {B b:Nat} {v:Value} {op:OpM} (h:OpN w B v op) (hg:w.grownBy w' (some b)) (hb:b<B):OpN w' B v op:=by
 obtain ⟨vc,vd,e,h1,h2,h3,h4⟩:=h; exact ⟨vc,vd,e,h1.grown hg (h3.off hb),h2.grown hg (h4.off hb),h3,h4⟩
theorem OpN.mono {w:World} {B C:Nat} {v:Value} {op:OpM} (h:OpN w B v op) (hc:C≤B):OpN w C v op:=by
 obtain ⟨vc,vd,e,h1,h2,h3,h4⟩:=h; exact ⟨vc,vd,e,h1,h2,h3.mono hc,h4.mono hc⟩
theorem SelInv.fin {w0 w:World} {g:Nat} {cc:Array Value} {vc vd:Value} {cs:List CaseM} {ds:List Int} (h:SelInv w0 w g cc vc vd cs ds) (h1:cs.length≤140737488351232) (h2:∀x∈cs,x.ok) (h3:ds.length≤140737488351232) (h4:∀x∈ds,x=IntKind.i64.wrap x) (cells:Array Value) (kd m ch vl d:Int) :
  OpN (w.setRow (w0.heap.size+1) cells) w0.heap.size (.agg #[.int .i64 kd,.int .i64 m,.int .i64 ch,.int .u64 vl,.int .i64 d,vc,vd]) ⟨kd,m,ch,vl,d,cs,ds⟩∧CodesE (w.setRow (w0.heap.size+1) cells) g∧w0.grownBy (w.setRow (w0.heap.size+1) cells) (some g):=by
 have hl:=h.lt;have hgr:=grownBy_setRow w (w0.heap.size+1) cells;refine ⟨⟨vc,vd,rfl,(h.oc.kept hgr (h.oc.ne (by omega))).read h1 h2,(h.od.kept hgr (h.od.ne (by omega))).read h3 h4,h.oc.newB.mono (by omega),h.od.newB.mono (by omega)⟩,?_,grownBy_of_new h.grown hgr (fun k hk=>by cases hk; omega)⟩;exact h.codes.kept (B:=w0.heap.size) hl (below_setRow (Below.refl _ w) (by omega) cells)
theorem all7 {k0 k1 k2 k3 k4:IntKind} {n0 n1 n2 n3 n4:Int} {u v:Value} (hu:u.oneCell'=true) (hv:v.oneCell'=true):(#[.int k0 n0,.int k1 n1,.int k2 n2,.int k3 n3,.int k4 n4,u,v]:Array Value).all (·.oneCell')=true:=by
 have hi:∀k n,(Value.int k n).oneCell'=true:=fun _ _=>rfl;simp [hi,hu,hv]
open Go.RowKit
theorem fd_get (x:Int) (l:List Int) (h:fd x l<l.length):l.getD (fd x l) 0=x:=by
 induction l with
 | nil=>simp at h
 | cons y t ih=>
  unfold fd at h ⊢;by_cases e:y=x
  ·rw [if_pos e]; simpa using e
  ·rw [if_neg e] at h ⊢
   simpa using ih (by simpa using h)
theorem fd_mem (x:Int) (l:List Int):x∈l↔fd x l<l.length:=by
 induction l with
 | nil=>simp
 | cons y t ih=>
  unfold fd;by_cases e:y=x
  ·simp [e]
  ·rw [if_neg e]
   simp only [List.mem_cons,List.length_cons];rw [ih];constructor
   ·rintro (h | h)
    ·exact absurd h.symm e
    ·omega
   ·intro h; right; omega
def Full (n:Nat) (l:List Int):Prop:=l.length=n∧∀i:Nat,i<n→(i:Int)∈l
theorem full_asc (n:Nat):Full n (asc n):=⟨asc_length n,fun i hi=>by simp [asc]; exact ⟨i,hi,rfl⟩⟩
theorem asc_succ (n:Nat):asc (n+1)=asc n ++ [(n:Int)]:=by simp [asc,List.range_succ]
theorem Full.perm {n:Nat} {l:List Int} (h:Full n l):l.Perm (asc n):=by
 induction n generalizing l with
 | zero=>obtain rfl:=List.length_eq_zero_iff.1 h.1; exact List.Perm.refl _
 | succ n ih=>
  have hm:=h.2 n (by omega);have p1:=List.perm_cons_erase hm;have hf:Full n (l.erase (n:Int)):=by
   refine ⟨by rw [List.length_erase_of_mem hm,h.1]; rfl,fun i hi=>?_⟩;exact (List.mem_erase_of_ne (by omega)).2 (h.2 i (by omega))
  refine p1.trans (((ih hf).cons _).trans ?_);rw [asc_succ];exact (List.perm_append_singleton _ _).symm
theorem asc_nodup (n:Nat):(asc n).Nodup:=by
 induction n with
 | zero=>simp [asc]
 | succ n ih=>
  rw [asc_succ,List.nodup_append];refine ⟨ih,by simp,fun x hx y hy=>?_⟩;simp at hy;have:=asc_mem n x hx;omega
theorem Full.nodup {n:Nat} {l:List Int} (h:Full n l):l.Nodup:=h.perm.symm.nodup (asc_nodup n)
theorem Full.range {n:Nat} {l:List Int} (h:Full n l) (x:Int) (hx:x∈l):0≤x∧x<n:=asc_mem n x (h.perm.mem_iff.1 hx)
theorem getD_set (l:List Int) (i j:Nat) (x:Int) (hi:i<l.length):(l.set i x).getD j 0=if i=j then x else l.getD j 0:=by
 simp only [List.getD_eq_getElem?_getD,List.getElem?_set];by_cases e:i=j
 ·subst e; simp [hi]
 ·simp [e]
theorem swp_get (l:List Int) (i k j:Nat) (hi:i<l.length) (hk:k<l.length) :
  (swp l i k).getD j 0=if j=k then l.getD i 0 else if j=i then l.getD k 0 else l.getD j 0:=by
 unfold swp;rw [getD_set _ _ _ _ (by simpa using hk),getD_set _ _ _ _ hi];by_cases e1:j=k
 ·subst e1; simp
 ·have e1':¬k=j:=fun h=>e1 h.symm
  by_cases e2:j=i
  ·subst e2; simp [e1,e1']
  ·have e2':¬i=j:=fun h=>e2 h.symm
   simp [e1,e1',e2,e2']
theorem mem_of_getD (l:List Int) (j:Nat) (hj:j<l.length):l.getD j 0∈l:=by simp [List.getD_eq_getElem?_getD,hj]
theorem getD_of_mem {l:List Int} {x:Int} (h:x∈l):∃j,j<l.length∧l.getD j 0=x:=
 ⟨fd x l,(fd_mem x l).1 h,fd_get x l ((fd_mem x l).1 h)⟩
theorem mem_swp (l:List Int) (i k:Nat) (hi:i<l.length) (hk:k<l.length) (x:Int) (h:x∈l):x∈swp l i k:=by
 obtain ⟨j,hj,rfl⟩:=getD_of_mem h;by_cases e1:j=i
 ·have:=mem_of_getD (swp l i k) k (by rw [swp_length]; exact hk)
  rw [swp_get l i k k hi hk,if_pos rfl] at this;rw [e1]; exact this
 ·by_cases e2:j=k
  ·have:=mem_of_getD (swp l i k) i (by rw [swp_length]; exact hi)
   rw [swp_get l i k i hi hk] at this;by_cases e3:i=k
   ·omega
   ·rw [if_neg e3,if_pos rfl] at this
    rw [e2]; exact this
  ·have:=mem_of_getD (swp l i k) j (by rw [swp_length]; exact hj)
   rw [swp_get l i k j hi hk,if_neg e2,if_neg e1] at this;exact this
theorem Full.swp {n:Nat} {l:List Int} (h:Full n l) (i k:Nat) (hi:i<n) (hk:k<n):Full n (swp l i k):=
 ⟨by rw [swp_length]; exact h.1,fun j hj=>mem_swp l i k (by rw [h.1]; exact hi) (by rw [h.1]; exact hk) _ (h.2 j hj)⟩
theorem Full.inj {n:Nat} {l:List Int} (h:Full n l) (i j:Nat) (hi:i<n) (hj:j<n) (e:l.getD i 0=l.getD j 0):i=j:=by
 have hn:=h.nodup;have hl:=h.1;have:=(List.getElem_inj (i:=i) (j:=j) hn (h₀:=by omega) (h₁:=by omega)).1;apply this;simpa [List.getD_eq_getElem?_getD,show i<l.length by omega,show j<l.length by omega] using e
def un (o:List Int):Nat→List Int→List Int
 | 0,_=>[]
 | i+1,rest=>un o i (swp rest i (fd (o.getD i 0) rest)) ++ [((fd (o.getD i 0) rest:Nat):Int)]
def Agree (n q:Nat) (o rest:List Int):Prop:=Full n rest∧∀j,q≤j→j<n→rest.getD j 0=o.getD j 0
theorem Agree.start (n:Nat) (o:List Int):Agree n n o (asc n):=⟨full_asc n,fun j h1 h2=>by omega⟩
theorem Agree.step {n i k:Nat} {o rest:List Int} (h:Agree n (i+1) o rest) (hi:i<n) (hk:k≤i) (hx:rest.getD k 0=o.getD i 0):Agree n i o (swp rest i k):=by
 have hl:=h.1.1;refine ⟨h.1.swp i k hi (by omega),fun j h1 h2=>?_⟩;rw [swp_get _ _ _ _ (by omega) (by omega)];by_cases e1:j=k
 ·have:i=k:=by omega
  rw [if_pos e1,this,hx,e1,this]
 ·rw [if_neg e1]
  by_cases e2:j=i
  ·rw [if_pos e2,hx,e2]
  ·rw [if_neg e2]; exact h.2 j (by omega) h2
theorem Agree.found {n i:Nat} {o rest:List Int} (h:Agree n (i+1) o rest) (ho:Full n o) (hi:i<n):fd (o.getD i 0) rest≤i:=by
 have hl:=h.1.1;have hm:o.getD i 0∈rest:=by
  have hr:=ho.range _ (mem_of_getD o i (by rw [ho.1]; exact hi));have:=h.1.2 (o.getD i 0).toNat (by omega);rwa [Int.toNat_of_nonneg hr.1] at this
 have hp:=(fd_mem _ _).1 hm;refine Classical.byContradiction fun hc=>?_;have e:=h.2 (fd (o.getD i 0) rest) (by omega) (by omega);rw [fd_get _ _ hp] at e;have:=ho.inj i _ hi (by omega) e;omega
theorem Agree.fin {n:Nat} {o rest:List Int} (h:Agree n 0 o rest) (ho:o.length=n):rest=o:=
 ext_same _ _ (by rw [h.1.1,ho]) fun j hj=>h.2 j (by omega) (by rw [← h.1.1]; exact hj)
theorem shuf_full (d:List Int) (n i:Nat) (l:List Int) (h:Full n l) (hi:i<n):Full n (shuf d i l):=by
 induction i generalizing l with
 | zero=>exact h
 | succ i ih=>
  unfold shuf;have:=drawI_le d (i+1);exact ih _ (h.swp _ _ hi (by omega)) (by omega)
theorem okD_snoc (l:List Int) (i:Nat) (x:Int):okD i (l ++ [x])=(okD i l && decide (0≤x∧x≤(i+l.length:Nat))):=by
 induction l generalizing i with
 | nil=>simp [okD]
 | cons y t ih=>
  rw [List.cons_append,okD,ih,okD,Bool.and_assoc,List.length_cons,show i+1+t.length=i+(t.length+1) by omega]
structure SelOk (cs:List CaseM) (ds:List Int) (k:Nat):Prop where
 nc:cs.length=k
 nd:ds.length=k
 good:∀c∈cs,c.ok∧(-1≤c.chan∧c.chan<8)∧(c.send=true∨c.val=0)
 dok:okD 0 ds=true
 dsm:∀x∈ds,0≤x∧x<100
theorem SelOk.snoc {cs:List CaseM} {ds:List Int} {k:Nat} (h:SelOk cs ds k) (hk:k<50) (c:CaseM) (d:Int) (h1:c.ok) (h2:-1≤c.chan∧c.chan<8) (h3:c.send=true∨c.val=0) (h4:0≤d∧d≤k):SelOk (cs ++ [c]) (ds ++ [d]) (k+1):=by
 refine ⟨by simp [h.nc],by simp [h.nd],?_,?_,?_⟩
 ·intro x hx
  rw [List.mem_append,List.mem_singleton] at hx;rcases hx with hx | rfl
  ·exact h.good x hx
  ·exact ⟨h1,h2,h3⟩
 ·rw [okD_snoc,h.dok,h.nd]; simp; omega
 ·intro x hx
  rw [List.mem_append,List.mem_singleton] at hx;rcases hx with hx | rfl
  ·exact h.dsm x hx
  ·omega
theorem SelOk.goodOp {cs:List CaseM} {ds:List Int} {k:Nat} (h:SelOk cs ds k) (hk:k≤6) (m d:Int) (hm:(m=0∧d=0)∨(m=1∧d=0)∨(m=2∧0≤d∧d<5)):OpM.good ⟨4,m,0,0,d,cs,ds⟩:=by
 have hm2:0≤m∧m≤2:=by omega
 have hd2:0≤d∧d<5:=by omega
 refine ⟨?_,⟨i64_small _ (by simp only; omega) (by simp only; omega),i64_small _ (by simp only; omega) (by simp only; omega),i64_small _ (by simp only; omega) (by simp only; omega),u64_ok _ (by simp only; omega) (by simp only; omega),i64_small _ (by simp only; omega) (by simp only; omega)⟩,by simp only; rw [h.nc]; omega,by simp only; rw [h.nd]; omega,fun c hc=>(h.good c hc).1⟩;have k1:kindB ⟨4,m,0,0,d,cs,ds⟩=true:=by simp [kindB]; omega
 have k2:rangesB ⟨4,m,0,0,d,cs,ds⟩=true:=by
  simp only [rangesB,Bool.and_eq_true,decide_eq_true_eq,List.all_eq_true];refine ⟨⟨⟨by decide,by omega⟩,by omega⟩,fun c hc=>?_⟩;have:=(h.good c hc).2.1;simp [namedB]; omega
 have k3:shapeB ⟨4,m,0,0,d,cs,ds⟩=true:=by
  unfold shapeB;have a3:(((4:Int) == 3 || (4:Int) == 5 || (4:Int) == 6) && m != 0 || (d != 0 && m != 2))=false:=by
   rcases hm with ⟨rfl,rfl⟩ | ⟨rfl,rfl⟩ | ⟨rfl,_⟩ <;> simp
  simp only [a3,Bool.false_eq_true,if_false];have a4:((4:Int) != 4)=false:=by decide
  have a5:decide (ds.length≠cs.length)=false:=by simp [h.nc,h.nd]
  simp only [a4,a5,Bool.false_eq_true,if_false];simp only [bne_self_eq_false,Bool.or_false,Bool.false_eq_true,if_false,List.all_eq_true,Bool.or_eq_true,beq_iff_eq];exact fun c hc=>(h.good c hc).2.2
 have k4:¬(6<cs.length∨6<ds.length):=by rw [h.nc,h.nd]; omega
 show checkE ⟨4,m,0,0,d,cs,ds⟩=0;unfold checkE;rw [if_neg (by rw [k1]; simp),if_neg (by rw [k2]; simp),if_neg k4,if_neg (by rw [show okD 0 ds=true from h.dok]; simp),if_neg (by rw [k3]; simp)]
theorem SelInv.start {w:World} {g:Nat} (cc:Array Value) (h:CodesE w g) :
  SelInv w (((w.alloc (.cells cc 29)).alloc (.cells zeroOp 44)).alloc (.cells #[.int .i64 4,.int .i64 0,.int .i64 0,.int .u64 0,.int .i64 0,.slice none 0 0,.slice none 0 0] 44)) g cc (.slice none 0 0) (.slice none 0 0) [] []:=by
 have hb:=below_new (below_new (below_new (Below.refl w.heap.size w) (.cells cc 29)) (.cells zeroOp 44)) (.cells #[.int .i64 4,.int .i64 0,.int .i64 0,.int .u64 0,.int .i64 0,.slice none 0 0,.slice none 0 0] 44);refine ⟨h.lt,by simp,h.kept h.lt hb,grown_of_below hb,?_,?_,?_,OwnC.nil _ _,OwnI.nil _ _ _ _⟩
 ·rw [heap_alloc_old _ _ (by simp; omega)]; exact heap_alloc2_old _ _ _
 ·rw [heap_alloc_old _ _ (by simp)]; exact heap_alloc2_new _ _ _
 ·have:=heap_alloc_new ((w.alloc (.cells cc 29)).alloc (.cells zeroOp 44)) (.cells #[.int .i64 4,.int .i64 0,.int .i64 0,.int .u64 0,.int .i64 0,.slice none 0 0,.slice none 0 0] 44)
  simpa using this
set_option maxRecDepth 100000 in
set_option maxHeartbeats 8000000 in
theorem selectE (g most:Nat) (v:Value) (c:ConfM) (w:World) (h:CodesE w g) (hv:ConfX w g v c) (hc:c.caps.length≤8) (hm:most≤6) :
  Calls Try.prog 26 #[.pointer (some ⟨g,0,none⟩),v,.int .i64 most] w fun e w'=>∃u op,e=.returned u∧OpN w' w.heap.size u op∧op.good∧CodesE w' g∧w.grownBy w' (some g):=by
 have HX:=Lib.hid hv;obtain ⟨vc,vs,rfl,h1,h2,-⟩:=hv;have ST:=Lib.hid (SelInv.start #[vc,vs,.int .i64 c.threads] h);have HOK:Hid (SelOk [] [] 0):=⟨rfl,rfl,by simp,rfl,by simp⟩;obtain ⟨a,cap,rfl,-⟩:=h1.len;obtain ⟨a2,cap2,rfl,-⟩:=h2.len;have hlt:=h.lt;clear h1 h2 h;obtain ⟨W,hW⟩:∃W,(((w.alloc (.cells #[.slice a c.caps.length cap,.slice a2 c.starts.length cap2,.int .i64 c.threads] 29)).alloc (.cells zeroOp 44)).alloc (.cells #[.int .i64 4,.int .i64 0,.int .i64 0,.int .u64 0,.int .i64 0,.slice none 0 0,.slice none 0 0] 44))=W:=⟨_,rfl⟩;rw [hW] at ST;have HW:=Lib.hid hW;clear hW;go_enter Try.func26,Try.ntmps26;go_wp2_with fail;rw [show (#[.int .i64 0,.int .i64 0,.int .i64 0,.int .u64 0,.int .i64 0,.slice none 0 0,.slice none 0 0]:Array Value)=zeroOp from rfl,HW.out,show w.heap.size+1+1=w.heap.size+2 from rfl];clear HW;go_loopw [8,9] (fun i _ wr=>∃k:Nat,∃vcs vds cs ds,k≤most∧i=.int .i64 k∧Hid (SelInv w wr g #[.slice a c.caps.length cap,.slice a2 c.starts.length cap2,.int .i64 c.threads] vcs vds cs ds)∧Hid (SelOk cs ds k)) (fun i _ _=>most+1 - (intOf i).toNat)
 case atStart=>exact ⟨0,_,_,_,_,by omega,rfl,ST,HOK⟩
 case round=>
  obtain ⟨k,vcs,vds,cs,ds,hk,rfl,hI,hO⟩:=hrel;obtain ⟨wo,rfl⟩:∃wo:World,wo=wr:=⟨_,rfl⟩;go_wp2_with fail;refine (nextE g _ _ hI.out.codes (by omega) (by omega)).mono ?_; rintro e w1 ⟨x,rfl,hx0,hx1,hc1,hg1⟩;have hI1:=Lib.hid (hI.out.next hc1 hg1);clear hI hc1 hg1;by_cases hlt:(k:Int)<x
  ·go_upto_region 5 with fail
   go_cut [9] (fun s9 wx=>∃(Y:Nat) (sd:Bool) (z:Int),s9=.pointer (some ⟨Y,0,none⟩)∧-1≤z∧z<8∧Hid (YInv w wx g #[.slice a c.caps.length cap,.slice a2 c.starts.length cap2,.int .i64 c.threads] vcs vds cs ds Y #[.bool sd,.int .i64 z,.int .u64 0]))
   case first=>
    obtain ⟨b0,b1,b2⟩:=row3 hI1.out.box;have q1:w.heap.size<w1.heap.size:=by have:=hI1.out.size; omega
    go_region_law (first
     | (go_simp; go_at_call 46; refine (channelE g _ c _ (by exact hY2.out.inv.codes) (by exact HX.out.grown hY2.out.inv.grown) hc).mono ?_; rintro e w3 ⟨z,rfl,hz0,hz1,hc3,hg3⟩; have hY3:=Lib.hid (hY2.out.next hc3 hg3); obtain ⟨y0,y1,y2⟩:=row3 hY3.out.row; obtain ⟨z0,z1,z2⟩:=hY3.out.frozen)
     | (go_simp; go_at_call 46; refine (channelE g _ c _ (by exact hI2.out.codes) (by exact HX.out.grown hI2.out.grown) hc).mono ?_; rintro e w3 ⟨z,rfl,hz0,hz1,hc3,hg3⟩; have hI3:=Lib.hid (hI2.out.next hc3 hg3))
     | (go_simp; go_at_call 46; refine (channelE g _ c _ (by exact (YInv.new hI2.out).inv.codes) (by exact HX.out.grown (YInv.new hI2.out).inv.grown) hc).mono ?_; rintro e w3 ⟨z,rfl,hz0,hz1,hc3,hg3⟩; have hY3:=Lib.hid ((YInv.new hI2.out).next hc3 hg3); obtain ⟨y0,y1,y2⟩:=row3 hY3.out.row; obtain ⟨z0,z1,z2⟩:=hY3.out.frozen)
     | (go_simp; go_at_call 16; refine (nextE g 2 _ (by exact hI1.out.codes) (by omega) (by omega)).mono ?_; rintro e w2 ⟨y,rfl,hy0,hy1,hc2,hg2⟩; have hI2:=Lib.hid (hI1.out.next hc2 (undrewG hg2)); obtain ⟨b0,b1,b2⟩:=row3 hI2.out.box; have q2:w.heap.size<w2.heap.size:=(by have:=hI2.out.size; omega))
     | (go_simp; go_at_call 16; refine (nextE g 2 _ (by exact (YInv.new hI1.out).inv.codes) (by omega) (by omega)).mono ?_; rintro e w2 ⟨y,rfl,hy0,hy1,hc2,hg2⟩; have hY2:=Lib.hid ((YInv.new hI1.out).next hc2 (undrewG hg2)); obtain ⟨b0,b1,b2⟩:=row3 hY2.out.inv.box))
    all_goals
     go_wp2_with fail;go_meet;exact ⟨_,_,_,rfl,hz0,hz1,by first | exact hY3.out.set3 _ _ _ | exact YInv.lit hI3.out _⟩
   case rest=>
    obtain ⟨Y,sd,z,rfl,hz0,hz1,hY⟩:=hcut;obtain ⟨y0,y1,y2⟩:=row3 hY.out.row;clear hI1;cases sd with
    | true=>
     go_wp2_with fail;refine (valueE g _ hY.out.inv.codes).mono ?_; rintro e w4 ⟨val,rfl,hval,hc4,hg4⟩;have hY4:=Lib.hid (hY.out.next hc4 hg4);obtain ⟨z0,z1,z2⟩:=hY4.out.frozen;obtain ⟨y0,y1,y2⟩:=row3 hY4.out.row;have hY5':=hY4.out.set 2 (.int .u64 val);simp at hY5';have hY5:=Lib.hid hY5';have HCS:Hid ((⟨true,z,val⟩:CaseM).ok):=⟨i64_small _ (by simp only; omega) (by simp only; omega),hval⟩;clear hval hc4 hg4 hY5' hY4;obtain ⟨y0,y1,y2⟩:=row3 hY5.out.row;obtain ⟨v0,v1,v2,v3,v4,v5,v6⟩:=row7 hY5.out.inv.var;go_upto_region 9 with (at_builtin; refine wp_append_case _ rfl _ _ rfl (w.heap.size+3) vcs cs rfl (hY5.out.inv.oc.alloc _) ⟨true,z,val⟩ _ rfl ?_ ?_ ?_ ?_; exact ⟨World.cell?_alloc_at _ _ _ _ (by simp),World.cell?_alloc_at _ _ _ _ (by simp),World.cell?_alloc_at _ _ _ _ (by simp)⟩; (rw [hO.out.nc]; omega); (have:=hY5.out.inv.size; simp at this ⊢; omega); (intro vcs2 w6 ho6 hg6; obtain ⟨g6,cap6,e6⟩:=OwnC.shape_ne ho6; subst e6; have hV6:=row7 (SelInv.varAt (hY5.out.inv.below (below_new (Below.refl _ _) _)) hg6 hY5.out.inv.oc.own_ge); have hF6:=frozen_of_row _ _ 5 _ _ (SelInv.varAt (hY5.out.inv.below (below_new (Below.refl _ _) _)) hg6 hY5.out.inv.oc.own_ge); obtain ⟨x0,x1,x2,x3,x4,x5,x6⟩:=hV6))
     have hI6:=Lib.hid (SelInv.addCase (hY5.out.inv.below (below_new (Below.refl _ _) _)) ho6 hg6);generalize (Value.slice (some ⟨g6,0,none⟩) (cs.length+1) cap6)=vcs2 at *;clear ho6 hg6 hY5 hY;generalize w6.setCell ⟨w.heap.size+2,5,none⟩ vcs2=W6 at *;clear x0 x1 x2 x3 x4 x5 x6 hF6;obtain ⟨x0,x1,x2,x3,x4,x5,x6⟩:=row7 hI6.out.var;have q9a:(0:Int)≤(k:Int)+1:=by omega
     have q9b:(1:Int)≤(k:Int)+1:=by omega
     have q9c:(k:Int)+1≤256:=by omega
     have e9:IntKind.i64.wrap ((k:Int)+1)=(k:Int)+1:=(i64_small _ (by omega) (by omega)).symm;go_region_law (first
      | (refine step_append_i64 (by rfl) _ _ (by rfl) (w.heap.size+3) vds ds (by rfl) (hI7.out.od.alloc _) d _ (by rfl) (by exact World.cell?_alloc_at _ _ _ _ rfl) (by rw [hO.out.nd]; omega) (by have:=hI7.out.size; simp; omega) ?_; intro vds2 w8 ho8 hg8; obtain ⟨g8,cap8,e8⟩:=OwnI.shape_ne ho8; subst e8; have hr8:=SelInv.varAt (hI7.out.below (below_new (Below.refl _ _) _)) hg8 hI7.out.od.own_ge; have hF8:=frozen_of_row _ _ 6 _ _ hr8; obtain ⟨x0,x1,x2,x3,x4,x5,x6⟩:=row7 hr8; clear hr8)
      | (go_simp; go_at_call 16; refine (nextE g ((k:Int)+1) _ (by exact hI6.out.codes) q9b q9c).mono ?_; rintro e w7 ⟨d,rfl,hd0,hd1,hc7,hg7⟩; have hI7:=Lib.hid (hI6.out.next hc7 (undrewG hg7)); obtain ⟨x0,x1,x2,x3,x4,x5,x6⟩:=row7 hI7.out.var; have q7:w.heap.size+2<w7.heap.size:=(by have:=hI7.out.size; omega)))
     all_goals
      have hI8:=Lib.hid (SelInv.addDraw (hI7.out.below (below_new (Below.refl _ _) _)) ho8 hg8);clear e9 q7 ho8 hg8 hc7 hg7 x0 x1 x2 x3 x4 x5 x6;have hO8:=Lib.hid (hO.out.snoc (by omega) ⟨true,z,val⟩ d HCS.out ⟨hz0,hz1⟩ (.inl rfl) ⟨hd0,by omega⟩);go_wp2;go_roundw
      case rel=>exact ⟨k+1,vcs2,_,_,_,by omega,by go_num,hI8,hO8⟩
      case measure=>simp [intOf]; omega
    | false=>
     have hY5:=hY;obtain ⟨val,hv0⟩:∃val:Int,val=0:=⟨0,rfl⟩;rw [← hv0] at hY5 y2;have HCS:Hid ((⟨false,z,val⟩:CaseM).ok):=⟨i64_small _ (by simp only; omega) (by simp only; omega),u64_ok _ (by simp only; omega) (by simp only; omega)⟩;have HV0:=Lib.hid hv0;clear hv0;obtain ⟨v0,v1,v2,v3,v4,v5,v6⟩:=row7 hY5.out.inv.var;go_upto_region 9 with (at_builtin; refine wp_append_case _ rfl _ _ rfl (w.heap.size+3) vcs cs rfl (hY5.out.inv.oc.alloc _) ⟨false,z,val⟩ _ rfl ?_ ?_ ?_ ?_; exact ⟨World.cell?_alloc_at _ _ _ _ rfl,World.cell?_alloc_at _ _ _ _ rfl,World.cell?_alloc_at _ _ _ _ rfl⟩; (rw [hO.out.nc]; omega); (have:=hY5.out.inv.size; simp at this ⊢; omega); (intro vcs2 w6 ho6 hg6; obtain ⟨g6,cap6,e6⟩:=OwnC.shape_ne ho6; subst e6; have hV6:=row7 (SelInv.varAt (hY5.out.inv.below (below_new (Below.refl _ _) _)) hg6 hY5.out.inv.oc.own_ge); have hF6:=frozen_of_row _ _ 5 _ _ (SelInv.varAt (hY5.out.inv.below (below_new (Below.refl _ _) _)) hg6 hY5.out.inv.oc.own_ge); obtain ⟨x0,x1,x2,x3,x4,x5,x6⟩:=hV6))
     have hI6:=Lib.hid (SelInv.addCase (hY5.out.inv.below (below_new (Below.refl _ _) _)) ho6 hg6);generalize (Value.slice (some ⟨g6,0,none⟩) (cs.length+1) cap6)=vcs2 at *;clear ho6 hg6 hY5 hY;generalize w6.setCell ⟨w.heap.size+2,5,none⟩ vcs2=W6 at *;clear x0 x1 x2 x3 x4 x5 x6 hF6;obtain ⟨x0,x1,x2,x3,x4,x5,x6⟩:=row7 hI6.out.var;have q9a:(0:Int)≤(k:Int)+1:=by omega
     have q9b:(1:Int)≤(k:Int)+1:=by omega
     have q9c:(k:Int)+1≤256:=by omega
     have e9:IntKind.i64.wrap ((k:Int)+1)=(k:Int)+1:=(i64_small _ (by omega) (by omega)).symm;go_region_law (first
      | (refine step_append_i64 (by rfl) _ _ (by rfl) (w.heap.size+3) vds ds (by rfl) (hI7.out.od.alloc _) d _ (by rfl) (by exact World.cell?_alloc_at _ _ _ _ rfl) (by rw [hO.out.nd]; omega) (by have:=hI7.out.size; simp; omega) ?_; intro vds2 w8 ho8 hg8; obtain ⟨g8,cap8,e8⟩:=OwnI.shape_ne ho8; subst e8; have hr8:=SelInv.varAt (hI7.out.below (below_new (Below.refl _ _) _)) hg8 hI7.out.od.own_ge; have hF8:=frozen_of_row _ _ 6 _ _ hr8; obtain ⟨x0,x1,x2,x3,x4,x5,x6⟩:=row7 hr8; clear hr8)
      | (go_simp; go_at_call 16; refine (nextE g ((k:Int)+1) _ (by exact hI6.out.codes) q9b q9c).mono ?_; rintro e w7 ⟨d,rfl,hd0,hd1,hc7,hg7⟩; have hI7:=Lib.hid (hI6.out.next hc7 (undrewG hg7)); obtain ⟨x0,x1,x2,x3,x4,x5,x6⟩:=row7 hI7.out.var; have q7:w.heap.size+2<w7.heap.size:=(by have:=hI7.out.size; omega)))
     all_goals
      have hI8:=Lib.hid (SelInv.addDraw (hI7.out.below (below_new (Below.refl _ _) _)) ho8 hg8);clear e9 q7 ho8 hg8 hc7 hg7 x0 x1 x2 x3 x4 x5 x6;have hO8:=Lib.hid (hO.out.snoc (by omega) ⟨false,z,val⟩ d HCS.out ⟨hz0,hz1⟩ (.inr HV0.out) ⟨hd0,by omega⟩);go_wp2;go_roundw
      case rel=>exact ⟨k+1,vcs2,_,_,_,by omega,by go_num,hI8,hO8⟩
      case measure=>simp [intOf]; omega
  ·obtain ⟨v0,v1,v2,v3,v4,v5,v6⟩:=row7 hI1.out.var
   have hdr:∀x∈ds,x=IntKind.i64.wrap x:=fun x hx=>i64_ok x (by have:=hO.out.dsm x hx; omega) (by have:=hO.out.dsm x hx; omega);have HDR:=Lib.hid hdr;have HSC:=Lib.hid (hI1.out.oc.read (by rw [hO.out.nc]; omega) fun x hx=>(hO.out.good x hx).1);have HSD:=Lib.hid (hI1.out.od.read (by rw [hO.out.nd]; omega) hdr);have one5:=hI1.out.oc.one;have one6:=hI1.out.od.one;clear hdr;go_wp2_with fail;refine (modeE g 4 0 0 0 0 vcs vds cs ds _ hI1.out.codes HSC.out HSD.out).mono ?_; rintro e w2 ⟨m,d,rfl,hmd,hc2,hg2⟩;have hI2:=Lib.hid (hI1.out.next hc2 hg2);have HMD:=Lib.hid hmd;clear hmd hc2 hg2;go_wp2_with (refine wpList_store_row rfl 44 _ _ rfl (w.heap.size+1) _ rfl rfl 44 zeroOp hI2.out.res (by kernel_rfl) rfl (all7 one5 one6) ?_);refine bodyPost_ret (v:=.agg #[.int .i64 4,.int .i64 m,.int .i64 0,.int .u64 0,.int .i64 d,vcs,vds]) (results_cell_row Try.results26 _ _ (w.heap.size+1) 44 _ (0,0) _ rfl (setRow_heap _ _ _ _ 44 (0,0) hI2.out.res) Try.underlying44 rfl (by kernel_rfl)) rfl ?_;obtain ⟨f1,f2,f3⟩:=hI2.out.fin (by rw [hO.out.nc]; omega) (fun x hx=>(hO.out.good x hx).1) (by rw [hO.out.nd]; omega) HDR.out #[.int .i64 4,.int .i64 m,.int .i64 0,.int .u64 0,.int .i64 d,vcs,vds] 4 m 0 0 d;exact ⟨_,_,rfl,f1,hO.out.goodOp (by omega) m d HMD.out,f2,f3⟩
end Go.Proofs.Ytiekicailidhcaa
