import Derived.Deep.DeepCutAuto
import Derived.Deep.CutBlock
import Derived.Lib.Overlaps
import Derived.Lib.AppendZerosOnto
import Derived.Shelf.Spec.SlicesInsert
import Derived.Test.YtiekicailidhcaaB13
import Derived.Test.YtiekicailidhcaaB04
import Derived.Test.YtiekicailidhcaaB11
import Derived.Test.YtiekicailidhcaaB05
import Derived.Test.YtiekicailidhcaaB10
set_option linter.unusedVariables false
set_option linter.unusedSimpArgs false
namespace Go.Proofs.Ytiekicailidhcaa
open Go.ChangeShapes Go.WideShapes Go.ChangeAt Go.RowKit
set_option maxRecDepth 100000
theorem run_neq_dn (a:Int) (b:Int) (c:Int) (d:Int) (e:Bool) (f:Int) (w:World):(binOp .neq 75 (.agg #[.int .i64 a,.int .i64 b,.int .i64 c,.int .u64 d,.bool e,.int .i64 f]) (.agg #[.int .i64 a,.int .i64 b,.int .i64 c,.int .u64 d,.bool e,.int .i64 f])).run Try.prog w=.ok (.bool false) w:=by
 have hu:=Try.underlying75;have hu0:=Try.underlying73;simp [go_sem]
theorem run_neq_cs (a:Bool) (b:Int) (c:Int) (w:World):(binOp .neq 58 (.agg #[.bool a,.int .i64 b,.int .u64 c]) (.agg #[.bool a,.int .i64 b,.int .u64 c])).run Try.prog w=.ok (.bool false) w:=by
 have hu:=Try.underlying58;simp [go_sem]
set_option maxRecDepth 100000 in
set_option maxHeartbeats 16000000 in
theorem sameDone_true (v v2:Value) (l:List DoneM) (w:World) (hv:SlS w 6 v (doneRows l)) (hv2:SlS w 6 v2 (doneRows l)):Calls Try.prog 23 #[v,v2] w fun e w'=>e=.returned (.bool true)∧Below w.heap.size w w':=by
 have HV:=Lib.hid hv;have HV2:=Lib.hid hv2;have hbd:=hv.1;rw [doneRows_length] at hbd;obtain ⟨a,cap,rfl,-⟩:=hv.len;obtain ⟨a2,cap2,rfl,-⟩:=hv2.len;rw [doneRows_length] at HV HV2 ⊢;clear hv hv2;go_enter Try.func23,Try.ntmps23;go_wp2_with fail;go_loopw [5] (fun u5 wr=>∃i:Nat,u5=.int .i64 i∧i≤l.length∧Hid (Below w.heap.size w wr)) (fun u5 _=>l.length - (intOf u5).toNat)
 case atStart=>exact ⟨0,rfl,by omega,Below.refl _ _⟩
 case round=>
  obtain ⟨i,rfl,hi,HB⟩:=hrel;obtain ⟨wo,rfl⟩:∃wo:World,wo=wr:=⟨_,rfl⟩;by_cases hlt:i<l.length
  ·have hltI:(i:Int)<(l.length:Int):=by omega
   have hw1:IntKind.i64.wrap ((i:Int)+1)=(i:Int)+1:=by rw [IntKind.wrap_i64]; omega
   obtain ⟨⟨et,⟨rk,rc,rv,ro,rn⟩⟩,he⟩:∃e,l.getD i doneZ=e:=⟨_,rfl⟩;obtain ⟨b,off,cp,hve,hb,c0,c1,c2,c3,c4,c5⟩:=(HV.out.below HB.out).done i hlt he;simp only [Value.slice.injEq] at hve;obtain ⟨rfl,-,rfl⟩:=hve;obtain ⟨b2,off2,cp2,hve,hb2,d0,d1,d2,d3,d4,d5⟩:=(HV2.out.below HB.out).done i hlt he;simp only [Value.slice.injEq] at hve;obtain ⟨rfl,-,rfl⟩:=hve;dsimp only at c0 c1 c2 c3 c4 c5 d0 d1 d2 d3 d4 d5;have hneq:=fun w=>run_neq_dn et rk rc rv ro rn w;clear he;go_upto_region 6 with fail
   have Xc0:=ext_cell _ _ hb _ c0;have Xc1:=ext_cell _ _ hb _ c1;have Xc2:=ext_cell _ _ hb _ c2;have Xc3:=ext_cell _ _ hb _ c3;have Xc4:=ext_cell _ _ hb _ c4;have Xc5:=ext_cell _ _ hb _ c5;have Xd0:=ext_cell _ _ hb2 _ d0;have Xd1:=ext_cell _ _ hb2 _ d1;have Xd2:=ext_cell _ _ hb2 _ d2;have Xd3:=ext_cell _ _ hb2 _ d3;have Xd4:=ext_cell _ _ hb2 _ d4;have Xd5:=ext_cell _ _ hb2 _ d5;clear c0 c1 c2 c3 c4 c5 d0 d1 d2 d3 d4 d5;refine wp_region_ext wo (by kernel_rfl) (by kernel_rfl) (Below.refl _ _) ?_
   repeat (go_big_quiet_step (fail))
   refine wpQuiet_nil ?_;intro _ hw';obtain ⟨n9,rfl⟩:=hw';have HN9:=Lib.hid n9.below;generalize n9.wd=w9 at *;clear Xc0 Xc1 Xc2 Xc3 Xc4 Xc5 Xd0 Xd1 Xd2 Xd3 Xd4 Xd5;have HB9:=Lib.hid (below_then HB.out HN9.out);go_wp2_with fail;go_roundw
   case rel=>exact ⟨i+1,by go_num,by omega,HB9⟩
   case measure=>simp [intOf]; omega
  ·have hge:¬(i:Int)<(l.length:Int):=by omega
   go_wp2;go_ret;exact ⟨rfl,HB.out⟩
set_option maxRecDepth 100000 in
set_option maxHeartbeats 16000000 in
theorem sameOp_true (va vb:Value) (op:OpM) (w:World) (ha:OpV w va op) (hb:OpV w vb op):Calls Try.prog 67 #[va,vb] w fun e w'=>e=.returned (.bool true)∧Below w.heap.size w w':=by
 obtain ⟨vc1,vd1,rfl,hc1,hd1⟩:=ha;obtain ⟨vc2,vd2,rfl,hc2,hd2⟩:=hb;obtain ⟨kd,md,oc,ov,odl,cs,ds⟩:=op;dsimp only at *;have hl1:=hc1.1;have hl2:=hd1.1;have HC1:=Lib.hid hc1;have HD1:=Lib.hid hd1;have HC2:=Lib.hid hc2;have HD2:=Lib.hid hd2;obtain ⟨a3,cap3,rfl⟩:=hc1.len;obtain ⟨a4,cap4,rfl,-⟩:=hd1.len;obtain ⟨a5,cap5,rfl⟩:=hc2.len;obtain ⟨a6,cap6,rfl,-⟩:=hd2.len;clear hc1 hd1 hc2 hd2;obtain ⟨W,hW,HB,R0,R1,hz⟩:=two_new w (.cells #[.int .i64 kd,.int .i64 md,.int .i64 oc,.int .u64 ov,.int .i64 odl,.slice a3 cs.length cap3,.slice a4 ds.length cap4] 44) (.cells #[.int .i64 kd,.int .i64 md,.int .i64 oc,.int .u64 ov,.int .i64 odl,.slice a5 cs.length cap5,.slice a6 ds.length cap6] 44);have HW:=Lib.hid hW;clear hW;go_enter Try.func67,Try.ntmps67;go_upto_region 1 with fail
 rw [HW.out];clear HW;obtain ⟨x0_0,x0_1,x0_2,x0_3,x0_4,x0_5,x0_6⟩:=rowc7 R0.out;obtain ⟨x1_0,x1_1,x1_2,x1_3,x1_4,x1_5,x1_6⟩:=rowc7 R1.out;go_wp2_with fail;clear x0_0 x0_1 x0_2 x0_3 x0_4 x0_5 x0_6 x1_0 x1_1 x1_2 x1_3 x1_4 x1_5 x1_6;go_loopw [5] (fun u wr=>∃i:Nat,u=.int .i64 i∧i≤cs.length∧Hid (Below W.heap.size W wr)) (fun u _=>cs.length - (intOf u).toNat)
 case atStart=>exact ⟨0,rfl,by omega,Below.refl _ _⟩
 case round=>
  obtain ⟨i,rfl,hi,HBI⟩:=hrel;obtain ⟨wo,rfl⟩:∃wo:World,wo=wr:=⟨_,rfl⟩;have OI0:=Lib.hid (row_below3 HBI.out R0.out);have OI1:=Lib.hid (row_below3 HBI.out R1.out);by_cases hlt:i<cs.length
  ·have hltI:(i:Int)<(cs.length:Int):=by omega
   have hw1:IntKind.i64.wrap ((i:Int)+1)=(i:Int)+1:=by rw [IntKind.wrap_i64]; omega
   have HBW:=Lib.hid (below_then HB.out HBI.out);obtain ⟨-,-,a9,cap9,hve,-,hcell⟩:=HC1.out.below HBW.out;simp only [Value.slice.injEq,true_and] at hve;obtain ⟨rfl,rfl⟩:=hve;obtain ⟨b8,o8,rfl,hb8,hca⟩:=hcell i hlt;obtain ⟨-,-,a9,cap9,hve,-,hcell2⟩:=HC2.out.below HBW.out;simp only [Value.slice.injEq,true_and] at hve;obtain ⟨rfl,rfl⟩:=hve;obtain ⟨b7,o7,rfl,hb7,hcb⟩:=hcell2 i hlt;obtain ⟨⟨xs,xc,xv⟩,hxi⟩:∃z,cs.getD i noCase=z:=⟨_,rfl⟩;rw [hxi] at hca hcb;obtain ⟨c80,c81,c82⟩:=hca;obtain ⟨c70,c71,c72⟩:=hcb;dsimp only at c80 c81 c82 c70 c71 c72;have hneq:=fun w=>run_neq_cs xs xc xv w;clear hcell hcell2 hxi;obtain ⟨y0,y1,y2,y3,y4,y5,y6⟩:=rowc7 OI0.out;obtain ⟨z0,z1,z2,z3,z4,z5,z6⟩:=rowc7 OI1.out;have hO0:=(ltR OI0);have hO1:=(ltR OI1);go_upto_region 6 with fail
   have Xy5:=ext_cell _ _ hO0 _ y5;have Xz5:=ext_cell _ _ hO1 _ z5;have Xc80:=ext_cell _ _ hb8 _ c80;have Xc81:=ext_cell _ _ hb8 _ c81;have Xc82:=ext_cell _ _ hb8 _ c82;have Xc70:=ext_cell _ _ hb7 _ c70;have Xc71:=ext_cell _ _ hb7 _ c71;have Xc72:=ext_cell _ _ hb7 _ c72;clear y5 z5 c80 c81 c82 c70 c71 c72;refine wp_region_ext wo (by kernel_rfl) (by kernel_rfl) (Below.refl _ _) ?_
   repeat (go_big_quiet_step (fail))
   refine wpQuiet_nil ?_;intro _ hw';obtain ⟨n9,rfl⟩:=hw';have HN9:=Lib.hid n9.below;generalize n9.wd=w9 at *;clear Xy5 Xz5 Xc80 Xc81 Xc82 Xc70 Xc71 Xc72;have HB9:=Lib.hid (below_then HBI.out HN9.out);go_wp2_with fail;go_roundw
   case rel=>exact ⟨i+1,by go_num,by omega,HB9⟩
   case measure=>simp [intOf]; omega
  ·have hge:¬(i:Int)<(cs.length:Int):=by omega
   obtain ⟨y0,y1,y2,y3,y4,y5,y6⟩:=rowc7 OI0.out;obtain ⟨z0,z1,z2,z3,z4,z5,z6⟩:=rowc7 OI1.out;go_wp2_with fail;clear y0 y1 y2 y3 y4 y5 y6 z0 z1 z2 z3 z4 z5 z6 OI0 OI1 hge hlt;go_loopw [6] (fun u wr=>∃i:Nat,u=.int .i64 i∧i≤ds.length∧Hid (Below W.heap.size W wr)) (fun u _=>ds.length - (intOf u).toNat)
   case atStart=>exact ⟨0,rfl,by omega,HBI.out⟩
   case round=>
    clear HBI hi;obtain ⟨i,rfl,hi,HBI⟩:=hrel;obtain ⟨wo,rfl⟩:∃wo:World,wo=wr:=⟨_,rfl⟩;have OI0:=Lib.hid (row_below3 HBI.out R0.out);have OI1:=Lib.hid (row_below3 HBI.out R1.out);by_cases hlt:i<ds.length
    ·have hltI:(i:Int)<(ds.length:Int):=by omega
     have hw1:IntKind.i64.wrap ((i:Int)+1)=(i:Int)+1:=by rw [IntKind.wrap_i64]; omega
     have HBW:=Lib.hid (below_then HB.out HBI.out);obtain ⟨-,-,a9,cap9,hve,-,hcell⟩:=HD1.out.below HBW.out;simp only [Value.slice.injEq,true_and] at hve;obtain ⟨rfl,rfl⟩:=hve;obtain ⟨b8,o8,rfl,hb8,c8⟩:=hcell i hlt;obtain ⟨-,-,a9,cap9,hve,-,hcell2⟩:=HD2.out.below HBW.out;simp only [Value.slice.injEq,true_and] at hve;obtain ⟨rfl,rfl⟩:=hve;obtain ⟨b7,o7,rfl,hb7,c7⟩:=hcell2 i hlt;obtain ⟨dv,hdv⟩:∃z,ds.getD i 0=z:=⟨_,rfl⟩;rw [hdv] at c8 c7;clear hcell hcell2 hdv;obtain ⟨y0,y1,y2,y3,y4,y5,y6⟩:=rowc7 OI0.out;obtain ⟨z0,z1,z2,z3,z4,z5,z6⟩:=rowc7 OI1.out;have hO0:=(ltR OI0);have hO1:=(ltR OI1);go_upto_region 11 with fail
     have Xy6:=ext_cell _ _ hO0 _ y6;have Xz6:=ext_cell _ _ hO1 _ z6;have Xc8:=ext_cell _ _ hb8 _ c8;have Xc7:=ext_cell _ _ hb7 _ c7;clear y6 z6 c8 c7;refine wp_region_ext wo (by kernel_rfl) (by kernel_rfl) (Below.refl _ _) ?_
     repeat (go_big_quiet_step (fail))
     refine wpQuiet_nil ?_;intro _ hw';obtain ⟨n9,rfl⟩:=hw';have HN9:=Lib.hid n9.below;generalize n9.wd=w9 at *;clear Xy6 Xz6 Xc8 Xc7;have HB9:=Lib.hid (below_then HBI.out HN9.out);go_wp2_with fail;go_roundw
     case rel=>exact ⟨i+1,by go_num,by omega,HB9⟩
     case measure=>simp [intOf]; omega
    ·have hge:¬(i:Int)<(ds.length:Int):=by omega
     obtain ⟨y0,y1,y2,y3,y4,y5,y6⟩:=rowc7 OI0.out;obtain ⟨z0,z1,z2,z3,z4,z5,z6⟩:=rowc7 OI1.out;go_wp2;go_ret;exact ⟨rfl,below_then HB.out HBI.out⟩
set_option maxRecDepth 100000 in
set_option maxHeartbeats 16000000 in
theorem sameWait_true (v v2:Value) (l:List WaitM) (w:World) (hv:SlW w v l) (hv2:SlW w v2 l) (hbd:l.length≤100000):Calls Try.prog 38 #[v,v2] w fun e w'=>e=.returned (.bool true)∧Below w.heap.size w w':=by
 have HV:=Lib.hid hv;have HV2:=Lib.hid hv2;obtain ⟨a,cap,rfl,-⟩:=hv.len;obtain ⟨a2,cap2,rfl,-⟩:=hv2.len;clear hv hv2;go_enter Try.func38,Try.ntmps38;go_wp2_with fail;go_loopw [5] (fun u5 wr=>∃i:Nat,u5=.int .i64 i∧i≤l.length∧Hid (Below w.heap.size w wr)) (fun u5 _=>l.length - (intOf u5).toNat)
 case atStart=>exact ⟨0,rfl,by omega,Below.refl _ _⟩
 case round=>
  obtain ⟨i,rfl,hi,HB⟩:=hrel;obtain ⟨wo,rfl⟩:∃wo:World,wo=wr:=⟨_,rfl⟩;by_cases hlt:i<l.length
  ·have hltI:(i:Int)<(l.length:Int):=by omega
   have hw1:IntKind.i64.wrap ((i:Int)+1)=(i:Int)+1:=by rw [IntKind.wrap_i64]; omega
   obtain ⟨b3,o3,cp,wc1,wd1,hve,hb3,c0,c1,c2,c3,c4,c5,c6,c7,hsc,hsd⟩:=(HV.out.below HB.out).at i hlt;simp only [Value.slice.injEq] at hve;obtain ⟨rfl,-,rfl⟩:=hve;obtain ⟨b4,o4,cp4,wc2,wd2,hve,hb4,d0,d1,d2,d3,d4,d5,d6,d7,hsc2,hsd2⟩:=(HV2.out.below HB.out).at i hlt;simp only [Value.slice.injEq] at hve;obtain ⟨rfl,-,rfl⟩:=hve;obtain ⟨⟨tt,⟨kd,md,oc,ov,odl,cs,ds⟩⟩,hx⟩:∃x,wat l i=x:=⟨_,rfl⟩;rw [hx] at c0 c1 c2 c3 c4 c5 d0 d1 d2 d3 d4 d5 hsc hsd hsc2 hsd2;dsimp only at c0 c1 c2 c3 c4 c5 d0 d1 d2 d3 d4 d5 hsc hsd hsc2 hsd2;obtain ⟨a5,k5,rfl⟩:=hsc.len;obtain ⟨a6,k6,rfl,-⟩:=hsd.len;obtain ⟨a7,k7,rfl⟩:=hsc2.len;obtain ⟨a8,k8,rfl,-⟩:=hsd2.len;have TS:=Lib.hid fun w' (hb:Below wo.heap.size wo w')=>sameOp_true _ _ ⟨kd,md,oc,ov,odl,cs,ds⟩ w' ⟨_,_,rfl,hsc.below hb,hsd.below hb⟩ ⟨_,_,rfl,hsc2.below hb,hsd2.below hb⟩;dsimp only at TS;clear hx hsc hsd hsc2 hsd2;go_upto_region 6 with fail
   have Xc0:=ext_cell _ _ hb3 _ c0;have Xc1:=ext_cell _ _ hb3 _ c1;have Xc2:=ext_cell _ _ hb3 _ c2;have Xc3:=ext_cell _ _ hb3 _ c3;have Xc4:=ext_cell _ _ hb3 _ c4;have Xc5:=ext_cell _ _ hb3 _ c5;have Xc6:=ext_cell _ _ hb3 _ c6;have Xc7:=ext_cell _ _ hb3 _ c7;have Xd0:=ext_cell _ _ hb4 _ d0;have Xd1:=ext_cell _ _ hb4 _ d1;have Xd2:=ext_cell _ _ hb4 _ d2;have Xd3:=ext_cell _ _ hb4 _ d3;have Xd4:=ext_cell _ _ hb4 _ d4;have Xd5:=ext_cell _ _ hb4 _ d5;have Xd6:=ext_cell _ _ hb4 _ d6;have Xd7:=ext_cell _ _ hb4 _ d7;clear c0 c1 c2 c3 c4 c5 c6 c7 d0 d1 d2 d3 d4 d5 d6 d7;refine wp_region_ext wo (by kernel_rfl) (by kernel_rfl) (Below.refl _ _) ?_
   repeat (go_big_quiet_step (first
    | (go_at_call 67; with_reducible exact calls_ext (TS.out _ (Ext.below _)))
    ))
   refine wpQuiet_nil ?_;intro _ hw';obtain ⟨n9,rfl⟩:=hw';have HN9:=Lib.hid n9.below;generalize n9.wd=w9 at *;clear Xc0 Xc1 Xc2 Xc3 Xc4 Xc5 Xc6 Xc7 Xd0 Xd1 Xd2 Xd3 Xd4 Xd5 Xd6 Xd7;have HB9:=Lib.hid (below_then HB.out HN9.out);go_wp2_with fail;go_roundw
   case rel=>exact ⟨i+1,by go_num,by omega,HB9⟩
   case measure=>simp [intOf]; omega
  ·have hge:¬(i:Int)<(l.length:Int):=by omega
   go_wp2;go_ret;exact ⟨rfl,HB.out⟩
set_option maxRecDepth 100000 in
set_option maxHeartbeats 16000000 in
theorem dsame_true (v v2:Value) (d:DeskM) (w:World) (h:DeskV w v d) (h2:DeskV w v2 d) (hd:d.ok):Calls Try.prog 14 #[v,v2] w fun e w'=>e=.returned (.bool true)∧Below w.heap.size w w':=by
 obtain ⟨vc1,vw1,rfl,hc1,hw1⟩:=h;obtain ⟨vc2,vw2,rfl,hc2,hw2⟩:=h2;have TC:=Lib.hid fun w' (hb:Below w.heap.size w w')=>rSame_any _ _ d.chans d.chans w' (hc1.below hb) (hc2.below hb);have TW:=Lib.hid fun w' (hb:Below w.heap.size w w')=>sameWait_true _ _ d.wait w' (hw1.below hb) (hw2.below hb) (Nat.le_trans hd.wl (by decide));rw [sameB_refl] at TC;obtain ⟨pc,kc,rfl,-⟩:=hc1.len;obtain ⟨pc2,kc2,rfl,-⟩:=hc2.len;obtain ⟨aw,kw,rfl,-⟩:=hw1.len;obtain ⟨aw2,kw2,rfl,-⟩:=hw2.len;obtain ⟨nc,hnc⟩:∃z,d.chans.length=z:=⟨_,rfl⟩;obtain ⟨wn,hwn⟩:∃z,d.wait.length=z:=⟨_,rfl⟩;obtain ⟨t,htt⟩:∃z,d.tick=z:=⟨_,rfl⟩;rw [hnc] at TC ⊢;rw [hwn] at TW ⊢;rw [htt];clear hc1 hw1 hc2 hw2 hnc hwn htt hd;obtain ⟨W,hW,HB,R0,R1,hz⟩:=two_new w (.cells #[.slice pc nc kc,.slice aw wn kw,.int .i64 t] 34) (.cells #[.slice pc2 nc kc2,.slice aw2 wn kw2,.int .i64 t] 34);have HW:=Lib.hid hW;clear hW;go_enter Try.func14,Try.ntmps14;go_upto_region 1 with fail
 rw [HW.out];clear HW;obtain ⟨x0_0,x0_1,x0_2⟩:=rowc3 R0.out;obtain ⟨x1_0,x1_1,x1_2⟩:=rowc3 R1.out;go_wp2_with fail;refine (TC.out _ HB.out).mono ?_; rintro e w1 ⟨rfl,hb1⟩;have R01:=Lib.hid (row_below3 hb1 R0.out);have R11:=Lib.hid (row_below3 hb1 R1.out);have HB1:=Lib.hid (below_then HB.out hb1);clear x0_0 x0_1 x0_2 x1_0 x1_1 x1_2 hb1 TC;obtain ⟨x0,x1,x2⟩:=rowc3 R01.out;obtain ⟨y0,y1,y2⟩:=rowc3 R11.out;go_wp2_with fail;refine (TW.out _ HB1.out).mono ?_; rintro e w2 ⟨rfl,hb2⟩;have HB2:=Lib.hid (below_then HB1.out hb2);clear x0 x1 x2 y0 y1 y2 hb2 TW;go_wp2;go_ret;exact ⟨rfl,HB2.out⟩
set_option maxRecDepth 100000 in
set_option maxHeartbeats 16000000 in
theorem insEndB_any (base:Nat) (v vx:Value) (rows rows2:List (List Value)) (w:World) (ho:OwnS w base 75 6 v rows) (hx:SlS w 6 vx rows2) (h1:rows.length≤100000) (h2:0<rows2.length) (h3:rows2.length≤100000) (hb:base≤w.heap.size):Calls Try.prog 79 #[v,.int .i64 (rows.length:Int),vx] w fun e w'=>∃v',e=.returned v'∧OwnS w' base 75 6 v' (rows ++ rows2)∧w.grownBy w' v.ownBlock∧(v'.ownBlock=v.ownBlock∨v'.ownBlock=some w.heap.size):=by
 have HO:=Lib.hid ho;obtain ⟨v',w',hrun,ho2,hg2,hon⟩:=run_app_ss w 37 37 (by kernel_rfl) Try.info_done rfl (by decide) (by decide) ho hx (by omega) hb;have hsh:∃a c,v=.slice a rows.length c∧rows.length≤c:=by
  rcases ho.shape with ⟨rfl,rfl⟩ | ⟨g,c,e,-,-,hc⟩
  ·exact ⟨none,0,rfl,Nat.le_refl _⟩
  ·exact ⟨_,c,e,hc⟩
 obtain ⟨a,c,rfl,hc⟩:=hsh;obtain ⟨b,d,rfl,-⟩:=hx.len;obtain ⟨n,hn⟩:∃z,rows.length=z:=⟨_,rfl⟩;obtain ⟨m,hm⟩:∃z,rows2.length=z:=⟨_,rfl⟩;obtain ⟨TQ,hTQ⟩:∃z:Ending→World→Prop,(fun e w'=>∃v',e=.returned v'∧OwnS w' base 75 6 v' (rows ++ rows2)∧w.grownBy w' (Value.slice a rows.length c).ownBlock∧(v'.ownBlock=(Value.slice a rows.length c).ownBlock∨v'.ownBlock=some w.heap.size))=z:=⟨_,rfl⟩;have HT:Hid (TQ (.returned v') w'):=by rw [← hTQ]; exact ⟨_,rfl,ho2,hg2,hon⟩
 rw [hTQ];rw [hn,hm] at hrun;rw [hn] at hc ⊢;rw [hm] at h2 ⊢;have hHR:=Lib.hid hrun;have hnc:(n:Int)≤(c:Int):=by omega
 have hm0:¬(m:Int)=0:=by omega
 clear ho hx hrun ho2 hg2 hon hn hm hTQ HO;go_enter Try.func79,Try.ntmps79;go_wp2_with (at_builtin; refine Lib.wpList_append_run _ rfl _ _ _ _ rfl _ _ rfl rfl _ _ hHR.out ?_)
 all_goals exact HT.out
set_option maxRecDepth 100000 in
set_option maxHeartbeats 16000000 in
theorem insRoomB_any (base g vb c i:Nat) (rows:List (List Value)) (r:List Value) (w:World) (ho:OwnS w base 75 6 (.slice (some ⟨g,0,none⟩) rows.length c) rows) (hi:i<rows.length) (hr:r.length=6) (hr1:∀u∈r,u.oneCell'=true) (hvb:w.heap[vb]?=some (.cells r.toArray 75 (0,0))) (hne:vb≠g) (hroom:rows.length+1≤c) :
  Calls Try.prog 79 #[.slice (some ⟨g,0,none⟩) rows.length c,.int .i64 (i:Int),.slice (some ⟨vb,0,none⟩) 1 1] w fun e w'=>∃v',e=.returned v'∧OwnS w' base 75 6 v' (rows.take i ++ [r] ++ rows.drop i)∧w.grownBy w' (some g)∧(v'.ownBlock=some g∨v'.ownBlock=some w.heap.size):=by
 obtain ⟨hrw,hxl,hor⟩:=ho;rcases hor with ⟨h,-⟩ | ⟨g',c',cur,he,hbg,hg,hnc,hcm,hcs,hct⟩
 ·simp at h
 simp only [Value.slice.injEq,Option.some.injEq,Addr.mk.injEq] at he;obtain ⟨⟨rfl,-,-⟩,-,rfl⟩:=he;obtain ⟨n,hn⟩:∃n,rows.length=n:=⟨_,rfl⟩;obtain ⟨xs,hxs⟩:∃xs,rows.flatten=xs:=⟨_,rfl⟩;rw [hn,hxs] at hxl hct;rw [hn] at hi hnc hroom ⊢;have hx1:∀u∈xs,u.oneCell'=true:=fun u hu=>by
  rw [← hxs] at hu;obtain ⟨r2,h2,h3⟩:=List.mem_flatten.1 hu;exact (hrw r2 h2).2 u h3
 have hsz:(Try.prog.info? 75).map (·.size)=some 6:=by
  obtain ⟨i0,hi0,h0,h1,h2⟩:=info_parts Try.info_dn2;rw [hi0]; simp [h1]
 have hzz:∀w,(Go.sizeOf 75).run Try.prog w=.ok 6 w:=fun w=>by
  obtain ⟨i0,hi0,h0,h1,h2⟩:=info_parts Try.info_dn2;simp [Go.sizeOf,typeInfo,hi0,h1]
 have hu:Try.prog.underlying 37=some (.slice 75):=by kernel_rfl
 have hcell:∀j v,xs[j]?=some v→w.cell? ⟨g,j,none⟩=some v:=fun j v h=>by
  have hj:=(List.getElem?_eq_some_iff.1 h).1;rw [← hct,List.getElem?_take] at h;split at h
  ·rw [cell_of_row _ _ j _ _ _ hg]; simpa using h
  ·cases h
 have hrc:∀j v,r[j]?=some v→w.cell? ⟨vb,j,none⟩=some v:=fun j v h=>by rw [cell_of_row _ _ j _ _ _ hvb]; simpa using h
 have hdl:(xs.drop (i * 6)).length=(n - i) * 6:=by rw [List.length_drop,hxl,Nat.sub_mul]
 have hcl:cur.toList.length=c * 6:=by simpa using hcs
 obtain ⟨cur1,hcur1⟩:∃z:List Value,cur.toList.take ((i+1) * 6) ++ xs.drop (i * 6) ++ cur.toList.drop ((i+1) * 6+(xs.drop (i * 6)).length)=z:=⟨_,rfl⟩;have hc1l:cur1.length=c * 6:=by
  rw [← hcur1,List.length_append,List.length_append,List.length_take,hdl,List.length_drop,hcl];omega
 have hcp1:∀ty dc sc,(Builtin.copy_ #[37,37] ty #[.slice (some ⟨g,(i+1) * 6,none⟩) (n - i) dc,.slice (some ⟨g,i * 6,none⟩) (n+1 - i) sc]).run Try.prog w.drew=.ok (goInt ((n - i:Nat):Int)) (w.drew.setRow g cur1.toArray):=fun ty dc sc=>by
  have hm:Nat.min (n+1 - i) (n - i)=n - i:=by simp only [Nat.min_def]; split <;> omega
  have h:=run_copy_wide w.drew 37 37 ty 75 g ((i+1) * 6) (n - i) dc 6 ⟨g,i * 6,none⟩ (n+1 - i) sc cur _ (xs.drop (i * 6)) hu hsz hg (by rw [hdl,hm])
   (fun j v hj=>by rw [Addr.add_lit]; exact hcell (i * 6+j) v (by rwa [List.getElem?_drop] at hj)) (by rw [hdl,hcs]; omega) (fun v hv=>hx1 v (List.mem_of_mem_drop hv))
  rw [hm,hcur1] at h;exact h
 have hg1:(w.drew.setRow g cur1.toArray).heap[g]?=some (.cells cur1.toArray 75 (0,0)):=setRow_heap _ _ _ _ _ (0,0) hg;obtain ⟨W1,hW1⟩:∃W1,w.drew.setRow g cur1.toArray=W1:=⟨_,rfl⟩;have hvb1:W1.heap[vb]?=some (.cells r.toArray 75 (0,0)):=by rw [← hW1]; exact (setRow_other _ _ _ _ hne).trans hvb
 have hgr1:w.grownBy W1 (some g):=by rw [← hW1]; exact ⟨rfl,rfl,rfl,(row_grown w.drew g cur1.toArray).size,(row_grown w.drew g cur1.toArray).block⟩
 rw [hW1] at hcp1 hg1;have hcp2:∀(W:World),W.heap=W1.heap→∀ty dc,(Builtin.copy_ #[37,37] ty #[.slice (some ⟨g,i * 6,none⟩) (n+1 - i) dc,.slice (some ⟨vb,0,none⟩) 1 1]).run Try.prog W=.ok (goInt 1) (W.setRow g (cur1.take (i * 6) ++ r ++ cur1.drop (i * 6+r.length)).toArray):=fun W hWh ty dc=>by
  have hm:Nat.min 1 (n+1 - i)=1:=by simp only [Nat.min_def]; split <;> omega
  have h:=run_copy_wide W 37 37 ty 75 g (i * 6) (n+1 - i) dc 6 ⟨vb,0,none⟩ 1 1 cur1.toArray _ r hu hsz (by rw [hWh]; exact hg1) (by rw [hr,hm])
   (fun j v hj=>by rw [Addr.add_lit,cell_of_row _ _ (0+j) _ _ _ (by rw [hWh]; exact hvb1)]; simpa using hj) (by rw [hr]; simp; omega) hr1
  rw [hm] at h;exact h
 have hov:∀lb cb,(callFunc 99 #[.slice (some ⟨vb,0,none⟩) 1 1,.slice (some ⟨g,(i+1) * 6,none⟩) lb cb]).run Try.prog w=.ok (.value (.bool false)) w:=fun lb cb=>by
  rw [run_callFunc_extern Try.func99 (by kernel_rfl) (by kernel_rfl) (by kernel_rfl) (e:=Extern.SlicesOverlaps.overlaps #[37,37] #[4]) (by kernel_rfl),
   Lib.run_overlaps_apart w 37 4 75 hu 6 hzz ⟨vb,0,none⟩ ⟨g,(i+1) * 6,none⟩ 1 1 lb cb hne 75 75 6 (c * 6) (by simp [World.shape?,hvb,hr]) (by simp [World.shape?,hg,hcs]) (by omega) (by simp [World.frozen?,hvb]) (by simp [World.frozen?,hvb])]
  rfl
 obtain ⟨W2,hW2⟩:∃W2,W1.setRow g (cur1.take (i * 6) ++ r ++ cur1.drop (i * 6+r.length)).toArray=W2:=⟨_,rfl⟩;have hg2:W2.heap[g]?=some (.cells (cur1.take (i * 6) ++ r ++ cur1.drop (i * 6+r.length)).toArray 75 (0,0)):=by rw [← hW2]; exact setRow_heap _ _ _ _ _ (0,0) hg1
 have hgr2:w.grownBy W2 (some g):=by rw [← hW2]; exact grownBy_trans hgr1 (row_grown W1 g _)
 have hfl:(rows.take i ++ [r] ++ rows.drop i).flatten=xs.take (i * 6) ++ r ++ xs.drop (i * 6):=by
  have h1:(rows.take i).flatten.length=i * 6:=by rw [flatS_length (s:=6) _ (fun q hq=>hrw q (List.mem_of_mem_take hq)),List.length_take]; congr 1; omega
  have h2:xs=(rows.take i).flatten ++ (rows.drop i).flatten:=by rw [← hxs,← List.flatten_append,List.take_append_drop]
  rw [h2,List.take_left' h1,List.drop_left' h1];simp
 have hown:OwnS W2 base 75 6 (.slice (some ⟨g,0,none⟩) (n+1) c) (rows.take i ++ [r] ++ rows.drop i):=by
  have hlen:(rows.take i ++ [r] ++ rows.drop i).length=n+1:=by simp; omega
  refine ⟨fun q hq=>?_,?_⟩
  ·rcases List.mem_append.1 hq with h | h
   ·rcases List.mem_append.1 h with h | h
    ·exact hrw q (List.mem_of_mem_take h)
    ·rw [List.mem_singleton.1 h]; exact ⟨hr,hr1⟩
   ·exact hrw q (List.mem_of_mem_drop h)
  ·rw [hlen,hfl]
   refine ⟨by simp [hr]; omega,.inr ⟨g,c,_,rfl,hbg,hg2,hroom,hcm,?_,?_⟩⟩
   ·simp [hr,hc1l]; omega
   ·have h:=take_mid xs r cur.toList (i * 6) (c * 6) 6 hr (by omega) (by omega) (by rw [hxl]; exact hct) (by omega)
    rw [show i * 6+6=(i+1) * 6 by omega,hcur1,hxl,show n * 6+6=(n+1) * 6 by omega] at h;simpa using h
 obtain ⟨TQ,hTQ⟩:∃z:Ending→World→Prop,(fun e w'=>∃v',e=.returned v'∧OwnS w' base 75 6 v' (rows.take i ++ [r] ++ rows.drop i)∧w.grownBy w' (some g)∧(v'.ownBlock=some g∨v'.ownBlock=some w.heap.size))=z:=⟨_,rfl⟩;have HT:Hid (TQ (.returned (.slice (some ⟨g,0,none⟩) (n+1) c)) W2):=by rw [← hTQ]; exact ⟨_,rfl,hown,hgr2,.inl rfl⟩
 have HC2:=Lib.hid hcp2;have HW2:=Lib.hid hW2;rw [hTQ];have hw1:IntKind.i64.wrap ((i:Int)+1)=(i:Int)+1:=by rw [IntKind.wrap_i64]; unfold maxLen at hcm; omega
 have hw2:IntKind.i64.wrap ((n:Int)+1)=(n:Int)+1:=by rw [IntKind.wrap_i64]; unfold maxLen at hcm; omega
 have hz2:¬((i:Int)=(n:Int)):=by omega
 have hin:i≤n:=by omega
 have mixed:Try.prog.follows .mixedOrders=true:=by kernel_rfl
 have hb1:(0:Int)≤(i:Int)+1:=by omega
 have htn:((i:Int)+1).toNat=i+1:=by omega
 have hb2:¬(c=i+1):=by omega
 have hb3:(i:Int)≤(n:Int)+1:=by omega
 have hb4:¬(c=i):=by omega
 have HW1:=Lib.hid hW1;have HCP1:=Lib.hid hcp1;clear hown hgr2 hfl hg2 hgr1 hvb1 hg1 hcp1 hcp2 hc1l hcur1 hcl hdl hrc hcell hu hzz hsz hx1 hct hxl hxs hrw hg hcs hcm hTQ hW2 hW1 hvb hr1 hn hbg;go_enter Try.func79,Try.ntmps79;go_wp2_with (simp only [hov]);have hcp1:=HCP1.out;go_region_law_o (refine step_copy_runI rfl _ _ 37 37 rfl _ _ (by simp [Act.eval,Act.put]) (by simp [Act.eval,Act.put]) (hcp1 _ _ _) ?_);clear hcp1;have hc2:=HC2.out _ rfl;rw [HW2.out] at hc2;go_wp2_with fail;exact HT.out
set_option maxRecDepth 100000 in
set_option maxHeartbeats 16000000 in
theorem insGrowB_any (base g vb c i:Nat) (rows:List (List Value)) (r:List Value) (w:World) (ho:OwnS w base 75 6 (.slice (some ⟨g,0,none⟩) rows.length c) rows) (hi:i<rows.length) (hr:r.length=6) (hr1:∀u∈r,u.oneCell'=true) (hvb:w.heap[vb]?=some (.cells r.toArray 75 (0,0))) (hroom:¬rows.length+1≤c) (hbw:base≤w.heap.size) (hsm:rows.length≤100000) :
  Calls Try.prog 79 #[.slice (some ⟨g,0,none⟩) rows.length c,.int .i64 (i:Int),.slice (some ⟨vb,0,none⟩) 1 1] w fun e w'=>∃v',e=.returned v'∧OwnS w' base 75 6 v' (rows.take i ++ [r] ++ rows.drop i)∧w.grownBy w' (some g)∧(v'.ownBlock=some g∨v'.ownBlock=some w.heap.size):=by
 obtain ⟨hrw,hxl,hor⟩:=ho;rcases hor with ⟨h,-⟩ | ⟨g',c',cur,he,hbg,hg,hnc,hcm,hcs,hct⟩
 ·simp at h
 simp only [Value.slice.injEq,Option.some.injEq,Addr.mk.injEq] at he;obtain ⟨⟨rfl,-,-⟩,-,rfl⟩:=he;obtain ⟨n,hn⟩:∃n,rows.length=n:=⟨_,rfl⟩;obtain ⟨xs,hxs⟩:∃xs,rows.flatten=xs:=⟨_,rfl⟩;rw [hn,hxs] at hxl hct;rw [hn] at hi hnc hroom hsm ⊢;have hcn:c=n:=by omega
 subst hcn;have hx1:∀u∈xs,u.oneCell'=true:=fun u hu=>by
  rw [← hxs] at hu;obtain ⟨r2,h2,h3⟩:=List.mem_flatten.1 hu;exact (hrw r2 h2).2 u h3
 obtain ⟨i0,hi0,hz0,hz1,hz2⟩:=info_parts Try.info_dn2;have hsz:(Try.prog.info? 75).map (·.size)=some 6:=by rw [hi0]; simp [hz1]
 have hu:Try.prog.underlying 37=some (.slice 75):=by kernel_rfl
 have hui:Try.prog.underlying 3=some (.int .i64):=by kernel_rfl
 have hcell:∀j v,xs[j]?=some v→w.cell? ⟨g,j,none⟩=some v:=fun j v h=>by
  have hj:=(List.getElem?_eq_some_iff.1 h).1;rw [← hct,List.getElem?_take] at h;split at h
  ·rw [cell_of_row _ _ j _ _ _ hg]; simpa using h
  ·cases h
 have hgw:g<w.heap.size:=(Array.getElem?_eq_some_iff.1 hg).1;have hvw:vb<w.heap.size:=(Array.getElem?_eq_some_iff.1 hvb).1;have hdl:(xs.drop (i * 6)).length=(c - i) * 6:=by rw [List.length_drop,hxl,Nat.sub_mul]
 have hold:(Builtin.firstCells i0.size i (.slice (some ⟨g,0,none⟩) i c)).run Try.prog w.drew=.ok (xs.take (i * 6)).toArray w.drew:=by
  rw [hz1];exact run_firstCells_some w.drew 6 i ⟨g,0,none⟩ i c (xs.take (i * 6)) (by rw [List.length_take]; omega) (fun j v hj=>by
   rw [Addr.add_lit];rw [List.getElem?_take] at hj;split at hj
   ·rw [Nat.zero_add]; exact hcell j v hj
   ·cases hj)
 obtain ⟨G,hG⟩:∃G,G=grownCap w (c+1) c 75:=⟨_,rfl⟩;obtain ⟨Z,hZ⟩:∃Z:Array Value,Z=Builtin.zeroCells (Value.agg #[.int .i64 0,.int .i64 0,.int .i64 0,.int .u64 0,.bool false,.int .i64 0]).cells (c+1 - i) ++ Builtin.zeroCells (Value.agg #[.int .i64 0,.int .i64 0,.int .i64 0,.int .u64 0,.bool false,.int .i64 0]).cells (G - (c+1)):=⟨_,rfl⟩;have hGn:c+1≤G:=by rw [hG]; exact grownCap_ge w _ _ _
 have hGm:G≤maxLen:=by rw [hG]; exact grownCap_le_maxLen w _ _ _ (by unfold maxLen; omega)
 have hZl:Z.size=(G - i) * 6:=by
  rw [hZ];simp [Builtin.zeroCells,Value.cells];omega
 obtain ⟨N,hN⟩:∃N,w.heap.size=N:=⟨_,rfl⟩;have hrz:∀ty,(Builtin.append_ #[37,3] ty #[.slice (some ⟨g,0,none⟩) i c,.int .i64 ((c:Int)+1 - (i:Int))]).run Try.prog w =
   .ok (.slice (some ⟨N,0,none⟩) (c+1) G) (w.drew.alloc (.cells ((xs.take (i * 6)) ++ Z.toList).toArray 75)):=fun ty=>by
  have h:=Lib.run_append_grow_zeros w 37 3 ty 75 i0 _ .i64 .i64 hu hui hi0 hz0 (some ⟨g,0,none⟩) i c (xs.take (i * 6)) hold (c+1 - i) (by omega) (by omega) (by omega) (by omega) (by rw [hz2]; omega) (by rw [hz2,show i+(c+1 - i)=c+1 by omega]; exact growslice_fits (by omega) (by omega));rw [show i+(c+1 - i)=c+1 by omega,← hG,hN] at h;rw [show (c:Int)+1 - (i:Int)=((c+1 - i:Nat):Int) by omega,h,hZ,← hN];congr 3;simp [Array.append_assoc]
 obtain ⟨W0,hW0⟩:∃W0,w.drew.alloc (.cells ((xs.take (i * 6)) ++ Z.toList).toArray 75)=W0:=⟨_,rfl⟩;have hb0:Below w.heap.size w W0:=by rw [← hW0]; exact ⟨rfl,rfl,rfl,(below_new (Below.refl w.drew.heap.size w.drew) _).size,(below_new (Below.refl w.drew.heap.size w.drew) _).block⟩
 have h0:W0.heap[N]?=some (.cells ((xs.take (i * 6)) ++ Z.toList).toArray 75 (0,0)):=by rw [← hW0,← hN]; exact heap_alloc_new w.drew _
 rw [hW0] at hrz;have hvb0:W0.heap[vb]?=some (.cells r.toArray 75 (0,0)):=(hb0.block _ hvw).trans hvb;have hg0:W0.heap[g]?=some (.cells cur 75 (0,0)):=(hb0.block _ hgw).trans hg;have htl:(xs.take (i * 6)).length=i * 6:=by rw [List.length_take]; omega
 obtain ⟨cur1,hcur1⟩:∃z:List Value,((xs.take (i * 6)) ++ Z.toList).take (i * 6) ++ r ++ ((xs.take (i * 6)) ++ Z.toList).drop (i * 6+r.length)=z:=⟨_,rfl⟩;have hc1l:cur1.length=G * 6:=by
  rw [← hcur1];simp [htl,hr,hZl];omega
 have hcpA:∀(W:World),W.heap=W0.heap→∀ty dc,(Builtin.copy_ #[37,37] ty #[.slice (some ⟨N,i * 6,none⟩) (c+1 - i) dc,.slice (some ⟨vb,0,none⟩) 1 1]).run Try.prog W=.ok (goInt 1) (W.setRow N cur1.toArray):=fun W hWh ty dc=>by
  have hm:Nat.min 1 (c+1 - i)=1:=by simp only [Nat.min_def]; split <;> omega
  have h:=run_copy_wide W 37 37 ty 75 N (i * 6) (c+1 - i) dc 6 ⟨vb,0,none⟩ 1 1 _ _ r hu hsz (by rw [hWh]; exact h0) (by rw [hr,hm])
   (fun j v hj=>by rw [Addr.add_lit,cell_of_row _ _ (0+j) _ _ _ (by rw [hWh]; exact hvb0)]; simpa using hj) (by rw [hr]; simp [htl,hZl]; omega) hr1
  rw [hm,hcur1] at h;exact h
 obtain ⟨cur2,hcur2⟩:∃z:List Value,cur1.take ((i+1) * 6) ++ xs.drop (i * 6) ++ cur1.drop ((i+1) * 6+(xs.drop (i * 6)).length)=z:=⟨_,rfl⟩;have hc2l:cur2.length=G * 6:=by
  rw [← hcur2,List.length_append,List.length_append,List.length_take,hdl,List.length_drop,hc1l];omega
 have hcpB:∀(W:World),W.heap=(W0.setRow N cur1.toArray).heap→∀ty dc sc,(Builtin.copy_ #[37,37] ty #[.slice (some ⟨N,(i+1) * 6,none⟩) (c - i) dc,.slice (some ⟨g,i * 6,none⟩) (c - i) sc]).run Try.prog W=.ok (goInt ((c - i:Nat):Int)) (W.setRow N cur2.toArray):=fun W hWh ty dc sc=>by
  have hm:Nat.min (c - i) (c - i)=c - i:=Nat.min_self _;have hgW:W.heap[g]?=some (.cells cur 75 (0,0)):=by rw [hWh]; exact (setRow_other _ _ _ _ (by omega)).trans hg0
  have h:=run_copy_wide W 37 37 ty 75 N ((i+1) * 6) (c - i) dc 6 ⟨g,i * 6,none⟩ (c - i) sc _ _ (xs.drop (i * 6)) hu hsz (by rw [hWh]; exact setRow_heap _ _ _ _ _ (0,0) h0) (by rw [hdl,hm])
   (fun j v hj=>by
    rw [List.getElem?_drop,← hct,List.getElem?_take] at hj;split at hj
    ·rw [Addr.add_lit,cell_of_row _ _ (i * 6+j) _ _ _ hgW]; simpa using hj
    ·cases hj) (by rw [hdl]; simp [hc1l]; omega) (fun v hv=>hx1 v (List.mem_of_mem_drop hv))
  rw [hm,List.toList_toArray,hcur2] at h;exact h
 have hfl:(rows.take i ++ [r] ++ rows.drop i).flatten=xs.take (i * 6) ++ r ++ xs.drop (i * 6):=by
  have h1:(rows.take i).flatten.length=i * 6:=by rw [flatS_length (s:=6) _ (fun q hq=>hrw q (List.mem_of_mem_take hq)),List.length_take]; congr 1; omega
  have h2:xs=(rows.take i).flatten ++ (rows.drop i).flatten:=by rw [← hxs,← List.flatten_append,List.take_append_drop]
  rw [h2,List.take_left' h1,List.drop_left' h1];simp
 have hown:∀W:World,W.heap[N]?=some (.cells cur2.toArray 75 (0,0))→OwnS W base 75 6 (.slice (some ⟨N,0,none⟩) (c+1) G) (rows.take i ++ [r] ++ rows.drop i):=fun W hWN=>by
  have hlen:(rows.take i ++ [r] ++ rows.drop i).length=c+1:=by simp; omega
  refine ⟨fun q hq=>?_,?_⟩
  ·rcases List.mem_append.1 hq with h | h
   ·rcases List.mem_append.1 h with h | h
    ·exact hrw q (List.mem_of_mem_take h)
    ·rw [List.mem_singleton.1 h]; exact ⟨hr,hr1⟩
   ·exact hrw q (List.mem_of_mem_drop h)
  ·rw [hlen,hfl]
   refine ⟨by simp [hr]; omega,.inr ⟨N,G,_,rfl,by omega,hWN,hGn,hGm,by simp [hc2l],?_⟩⟩;have h:=take_grow xs r Z.toList (i * 6) 6 hr (by omega) (by simp [hZl]; omega);rw [hcur1,show i * 6+6=(i+1) * 6 by omega,hcur2,hxl,show c * 6+6=(c+1) * 6 by omega] at h;simpa using h
 obtain ⟨TQ,hTQ⟩:∃z:Ending→World→Prop,(fun e w'=>∃v',e=.returned v'∧OwnS w' base 75 6 v' (rows.take i ++ [r] ++ rows.drop i)∧w.grownBy w' (some g)∧(v'.ownBlock=some g∨v'.ownBlock=some w.heap.size))=z:=⟨_,rfl⟩;have HT:Hid (∀W:World,W.os=w.os→W.tape=w.tape→W.output=w.output→W.heap=((W0.setRow N cur1.toArray).setRow N cur2.toArray).heap→TQ (.returned (.slice (some ⟨N,0,none⟩) (c+1) G)) W):=fun W ha hb hc hd=>by
  rw [← hTQ];have hBB:=row_below (row_below hb0 (show w.heap.size≤N by omega) cur1.toArray) (show w.heap.size≤N by omega) cur2.toArray;exact ⟨_,rfl,hown W (by rw [hd]; exact setRow_heap _ _ _ _ _ (0,0) (setRow_heap _ _ _ _ _ (0,0) h0)),⟨ha,hb,hc,by rw [hd]; exact hBB.size,fun k hk hk2=>by rw [hd]; exact hBB.block k hk⟩,.inr (by rw [hN]; rfl)⟩
 have HOS:Hid (W0.os=w.os∧W0.tape=w.tape∧W0.output=w.output):=⟨hb0.os,hb0.tape,hb0.output⟩;have HA:=Lib.hid hcpA;have HB2:=Lib.hid hcpB;have HZ:=Lib.hid hrz;rw [hTQ];have hw1:IntKind.i64.wrap ((i:Int)+1)=(i:Int)+1:=by rw [IntKind.wrap_i64]; omega
 have hw2:IntKind.i64.wrap ((c:Int)+1)=(c:Int)+1:=by rw [IntKind.wrap_i64]; omega
 have hw3:IntKind.i64.wrap ((c:Int)+1 - (i:Int))=(c:Int)+1 - (i:Int):=by rw [IntKind.wrap_i64]; omega
 have hzz2:¬((i:Int)=(c:Int)):=by omega
 have hin:i≤c:=by omega
 have mixed:Try.prog.follows .mixedOrders=true:=by kernel_rfl
 have hb1:(0:Int)≤(i:Int)+1:=by omega
 have htn:((i:Int)+1).toNat=i+1:=by omega
 have hb2:¬(G=i+1):=by omega
 have hb3:(i:Int)≤(c:Int)+1:=by omega
 have hb4:¬(G=i):=by omega
 have hb5:¬(c=i):=by omega
 have hW1:(W0.setRow N cur1.toArray).heap=(W0.setRow N cur1.toArray).heap:=rfl;clear hown hfl hcpA hcpB hc2l hcur2 hc1l hcur1 htl hvb0 hg0 h0 hb0 hW0 hrz hZl hGm hZ hG hold hdl hcell hu hui hsz hx1 hct hxl hxs hrw hg hcs hcm hTQ hvb hr1 hn hbg hi0 hz0 hz1 hz2 hN hW1;go_enter Try.func79,Try.ntmps79;have hcA:=HA.out _ rfl;go_wp2_with (at_builtin; refine Lib.wpList_append_run _ rfl _ _ _ _ rfl _ _ rfl rfl _ _ (HZ.out _) ?_);trace_state
 have hcB:=HB2.out (W0.setRow N cur1.toArray).drew rfl;go_region_law_o (refine step_copy_runI rfl _ _ 37 37 rfl _ _ (by simp [Act.eval,Act.put]) (by simp [Act.eval,Act.put]) (hcB _ _ _) ?_);obtain ⟨q1,q2,q3⟩:=HOS.out;have HF:=Lib.hid (HT.out ((W0.setRow N cur1.toArray).drew.setRow N cur2.toArray) q1 q2 q3 rfl);clear hcA hcB q1 q2 q3;go_wp2_with fail;exact HF.out
theorem insB_any (base vb i:Nat) (v:Value) (rows:List (List Value)) (r:List Value) (w:World) (ho:OwnS w base 75 6 v rows) (hi:i≤rows.length) (hr:r.length=6) (hr1:∀u∈r,u.oneCell'=true) (hvb:w.heap[vb]?=some (.cells r.toArray 75 (0,0))) (hne:v.ownBlock≠some vb) (hsm:rows.length≤100000) (hbw:base≤w.heap.size) :
  Calls Try.prog 79 #[v,.int .i64 (i:Int),.slice (some ⟨vb,0,none⟩) 1 1] w fun e w'=>∃v',e=.returned v'∧OwnS w' base 75 6 v' (rows.take i ++ [r] ++ rows.drop i)∧w.grownBy w' v.ownBlock∧(v'.ownBlock=v.ownBlock∨v'.ownBlock=some w.heap.size):=by
 rcases Nat.lt_or_eq_of_le hi with hlt | rfl
 ·obtain ⟨g,c,rfl,h1,h2,h3⟩:=ho.open (by omega)
  by_cases hroom:rows.length+1≤c
  ·exact insRoomB_any base g vb c i rows r w ho hlt hr hr1 hvb (fun e=>hne (by rw [e]; rfl)) hroom
  ·exact insGrowB_any base g vb c i rows r w ho hlt hr hr1 hvb hroom hbw hsm
 ·rw [List.take_length,List.drop_length,List.append_nil]
  exact insEndB_any base v _ rows [r] w ho (SlS.row1 hvb hr hr1) hsm (by simp) (by simp) hbw
set_option maxRecDepth 100000 in
set_option maxHeartbeats 16000000 in
theorem withB_any (base:Nat) (v:Value) (l:List DoneM) (t:Int) (r:ResM) (w:World) (ho:OwnS w base 75 6 v (doneRows l)) (hl:l.length≤10000) (hs:Asc l) (hnt:∀x∈l,x.thr≠t) (hb:base≤w.heap.size):Calls Try.prog 50 #[v,.int .i64 t,resW r] w fun e w'=>∃v',e=.returned v'∧OwnS w' base 75 6 v' (doneRows (addE l t r))∧w.grownBy w' v.ownBlock∧(v'.ownBlock=v.ownBlock∨∃k,v'.ownBlock=some k∧w.heap.size≤k):=by
 have HO:=Lib.hid ho;have hll:=doneRows_length l;obtain ⟨a,c,rfl⟩:=ho.len;rw [hll];rw [hll] at HO;have TB:=Lib.hid fun w' (hb:Below w.heap.size w w')=>bsF_any (.slice a l.length c) l t w' ((HO.out.below hb).sls (by rw [hll]; omega)) (by omega) (fun i j=>hs.le i j);have HOL0:=ho.lt;rw [hll] at HOL0;have HOL:=Lib.hid HOL0;clear HOL0;have TI:=Lib.hid fun w' vb i r2 (hb2:Below w.heap.size w w') (hi:i≤l.length) h2 h3 h4 (h5:w.heap.size≤vb)=>insB_any base vb i (.slice a l.length c) (doneRows l) r2 w' (HO.out.below hb2) (by rw [hll]; exact hi) h2 h3 h4 (fun e=>by have:=(HOL.out vb e).2; omega) (by rw [hll]; omega) (Nat.le_trans hb hb2.size);obtain ⟨k1,k2,k3,k4,k5⟩:=r;unfold resW;dsimp only;obtain ⟨TQ,hTQ⟩:∃z:Ending→World→Prop,(fun e w'=>∃v',e=.returned v'∧OwnS w' base 75 6 v' (doneRows (addE l t ⟨k1,k2,k3,k4,k5⟩))∧w.grownBy w' (Value.slice a l.length c).ownBlock∧(v'.ownBlock=(Value.slice a l.length c).ownBlock∨∃k,v'.ownBlock=some k∧w.heap.size≤k))=z:=⟨_,rfl⟩;have HT:Hid (∀w1 w2 v' (i:Nat),i≤l.length→(∀j,j<i→(l.getD j doneZ).thr<t)→(∀j,i≤j→j<l.length→t≤(l.getD j doneZ).thr)→Below w.heap.size w w1→w1.grownBy w2 (Value.slice a l.length c).ownBlock→OwnS w2 base 75 6 v' ((doneRows l).take i ++ [[.int .i64 t,.int .i64 k1,.int .i64 k2,.int .u64 k3,.bool k4,.int .i64 k5]] ++ (doneRows l).drop i)→(v'.ownBlock=(Value.slice a l.length c).ownBlock∨v'.ownBlock=some w1.heap.size)→TQ (.returned v') w2):=fun w1 w2 v' i hi h1 h2 h3 h4 h5 h6=>by rw [← hTQ]; exact ⟨_,rfl,by rw [addE_rows,addK_eq hs hi h1 h2 hnt]; exact h5,grownBy_trans (grown_belowD h3) h4,h6.imp id fun h=>⟨_,h,h3.size⟩⟩
 rw [hTQ];obtain ⟨n,hn⟩:∃z,l.length=z:=⟨_,rfl⟩;have HN:=Lib.hid hn;rw [hn] at TB TI hl ⊢;rw [hn] at HT;clear ho hs hnt hb hn hll hTQ HO HOL;obtain ⟨W,hW,HB,R0,hz⟩:=one_new w (.cells #[.int .i64 k1,.int .i64 k2,.int .u64 k3,.bool k4,.int .i64 k5] 73);have HW:=Lib.hid hW;clear hW;go_enter Try.func50,Try.ntmps50;go_upto_region 1 with fail
 rw [HW.out];clear HW;obtain ⟨x0_0,x0_1,x0_2,x0_3,x0_4⟩:=rowc5s R0.out;go_wp2_with fail;refine (TB.out _ HB.out).mono ?_;rintro e w1 ⟨i,f,rfl,hi,hi1,hi2,hb1⟩;rw [HN.out] at hi;have HI1:=Lib.hid hi1;have HI2:=Lib.hid hi2;have R1:=Lib.hid (row_below3 hb1 R0.out);have HB1:=Lib.hid (below_then HB.out hb1);clear x0_0 x0_1 x0_2 x0_3 x0_4 TB hi1 hi2 hb1;obtain ⟨x0,x1,x2,x3,x4⟩:=rowc5s R1.out;have hbn:Below w1.heap.size w1 (w1.alloc (.cells #[.int .i64 t,.int .i64 k1,.int .i64 k2,.int .u64 k3,.bool k4,.int .i64 k5] 75)):=below_new (Below.refl _ _) _;have HBn:=Lib.hid (below_then HB1.out hbn);have HVB:Hid ((w1.alloc (.cells #[.int .i64 t,.int .i64 k1,.int .i64 k2,.int .u64 k3,.bool k4,.int .i64 k5] 75)).heap[w1.heap.size]?=some (.cells #[.int .i64 t,.int .i64 k1,.int .i64 k2,.int .u64 k3,.bool k4,.int .i64 k5] 75 (0,0))):=heap_alloc_new _ _;have hws:w.heap.size≤w1.heap.size:=HB1.out.size;clear hbn;go_wp2_with fail;refine (TI.out _ _ i [.int .i64 t,.int .i64 k1,.int .i64 k2,.int .u64 k3,.bool k4,.int .i64 k5] HBn.out hi rfl (by intro u hu; simp only [List.mem_cons,List.not_mem_nil,or_false] at hu; rcases hu with rfl | rfl | rfl | rfl | rfl | rfl <;> rfl) HVB.out hws).mono ?_;rintro e w2 ⟨v',rfl,ho2,hg2,hon2⟩;have HF:=Lib.hid (HT.out _ _ _ i hi HI1.out (fun j h1 h2=>HI2.out j h1 (by rw [HN.out]; exact h2)) HBn.out hg2 ho2 hon2);clear HT ho2 hg2 hon2;go_wp2_with fail;exact HF.out
theorem Asc.ext:∀{l m:List DoneM},Asc l→Asc m→(∀x,x∈l↔x∈m)→l=m
 | [],[],_,_,_=>rfl
 | [],y :: m,_,_,h=>absurd ((h y).2 (List.mem_cons_self ..)) (by simp)
 | x :: l,[],_,_,h=>absurd ((h x).1 (List.mem_cons_self ..)) (by simp)
 | x :: l,y :: m,h1,h2,h=>by
  have a1:=List.pairwise_cons.1 h1;have a2:=List.pairwise_cons.1 h2;have hxy:x=y:=by
   rcases List.mem_cons.1 ((h x).1 (List.mem_cons_self ..)) with e | hx
   ·exact e
   ·rcases List.mem_cons.1 ((h y).2 (List.mem_cons_self ..)) with e | hy
    ·exact e.symm
    ·have:=a1.1 y hy
     have:=a2.1 x hx;omega
  subst hxy;congr 1;refine Asc.ext a1.2 a2.2 fun z=>⟨fun hz=>?_,fun hz=>?_⟩
  ·rcases List.mem_cons.1 ((h z).1 (List.mem_cons_of_mem _ hz)) with e | h3
   ·subst e
    exact absurd (a1.1 z hz) (by omega)
   ·exact h3
  ·rcases List.mem_cons.1 ((h z).2 (List.mem_cons_of_mem _ hz)) with e | h3
   ·subst e
    exact absurd (a2.1 z hz) (by omega)
   ·exact h3
theorem addE_memI {l:List DoneM} {t:Int} {r:ResM} {x:DoneM}:x∈addE l t r↔x=⟨t,r⟩∨x∈l:=by
 refine ⟨addE_mem,fun h=>?_⟩;unfold addE;rcases h with h | h
 ·rw [h]; simp
 ·rw [← List.take_append_drop (addK l t l.length) l] at h
  rcases List.mem_append.1 h with h | h
  ·exact List.mem_append_left _ (List.mem_append_left _ h)
  ·exact List.mem_append_right _ h
def goF (r:WaitM→ResM) (o:List DoneM) (l:List WaitM):List DoneM:=l.foldl (fun o x=>addE o x.thr (r x)) o
theorem goF_mem (r:WaitM→ResM):∀(l:List WaitM) (o:List DoneM) (x:DoneM),x∈goF r o l↔x∈o∨∃y∈l,x=⟨y.thr,r y⟩
 | [],o,x=>by simp [goF]
 | y :: l,o,x=>by
  show x∈goF r (addE o y.thr (r y)) l↔_;rw [goF_mem r l,addE_memI];constructor
  ·rintro ((h | h) | ⟨z,hz,h⟩)
   ·exact .inr ⟨y,List.mem_cons_self ..,h⟩
   ·exact .inl h
   ·exact .inr ⟨z,List.mem_cons_of_mem _ hz,h⟩
  ·rintro (h | ⟨z,hz,h⟩)
   ·exact .inl (.inr h)
   ·rcases List.mem_cons.1 hz with rfl | hz
    ·exact .inl (.inl h)
    ·exact .inr ⟨z,hz,h⟩
def Dist (l:List WaitM):Prop:=l.Pairwise fun x y=>x.thr≠y.thr
theorem goF_asc (r:WaitM→ResM):∀(l:List WaitM) (o:List DoneM),Asc o→Dist l→(∀x∈l,∀z∈o,z.thr≠x.thr)→Asc (goF r o l)
 | [],o,h,_,_=>h
 | y :: l,o,h,hd,hn=>by
  have h1:=List.pairwise_cons.1 hd;refine goF_asc r l _ (addE_asc h _ fun z hz=>hn y (List.mem_cons_self ..) z hz) h1.2 fun x hx z hz=>?_;rcases addE_mem hz with e | hz
  ·rw [e]; exact h1.1 x hx
  ·exact hn x (List.mem_cons_of_mem _ hx) z hz
theorem goF_len (r:WaitM→ResM):∀(l:List WaitM) (o:List DoneM),(goF r o l).length=o.length+l.length
 | [],o=>by simp [goF]
 | y :: l,o=>by
  show (goF r (addE o y.thr (r y)) l).length=_;rw [goF_len r l,addE_len];simp;omega
theorem goneP_goF (p:WaitM→Bool) (r:WaitM→ResM) (o:List DoneM) (l:List WaitM) (k:Nat):goneP p r o l k=goF r o ((l.take k).filter p):=rfl
theorem goF_two (p1 p2:WaitM→Bool) (r1 r2:WaitM→ResM) (o:List DoneM) (l:List WaitM) (ho:Asc o) (hd:Dist l) (hn:∀x∈l,∀z∈o,z.thr≠x.thr) :
  goF r2 (goF r1 o (l.filter p1)) ((l.filter fun x=>!p1 x).filter p2)=goF (fun x=>if p1 x=true then r1 x else r2 x) o (l.filter fun x=>p1 x || p2 x):=by
 have d1:Dist (l.filter p1):=List.Pairwise.sublist (List.filter_sublist ..) hd;have d2:Dist ((l.filter fun x=>!p1 x).filter p2):=List.Pairwise.sublist ((List.filter_sublist ..).trans (List.filter_sublist ..)) hd;have a1:Asc (goF r1 o (l.filter p1)):=goF_asc r1 _ o ho d1 fun x hx=>hn x (List.mem_filter.1 hx).1;have hu:∀x∈l,∀y∈l,x.thr=y.thr→x=y:=fun x hx y hy e=>by
  obtain ⟨i,hi,rfl⟩:=List.mem_iff_getElem.1 hx;obtain ⟨j,hj,rfl⟩:=List.mem_iff_getElem.1 hy;rcases Nat.lt_trichotomy i j with h | h | h
  ·exact absurd e (List.pairwise_iff_getElem.1 hd i j hi hj h)
  ·subst h; rfl
  ·exact absurd e.symm (List.pairwise_iff_getElem.1 hd j i hj hi h)
 refine Asc.ext (goF_asc r2 _ _ a1 d2 fun x hx z hz=>?_) (goF_asc _ _ o ho (List.Pairwise.sublist (List.filter_sublist ..) hd) fun x hx=>hn x (List.mem_filter.1 hx).1) fun z=>?_
 ·have hx1:=List.mem_filter.1 hx
  have hx2:=List.mem_filter.1 hx1.1;rcases (goF_mem r1 _ _ _).1 hz with h | ⟨y,hy,h⟩
  ·exact hn x hx2.1 z h
  ·rw [h]
   intro e;have hy1:=List.mem_filter.1 hy;have:=hu y hy1.1 x hx2.1 e;subst this;have h9:=hx2.2;rw [hy1.2] at h9;simp at h9
 ·rw [goF_mem,goF_mem,goF_mem]
  constructor
  ·rintro ((h | ⟨y,hy,h⟩) | ⟨y,hy,h⟩)
   ·exact .inl h
   ·have hy1:=List.mem_filter.1 hy
    exact .inr ⟨y,List.mem_filter.2 ⟨hy1.1,by simp [hy1.2]⟩,by rw [if_pos hy1.2]; exact h⟩
   ·have hy1:=List.mem_filter.1 hy
    have hy2:=List.mem_filter.1 hy1.1;have h9:p1 y=false:=by simpa using hy2.2
    exact .inr ⟨y,List.mem_filter.2 ⟨hy2.1,by simp [hy1.2]⟩,by rw [if_neg (by rw [h9]; decide)]; exact h⟩
  ·rintro (h | ⟨y,hy,h⟩)
   ·exact .inl (.inl h)
   ·have hy1:=List.mem_filter.1 hy
    cases h9:p1 y with
    | true=>rw [if_pos h9] at h; exact .inl (.inr ⟨y,List.mem_filter.2 ⟨hy1.1,h9⟩,h⟩)
    | false=>
     rw [if_neg (by rw [h9]; decide)] at h;have h8:=hy1.2;rw [h9] at h8;exact .inr ⟨y,List.mem_filter.2 ⟨List.mem_filter.2 ⟨hy1.1,by simp [h9]⟩,by simpa using h8⟩,h⟩
theorem filter_two (p1 p2:WaitM→Bool) (l:List WaitM):(l.filter fun x=>!p1 x).filter (fun x=>!p2 x)=l.filter fun x=>!(p1 x || p2 x):=by
 rw [List.filter_filter];congr 1;funext x
 cases p1 x <;> cases p2 x <;> rfl
structure DsI (P:Nat→Prop) (w:World) (vc vw:Value) (rows:List (List Value)) (d:DeskM):Prop where
 ch:SlHX P w vc d.chans
 rl:rows.length=d.wait.length
 ss:SlS w 8 vw rows
 rr:∀i,i<d.wait.length→∃vc vd,rows.getD i []=wtL (wat d.wait i) vc vd∧SlC w vc (wat d.wait i).op.cases∧SlI w .i64 vd (wat d.wait i).op.draws∧atP P vc∧atP P vd
 at_:atP P vw
theorem DsI.below {P:Nat→Prop} {w w':World} {vc vw:Value} {rows:List (List Value)} {d:DeskM} (h:DsI P w vc vw rows d) (hb:Below w.heap.size w w'):DsI P w' vc vw rows d:=
 ⟨h.ch.below hb,h.rl,h.ss.below hb,fun i hi=>by
  obtain ⟨vc,vd,e,h1,h2,h3,h4⟩:=h.rr i hi;exact ⟨vc,vd,e,h1.below hb,h2.below hb,h3,h4⟩,h.at_⟩
theorem DsI.off {P:Nat→Prop} {w w':World} {g:Nat} {vc vw:Value} {rows:List (List Value)} {d:DeskM} (h:DsI P w vc vw rows d) (hg:w.grownBy w' (some g)) (hP:∀b,P b→b≠g):DsI P w' vc vw rows d:=
 ⟨h.ch.off hg hP,h.rl,h.ss.off hg h.at_ hP,fun i hi=>by
  obtain ⟨vc,vd,e,h1,h2,h3,h4⟩:=h.rr i hi;exact ⟨vc,vd,e,h1.grown hg (h3.off hP),h2.grown hg (h4.off hP),h3,h4⟩,h.at_⟩
theorem DsI.own {P:Nat→Prop} {w w':World} {vc vw v:Value} {rows:List (List Value)} {d:DeskM} (h:DsI P w vc vw rows d) (hg:w.grownBy w' v.ownBlock) (hP:∀k,v.ownBlock=some k→∀b,P b→b≠k):DsI P w' vc vw rows d:=by
 cases hv:v.ownBlock with
 | none=>rw [hv] at hg; exact h.below (below_none hg)
 | some k=>rw [hv] at hg; exact h.off hg (hP k hv)
theorem row_own {a b:World} {j:Nat} {ob:Obj} {v:Value} (hg:a.grownBy b v.ownBlock) (h:a.heap[j]?=some ob) (hj:v.ownBlock≠some j):b.heap[j]?=some ob:=
 (hg.block j (Array.getElem?_eq_some_iff.1 h).1 (fun e=>hj e.symm)).trans h
theorem OwnS.neT {w:World} {base s:Nat} {e T:TypeId} {v:Value} {rows:List (List Value)} {k:Nat} {c:Array Value} {f:Nat × Nat} (h:OwnS w base e s v rows) (hr:w.heap[k]?=some (.cells c T f)) (ht:T≠e):v.ownBlock≠some k:=by
 rcases h.2.2 with ⟨rfl,-⟩ | ⟨g,cap,cur,rfl,-,hg,-⟩
 ·simp [Value.ownBlock]
 ·intro e2
  simp only [Value.ownBlock,Option.some.injEq] at e2;rw [e2,hr] at hg;simp only [Option.some.injEq,Obj.cells.injEq] at hg;exact ht hg.2.1
theorem OwnS.keptN {w w':World} {base s:Nat} {e:TypeId} {v v2:Value} {rows:List (List Value)} (h:OwnS w base e s v rows) (hg:w.grownBy w' v2.ownBlock) (hne:v.ownBlock=none∨v.ownBlock≠v2.ownBlock):OwnS w' base e s v rows:=h.kept hg hne
theorem below_own {B:Nat} {w a b:World} {base s:Nat} {e:TypeId} {v:Value} {rows:List (List Value)} (h:Below B w a) (hg:a.grownBy b v.ownBlock) (ho:OwnS a base e s v rows) (hB:B≤base) (hs:B≤a.heap.size):Below B w b:=h.grown hg hs fun k hk=>by have:=(ho.lt k hk).1; omega
def stR (q:WaitM→Bool) (l:List WaitM) (rows:List (List Value)) (i:Nat):List (List Value):=((List.range i).filter fun j=>q (wat l j)).map fun j=>rows.getD j []
theorem stR_next (q:WaitM→Bool) (l:List WaitM) (rows:List (List Value)) (i:Nat):stR q l rows (i+1)=stR q l rows i ++ (if q (wat l i)=true then [rows.getD i []] else []):=by
 unfold stR;rw [List.range_succ,List.filter_append,List.map_append];congr 1;cases h:q (wat l i) <;> simp [h]
theorem stR_len (q:WaitM→Bool) (l:List WaitM) (rows:List (List Value)) (i:Nat):(stR q l rows i).length≤i:=by
 unfold stR;rw [List.length_map];have:=List.length_filter_le (fun j=>q (wat l j)) (List.range i);rwa [List.length_range] at this
theorem wat_range (l:List WaitM):(List.range l.length).map (wat l)=l:=by
 refine List.ext_getElem (by simp) fun i h1 h2=>?_;simp only [List.getElem_map,List.getElem_range];exact getD_lt h2
theorem stW_end (q:WaitM→Bool) (l:List WaitM):((List.range l.length).filter fun j=>q (wat l j)).map (wat l)=l.filter q:=by
 conv=>rhs; rw [← wat_range l]
 rw [List.filter_map];rfl
theorem SlWX.pick {P Q:Nat→Prop} {w:World} {v:Value} {l:List WaitM} {rows:List (List Value)} (q:WaitM→Bool) (hr:∀i,i<l.length→∃vc vd,rows.getD i []=wtL (wat l i) vc vd∧SlC w vc (wat l i).op.cases∧SlI w .i64 vd (wat l i).op.draws∧atP Q vc∧atP Q vd) (hQ:∀b,Q b→P b) (hs:SlS w 8 v (stR q l rows l.length)) (ha:atP P v):SlWX P w v (l.filter q):=by
 rw [← stW_end];unfold stR at hs;generalize hL:(List.range l.length).filter (fun j=>q (wat l j))=L at hs ⊢;refine ⟨L.map fun j=>rows.getD j [],by simp,hs,fun i hi=>?_,ha⟩;have hi':i<L.length:=by simpa using hi
 have hm:L[i]<l.length:=by
  have h9:∀z,z∈L→z<l.length:=fun z hz=>by
   rw [← hL] at hz;exact List.mem_range.1 (List.mem_filter.1 hz).1
  exact h9 _ (List.getElem_mem hi')
 obtain ⟨vc,vd,e,h1,h2,h3,h4⟩:=hr _ hm;have e1:(L.map fun j=>rows.getD j []).getD i []=rows.getD L[i] []:=by
  rw [getD_lt (by simpa using hi')];simp
 have e2:wat (L.map (wat l)) i=wat l L[i]:=by
  unfold wat;rw [getD_lt (by simpa using hi')];simp
 rw [e1,e2];exact ⟨vc,vd,e,h1,h2,h3.mono hQ,h4.mono hQ⟩
theorem Dist.ne {l:List WaitM} (h:Dist l) {i j:Nat} (hi:i<l.length) (hj:j<l.length) (hij:i≠j):(wat l i).thr≠(wat l j).thr:=by
 unfold wat;rw [getD_lt hi,getD_lt hj];rcases Nat.lt_or_ge i j with h1 | h1
 ·exact List.pairwise_iff_getElem.1 h i j hi hj h1
 ·exact fun e=>List.pairwise_iff_getElem.1 h j i hj hi (by omega) e.symm
theorem gone_fresh {p:WaitM→Bool} {r:WaitM→ResM} {o:List DoneM} {l:List WaitM} (hd:Dist l) (hn:∀x∈l,∀z∈o,z.thr≠x.thr) {i:Nat} (hi:i<l.length):∀z∈goneP p r o l i,z.thr≠(wat l i).thr:=fun z hz=>by
 rw [goneP_goF,goF_mem] at hz;have hm:wat l i∈l:=by unfold wat; rw [getD_lt hi]; exact List.getElem_mem hi
 rcases hz with hz | ⟨y,hy,rfl⟩
 ·exact hn _ hm z hz
 ·have hy2:=(List.mem_filter.1 hy).1
  obtain ⟨j,hj,rfl⟩:=List.mem_iff_getElem.1 hy2;rw [List.length_take] at hj;have:=hd.ne (i:=j) (by omega) hi (by omega);unfold wat at this ⊢;rw [getD_lt (by omega)] at this;rw [List.getElem_take];exact this
theorem gone_asc {p:WaitM→Bool} {r:WaitM→ResM} {o:List DoneM} {l:List WaitM} (ha:Asc o) (hd:Dist l) (hn:∀x∈l,∀z∈o,z.thr≠x.thr) (i:Nat):Asc (goneP p r o l i):=by
 rw [goneP_goF];exact goF_asc r _ o ha (List.Pairwise.sublist ((List.filter_sublist ..).trans (List.take_sublist ..)) hd) fun x hx=>hn x (List.mem_of_mem_take (List.mem_filter.1 hx).1)
def DsmQ (P:Nat→Prop) (base:Nat) (d:DeskM) (l:List DoneM) (w:World) (e:Ending) (w':World):Prop:=∃u v,e=.returned (.tuple #[u,v])∧DeskX P w' u d∧OwnS w' base 75 6 v (doneRows l)∧Below base w w'
set_option maxRecDepth 100000 in
set_option maxHeartbeats 16000000 in
theorem dismiss_any (P:Nat→Prop) (v lv cv:Value) (f:FuncId) (d:DeskM) (l:List DoneM) (p:WaitM→Bool) (r:WaitM→ResM) (base:Nat) (w:World) (h:DeskX P w v d) (hd:d.ok) (ho:OwnS w base 75 6 lv (doneRows l)) (hbs:base≤w.heap.size) (hl:l.length≤1000) (ha:Asc l) (hdi:Dist d.wait) (hn:∀x∈d.wait,∀z∈l,z.thr≠x.thr) (hg:∀b,P b→b<w.heap.size→lv.ownBlock≠some b) (hP:∀b,w.heap.size≤b→P b)
  (hcf:∀args w,(callFunc f args).run Try.prog w=.ok (.enter f args) w) (hc:∀w' vo x,Below base w w'→x∈d.wait→OpV w' vo x.op→Calls Try.prog f #[vo,cv] w' fun e w2=>e=.returned (.tuple #[resW (r x),.bool (p x)])∧Below w'.heap.size w' w2):Calls Try.prog 40 #[v,lv,.func (.func f) #[] #[cv]] w (DsmQ P base ⟨d.chans,d.wait.filter (fun x=>!p x),d.tick⟩ (goF r l (d.wait.filter p)) w):=by
 have hX:=h.tight;obtain ⟨vc,vw,rfl,hch,rows,hrl,hss,hrr,hat⟩:=hX;obtain ⟨PT,hPT⟩:∃z:Nat→Prop,(fun b=>P b∧b<w.heap.size)=z:=⟨_,rfl⟩;have hDI:DsI PT w vc vw rows d:=by rw [← hPT]; exact ⟨hch,hrl,hss,hrr,hat⟩
 have HPT:Hid ((∀b,PT b→b<w.heap.size)∧(∀b,PT b→P b)∧(∀b,PT b→lv.ownBlock≠some b)):=by rw [← hPT]; exact ⟨fun b hb=>hb.2,fun b hb=>hb.1,fun b hb=>hg b hb.1 hb.2⟩
 obtain ⟨pc,nc,kc,rfl⟩:=SlHX.sh hch;obtain ⟨aw,kw,rfl,-⟩:=hss.len;have HDI:=Lib.hid hDI;have HO:=Lib.hid ho;have HP:=Lib.hid hP;have HC:=Lib.hid hc;have hwl:=hd.wl;obtain ⟨t,htt⟩:∃z,d.tick=z:=⟨_,rfl⟩;obtain ⟨n,hnn⟩:∃z,d.wait.length=z:=⟨_,rfl⟩;have HN:=Lib.hid hnn;have HRL:Hid (rows.length=n):=by show _=_; rw [hrl,hnn]
 have HAS:=Lib.hid fun i=>gone_asc (p:=p) (r:=r) ha hdi hn i;have HFR:=Lib.hid fun i (hi:i<d.wait.length)=>gone_fresh (p:=p) (r:=r) hdi hn hi;have HGL:=Lib.hid fun i=>goneP_len p r l d.wait i;have HGN:=Lib.hid fun i (hi:i<d.wait.length)=>goneP_next (p:=p) (r:=r) (o:=l) hi;have HSN:=Lib.hid fun i=>stR_next (fun x=>!p x) d.wait rows i;have HSL:=Lib.hid fun i=>stR_len (fun x=>!p x) d.wait rows i;have HG0:Hid (goneP p r l d.wait 0=l):=rfl;have HS0:Hid (stR (fun x=>!p x) d.wait rows 0=[]):=rfl;have HGE:Hid (goneP p r l d.wait n=goF r l (d.wait.filter p)):=by show _=_; rw [← hnn,goneP_end]; rfl
 obtain ⟨gL,hgL⟩:∃z,goneP p r l d.wait=z:=⟨_,rfl⟩;obtain ⟨sL,hsL⟩:∃z,stR (fun x=>!p x) d.wait rows=z:=⟨_,rfl⟩;have HSE:Hid (sL n=stR (fun x=>!p x) d.wait rows d.wait.length):=by show _=_; rw [← hsL,hnn]
 rw [hgL] at HAS HFR HGL HGN HG0 HGE;rw [hsL] at HSN HSL HS0;rw [hrl,htt,hnn];rw [hrl,hnn] at HDI;rw [hnn] at hwl HFR HGN;obtain ⟨TQ,hTQ⟩:∃z,DsmQ P base ⟨d.chans,d.wait.filter (fun x=>!p x),t⟩ (goF r l (d.wait.filter p)) w=z:=⟨_,rfl⟩;have HT:Hid (∀w' uw u1,DsI PT w' (.slice pc nc kc) (.slice aw n kw) rows d→SlS w' 8 uw (sL n)→atP P uw→OwnS w' base 75 6 u1 (doneRows (gL n))→Below base w w'→TQ (.returned (.tuple #[.agg #[.slice pc nc kc,uw,.int .i64 t],u1])) w'):=fun w' uw u1 h1 h2 h3 h4 h5=>by
  rw [← hTQ];rw [HSE.out] at h2;exact ⟨_,_,rfl,⟨_,_,rfl,h1.ch.mono HPT.out.2.1,SlWX.pick (fun x=>!p x) h1.rr HPT.out.2.1 h2 h3⟩,HGE.out▸h4,h5⟩
 rw [hTQ];have HMEM:Hid (∀i,i<n→wat d.wait i∈d.wait):=fun i hi=>by unfold wat; rw [getD_lt (by omega)]; exact List.getElem_mem _
 clear hTQ hgL hsL hnn htt hrl hss hrr hat hch hDI hPT ho hP hc hd ha hdi hn hg h HSE HGE;obtain ⟨W,hW,HB,R0,R1,hz⟩:=two_new w (.cells #[.slice pc nc kc,.slice aw n kw,.int .i64 t] 34) (.cells #[.slice none 0 0,.slice none 0 0,.int .i64 0] 34);have HW:=Lib.hid hW;clear hW;go_enter Try.func40,Try.ntmps40;go_upto_region 1 with fail
 rw [HW.out];clear HW;obtain ⟨x0_0,x0_1,x0_2⟩:=rowc3 R0.out;have HBB:Hid (Below base w W):=HB.out.mono hbs;have HDW:=Lib.hid (HDI.out.below HB.out);have HOW:=Lib.hid (HO.out.below HB.out);go_wp2_with fail;clear x0_0 x0_1 x0_2;go_loopw [1,8,16] (fun u1 u8 u16 wr=>∃i:Nat,u16=.int .i64 i∧i≤n∧w.heap.size+2≤wr.heap.size∧Hid (OwnS wr base 75 6 u1 (doneRows (gL i)))∧Hid (OwnS wr (w.heap.size+2) 66 8 u8 (sL i))∧Hid (Below base w wr)∧Hid (∀k,u1.ownBlock=some k→∀b,PT b→b≠k)∧Hid (DsI PT wr (.slice pc nc kc) (.slice aw n kw) rows d)∧Hid (wr.heap[w.heap.size]?=some (.cells #[.slice pc nc kc,.slice aw n kw,.int .i64 t] 34 (0,0)))∧Hid (wr.heap[w.heap.size+1]?=some (.cells #[.slice none 0 0,.slice none 0 0,.int .i64 0] 34 (0,0)))) (fun _ _ u16 _=>n - (intOf u16).toNat)
 case atStart=>exact ⟨0,rfl,by omega,by omega,by rw [HG0.out]; exact HOW.out,by rw [HS0.out]; exact OwnS.nil _ _ _ _,HBB,(fun k hk b hb e=>HPT.out.2.2 b hb (by rw [hk,e])),HDW,R0,R1⟩
 case round=>
  obtain ⟨i,rfl,hi,hsz,HO1,HO8,HBi,HNE,HDi,D0,D1⟩:=hrel;obtain ⟨wo,rfl⟩:∃wo:World,wo=wr:=⟨_,rfl⟩;clear HB HBB HDW HOW HO R0 R1;by_cases hlt:i<n
  ·have hltI:(i:Int)<(n:Int):=by omega
   have hw1:IntKind.i64.wrap ((i:Int)+1)=(i:Int)+1:=by rw [IntKind.wrap_i64]; omega
   obtain ⟨vcs,vds,hrow,hcs,hds,-,-⟩:=HDi.out.rr i (by rw [HN.out]; exact hlt);obtain ⟨b3,o3,kw3,hve,hb3,hcell⟩:=HDi.out.ss.open (by rw [HRL.out]; omega);have hce:=hcell i (by rw [HRL.out]; exact hlt);rw [HRL.out] at hve;simp only [Value.slice.injEq] at hve;obtain ⟨rfl,-,rfl⟩:=hve;have HROW:=Lib.hid hrow;have hmem:=HMEM.out i hlt;have HCX:=Lib.hid (fun w' vo (hb:Below base w w') (ho:OpV w' vo (wat d.wait i).op)=>HC.out w' vo _ hb hmem ho);have HFX:=Lib.hid (HFR.out i hlt);have HGX:=Lib.hid (HGN.out i hlt);have HSX:=Lib.hid (HSN.out i);obtain ⟨⟨tt,⟨kd,md,oc,ov,odl,cs,ds⟩⟩,hx⟩:∃x,wat d.wait i=x:=⟨_,rfl⟩;rw [hx] at hrow hcs hds HCX HFX HGX HSX HROW;dsimp only at hcs hds HCX HFX;rw [hrow] at hce;unfold wtL at hce;have c0:wo.cell? ⟨b3,o3+i * 8,none⟩=some (.int .i64 tt):=hce 0 _ rfl;have c1:=hce 1 _ rfl;have c2:=hce 2 _ rfl;have c3:=hce 3 _ rfl;have c4:=hce 4 _ rfl;have c5:=hce 5 _ rfl;have c6:=hce 6 _ rfl;have c7:=hce 7 _ rfl;dsimp only at c0 c1 c2 c3 c4 c5 c6 c7;obtain ⟨a5,k5,rfl⟩:=hcs.len;obtain ⟨a6,k6,rfl,-⟩:=hds.len;have HCS:=Lib.hid hcs;have HDS:=Lib.hid hds;obtain ⟨⟨k1,k2,k3,k4,k9⟩,hr⟩:∃z,r ⟨tt,⟨kd,md,oc,ov,odl,cs,ds⟩⟩=z:=⟨_,rfl⟩;obtain ⟨bp,hbp⟩:∃z,p ⟨tt,⟨kd,md,oc,ov,odl,cs,ds⟩⟩=z:=⟨_,rfl⟩;rw [hr,hbp] at HCX HGX;rw [hbp] at HSX;unfold resW at HCX;dsimp only at HCX;have hbase2:base≤wo.heap.size:=by omega
   obtain ⟨d0,d1,d2⟩:=rowc3 D0.out;clear hcell hce hrow hcs hds hx hmem hr hbp;obtain ⟨Wq,hWq⟩:∃Wq,(wo.alloc (.cells #[.int .i64 0,.int .i64 0,.int .i64 0,.int .i64 0,.int .u64 0,.int .i64 0,.slice none 0 0,.slice none 0 0] 66)).setRow wo.heap.size #[.int .i64 tt,.int .i64 kd,.int .i64 md,.int .i64 oc,.int .u64 ov,.int .i64 odl,.slice a5 cs.length k5,.slice a6 ds.length k6]=Wq:=⟨_,rfl⟩;have Nq:Hid ((wo.alloc (.cells #[.int .i64 0,.int .i64 0,.int .i64 0,.int .i64 0,.int .u64 0,.int .i64 0,.slice none 0 0,.slice none 0 0] 66)).heap[wo.heap.size]?=some (.cells #[.int .i64 0,.int .i64 0,.int .i64 0,.int .i64 0,.int .u64 0,.int .i64 0,.slice none 0 0,.slice none 0 0] 66 (0,0))):=heap_alloc_new _ _;have HBq:Hid (Below wo.heap.size wo Wq):=hWq▸row_below (below_new (Below.refl _ _) _) (Nat.le_refl _) _;have Rq:Hid (Wq.heap[wo.heap.size]?=some (.cells #[.int .i64 tt,.int .i64 kd,.int .i64 md,.int .i64 oc,.int .u64 ov,.int .i64 odl,.slice a5 cs.length k5,.slice a6 ds.length k6] 66 (0,0))):=hWq▸setRow_heap _ _ _ _ _ (0,0) Nq.out;have HWq:=Lib.hid hWq;clear hWq;go_upto_region 5 with (refine wpList_store_row rfl 66 _ _ rfl (wo.heap.size) _ rfl rfl 66 _ Nq.out (by kernel_rfl) rfl (by simp [Value.oneCell']) ?_)
   rw [HWq.out];try simp only [Act.put]
   clear HWq Nq;obtain ⟨WB,hWB⟩:∃WB,wo.heap.size=WB:=⟨_,rfl⟩;rw [hWB] at Rq;rw [hWB];have hwb:w.heap.size+2≤WB:=by omega
   clear hWB;have HBq2:Hid (Below base w Wq):=HBi.out.trans (HBq.out.mono hbase2);have HOPV:Hid (OpV Wq (.agg #[.int .i64 kd,.int .i64 md,.int .i64 oc,.int .u64 ov,.int .i64 odl,.slice a5 cs.length k5,.slice a6 ds.length k6]) ⟨kd,md,oc,ov,odl,cs,ds⟩):=⟨_,_,rfl,HCS.out.below HBq.out,HDS.out.below HBq.out⟩;have hsq:wo.heap.size≤Wq.heap.size:=HBq.out.size;clear c0 c1 c2 c3 c4 c5 c6 c7 d0 d1 d2 HCS HDS;obtain ⟨q0,q1,q2,q3,q4,q5,q6,q7⟩:=rowc8 Rq.out;go_wp2_with fail;refine (HCX.out Wq _ HBq2.out HOPV.out).mono ?_; rintro e w5 ⟨rfl,hb5⟩;have Q5:=Lib.hid (row_below3 hb5 Rq.out);have HBw:Hid (Below wo.heap.size wo w5):=below_then HBq.out hb5;have hs5:wo.heap.size≤w5.heap.size:=HBw.out.size;clear q0 q1 q2 q3 q4 q5 q6 q7 hb5 HBq HBq2 HOPV HCX Rq;obtain ⟨Wm,hWm⟩:∃Wm,(w5.alloc (.cells #[.int .i64 0,.int .i64 0,.int .u64 0,.bool false,.int .i64 0] 73)).setRow w5.heap.size #[.int .i64 k1,.int .i64 k2,.int .u64 k3,.bool k4,.int .i64 k9]=Wm:=⟨_,rfl⟩;have Nm:Hid ((w5.alloc (.cells #[.int .i64 0,.int .i64 0,.int .u64 0,.bool false,.int .i64 0] 73)).heap[w5.heap.size]?=some (.cells #[.int .i64 0,.int .i64 0,.int .u64 0,.bool false,.int .i64 0] 73 (0,0))):=heap_alloc_new _ _;have HBm:Hid (Below w5.heap.size w5 Wm):=hWm▸row_below (below_new (Below.refl _ _) _) (Nat.le_refl _) _;have Rm:Hid (Wm.heap[w5.heap.size]?=some (.cells #[.int .i64 k1,.int .i64 k2,.int .u64 k3,.bool k4,.int .i64 k9] 73 (0,0))):=hWm▸setRow_heap _ _ _ _ _ (0,0) Nm.out;have HWm:=Lib.hid hWm;clear hWm;go_upto_region 6 with (refine wpList_store_row rfl 73 _ _ rfl (w5.heap.size) _ rfl rfl 73 _ Nm.out (by kernel_rfl) rfl (by simp [Value.oneCell']) ?_)
   rw [HWm.out];try simp only [Act.put]
   clear HWm Nm;obtain ⟨RB,hRB⟩:∃RB,w5.heap.size=RB:=⟨_,rfl⟩;rw [hRB] at Rm;rw [hRB];clear hRB;have Q6:=Lib.hid (row_below3 HBm.out Q5.out);have HBn:Hid (Below wo.heap.size wo Wm):=below_then HBw.out HBm.out;have HBi2:Hid (Below base w Wm):=HBi.out.trans (HBn.out.mono hbase2);have HO1m:=Lib.hid (HO1.out.below HBn.out);have HO8m:=Lib.hid (HO8.out.below HBn.out);have HDm:=Lib.hid (HDi.out.below HBn.out);have D0m:=Lib.hid (row_below3 HBn.out D0.out);have D1m:=Lib.hid (row_below3 HBn.out D1.out);have hsm:wo.heap.size≤Wm.heap.size:=HBn.out.size;obtain ⟨q0,q1,q2,q3,q4,q5,q6,q7⟩:=rowc8 Q6.out;obtain ⟨m0,m1,m2,m3,m4⟩:=rowc5s Rm.out;clear Q5 HBw HBm HBn HO1 HO8 HDi D0 D1 HBi;cases bp with
   | true=>
    have hgl:=HGL.out i;have TW:=Lib.hid (withB_any base u1 (gL i) tt ⟨k1,k2,k3,k4,k9⟩ Wm HO1m.out (by omega) (HAS.out i) HFX.out (by omega));unfold resW at TW;dsimp only at TW;clear hgl;go_wp2_with fail;refine TW.out.mono ?_; rintro e w7 ⟨v7,rfl,ho7,hg7,hon7⟩;have hg1:gL (i+1)=addE (gL i) tt ⟨k1,k2,k3,k4,k9⟩:=by have:=HGX.out; simpa using this
    have hs1:sL (i+1)=sL i:=by have:=HSX.out; simpa using this
    have hb7:=below_own HBi2.out hg7 HO1m.out (Nat.le_refl _) (by omega);have hs7:Wm.heap.size≤w7.heap.size:=hg7.size;have HREL:Hid (OwnS w7 base 75 6 v7 (doneRows (gL (i+1)))∧OwnS w7 (w.heap.size+2) 66 8 u8 (sL (i+1))∧Below base w w7∧(∀k,v7.ownBlock=some k→∀b,PT b→b≠k)∧DsI PT w7 (.slice pc nc kc) (.slice (some ⟨b3,o3,none⟩) n kw) rows d∧(w7.heap[w.heap.size]?=some (.cells #[.slice pc nc kc,.slice (some ⟨b3,o3,none⟩) n kw,.int .i64 t] 34 (0,0)))∧(w7.heap[w.heap.size+1]?=some (.cells #[.slice none 0 0,.slice none 0 0,.int .i64 0] 34 (0,0)))):=by
     rw [hg1,hs1];refine ⟨ho7,HO8m.out.keptN hg7 (HO8m.out.apart HO1m.out (by decide)),hb7,fun k hk b hb e=>?_,HDm.out.own hg7 HNE.out,row_own hg7 D0m.out (HO1m.out.neT D0m.out (by decide)),row_own hg7 D1m.out (HO1m.out.neT D1m.out (by decide))⟩;rcases hon7 with h | ⟨k',h,h2⟩
     ·exact HNE.out k (by rw [← h,hk]) b hb e
     ·rw [hk] at h
      cases h;have:=HPT.out.1 b hb;omega
    clear ho7 hg7 hon7 hg1 hs1 hb7 TW q0 q1 q2 q3 q4 q5 q6 q7 m0 m1 m2 m3 m4;go_wp2_with fail;go_roundw
    case rel=>exact ⟨i+1,by go_num,by omega,by omega,HREL.out.1,HREL.out.2.1,HREL.out.2.2.1,HREL.out.2.2.2.1,HREL.out.2.2.2.2.1,HREL.out.2.2.2.2.2.1,HREL.out.2.2.2.2.2.2⟩
    case measure=>simp [intOf]; omega
   | false=>
    have hsl:=HSL.out i;have hbr:Below Wm.heap.size Wm (Wm.alloc (.cells #[.int .i64 tt,.int .i64 kd,.int .i64 md,.int .i64 oc,.int .u64 ov,.int .i64 odl,.slice a5 cs.length k5,.slice a6 ds.length k6] 66)):=below_new (Below.refl _ _) _;have HAR:Hid ((Wm.alloc (.cells #[.int .i64 tt,.int .i64 kd,.int .i64 md,.int .i64 oc,.int .u64 ov,.int .i64 odl,.slice a5 cs.length k5,.slice a6 ds.length k6] 66)).heap[Wm.heap.size]?=some (.cells #[.int .i64 tt,.int .i64 kd,.int .i64 md,.int .i64 oc,.int .u64 ov,.int .i64 odl,.slice a5 cs.length k5,.slice a6 ds.length k6] 66 (0,0))):=heap_alloc_new _ _;obtain ⟨wa,hwa⟩:∃wa,Wm.alloc (.cells #[.int .i64 tt,.int .i64 kd,.int .i64 md,.int .i64 oc,.int .u64 ov,.int .i64 odl,.slice a5 cs.length k5,.slice a6 ds.length k6] 66)=wa:=⟨_,rfl⟩;rw [hwa] at hbr HAR;have HWA:=Lib.hid hwa;have HBR:=Lib.hid hbr;have HOA:=Lib.hid (HO8m.out.below hbr);have hsa:w.heap.size+2≤wa.heap.size:=by have:=hbr.size; omega
    clear hwa hbr;go_wp2_with (at_builtin; rw [HWA.out]; refine wp_append_ss 32 (by kernel_rfl) Try.info_wait rfl (by decide) (by decide) rfl _ _ rfl rfl HOA.out [[.int .i64 tt,.int .i64 kd,.int .i64 md,.int .i64 oc,.int .u64 ov,.int .i64 odl,.slice a5 cs.length k5,.slice a6 ds.length k6]] (by intro r hr; rw [List.mem_singleton.1 hr]; exact ⟨rfl,by intro u hu; simp only [List.mem_cons,List.not_mem_nil,or_false] at hu; rcases hu with rfl | rfl | rfl | rfl | rfl | rfl | rfl | rfl <;> rfl⟩) Wm.heap.size 1 rfl rfl HAR.out (by simp; omega) hsa ?_; intro v8 w8 ho8 hg8);have hg1:gL (i+1)=gL i:=by have:=HGX.out; simpa using this
    have hs1:sL (i+1)=sL i ++ [[.int .i64 tt,.int .i64 kd,.int .i64 md,.int .i64 oc,.int .u64 ov,.int .i64 odl,.slice a5 cs.length k5,.slice a6 ds.length k6]]:=by have:=HSX.out; rw [HROW.out] at this; simpa [wtL] using this
    have hba:Below base w wa:=HBi2.out.trans (HBR.out.mono (by omega));have hb8:=below_own hba hg8 HOA.out (by omega) (by omega);have hs8:wa.heap.size≤w8.heap.size:=hg8.size;have HO1a:=HO1m.out.below HBR.out;have HREL:Hid (OwnS w8 base 75 6 u1 (doneRows (gL (i+1)))∧OwnS w8 (w.heap.size+2) 66 8 v8 (sL (i+1))∧Below base w w8∧DsI PT w8 (.slice pc nc kc) (.slice (some ⟨b3,o3,none⟩) n kw) rows d∧(w8.heap[w.heap.size]?=some (.cells #[.slice pc nc kc,.slice (some ⟨b3,o3,none⟩) n kw,.int .i64 t] 34 (0,0)))∧(w8.heap[w.heap.size+1]?=some (.cells #[.slice none 0 0,.slice none 0 0,.int .i64 0] 34 (0,0)))):=by
     rw [hg1,hs1];exact ⟨HO1a.keptN hg8 (HO1a.apart HOA.out (by decide)),ho8,hb8,(HDm.out.below HBR.out).own hg8 (fun k hk b hb e=>by have h1:=(HOA.out.lt k hk).1; have h2:=HPT.out.1 b hb; omega),row_own hg8 (row_below3 HBR.out D0m.out) (HOA.out.neT (row_below3 HBR.out D0m.out) (by decide)),row_own hg8 (row_below3 HBR.out D1m.out) (HOA.out.neT (row_below3 HBR.out D1m.out) (by decide))⟩
    clear ho8 hg8 hg1 hs1 hb8 hba HO1a q0 q1 q2 q3 q4 q5 q6 q7 m0 m1 m2 m3 m4;go_wp2_with fail;go_roundw
    case rel=>exact ⟨i+1,by go_num,by omega,by omega,HREL.out.1,HREL.out.2.1,HREL.out.2.2.1,HNE.out,HREL.out.2.2.2.1,HREL.out.2.2.2.2.1,HREL.out.2.2.2.2.2⟩
    case measure=>simp [intOf]; omega
  ·have hge:¬(i:Int)<(n:Int):=by omega
   obtain rfl:i=n:=by omega
   obtain ⟨p8,n8,k8,rfl⟩:=own_sh HO8.out;obtain ⟨d0,d1,d2⟩:=rowc3 D0.out;have ff:=frozen_of_row wo w.heap.size 1 _ _ D0.out;go_upto_region 11 with fail
   obtain ⟨v7,hv7⟩:∃v7,wo.setCell ⟨w.heap.size,1,none⟩ (.slice p8 n8 k8)=v7:=⟨_,rfl⟩;have HGv7:Hid (wo.grownBy v7 (some (w.heap.size))):=by rw [← hv7]; exact (grownBy_setCell wo ⟨w.heap.size,1,none⟩ (.slice p8 n8 k8))
   have V0:Hid (v7.heap[w.heap.size]?=some (.cells #[.slice pc nc kc,.slice p8 n8 k8,.int .i64 t] 34 (0,0))):=by
    rw [← hv7];have r1:=(heap_setCell_same wo w.heap.size 1 _ _ (.slice p8 n8 k8) D0.out);simp at r1;exact r1
   rw [hv7];clear hv7;clear d0 d1 d2 ff;have V1:=Lib.hid (row_keepD HGv7.out D1.out (by omega));have hsl:=HSL.out i;have hg8:=row_grown v7 (w.heap.size+1) #[.slice pc nc kc,.slice p8 n8 k8,.int .i64 t];have hO1a:=HO1.out.kept HGv7.out (.inr (HO1.out.neT D0.out (by decide)));have hO1b:=hO1a.kept hg8 (.inr (hO1a.neT V1.out (by decide)));have hO8a:=HO8.out.kept HGv7.out (HO8.out.ne (by omega));have hO8b:=hO8a.kept hg8 (hO8a.ne (by omega));have hB1:Below base w v7:=HBi.out.grown HGv7.out (by omega) (fun k hk=>by cases hk; omega);have hB2:=hB1.grown hg8 (by have:=HGv7.out.size; omega) (fun k hk=>by cases hk; omega);have hDa:=HDi.out.off HGv7.out (fun b hb=>by have:=HPT.out.1 b hb; omega);have hDb:=hDa.off hg8 (fun b hb=>by have:=HPT.out.1 b hb; omega);have HF9:=Lib.hid (HT.out _ (.slice p8 n8 k8) u1 hDb (hO8b.sls (by omega)) (hO8b.isP fun b hb=>HP.out b (by omega)) hO1b hB2);obtain ⟨x0,x1,x2⟩:=rowc3 V0.out;clear HT hg8 hO1a hO1b hO8a hO8b hB1 hB2 hDa hDb;go_wp2_with (refine wpList_store_row rfl 34 _ _ rfl (w.heap.size+1) _ rfl rfl 34 _ V1.out (by kernel_rfl) rfl (by simp [Value.oneCell']) ?_);refine bodyPost_ret (v:=.tuple #[.agg #[.slice pc nc kc,.slice p8 n8 k8,.int .i64 t],u1]) (results_cell_tmp Try.results40 _ _ (w.heap.size+1) 34 _ (0,0) _ rfl (setRow_heap _ _ _ _ 34 (0,0) V1.out) Try.underlying34 rfl (by kernel_rfl) _ rfl) rfl ?_;exact HF9.out
def DInv (d:DeskM):Prop:=Dist d.wait∧∀x∈d.wait,lateB d.tick x=false
theorem DInv.sub {d d2:DeskM} (h:DInv d) (hs:List.Sublist d2.wait d.wait) (ht:d2.tick=d.tick):DInv d2:=⟨List.Pairwise.sublist hs h.1,fun x hx=>by rw [ht]; exact h.2 x (hs.subset hx)⟩
theorem leaveD_sub (d:DeskM) (k:Nat):List.Sublist (leaveD d k).wait d.wait:=by
 show List.Sublist (d.wait.take k ++ d.wait.drop (k+1)) d.wait;conv=>rhs; rw [← List.take_append_drop k d.wait]
 exact List.Sublist.append (List.Sublist.refl _) (by rw [← List.drop_drop]; exact List.drop_sublist _ _)
theorem DInv.tick {d:DeskM} (h:DInv d) (n:Int):DInv (tickD d n).1:=by
 unfold tickD;split
 ·exact h
 ·refine ⟨List.Pairwise.sublist (List.filter_sublist ..) h.1,fun x hx=>?_⟩
  have:=(List.mem_filter.1 hx).2;simpa using this
theorem waitsD_mem {d:DeskM} {thr:Int} (h:waitsD d thr=false):∀x∈d.wait,x.thr≠thr:=fun x hx e=>by
 unfold waitsD at h;rw [List.any_eq_false] at h;exact h x hx (by simp [e])
theorem DInv.does {d:DeskM} (h:DInv d) {thr:Int} (op:OpM) (hw:waitsD d thr=false):DInv (doD d thr op).1:=by
 have hm:=waitsD_mem hw;unfold doD;split
 ·unfold shutE
  split
  ·exact h.sub ((List.filter_sublist ..).trans (List.filter_sublist ..)) rfl
  ·exact h
 ·split
  ·exact h
  ·split
   ·show DInv (doG d thr op (pickD d thr op) _).1
    unfold doG;split
    ·unfold sendG
     split
     ·exact h
     ·split
      ·exact h.sub (leaveD_sub _ _) rfl
      ·exact h.sub (List.Sublist.refl _) rfl
    ·unfold recvG
     split <;> split
     ·exact h.sub (leaveD_sub _ _) rfl
     ·exact h
     ·exact h.sub (leaveD_sub _ _) rfl
     ·exact h.sub (List.Sublist.refl _) rfl
   ·split
    ·exact h
    ·next hm1=>
     split
     ·exact h
     ·next hl=>
      refine ⟨?_,fun x hx=>?_⟩
      ·show Dist (d.wait ++ [⟨thr,op⟩])
       unfold Dist;rw [List.pairwise_append];exact ⟨h.1,List.pairwise_singleton _ _,fun x hx y hy=>by rw [List.mem_singleton.1 hy]; exact hm x hx⟩
      ·have hx:x∈d.wait ++ [⟨thr,op⟩]:=hx
       rcases List.mem_append.1 hx with hx | hx
       ·exact h.2 x hx
       ·rw [List.mem_singleton.1 hx]
        unfold lateB;cases hd:(op.mode == 2 && decide (op.dl≤d.tick)) with
        | false=>rfl
        | true=>
         simp only [Bool.and_eq_true,beq_iff_eq,decide_eq_true_eq] at hd;exact absurd hd hl
theorem tickD_pass {d:DeskM} (h:DInv d) (n:Int):tickD d n=(⟨d.chans,d.wait.filter (fun x=>!lateB (if n<1 then d.tick else newT d.tick n) x),if n<1 then d.tick else newT d.tick n⟩,goF (fun _=>toR) [] (d.wait.filter fun x=>lateB (if n<1 then d.tick else newT d.tick n) x)):=by
 unfold tickD;split
 ·have h1:d.wait.filter (fun x=>!lateB d.tick x)=d.wait:=List.filter_eq_self.2 fun x hx=>by rw [h.2 x hx]; rfl
  have h2:d.wait.filter (fun x=>lateB d.tick x)=[]:=List.filter_eq_nil_iff.2 fun x hx=>by rw [h.2 x hx]; decide
  rw [h1,h2];rfl
 ·rfl
theorem enter_fn {f : FuncId} {fn : Func} (hf : Try.prog.funcs[f]? = some fn) (hb : fn.body.isSome = true) (hn : (fn.name == "runtime.NumGoroutine") = false) : ∀ args w, (callFunc f args).run Try.prog w = .ok (.enter f args) w := fun args w => by
 have h1 : fn.name ≠ "runtime.NumGoroutine" := by simpa using hn
 obtain ⟨b,hb⟩:=Option.isSome_iff_exists.1 hb;simp [callFunc,hf,h1,hb,Sem.run]
set_option maxRecDepth 100000 in
set_option maxHeartbeats 16000000 in
theorem tick1_any (B:Nat) (vo:Value) (d:DeskM) (op:OpM) (ac aw:Option Addr) (kc kw:Nat) (w:World) (hr:w.heap[B]?=some (.cells #[.slice ac d.chans.length kc,.slice aw d.wait.length kw,.int .i64 d.tick] 34 (0,0))) (hd:DeskV w (.agg #[.slice ac d.chans.length kc,.slice aw d.wait.length kw,.int .i64 d.tick]) d) (ho:OpV w vo op):Calls Try.prog 41 #[vo,.pointer (some ⟨B,0,none⟩)] w fun e w'=>e=.returned (.tuple #[resW toR,.bool (decide (op.mode=2∧op.dl≤d.tick))])∧Below w.heap.size w w':=by
 have TL:=Lib.hid fun w' (hb:Below w.heap.size w w')=>isLate_any _ vo d op w' (hd.below hb) (ho.below hb);obtain ⟨cn,hcn⟩:∃z,d.chans.length=z:=⟨_,rfl⟩;obtain ⟨wn,hwn⟩:∃z,d.wait.length=z:=⟨_,rfl⟩;obtain ⟨t,htt⟩:∃z,d.tick=z:=⟨_,rfl⟩;rw [hcn,hwn,htt] at TL hr;rw [htt];have HR:=Lib.hid hr;have hBl:B<w.heap.size:=(Array.getElem?_eq_some_iff.1 hr).1;obtain ⟨vcs,vds,rfl,hcs,hds⟩:=ho;obtain ⟨kd,md,oc,ov,odl,cs,ds⟩:=op;dsimp only at *;obtain ⟨a3,cap3,rfl⟩:=hcs.len;obtain ⟨a4,cap4,rfl,-⟩:=hds.len;unfold resW toR;dsimp only;obtain ⟨q,hq⟩:∃z,decide (md=2∧odl≤t)=z:=⟨_,rfl⟩;rw [hq] at TL ⊢;clear hr hd hcs hds hcn hwn htt hq;obtain ⟨W,hW,HB,R0,R1,hz⟩:=two_new w (.cells #[.int .i64 kd,.int .i64 md,.int .i64 oc,.int .u64 ov,.int .i64 odl,.slice a3 cs.length cap3,.slice a4 ds.length cap4] 44) (.cells #[.int .i64 0,.int .i64 0,.int .u64 0,.bool false,.int .i64 0] 73);have HW:=Lib.hid hW;clear hW;go_enter Try.func41,Try.ntmps41;go_upto_region 1 with fail
 rw [HW.out];clear HW;obtain ⟨x0_0,x0_1,x0_2,x0_3,x0_4,x0_5,x0_6⟩:=rowc7 R0.out;have B0:=Lib.hid (row_below3 HB.out HR.out);obtain ⟨b0,b1,b2⟩:=rowc3 B0.out;go_wp2_with fail;refine (TL.out _ HB.out).mono ?_; rintro e w1 ⟨rfl,hb1⟩;have R11:=Lib.hid (row_below3 hb1 R1.out);have HB1:=Lib.hid (below_then HB.out hb1);clear x0_0 x0_1 x0_2 x0_3 x0_4 x0_5 x0_6 b0 b1 b2 hb1 TL;go_wp2_with (refine wpList_store_row rfl 73 _ _ rfl (w.heap.size+1) _ rfl rfl 73 _ R11.out (by kernel_rfl) rfl (by simp [Value.oneCell']) ?_);refine bodyPost_ret (v:=.tuple #[.agg #[.int .i64 4,.int .i64 (-1),.int .u64 0,.bool false,.int .i64 0],.bool q]) (results_cell_tmp Try.results41 _ _ (w.heap.size+1) 73 _ (0,0) _ rfl (setRow_heap _ _ _ _ 73 (0,0) R11.out) Try.underlying73 rfl (by kernel_rfl) _ rfl) rfl ?_;exact ⟨rfl,row_below HB1.out (show w.heap.size≤w.heap.size+1 by omega) _⟩
def PdQ (P:Nat→Prop) (d:DeskM) (l:List DoneM) (w:World) (e:Ending) (w':World):Prop:=∃u v,e=.returned (.tuple #[u,v])∧DeskX P w' u d∧SlS w' 6 v (doneRows l)∧atP (fun b=>w.heap.size≤b) v∧Below w.heap.size w w'
theorem lateB_dec (t:Int) (x:WaitM):decide (x.op.mode=2∧x.op.dl≤t)=lateB t x:=by
 unfold lateB;by_cases h1:x.op.mode=2 <;> by_cases h2:x.op.dl≤t <;> simp [h1,h2]
set_option maxRecDepth 100000 in
set_option maxHeartbeats 16000000 in
theorem ptick_any (P:Nat→Prop) (v:Value) (d:DeskM) (n:Int) (w:World) (h:DeskX P w v d) (hd:d.ok) (hi:DInv d) (ht:0≤d.tick∧d.tick≤1099511627776) (hn:-9223372036854775808≤n∧n<9223372036854775808) (hP:∀b,w.heap.size≤b→P b):Calls Try.prog 17 #[v,.int .i64 n] w (PdQ P (tickD d n).1 (tickD d n).2 w):=by
 have hX:=h.tight;have TLA:=Lib.hid fun w'=>later_any d.tick n w' ht hn;have hE:=tickD_pass hi n;obtain ⟨t2,ht2⟩:∃z,(if n<1 then d.tick else newT d.tick n)=z:=⟨_,rfl⟩;rw [ht2] at TLA hE;obtain ⟨pc,nc,kc,aw,kw,rfl⟩:=hX.val;have HX:=Lib.hid hX;have HD:=Lib.hid hd;have HI:=Lib.hid hi;have HP:=Lib.hid hP;rw [hE];dsimp only;obtain ⟨cn,hcn⟩:∃z,d.chans.length=z:=⟨_,rfl⟩;have hnc:nc=cn:=by
  obtain ⟨vc,vw,hve,hch,-⟩:=hX;simp only [Value.agg.injEq,Array.mk.injEq,List.cons.injEq,and_true] at hve;obtain ⟨rfl,-⟩:=hve;obtain ⟨a,c,hve,-⟩:=hch.slH.len;simp only [Value.slice.injEq] at hve;rw [← hcn]; exact hve.2.1
 subst hnc;obtain ⟨wn,hwn⟩:∃z,d.wait.length=z:=⟨_,rfl⟩;obtain ⟨t,htt⟩:∃z,d.tick=z:=⟨_,rfl⟩;have HCN:=Lib.hid hcn;have HWN:=Lib.hid hwn;have HTT:=Lib.hid htt;rw [hwn,htt] at HX ⊢;rw [htt] at TLA;obtain ⟨TQ,hTQ⟩:∃z,PdQ P ⟨d.chans,d.wait.filter (fun x=>!lateB t2 x),t2⟩ (goF (fun _=>toR) [] (d.wait.filter fun x=>lateB t2 x)) w=z:=⟨_,rfl⟩;have HT:Hid (∀w' u v,DeskX P w' u ⟨d.chans,d.wait.filter (fun x=>!lateB t2 x),t2⟩→SlS w' 6 v (doneRows (goF (fun _=>toR) [] (d.wait.filter fun x=>lateB t2 x)))→atP (fun b=>w.heap.size≤b) v→Below w.heap.size w w'→TQ (.returned (.tuple #[u,v])) w'):=fun w' u v h1 h2 h3 h4=>by rw [← hTQ]; exact ⟨u,v,rfl,h1,h2,h3,h4⟩
 rw [hTQ];clear hTQ hcn hwn htt h hX hd hi hP hE ht2;obtain ⟨W,hW,HB,R0,R1,hz⟩:=two_new w (.cells #[.slice pc nc kc,.slice aw wn kw,.int .i64 t] 34) (.cells #[.slice none 0 0,.slice none 0 0,.int .i64 0] 34);have HW:=Lib.hid hW;clear hW;go_enter Try.func17,Try.ntmps17;go_upto_region 1 with fail
 rw [HW.out];clear HW;obtain ⟨x0_0,x0_1,x0_2⟩:=rowc3 R0.out;go_wp2_with fail;refine (TLA.out _).mono ?_; rintro e w1 ⟨rfl,rfl⟩;have ff:=frozen_of_row W w.heap.size 2 _ _ R0.out;go_upto_region 2 with fail
 obtain ⟨v7,hv7⟩:∃v7,W.setCell ⟨w.heap.size,2,none⟩ (.int .i64 t2)=v7:=⟨_,rfl⟩;have HGv7:Hid (W.grownBy v7 (some (w.heap.size))):=by rw [← hv7]; exact (grownBy_setCell W ⟨w.heap.size,2,none⟩ (.int .i64 t2))
 have V0:Hid (v7.heap[w.heap.size]?=some (.cells #[.slice pc nc kc,.slice aw wn kw,.int .i64 t2] 34 (0,0))):=by
  rw [← hv7];have r1:=(heap_setCell_same W w.heap.size 2 _ _ (.int .i64 t2) R0.out);simp at r1;exact r1
 rw [hv7];clear hv7;clear x0_0 x0_1 x0_2 ff;have V1:=Lib.hid (row_keepD HGv7.out R1.out (by omega));have HB7:Hid (Below w.heap.size w v7):=below_grown HB.out HGv7.out (Nat.le_refl _);have hv7:w.heap.size+2≤v7.heap.size:=by have:=HGv7.out.size; omega
 have HX7:Hid (DeskX (fun b=>P b∧b≠w.heap.size+1) v7 (.agg #[.slice pc nc kc,.slice aw wn kw,.int .i64 t2]) ⟨d.chans,d.wait,t2⟩):=by
  obtain ⟨vc,vw,hve,h1,h2⟩:=(HX.out.below HB7.out).mono (Q:=fun b=>P b∧b≠w.heap.size+1) (fun b hb=>⟨hb.1,by omega⟩);simp only [Value.agg.injEq,Array.mk.injEq,List.cons.injEq,and_true] at hve;obtain ⟨rfl,rfl,-⟩:=hve;exact ⟨_,_,rfl,h1,h2⟩
 have hok:DeskM.ok ⟨d.chans,d.wait,t2⟩:=⟨HD.out.cl,HD.out.wl,HD.out.bf,HD.out.wop⟩;have TD:=Lib.hid (dismiss_any (fun b=>P b∧b≠w.heap.size+1) (.agg #[.slice pc nc kc,.slice aw wn kw,.int .i64 t2]) (.slice none 0 0) (.pointer (some ⟨w.heap.size,0,none⟩)) 41 ⟨d.chans,d.wait,t2⟩ [] (fun x=>lateB t2 x) (fun _=>toR) v7.heap.size v7 HX7.out hok (OwnS.nil _ _ _ _) (Nat.le_refl _) (by simp) Asc.nil HI.out.1 (by simp) (fun b _ _ e=>by simp [Value.ownBlock] at e) (fun b hb=>⟨HP.out b (by omega),by omega⟩) (enter_fn Try.func41 rfl rfl) (fun w' vo x hb hx ho=>by
  have:=tick1_any w.heap.size vo ⟨d.chans,d.wait,t2⟩ x.op pc aw kc kw w' (by dsimp only; rw [HWN.out,HCN.out]; exact row_below3 hb V0.out) (by dsimp only; rw [HWN.out,HCN.out]; exact (HX7.out.below hb).deskV) ho;rw [lateB_dec] at this;exact this))
 unfold DsmQ at TD;dsimp only at TD;clear HX7 hok HX TLA HGv7;obtain ⟨x0,x1,x2⟩:=rowc3 V0.out;go_wp2_with fail;refine TD.out.mono ?_; rintro e w8 ⟨u8,l8,rfl,hx,ho8,hb8⟩;have S8:=Lib.hid (row_below3 hb8 V1.out);have HB8:=Lib.hid (below_then HB7.out hb8);have HO8:=Lib.hid ho8;have HT8:Hid ((⟨d.chans,d.wait.filter (fun x=>!lateB t2 x),t2⟩:DeskM).tick=t2):=rfl;have HXd:=Lib.hid hx;obtain ⟨vc8,vw8,rfl,hc8,hw8⟩:=hx;obtain ⟨pc8,nc8,kc8,rfl⟩:=SlHX.sh hc8;obtain ⟨aw8,kw8,hve8,-⟩:=hw8.slW.len;obtain ⟨n8,hn8⟩:∃z,(⟨d.chans,d.wait.filter (fun x=>!lateB t2 x),t2⟩:DeskM).wait.length=z:=⟨_,rfl⟩;rw [hn8] at hve8;subst hve8;dsimp only at HXd ⊢;clear hc8 hw8 hn8;have hg8:=row_grown w8 (w.heap.size+1) #[.slice pc8 nc8 kc8,.slice aw8 n8 kw8,.int .i64 t2];have hgl:=goF_len (fun _=>toR) (d.wait.filter fun x=>lateB t2 x) [];have hfl:=List.length_filter_le (fun x=>lateB t2 x) d.wait;have hwl:=HD.out.wl;have HF9:=Lib.hid (HT.out _ (.agg #[.slice pc8 nc8 kc8,.slice aw8 n8 kw8,.int .i64 t2]) l8 ((HXd.out.off hg8 (fun b hb=>hb.2)).mono fun b hb=>hb.1) ((HO8.out.kept hg8 (HO8.out.ne (by omega))).sls (by rw [doneRows_length,hgl]; simp; omega)) (HO8.out.isP fun b hb=>by omega) (row_below HB8.out (show w.heap.size≤w.heap.size+1 by omega) #[.slice pc8 nc8 kc8,.slice aw8 n8 kw8,.int .i64 t2]));clear HT x0 x1 x2 hb8 hg8 TD HXd ho8 hgl hfl hwl;go_wp2_with (refine wpList_store_row rfl 34 _ _ rfl (w.heap.size+1) _ rfl rfl 34 _ S8.out (by kernel_rfl) rfl (by simp [Value.oneCell']) ?_);refine bodyPost_ret (v:=.tuple #[.agg #[.slice pc8 nc8 kc8,.slice aw8 n8 kw8,.int .i64 t2],l8]) (results_cell_tmp Try.results17 _ _ (w.heap.size+1) 34 _ (0,0) _ rfl (setRow_heap _ _ _ _ 34 (0,0) S8.out) Try.underlying34 rfl (by kernel_rfl) _ rfl) rfl ?_;exact HF9.out
end Go.Proofs.Ytiekicailidhcaa
