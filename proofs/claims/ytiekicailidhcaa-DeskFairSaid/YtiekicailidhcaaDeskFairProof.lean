/- Proved: DeskFair returns true for every list of codes and every thread, and its argument reads afterwards as before; no condition. -/
import Derived.WalkKit
import Derived.WalkLawsBesides
import Derived.WalkSpells
import Derived.ProofKit
import Derived.Lib.Hide
import Derived.LoopTactic
import Derived.Test.YtiekicailidhcaaRows
import Derived.SizedLaws
import Derived.OpenShut
import Derived.RowKit
import Derived.Deep.QuietTactic
import Derived.BigQuiet
import Derived.RegionTactic
import Derived.BigRegion
import Derived.OrdersHeld
import Derived.Laws.Tables
import Derived.Laws.MakeOwn
import Derived.Laws.AppendOwn
import Derived.Laws.OwnMore
import Derived.Maps.AppendAt
import Derived.Lib.AppendZeros
import Derived.Deep.MidRow
import Derived.Shelf.RegionOpenPlain
import Derived.Lib.SliceRun
import Derived.Deep.LoopGhost
import Derived.Deep.DeepCutAuto
import Derived.Deep.CutBlock
import Derived.Laws.BitsAllLaws
import Derived.Laws.AppendOwnNone
import Derived.Deep.RegionHeld3
import Derived.Deep.RegionLaw
import Derived.Lib.Overlaps
import Derived.Lib.AppendZerosOnto
import Derived.Shelf.Spec.SlicesInsert
import Derived.Test.YtiekicailidhcaaB01
import Derived.Test.YtiekicailidhcaaB02
import Derived.Test.YtiekicailidhcaaB03
import Derived.Test.YtiekicailidhcaaB04
import Derived.Test.YtiekicailidhcaaB05
import Derived.Test.YtiekicailidhcaaB06
import Derived.Test.YtiekicailidhcaaB07
import Derived.Test.YtiekicailidhcaaB08
import Derived.Test.YtiekicailidhcaaB09
import Derived.Test.YtiekicailidhcaaB10
import Derived.Test.YtiekicailidhcaaB11
import Derived.Test.YtiekicailidhcaaB12
import Derived.Test.YtiekicailidhcaaB13
import Derived.Test.YtiekicailidhcaaB14
import Derived.Test.YtiekicailidhcaaB15
import Derived.Test.YtiekicailidhcaaF01
namespace Go.Proofs.Ytiekicailidhcaa.deskFair
open Go.ChangeShapes Go.WideShapes Go.ChangeAt Go.RowKit
set_option linter.unusedVariables false
set_option linter.unusedSimpArgs false
set_option maxRecDepth 100000 in
set_option maxHeartbeats 16000000 in
theorem walk (w:World) (v0:Value) (l0:List Int) (s0:SlI w .u8 v0 l0) (a1:Int) (w1:(Lit.int .i64 a1).wf=true) :
  Calls Try.prog 8 #[v0,.int .i64 a1] w fun e w'=>e=.returned (.bool true)∧Below w.heap.size w w':=by
 have AW:=Lib.hid (awakeD_any w);have HS0:=Lib.hid s0;clear s0;go_enter Try.func8,Try.ntmps8;go_wp2_with fail;refine AW.out.mono ?_; rintro e w1 ⟨rfl,hb1⟩;have HB1:=Lib.hid hb1;clear hb1 AW;go_wp2_with fail;refine (new_any _ l0 200 _ (HS0.out.below HB1.out) (by omega)).mono ?_; rintro e w2 ⟨rfl,hc2,hb2⟩;have hC2:Hid (CodesE w2 w1.heap.size):=⟨_,_,hc2⟩;have HB2:=Lib.hid (below_then HB1.out hb2);obtain ⟨g,hg⟩:∃g,w1.heap.size=g:=⟨_,rfl⟩;have hwg:w.heap.size≤g:=by have:=HB1.out.size; omega
 rw [hg] at hC2;rw [hg];clear hc2 hb2 hg HS0 HB1;go_wp2_with fail;refine (configG g w2 hC2.out).mono ?_; rintro e w3 ⟨vc,vs,c,rfl,hsc,hss,hoc,hos,hgd,-,-,hc3,hg3⟩;have HC3:=Lib.hid hc3;have HCX:=Lib.hid (⟨vc,vs,rfl,hsc,hss,hoc,hos⟩:ConfX w3 g (.agg #[vc,vs,.int .i64 c.threads]) c);have HGD:=Lib.hid hgd;have HB3:=Lib.hid (below_poke HB2.out hg3 hwg);obtain ⟨ac,cc,rfl,-⟩:=hsc.len;obtain ⟨ast,cst,rfl,-⟩:=hss.len;clear hc3 hg3 hgd hsc hss hoc hos HB2 hC2;obtain ⟨Wx,hWx⟩:∃Wx,(w3.alloc (.cells #[.slice none 0 0,.slice none 0 0,.int .i64 0] 29)).setRow w3.heap.size #[.slice ac c.caps.length cc,.slice ast c.starts.length cst,.int .i64 c.threads]=Wx:=⟨_,rfl⟩;have Nx:Hid ((w3.alloc (.cells #[.slice none 0 0,.slice none 0 0,.int .i64 0] 29)).heap[w3.heap.size]?=some (.cells #[.slice none 0 0,.slice none 0 0,.int .i64 0] 29 (0,0))):=heap_alloc_new _ _;have HBx:Hid (Below w3.heap.size w3 Wx):=hWx▸row_below (below_new (Below.refl _ _) _) (Nat.le_refl _) _;have Rx:Hid (Wx.heap[w3.heap.size]?=some (.cells #[.slice ac c.caps.length cc,.slice ast c.starts.length cst,.int .i64 c.threads] 29 (0,0))):=hWx▸setRow_heap _ _ _ _ _ (0,0) Nx.out;have HWx:=Lib.hid hWx;clear hWx;go_upto_region 5 with (refine wpList_store_row rfl 29 _ _ rfl (w3.heap.size) _ rfl rfl 29 _ Nx.out (by kernel_rfl) rfl (by simp [Value.oneCell']) ?_)
 rw [HWx.out];try simp only [Act.put]
 clear HWx Nx;obtain ⟨X,hX⟩:∃X,w3.heap.size=X:=⟨_,rfl⟩;rw [hX] at Rx;rw [hX];have hgX:g<X:=by have:=HC3.out.lt; omega
 clear hX;have HC4:=Lib.hid (HC3.out.kept HC3.out.lt HBx.out);have HB4:=Lib.hid (below_then HB3.out HBx.out);have HCY:Hid (ConfX Wx g (.agg #[.slice ac c.caps.length cc,.slice ast c.starts.length cst,.int .i64 c.threads]) c):=ConfX.below (v:=.agg #[.slice ac c.caps.length cc,.slice ast c.starts.length cst,.int .i64 c.threads]) HCX.out HBx.out;have hXl:X<Wx.heap.size:=(ltR Rx);have TRE:=Lib.hid (reach_any g (.agg #[.slice ac c.caps.length cc,.slice ast c.starts.length cst,.int .i64 c.threads]) c 12 Wx HC4.out HCY.out HGD.out (by omega));clear HC3 HB3 HCX HBx;obtain ⟨x0,x1,x2⟩:=rowc3 Rx.out;go_wp2_with fail;refine TRE.out.mono ?_; rintro e w4 ⟨u,d,rfl,hx,hok,htk,hc5,hg5⟩;have X4:=Lib.hid (row_keepD hg5 Rx.out (by omega));have HC5:=Lib.hid hc5;have HB5:=Lib.hid (below_poke HB4.out hg5 hwg);have HCZ:Hid (ConfX w4 g (.agg #[.slice ac c.caps.length cc,.slice ast c.starts.length cst,.int .i64 c.threads]) c):=HCY.out.grown hg5;have HOK:=Lib.hid hok;have HTK:=Lib.hid htk;have hX4:X<w4.heap.size:=(ltR X4);obtain ⟨pc,nc,kc,aw,kw,rfl⟩:=hx.val;obtain ⟨wn,hwn⟩:∃z,d.wait.length=z:=⟨_,rfl⟩;obtain ⟨t,htt⟩:∃z,d.tick=z:=⟨_,rfl⟩;rw [hwn,htt] at hx ⊢;have HX:=Lib.hid hx;have HTT:=Lib.hid htt;have HWN:=Lib.hid hwn;clear hc5 hg5 hok htk hx x0 x1 x2 TRE HC4 HB4 HCY Rx hXl htt hwn;obtain ⟨Wd,hWd⟩:∃Wd,(w4.alloc (.cells #[.slice none 0 0,.slice none 0 0,.int .i64 0] 34)).setRow w4.heap.size #[.slice pc nc kc,.slice aw wn kw,.int .i64 t]=Wd:=⟨_,rfl⟩;have Nd:Hid ((w4.alloc (.cells #[.slice none 0 0,.slice none 0 0,.int .i64 0] 34)).heap[w4.heap.size]?=some (.cells #[.slice none 0 0,.slice none 0 0,.int .i64 0] 34 (0,0))):=heap_alloc_new _ _;have HBd:Hid (Below w4.heap.size w4 Wd):=hWd▸row_below (below_new (Below.refl _ _) _) (Nat.le_refl _) _;have Rd:Hid (Wd.heap[w4.heap.size]?=some (.cells #[.slice pc nc kc,.slice aw wn kw,.int .i64 t] 34 (0,0))):=hWd▸setRow_heap _ _ _ _ _ (0,0) Nd.out;have HWd:=Lib.hid hWd;clear hWd;go_upto_region 6 with (refine wpList_store_row rfl 34 _ _ rfl (w4.heap.size) _ rfl rfl 34 _ Nd.out (by kernel_rfl) rfl (by simp [Value.oneCell']) ?_)
 rw [HWd.out];try simp only [Act.put]
 clear HWd Nd;obtain ⟨D,hD⟩:∃D,w4.heap.size=D:=⟨_,rfl⟩;rw [hD] at Rd;rw [hD];have hXD:X<D:=by omega
 clear hD;have X5:=Lib.hid (row_below3 HBd.out X4.out);have HC6:=Lib.hid (HC5.out.kept HC5.out.lt HBd.out);have HB6:=Lib.hid (below_then HB5.out HBd.out);have HCW:=Lib.hid (HCZ.out.below HBd.out);have HXd:=Lib.hid (HX.out.below HBd.out);clear X4 HC5 HB5 HCZ HX HBd;have hth:=HGD.out.thr;obtain ⟨hth1,hth2⟩:=hth;obtain ⟨x0,x1,x2⟩:=rowc3 X5.out;go_wp2_with fail;refine (mod_any a1 c.threads _ hth1 (by omega)).mono ?_; rintro e w5 ⟨rfl,rfl⟩;obtain ⟨thr,hthr⟩:∃z,a1 % c.threads=z:=⟨_,rfl⟩;rw [hthr];have TSE:=Lib.hid (selectM_any g 4 _ c Wd HC6.out HCW.out HGD.out.len (by omega));clear hthr hth1 hth2;go_wp2_with fail;refine TSE.out.mono ?_; rintro e w7 ⟨uo,op,rfl,hop,hgood,hle,hc8,hg8⟩;have D7:=Lib.hid (row_keepD hg8 Rd.out (by omega));have HB8:=Lib.hid (below_poke HB6.out hg8 hwg);have HXf:=Lib.hid (HXd.out.off hg8 (fun b hb=>hb));have HGO:=Lib.hid hgood;obtain ⟨vcs,vds,rfl,hcs,hds,-,-⟩:=hop;have HCS:=Lib.hid hcs;have HDS:=Lib.hid hds;obtain ⟨kd,md,oc,ov,odl,cs,ds⟩:=op;dsimp only at *;obtain ⟨a3,cap3,rfl⟩:=hcs.len;obtain ⟨a4,cap4,rfl,-⟩:=hds.len;have hD7:D<w7.heap.size:=(ltR D7);clear x0 x1 x2 TSE hgood hc8 hg8 hcs hds HC6 HB6 HCW HXd X5 Rd;obtain ⟨Wo,hWo⟩:∃Wo,(w7.alloc (.cells #[.int .i64 0,.int .i64 0,.int .i64 0,.int .u64 0,.int .i64 0,.slice none 0 0,.slice none 0 0] 44)).setRow w7.heap.size #[.int .i64 kd,.int .i64 md,.int .i64 oc,.int .u64 ov,.int .i64 odl,.slice a3 cs.length cap3,.slice a4 ds.length cap4]=Wo:=⟨_,rfl⟩;have No:Hid ((w7.alloc (.cells #[.int .i64 0,.int .i64 0,.int .i64 0,.int .u64 0,.int .i64 0,.slice none 0 0,.slice none 0 0] 44)).heap[w7.heap.size]?=some (.cells #[.int .i64 0,.int .i64 0,.int .i64 0,.int .u64 0,.int .i64 0,.slice none 0 0,.slice none 0 0] 44 (0,0))):=heap_alloc_new _ _;have HBo:Hid (Below w7.heap.size w7 Wo):=hWo▸row_below (below_new (Below.refl _ _) _) (Nat.le_refl _) _;have Ro:Hid (Wo.heap[w7.heap.size]?=some (.cells #[.int .i64 kd,.int .i64 md,.int .i64 oc,.int .u64 ov,.int .i64 odl,.slice a3 cs.length cap3,.slice a4 ds.length cap4] 44 (0,0))):=hWo▸setRow_heap _ _ _ _ _ (0,0) No.out
 have HWo:=Lib.hid hWo;clear hWo;go_upto_region 8 with (refine wpList_store_row rfl 44 _ _ rfl (w7.heap.size) _ rfl rfl 44 _ No.out (by kernel_rfl) rfl (by simp [Value.oneCell']) ?_)
 rw [HWo.out];try simp only [Act.put]
 clear HWo No;obtain ⟨O,hO⟩:∃O,w7.heap.size=O:=⟨_,rfl⟩;rw [hO] at Ro;rw [hO];have hDO:D<O:=by omega
 have hO7:w7.heap.size≤O:=by omega
 clear hO;have D8:=Lib.hid (row_below3 HBo.out D7.out);have HB9:=Lib.hid (below_then HB8.out HBo.out);have HXg:Hid (DeskX (fun b=>b<O) Wo (.agg #[.slice pc nc kc,.slice aw wn kw,.int .i64 t]) d):=(HXf.out.tight.below HBo.out).mono fun b hb=>by have:=hb.2; omega
 have hwO:w.heap.size≤O:=by have:=HB8.out.size; omega
 have HDO:Hid (SlI Wo .i64 (.slice a4 ds.length cap4) ds):=HDS.out.below HBo.out;have HCT:=Lib.hid (HCS.out.below HBo.out);have HKO:Hid d.ok:=HOK.out.ok (by omega);have TWA:=Lib.hid (waits_any _ d thr Wo HXg.out.deskV);have hOl:O<Wo.heap.size:=(ltR Ro);clear D7 HXf HB8 HBo;obtain ⟨o0,o1,o2,o3,o4,o5,o6⟩:=rowc7 Ro.out;obtain ⟨d0,d1,d2⟩:=rowc3 D8.out;go_wp2_with fail;refine TWA.out.mono ?_; rintro e w10 ⟨rfl,hb10⟩;have HBa:=Lib.hid (below_then HB9.out hb10);have Oa:=Lib.hid (row_below3 hb10 Ro.out);have Da:=Lib.hid (row_below3 hb10 D8.out);have HXa:=Lib.hid (HXg.out.below hb10);have HCa:=Lib.hid (HCT.out.below hb10);have HDa:=Lib.hid (HDO.out.below hb10);have hOa:O<w10.heap.size:=(ltR Oa);clear hb10 o0 o1 o2 o3 o4 o5 o6 d0 d1 d2 TWA HB9 D8 HXg HCT hOl Ro HDO;cases hq:waitsD d thr with
 | true=>
  go_wp2_with fail
  all_goals (go_ret; exact ⟨rfl,HBa.out⟩)
 | false=>
  by_cases hn0:cs.length=0
  ·have hnI:((cs.length:Int) == 0)=true:=by simp [hn0]
   go_wp2_with fail
   all_goals (go_ret; exact ⟨rfl,HBa.out⟩)
  ·have hnI:((cs.length:Int) == 0)=false:=by simpa using hn0
   obtain ⟨fR,hfR⟩:∃f:Int→Bool,(fun i:Int=>readyD d thr (cs.getD i.toNat noCase))=f:=⟨_,rfl⟩;have HFR:=Lib.hid hfR;have TRR:=Lib.hid fun x w' (hb:Below w10.heap.size w10 w')=>rreadyD_any _ d thr x w' ((HXa.out.below hb).deskV) HKO.out;unfold caseW at TRR;obtain ⟨o0,o1,o2,o3,o4,o5,o6⟩:=rowc7 Oa.out;clear hq hfR;go_wp2_with fail;go_loopw [11,48] (fun u11 u48 wr=>∃i:Nat,u48=.int .i64 i∧i≤cs.length∧u11=.int .i64 (rdyL fR i:Nat)∧Hid (Below w10.heap.size w10 wr)) (fun _ u48 _=>cs.length - (intOf u48).toNat)
   case atStart=>exact ⟨0,rfl,by omega,rfl,Below.refl _ _⟩
   case round=>
    clear o0 o1 o2 o3 o4 o5 o6;obtain ⟨i,rfl,hi,rfl,HBi⟩:=hrel;obtain ⟨wo,rfl⟩:∃wo:World,wo=wr:=⟨_,rfl⟩;have Oi:=Lib.hid (row_below3 HBi.out Oa.out);have Di:=Lib.hid (row_below3 HBi.out Da.out);by_cases hlt:i<cs.length
    ·have hltI:(i:Int)<(cs.length:Int):=by omega
     obtain ⟨-,-,a9,cap9,hve,-,hcell⟩:=HCa.out.below HBi.out;simp only [Value.slice.injEq,true_and] at hve;obtain ⟨rfl,rfl⟩:=hve;obtain ⟨b8,o8,rfl,hb8,hca⟩:=hcell i hlt;obtain ⟨⟨xs,xc,xv⟩,hxi⟩:∃z,cs.getD i noCase=z:=⟨_,rfl⟩;rw [hxi] at hca;obtain ⟨c80,c81,c82⟩:=hca;dsimp only at c80 c81 c82;have TR1:=Lib.hid (TRR.out ⟨xs,xc,xv⟩);dsimp only at TR1;obtain ⟨bq,hbq⟩:∃z,readyD d thr ⟨xs,xc,xv⟩=z:=⟨_,rfl⟩;rw [hbq] at TR1;have HFi:Hid (fR (i:Nat)=bq):=by
      show _=_;rw [← HFR.out];show readyD d thr (cs.getD (i:Int).toNat noCase)=bq;rw [Int.toNat_natCast,hxi,hbq]
     clear hcell hxi hbq;go_upto_region 15 with fail
     obtain ⟨yO0,yO1,yO2,yO3,yO4,yO5,yO6⟩:=rowc7 Oi.out;have XyO0:=ext_cell O 0 (ltR Oi) _ yO0;have XyO1:=ext_cell O 1 (ltR Oi) _ yO1;have XyO2:=ext_cell O 2 (ltR Oi) _ yO2;have XyO3:=ext_cell O 3 (ltR Oi) _ yO3;have XyO4:=ext_cell O 4 (ltR Oi) _ yO4;have XyO5:=ext_cell O 5 (ltR Oi) _ yO5;have XyO6:=ext_cell O 6 (ltR Oi) _ yO6;clear yO0 yO1 yO2 yO3 yO4 yO5 yO6;obtain ⟨yD0,yD1,yD2⟩:=rowc3 Di.out;have XyD0:=ext_cell D 0 (ltR Di) _ yD0;have XyD1:=ext_cell D 1 (ltR Di) _ yD1;have XyD2:=ext_cell D 2 (ltR Di) _ yD2;clear yD0 yD1 yD2;have Xc80:=ext_cell b8 (o8+i * 3) hb8 _ c80;have Xc81:=ext_cell b8 (o8+i * 3+1) hb8 _ c81;have Xc82:=ext_cell b8 (o8+i * 3+2) hb8 _ c82;clear c80 c81 c82;refine wp_region_ext wo (by kernel_rfl) (by kernel_rfl) (Below.refl _ _) ?_
     repeat (go_big_quiet_step (first
      | (go_at_call 28; with_reducible exact calls_ext (TR1.out _ (below_then HBi.out (Ext.below _))))))
     refine wpQuiet_nil ?_;intro _ hw';obtain ⟨n9,rfl⟩:=hw';have HB13:=Lib.hid (below_then HBi.out n9.below);generalize n9.wd=w13 at *;clear Xc80 Xc81 Xc82 XyO0 XyO1 XyO2 XyO3 XyO4 XyO5 XyO6 XyD0 XyD1 XyD2;have hrs:=rdyL_succ fR i;rw [HFi.out] at hrs;have hrl:=rdyL_le fR i;cases bq with
     | true=>
      go_wp2_with fail;go_roundw
      case rel=>exact ⟨i+1,by go_num,by omega,by rw [hrs]; go_num,HB13⟩
      case measure=>simp [intOf]; omega
     | false=>
      go_wp2_with fail;go_roundw
      case rel=>exact ⟨i+1,by go_num,by omega,by rw [hrs]; rfl,HB13⟩
      case measure=>simp [intOf]; omega
    ·have hge:¬(i:Int)<(cs.length:Int):=by omega
     obtain rfl:i=cs.length:=by omega
     go_upto_region 18 with fail
     have hWO:O<wo.heap.size:=by have:=HBi.out.size; omega
     go_wp2_with (refine wp_make_i64 _ rfl _ _ rfl cs.length _ _ rfl rfl rfl rfl (by omega) ?_; intro wm h1 h2; have HM1:=Lib.hid h1; have HBm:=Lib.hid h2; clear h1 h2);refine (draws_any cs.length _ hle).mono ?_; rintro e wd ⟨lv,us,rfl,hfr,hbd⟩;obtain ⟨al,cl,hve,-⟩:=hfr.read.len;subst hve;obtain ⟨W,hW⟩:∃W,wo.heap.size=W:=⟨_,rfl⟩;have hWm:W<wm.heap.size:=by have:=(World.ownsRow.lt HM1.out wo.heap.size rfl).2; omega
     rw [hW] at HM1 ⊢;have hOW:O<W:=by omega
     have HFS:Hid (FsI w wd O D W cs.length #[.int .i64 kd,.int .i64 md,.int .i64 oc,.int .u64 ov,.int .i64 odl,.slice a3 cs.length cap3,.slice a4 ds.length cap4] #[.slice pc nc kc,.slice aw wn kw,.int .i64 t] (.slice a3 cs.length cap3) (.slice al (dLs cs.length).length cl) us cs (dLs cs.length) (winsT fR cs.length 0) d):=by
      have hb9:=below_then (below_then HBi.out HBm.out) hbd;refine ⟨below_then HBa.out hb9,hwO,hOW,hDO,row_below3 hb9 Oa.out,row_below3 hb9 Da.out,?_,HXa.out.below hb9,HCa.out.below hb9,HCS.out.offOf hO7,HCS.out.offOf (by omega),hfr.mono (by omega)⟩;rw [winsT_zero];exact HM1.out.below hbd
     have HDR:Hid (DrI wd O W (.slice a4 ds.length cap4)):=⟨ds,HDa.out.below (below_then (below_then HBi.out HBm.out) hbd),HDS.out.offOf hO7,HDS.out.offOf (by omega)⟩;obtain ⟨N,hN⟩:∃N,(dLs cs.length).length=N:=⟨_,rfl⟩;rw [hN] at HFS ⊢;have HN:=Lib.hid hN;have hNb:N≤24:=by have:=dLs_big hle; omega
     clear hfr hbd HM1 HBm hN hW hWm hWO Oi Di HBi hi hlt hge Oa Da HBa HXa HCa HDa;go_wp2_with fail;go_loopw [14,67] (fun u14 u67 wr=>∃(t9:Nat) (ad:Option Addr) (nd cd:Nat),u67=.int .i64 (t9:Nat)∧u14=.int .i64 (t9:Nat)∧t9≤N∧Hid (FsI w wr O D W cs.length #[.int .i64 kd,.int .i64 md,.int .i64 oc,.int .u64 ov,.int .i64 odl,.slice a3 cs.length cap3,.slice ad nd cd] #[.slice pc nc kc,.slice aw wn kw,.int .i64 t] (.slice a3 cs.length cap3) (.slice al N cl) us cs (dLs cs.length) (winsT fR cs.length t9) d)∧Hid (DrI wr O W (.slice ad nd cd))) (fun _ u67 _=>N - (intOf u67).toNat)
     case atStart=>exact ⟨0,_,_,_,rfl,rfl,by omega,HFS,HDR⟩
     case round=>
      clear HFS HDR;obtain ⟨t9,ad,nd,cd,rfl,rfl,ht,HS,HDR⟩:=hrel;obtain ⟨wo2,rfl⟩:∃wo2:World,wo2=wr:=⟨_,rfl⟩;by_cases htl:t9<N
      ·have htI:(t9:Int)<(N:Int):=by omega
       have htn:t9<(dLs cs.length).length:=by rw [HN.out]; exact htl
       obtain ⟨-,-,a',cap',e,-,h5⟩:=HS.out.fr.read;simp only [Value.slice.injEq] at e;obtain ⟨rfl,-,rfl⟩:=e;obtain ⟨b,off,rfl,hbl,hc,hu⟩:=h5 t9 htn;obtain ⟨u,hue⟩:∃u,us.getD t9 (.slice none 0 0)=u:=⟨_,rfl⟩;obtain ⟨L,hL⟩:∃L,(dLs cs.length).getD t9 []=L:=⟨_,rfl⟩;have hLm:L∈dLs cs.length:=by rw [← hL,getD_lt htn]; exact List.getElem_mem _
       rw [hue] at hc hu;rw [hL] at hu;obtain ⟨au,cu,rfl,-⟩:=hu.len;have HL:=Lib.hid hL;have HUE:=Lib.hid hue;have HPF:=Lib.hid (pick_fair hle fR hLm);obtain ⟨o0,o1,o2,o3,o4,o5,o6⟩:=rowc7 HS.out.rO;have f6:=frozen_of_row _ _ 6 _ _ HS.out.rO;clear h5 hL hue hLm hu;go_upto_region 23 with fail
       have h9:=HS.out.draws (.slice au L.length cu);simp only [List.setIfInBounds_toArray,List.set_cons_zero,List.set_cons_succ] at h9;generalize wo2.setCell ⟨O,6,none⟩ (.slice au L.length cu)=ws at *;have HS2:=Lib.hid h9;clear h9 o0 o1 o2 o3 o4 o5 o6 f6 hc HS HDR;have hu2:SlI ws .i64 (.slice au L.length cu) L:=by
        obtain ⟨-,-,a',cap',e,-,h5⟩:=HS2.out.fr.read;obtain ⟨_,_,_,_,_,hu⟩:=h5 t9 htn;rw [HUE.out,HL.out] at hu;exact hu
       have HDR:Hid (DrI ws O W (.slice au L.length cu)):=by
        have h8:=HS2.out.fr.each t9 htn;rw [HUE.out] at h8;exact ⟨L,hu2,h8.off fun b hb=>by omega,h8.off fun b hb=>by omega⟩
       have TCH:=Lib.hid (dchoice_any _ _ d thr ⟨kd,md,oc,ov,odl,cs,L⟩ ws HS2.out.dk.deskV HKO.out ⟨_,_,rfl,HS2.out.cc,hu2⟩);have HCK:Hid (choiceD d thr ⟨kd,md,oc,ov,odl,cs,L⟩=pickL fR (ordL cs.length L)):=by
        show _=_;rw [← HFR.out];rfl
       rw [HCK.out] at TCH;dsimp only at TCH;obtain ⟨k,hk⟩:∃k,pickL fR (ordL cs.length L)=k:=⟨_,rfl⟩;rw [hk] at TCH HPF;have HK:=Lib.hid hk;obtain ⟨hk1,hk2,hk3⟩:=HPF.out;have HK3:=Lib.hid hk3;obtain ⟨o0,o1,o2,o3,o4,o5,o6⟩:=rowc7 HS2.out.rO;obtain ⟨d0,d1,d2⟩:=rowc3 HS2.out.rD;clear hk hu2 HCK HPF hk3;go_wp2_with fail;refine TCH.out.mono ?_; rintro e w3 ⟨rfl,hb3⟩;have HS3:=Lib.hid (HS2.out.below hb3);have HDR3:=Lib.hid (HDR.out.below hb3);clear hb3 o0 o1 o2 o3 o4 o5 o6 d0 d1 d2 TCH HS2 HDR;have hg1:¬k<(-1:Int):=by omega
       have hg2:¬(cs.length:Int)≤k:=by omega
       by_cases h0:0≤k
       ·have hr:(0:Int)<(rdyL fR cs.length:Nat):=by have:=HK3.out.1 h0; omega
        obtain ⟨kn,rfl⟩:∃kn:Nat,k=kn:=⟨k.toNat,by omega⟩;have hkn:kn<cs.length:=by omega
        have hgn:¬cs.length≤kn:=by omega
        have hrN:0<rdyL fR cs.length:=by omega
        obtain ⟨cw,fw⟩:=HS3.out.ow.cell kn (by rw [winsT_len]; exact hkn);have hxb:=winsT_le (f:=fR) (t:=t9) hkn hle;have HSn:=HS3.out.win kn ((winsT fR cs.length t9).getD kn 0+1) (winsT_len ..).symm;rw [winsT_hit htn hkn (by rw [HL.out]; exact HK.out)] at HSn;obtain ⟨x,hx⟩:∃x,(winsT fR cs.length t9).getD kn 0=x:=⟨_,rfl⟩;rw [hx] at cw hxb HSn;have HSn:=Lib.hid HSn;have hwx:IntKind.i64.wrap (x+1)=x+1:=(i64_small _ (by omega) (by omega)).symm;have HDn:=Lib.hid (HDR3.out.win kn (.int .i64 (x+1)));clear hx;go_wp2_with fail;go_roundw
        case rel=>exact ⟨t9+1,_,_,_,by go_num,by go_num,by omega,HSn,HDn⟩
        case measure=>simp [intOf]; omega
       ·have hr:¬(0:Int)<(rdyL fR cs.length:Nat):=fun h=>h0 (HK3.out.2 (by omega))
        have hrN:¬0<rdyL fR cs.length:=fun h=>h0 (HK3.out.2 h);have HSn:=HS3.out;rw [← winsT_miss htn (by rw [HL.out,HK.out]; omega)] at HSn;have HSn:=Lib.hid HSn;go_wp2_with fail;go_roundw
        case rel=>exact ⟨t9+1,_,_,_,by go_num,by go_num,by omega,HSn,HDR3⟩
        case measure=>simp [intOf]; omega
      ·have htI:¬(t9:Int)<(N:Int):=by omega
       obtain rfl:t9=N:=by omega
       have TR2:=Lib.hid fun x w' (hb:Below wo2.heap.size wo2 w')=>rreadyD_any _ d thr x w' ((HS.out.dk.below hb).deskV) HKO.out;unfold caseW at TR2;go_wp2_with fail;go_loopw [104] (fun u104 wr=>∃i:Nat,u104=.int .i64 i∧i≤cs.length∧Hid (Below wo2.heap.size wo2 wr)) (fun u104 _=>cs.length - (intOf u104).toNat)
       case atStart=>exact ⟨0,rfl,by omega,Below.refl _ _⟩
       case round=>
        obtain ⟨i,rfl,hi,HBi⟩:=hrel;obtain ⟨wo,rfl⟩:∃wo:World,wo=wr:=⟨_,rfl⟩;have HSi:=Lib.hid (HS.out.below HBi.out);have Oi:=Lib.hid HSi.out.rO;have Di:=Lib.hid HSi.out.rD;by_cases hlt:i<cs.length
        ·have hltI:(i:Int)<(cs.length:Int):=by omega
         obtain ⟨-,-,a9,cap9,hve,-,hcell⟩:=HSi.out.cc;simp only [Value.slice.injEq,true_and] at hve;obtain ⟨rfl,rfl⟩:=hve;obtain ⟨b8,o8,rfl,hb8,hca⟩:=hcell i hlt;obtain ⟨⟨xs,xc,xv⟩,hxi⟩:∃z,cs.getD i noCase=z:=⟨_,rfl⟩;rw [hxi] at hca;obtain ⟨c80,c81,c82⟩:=hca;dsimp only at c80 c81 c82;have TR1:=Lib.hid (TR2.out ⟨xs,xc,xv⟩);dsimp only at TR1;obtain ⟨bq,hbq⟩:∃z,readyD d thr ⟨xs,xc,xv⟩=z:=⟨_,rfl⟩;rw [hbq] at TR1;have HFi:Hid (fR (i:Nat)=bq):=by
          show _=_;rw [← HFR.out];show readyD d thr (cs.getD (i:Int).toNat noCase)=bq;rw [Int.toNat_natCast,hxi,hbq]
         have cw:=(HSi.out.ow.cell i (by rw [winsT_len]; exact hlt)).1;rw [← HN.out,winsT_end hlt] at cw;have hWl:W<wo.heap.size:=(World.ownsRow.lt HSi.out.ow W rfl).2;obtain ⟨wf1,wf2⟩:=wins_fair hle fR hlt;rw [HN.out] at wf1;obtain ⟨x,hx⟩:∃x,winsL fR cs.length (i:Nat)=x:=⟨_,rfl⟩;obtain ⟨r,hr⟩:∃r,rdyL fR cs.length=r:=⟨_,rfl⟩;rw [hx] at wf1 wf2 cw;rw [hr] at wf1 ⊢;have WF1:=Lib.hid wf1;have WF2:=Lib.hid wf2;clear hcell hxi hbq wf1 wf2 hx hr;go_upto_region 33 with fail
         obtain ⟨yO0,yO1,yO2,yO3,yO4,yO5,yO6⟩:=rowc7 Oi.out;have XyO0:=ext_cell O 0 (ltR Oi) _ yO0;have XyO1:=ext_cell O 1 (ltR Oi) _ yO1;have XyO2:=ext_cell O 2 (ltR Oi) _ yO2;have XyO3:=ext_cell O 3 (ltR Oi) _ yO3;have XyO4:=ext_cell O 4 (ltR Oi) _ yO4;have XyO5:=ext_cell O 5 (ltR Oi) _ yO5;have XyO6:=ext_cell O 6 (ltR Oi) _ yO6;clear yO0 yO1 yO2 yO3 yO4 yO5 yO6;obtain ⟨yD0,yD1,yD2⟩:=rowc3 Di.out;have XyD0:=ext_cell D 0 (ltR Di) _ yD0;have XyD1:=ext_cell D 1 (ltR Di) _ yD1;have XyD2:=ext_cell D 2 (ltR Di) _ yD2;clear yD0 yD1 yD2;have Xc80:=ext_cell b8 (o8+i * 3) hb8 _ c80;have Xc81:=ext_cell b8 (o8+i * 3+1) hb8 _ c81;have Xc82:=ext_cell b8 (o8+i * 3+2) hb8 _ c82;have Xcw:=ext_cell W i hWl _ cw;clear c80 c81 c82 cw;cases bq with
         | true=>
          have hmw:IntKind.i64.wrap ((x:Int) * (r:Int))=(t9:Int):=by
           have h8:=WF1.out HFi.out;rw [show (x:Int) * (r:Int)=(t9:Int) by rw [← h8]; simp];exact (i64_small _ (by omega) (by omega)).symm
          refine wp_region_ext wo (by kernel_rfl) (by kernel_rfl) (Below.refl _ _) ?_
          repeat (go_big_quiet_step (first
           | (go_at_call 28; with_reducible exact calls_ext (TR1.out _ (below_then HBi.out (Ext.below _))))))
          refine wpQuiet_nil ?_;intro _ hw';obtain ⟨n9,rfl⟩:=hw';have HB13:=Lib.hid (below_then HBi.out n9.below);generalize n9.wd=w13 at *;clear Xc80 Xc81 Xc82 Xcw XyO0 XyO1 XyO2 XyO3 XyO4 XyO5 XyO6 XyD0 XyD1 XyD2;go_wp2_with fail;go_roundw
          case rel=>exact ⟨i+1,by go_num,by omega,HB13⟩
          case measure=>simp [intOf]; omega
         | false=>
          have hx0:x=0:=WF2.out HFi.out;subst hx0;refine wp_region_ext wo (by kernel_rfl) (by kernel_rfl) (Below.refl _ _) ?_
          repeat (go_big_quiet_step (first
           | (go_at_call 28; with_reducible exact calls_ext (TR1.out _ (below_then HBi.out (Ext.below _))))))
          refine wpQuiet_nil ?_;intro _ hw';obtain ⟨n9,rfl⟩:=hw';have HB13:=Lib.hid (below_then HBi.out n9.below);generalize n9.wd=w13 at *;clear Xc80 Xc81 Xc82 Xcw XyO0 XyO1 XyO2 XyO3 XyO4 XyO5 XyO6 XyD0 XyD1 XyD2;go_wp2_with fail;go_roundw
          case rel=>exact ⟨i+1,by go_num,by omega,HB13⟩
          case measure=>simp [intOf]; omega
        ·have hge:¬(i:Int)<(cs.length:Int):=by omega
         obtain rfl:i=cs.length:=by omega
         obtain ⟨dl,hdl,-,-⟩:=HDR.out;have TOR:=Lib.hid (refOrder_any _ ⟨kd,md,oc,ov,odl,cs,dl⟩ wo ⟨_,_,rfl,HSi.out.cc,hdl.below HBi.out⟩);dsimp only at TOR;have hlen:(ordL cs.length dl).length=cs.length:=by
          unfold ordL;rw [if_pos ⟨by omega,by omega⟩,shuf_length,asc_length];simp
         obtain ⟨ol,hol⟩:∃z,ordL cs.length dl=z:=⟨_,rfl⟩;rw [hol] at TOR hlen;obtain ⟨o0,o1,o2,o3,o4,o5,o6⟩:=rowc7 Oi.out;have HLN:=Lib.hid hlen;clear hdl hol hlen;go_wp2_with fail;refine TOR.out.mono ?_; rintro e wz ⟨u,rfl,hu,hbz⟩;obtain ⟨au,cu,hve,-⟩:=hu.len;rw [HLN.out] at hve;subst hve;have HBZ:=Lib.hid (below_then HSi.out.bw hbz);clear hu hbz o0 o1 o2 o3 o4 o5 o6;go_wp2
         all_goals (go_ret; exact ⟨rfl,HBZ.out⟩)
set_option maxRecDepth 100000 in
theorem lifted (os:Os) (started:os.Started) (H:Type) (enc:TypeId × Value→H) :
  ReturnsInHanded {} Try.checked os 8 .any (Rows.deskFairSpec.pre6 enc Try.prog Try.f8 Rows.deskFairRow.domain false) (Rows.deskFairSpec.post enc Try.prog Try.f8 false true false false):=by
 refine returnsInHanded_of_change_sized (C:=Try.checked) own started (by kernel_rfl) Try.func8
  (ChangeSpec.witness6 (enc:=enc) (C:=Try.checked) false ⟨#[],#[.slice none 0 0,.int .i64 0],[]⟩ 8 (by kernel_rfl) (by kernel_rfl) (by kernel_rfl) (by kernel_rfl)) ?_
 intro W base args ds gs before hval0 hW _ hsz0 _;have hsz:(DataW.weightsEach Try.prog (Try.f8.params.toList ++ Rows.deskFairSpec.plain.varTypes Try.prog) (ds ++ gs)).all (·≤reachBytes)=true:=hsz0;clear hsz0;have hval:∀(j:Nat) t v,Try.f8.params[j]?=some t→args[j]?=some v→Value.okWide Try.prog W .any base t v:=hval0;have hW':=hW;obtain ⟨p,q,hA0,hV,rfl,_,_⟩:=hW;have hA:DataW.TrodAll enc Try.prog W 0 (fun _=>true) true Try.f8.params.toList args.toList ds p:=hA0;rw [Try.params8] at hA hval hsz;obtain ⟨v0,vs0,d0,ds0,p0,q0,hargs,rfl,rfl,h0,rr0⟩:=trodAll_cons hA;obtain ⟨v1,vs1,d1,ds1,p1,q1,rfl,rfl,rfl,h1,rr1⟩:=trodAll_cons rr0;obtain ⟨rfl,rfl,rfl⟩:=trodAll_nil rr1;obtain rfl:args=#[v0,v1]:=by cases args; simp_all
 obtain ⟨rfl,rfl⟩:=trodVars_none hV;have k0:=h0;have k1:=h1;obtain ⟨l0,s0⟩:=view_sl (k:=.u8) Try.underlying22 Try.underlying5 (by kernel_rfl) (fun elems sp hd=>sized_slice hsz (j:=0) (t:=22) (e:=5) rfl (by rw [hd]; rfl) Try.underlying22) (of_decide_eq_true (by kernel_rfl)) (hval 0 22 v0 rfl rfl) h0;obtain ⟨a1,rfl,-,-,w1⟩:=open_int Try.underlying3 (hval 1 3 v1 rfl rfl) h1;clear hA0 hval0;simp only [List.append_nil] at hW';have hlt:=hW'.lt;refine (walk W v0 l0 s0 a1 w1).mono fun e W' ⟨he,hb⟩=>?_;subst he;exact ⟨_,rfl,_,_,_,[],_,[],hW',trodAll_cons_mk (shut_bool Try.underlying4 _) trodAll_mk0,(trodAll_cons_mk (Below.trod Try.laidOut (by kernel_rfl) (of_decide_eq_true (by kernel_rfl)) k0 hb (fun x hx=>by simpa using hlt x (by simp [hx]))) (trodAll_cons_mk (Below.trod Try.laidOut (by kernel_rfl) (of_decide_eq_true (by kernel_rfl)) k1 hb (fun x hx=>by simpa using hlt x (by simp [hx]))) trodAll_mk0)),rfl,hb.frame _,fun h=>by cases h⟩
theorem over:Rows.deskFairRow.holds Try.pinned (OpenSpec.ofChange Rows.deskFairSpec):=
 OpenClaim.holds_of_wide 8 Try.f8 rfl rfl rfl rfl rfl rfl rfl ⟨rfl,rfl,rfl,rfl,rfl⟩ rfl rfl rfl rfl rfl (by kernel_rfl) Try.func8 (by kernel_rfl)
  (of_decide_eq_true (by kernel_rfl)) (by unfold Func.isWrapper; first | (rw [if_pos (by decide +kernel)]; kernel_rfl) | (rw [if_neg (by decide +kernel)]; exact ⟨rfl,rfl⟩))
  (fun os started H enc _=>lifted os started H enc)
theorem proved:Rows.DeskFairSaid:=
 over
end Go.Proofs.Ytiekicailidhcaa.deskFair
