import Derived.Deep.DeepCutAuto
import Derived.Deep.CutBlock
import Derived.Deep.MidRow
import Derived.Test.YtiekicailidhcaaB11
import Derived.Test.YtiekicailidhcaaB05
import Derived.Test.YtiekicailidhcaaB06
import Derived.Test.YtiekicailidhcaaB03
set_option linter.unusedVariables false
set_option linter.unusedSimpArgs false
namespace Go.Proofs.Ytiekicailidhcaa
open Go.ChangeShapes Go.WideShapes Go.ChangeAt Go.RowKit
set_option maxRecDepth 100000
set_option maxRecDepth 100000 in
set_option maxHeartbeats 16000000 in
theorem isLate_any (v vo:Value) (d:DeskM) (op:OpM) (w:World) (h:DeskV w v d) (ho:OpV w vo op):Calls Try.prog 42 #[v,vo] w fun e w'=>e=.returned (.bool (decide (op.mode=2∧op.dl≤d.tick)))∧Below w.heap.size w w':=by
 obtain ⟨vc,vw,rfl,hch,hwt⟩:=h;obtain ⟨ac,kc,rfl,-⟩:=hch.len;obtain ⟨aw,kw,rfl,-⟩:=hwt.len;obtain ⟨vcs,vds,rfl,hcs,hds⟩:=ho;obtain ⟨kd,md,oc,ov,odl,cs,ds⟩:=op;dsimp only at *;obtain ⟨a3,cap3,rfl⟩:=hcs.len;obtain ⟨a4,cap4,rfl,-⟩:=hds.len;obtain ⟨t,htt⟩:∃z,d.tick=z:=⟨_,rfl⟩;obtain ⟨cn,hcn⟩:∃z,d.chans.length=z:=⟨_,rfl⟩;obtain ⟨wn,hwn⟩:∃z,d.wait.length=z:=⟨_,rfl⟩;obtain ⟨q,hq⟩:∃z,decide (md=2∧odl≤t)=z:=⟨_,rfl⟩;have HQ:=Lib.hid hq;rw [hcn,hwn,htt,hq];clear hcs hds hch hwt htt hcn hwn hq;obtain ⟨W,hW,HB,R0,R1,hz⟩:=two_new w (.cells #[.slice ac cn kc,.slice aw wn kw,.int .i64 t] 34) (.cells #[.int .i64 kd,.int .i64 md,.int .i64 oc,.int .u64 ov,.int .i64 odl,.slice a3 cs.length cap3,.slice a4 ds.length cap4] 44);have HW:=Lib.hid hW;clear hW;go_enter Try.func42,Try.ntmps42;go_upto_region 1 with fail
 rw [HW.out];clear HW;obtain ⟨x0_0,x0_1,x0_2⟩:=rowc3 R0.out;obtain ⟨x1_0,x1_1,x1_2,x1_3,x1_4,x1_5,x1_6⟩:=rowc7 R1.out;by_cases hm:md=2
 ·subst hm
  by_cases hl:odl≤t
  ·have hq:q=true:=by rw [← HQ.out]; exact decide_eq_true ⟨rfl,hl⟩
   subst hq;go_wp2_with fail;exact bodyPost_ret (v:=.bool true) (by simp [results,Try.results42,go_sem]) rfl ⟨rfl,HB.out⟩
  ·have hq:q=false:=by rw [← HQ.out]; exact decide_eq_false (fun h=>hl h.2)
   subst hq;go_wp2_with fail;exact bodyPost_ret (v:=.bool false) (by simp [results,Try.results42,go_sem]) rfl ⟨rfl,HB.out⟩
 ·have hq:q=false:=by rw [← HQ.out]; exact decide_eq_false (fun h=>hm h.1)
  subst hq;go_wp2_with fail;exact bodyPost_ret (v:=.bool false) (by simp [results,Try.results42,go_sem]) rfl ⟨rfl,HB.out⟩
set_option maxRecDepth 100000 in
set_option maxHeartbeats 16000000 in
theorem received_any (i x:Int) (w:World):Calls Try.prog 94 #[.int .i64 i,.int .u64 x] w fun e w'=>e=.returned (.agg #[.int .i64 2,.int .i64 i,.int .u64 x,.bool true,.int .i64 0])∧Below w.heap.size w w':=by
 have N0:Hid ((w.alloc (.cells #[.int .i64 0,.int .i64 0,.int .u64 0,.bool false,.int .i64 0] 73)).heap[w.heap.size]?=some (.cells #[.int .i64 0,.int .i64 0,.int .u64 0,.bool false,.int .i64 0] 73 (0,0))):=heap_alloc_new _ _;have HB:Hid (Below w.heap.size w ((w.alloc (.cells #[.int .i64 0,.int .i64 0,.int .u64 0,.bool false,.int .i64 0] 73)).setRow w.heap.size #[.int .i64 2,.int .i64 i,.int .u64 x,.bool true,.int .i64 0])):=row_below (below_new (Below.refl _ _) _) (Nat.le_refl _) _;go_enter Try.func94,Try.ntmps94;go_wp2_with (refine wpList_store_row rfl 73 _ _ rfl (w.heap.size) _ rfl rfl 73 _ N0.out (by kernel_rfl) rfl (by simp [Value.oneCell']) ?_);refine bodyPost_ret (v:=.agg #[.int .i64 2,.int .i64 i,.int .u64 x,.bool true,.int .i64 0]) (results_cell_row Try.results94 _ _ (w.heap.size) 73 _ (0,0) _ rfl (setRow_heap _ _ _ _ 73 (0,0) N0.out) Try.underlying73 rfl (by kernel_rfl)) rfl ?_;exact ⟨rfl,HB.out⟩
set_option maxRecDepth 100000 in
set_option maxHeartbeats 16000000 in
theorem qNewO_any (v:Value) (c:ConfM) (w:World) (h:ConfV w v c) (hg:c.good):Calls Try.prog 36 #[v] w fun e w'=>∃u,e=.returned u∧OwnS w' w.heap.size 63 3 u (chRows (nchE c.caps) (nils c.caps.length))∧Below w.heap.size w w':=by
 have TC:=Lib.hid fun w' (hb:Below w.heap.size w w')=>checkC_any v c w' (h.below hb);rw [checkC_good hg] at TC;have hlen:=hg.len;obtain ⟨vc,vs,rfl,h1,h2⟩:=h;obtain ⟨caps,starts,thr⟩:=c;dsimp only at *;have HC:=Lib.hid h1;have HW:=Lib.hid h1.2.1;obtain ⟨a1,cap1,rfl,-⟩:=h1.len;obtain ⟨a2,cap2,rfl,-⟩:=h2.len;clear h1 h2 hg;obtain ⟨W,hW,HB,R0,hz⟩:=one_new w (.cells #[.slice a1 caps.length cap1,.slice a2 starts.length cap2,.int .i64 thr] 29);have HWW:=Lib.hid hW;clear hW;go_enter Try.func36,Try.ntmps36;go_upto_region 1 with fail
 rw [HWW.out];clear HWW;obtain ⟨x0_0,x0_1,x0_2⟩:=rowc3 R0.out;go_wp2_with fail;refine (TC.out _ HB.out).mono ?_; rintro e w1 ⟨rfl,hb1⟩;have HB1:=Lib.hid (below_then HB.out hb1);have R01:=keepR hb1 R0;clear x0_0 x0_1 x0_2 hb1 TC;obtain ⟨x0,x1,x2⟩:=rowc3 R01.out;go_upto_region 4 with (refine wpList_make_full _ rfl _ _ 31 rfl w1.heap.size 63 _ (.agg #[.int .i64 0,.slice none 0 0,.bool false]) 3 Try.underlying31 (info_parts Try.info_chan).choose_spec.1 (info_parts Try.info_chan).choose_spec.2.1 (info_parts Try.info_chan).choose_spec.2.2.1 _ _ _ _ caps.length rfl rfl rfl rfl (by rw [(info_parts Try.info_chan).choose_spec.2.2.2]; omega) (by unfold maxLen; omega) (Nat.le_refl _) ?_; intro w2 ho2 hg2; have HO2:=Lib.hid ho2; have HG2:=Lib.hid hg2; clear ho2 hg2)
 have HB2:Hid (Below w1.heap.size w1 w2):=(Below.refl _ _).grown HG2.out (Nat.le_refl _) (fun j hj=>by cases hj);have HO:Hid (OwnS w2 w1.heap.size 63 3 (.slice (some ⟨w1.heap.size,0,none⟩) caps.length caps.length) (chRows (nchA caps 0) (nils caps.length))):=by
  have h:=HO2.out;rw [show (Value.agg #[.int .i64 0,.slice none 0 0,.bool false]).cells=#[.int .i64 0,.slice none 0 0,.bool false] from rfl,made3] at h;rw [nchA_zero];refine ⟨fun r hr=>?_,?_⟩
  ·rw [List.eq_of_mem_replicate hr]
   exact ⟨rfl,by intro u hu; simp only [List.mem_cons,List.not_mem_nil,or_false] at hu; rcases hu with rfl | rfl | rfl <;> rfl⟩
  ·rw [List.length_replicate]; exact h
 obtain ⟨g,hg⟩:∃g,w1.heap.size=g:=⟨_,rfl⟩;have HGE:Hid (w.heap.size+1≤g):=by have:=HB1.out.size; have h9:=(ltR R01); show _≤_; omega
 have R02:=keepR HB2.out R01;have HBZ:Hid (Below w.heap.size w w2):=below_then HB1.out HB2.out;have hgl2:g<w2.heap.size:=by
  have:=(HO.out.lt w1.heap.size rfl).2;omega
 rw [hg] at HO;rw [hg];clear x0 x1 x2 HO2 HG2 HB2 hg;obtain ⟨x0,x1,x2⟩:=rowc3 R02.out;go_wp2_with fail;clear x0 x1 x2;go_loopw [16] (fun u16 wr=>∃i:Nat,u16=.int .i64 i∧i≤caps.length∧Hid (OwnS wr g 63 3 (.slice (some ⟨g,0,none⟩) caps.length caps.length) (chRows (nchA caps i) (nils caps.length)))∧Hid (Below g w2 wr)) (fun u16 _=>caps.length - (intOf u16).toNat)
 case atStart=>exact ⟨0,rfl,by omega,HO,Below.refl _ _⟩
 case round=>
  obtain ⟨i,rfl,hi,HI,HBi⟩:=hrel;obtain ⟨wo,rfl⟩:∃wo:World,wo=wr:=⟨_,rfl⟩;have HBo:Hid (Below w.heap.size w wo):=HBZ.out.trans (HBi.out.mono (by have:=HGE.out; omega));by_cases hlt:i<caps.length
  ·have hltI:(i:Int)<(caps.length:Int):=by omega
   obtain ⟨b,off,capx,hve,-,hb,hc⟩:=(HC.out.below HBo.out).open (by intro h0; rw [h0] at hlt; simp at hlt);simp only [Value.slice.injEq] at hve;obtain ⟨rfl,-,rfl⟩:=hve;have c0:=hc i hlt;have hrl:(chRows (nchA caps i) (nils caps.length)).length=caps.length:=by rw [chRows_length _ _ (by rw [nchA_length]; simp [nils]),nchA_length]
   have hown:=HI.out.2;rw [hrl] at hown;have fz:=World.ownsRow.frozenAt hown (i * 3);have hrow:=(HI.out.row i (by omega)).1;rw [chRows_row _ _ i (by rw [nchA_length]; simp [nils]) (by rw [nchA_length]; exact hlt) (by omega)] at hrow;have d0:=hrow 0 _ rfl;simp only [Nat.add_zero] at d0;have hS:=HI.out.setCell i (by omega) [] [.slice none 0 0,.bool false] (.int .i64 ((nchA caps i).getD i noChan).cap) (.int .i64 (caps.getD i 0)) (by rw [chRows_row _ _ i (by rw [nchA_length]; simp [nils]) (by rw [nchA_length]; exact hlt) (by omega),nils_get,nchA_get _ _ _ hlt]; rfl) rfl;have HS:Hid (OwnS (wo.setCell ⟨g,i * 3,none⟩ (.int .i64 (caps.getD i 0))) g 63 3 (.slice (some ⟨g,0,none⟩) caps.length caps.length) (chRows (nchA caps (i+1)) (nils caps.length))):=by
    rw [← nchA_set caps i hlt];have h9:=chRows_put (nchA caps i) (nils caps.length) i (.slice none 0 0) (by rw [nchA_length]; simp [nils]) (by rw [nchA_length]; exact hlt);have h8:=chRows_set (nchA caps i) (nils caps.length) i ⟨caps.getD i 0,[],false⟩ (.slice none 0 0) (by rw [nchA_length]; simp [nils]);rw [show (nils caps.length).set i (.slice none 0 0)=nils caps.length from by unfold nils; refine List.ext_getElem (by simp) fun j h1 h2=>?_; rw [List.getElem_set]; split <;> simp] at h8;rw [← h8];exact hS
   obtain ⟨y,hy⟩:∃y,caps.getD i 0=y:=⟨_,rfl⟩;rw [hy] at c0 HS;have HB4:Hid (Below g w2 (wo.setCell ⟨g,i * 3,none⟩ (.int .i64 y))):=HBi.out.setCell (p:=⟨g,i * 3,none⟩) (Nat.le_refl _) _;obtain ⟨W4,hW4⟩:∃W4,wo.setCell ⟨g,i * 3,none⟩ (.int .i64 y)=W4:=⟨_,rfl⟩;rw [hW4] at HS HB4;have HW4:=Lib.hid hW4;obtain ⟨z,hz⟩:∃z,((nchA caps i).getD i noChan).cap=z:=⟨_,rfl⟩;rw [hz] at d0;clear hc hrow hown hS hW4 hrl hy hz;go_upto_region 8 with fail
   rw [HW4.out];clear HW4 fz d0 c0;go_wp2_with fail;go_roundw
   case rel=>exact ⟨i+1,by go_num,by omega,HS,HB4⟩
   case measure=>simp [intOf]; omega
  ·have hge:¬(i:Int)<(caps.length:Int):=by omega
   have hil:i=caps.length:=by omega
   have HS:=HI.out;rw [hil,nchA_end] at HS;have HSS:=Lib.hid HS;clear HS hil HI HO;go_wp2;go_ret;exact ⟨_,rfl,HSS.out.move (by have:=HGE.out; omega),HBo.out⟩
set_option maxRecDepth 100000 in
set_option maxHeartbeats 16000000 in
theorem pNewD_any (v:Value) (c:ConfM) (w:World) (h:ConfV w v c) (hg:c.good):Calls Try.prog 12 #[v] w fun e w'=>∃u,e=.returned u∧DeskX (fun b=>w.heap.size≤b) w' u ⟨nchE c.caps,[],0⟩∧Below w.heap.size w w':=by
 have TN:=Lib.hid fun w' (hb:Below w.heap.size w w')=>qNewO_any v c w' (h.below hb) hg;obtain ⟨vc,vs,rfl,h1,h2⟩:=h;have HCW:Hid (∀x∈c.caps,x=IntKind.i64.wrap x):=fun x hx=>i64_small _ (by have:=(hg.caps x hx).1; omega) (by have:=(hg.caps x hx).2; omega);have hcl:=hg.len;obtain ⟨a1,cap1,rfl,-⟩:=h1.len;obtain ⟨a2,cap2,rfl,-⟩:=h2.len;obtain ⟨caps,starts,thr⟩:=c;dsimp only at *;clear h1 h2 hg;obtain ⟨W,hW,HB,R0,R1,hz⟩:=two_new w (.cells #[.slice a1 caps.length cap1,.slice a2 starts.length cap2,.int .i64 thr] 29) (.cells #[.slice none 0 0,.slice none 0 0,.int .i64 0] 34);have HW:=Lib.hid hW;clear hW;go_enter Try.func12,Try.ntmps12;go_upto_region 1 with fail
 rw [HW.out];clear HW;obtain ⟨x0_0,x0_1,x0_2⟩:=rowc3 R0.out;go_wp2_with fail;refine (TN.out _ HB.out).mono ?_; rintro e w1 ⟨u,rfl,ho,hb1⟩;have HB1:=Lib.hid (below_then HB.out hb1);have R11:=Lib.hid (row_below3 hb1 R1.out);obtain ⟨p,n,q,rfl⟩:=own_sh ho;have HO:=Lib.hid ho;clear x0_0 x0_1 x0_2 ho hb1 TN;go_wp2_with (refine wpList_store_row rfl 34 _ _ rfl (w.heap.size+1) _ rfl rfl 34 _ R11.out (by kernel_rfl) rfl (by simp [Value.oneCell']) ?_);refine bodyPost_ret (v:=.agg #[.slice p n q,.slice none 0 0,.int .i64 0]) (results_cell_row Try.results12 _ _ (w.heap.size+1) 34 _ (0,0) _ rfl (setRow_heap _ _ _ _ 34 (0,0) R11.out) Try.underlying34 rfl (by kernel_rfl)) rfl ?_;have hB4:=row_below HB1.out (show w.heap.size≤w.heap.size+1 by omega) #[.slice p n q,.slice none 0 0,.int .i64 0];refine ⟨_,rfl,⟨_,_,rfl,OwnS.slHX (HO.out.kept (row_grown w1 (w.heap.size+1) #[.slice p n q,.slice none 0 0,.int .i64 0]) (HO.out.ne (show w.heap.size+1<W.heap.size by omega))) (by rw [nchE_length]; simp [nils]) (by rw [nchE_length]; omega) (fun i hi=>?_) (fun c hc=>?_) (fun b hb=>by omega),⟨[],rfl,SlS.nil _ _,fun i hi=>by simp at hi,fun a n c e=>by simp at e⟩⟩,hB4⟩
 ·rw [nchE_length] at hi
  rw [nchE_get caps i hi,nils_get];exact ⟨SlU.nil _,fun a n c e=>by simp at e⟩
 ·obtain ⟨x,hx,rfl⟩:=List.mem_map.1 hc
  exact HCW.out x hx
set_option maxRecDepth 100000 in
set_option maxHeartbeats 16000000 in
theorem withChan_any (P:Nat→Prop) (v uv:Value) (d:DeskM) (n:Nat) (c:ChanM) (w:World) (h:DeskX P w v d) (hd:d.ok) (hn:n<d.chans.length) (hu:SlU w uv c.buf) (hau:atP P uv) (hcw:c.cap=IntKind.i64.wrap c.cap) (hP:∀b,w.heap.size≤b→P b):Calls Try.prog 73 #[v,.int .i64 (n:Int),.agg #[.int .i64 c.cap,uv,.bool c.closed]] w fun e w'=>∃u,e=.returned u∧DeskX P w' u (putD d n c)∧Below w.heap.size w w':=by
 obtain ⟨vc,vw,rfl,hch,hwt⟩:=h;obtain ⟨us,h1,hss,h3,h4,h5,h6⟩:=hch;obtain ⟨aw,kw,rfl,-⟩:=hwt.slW.len;have hcl:=hd.cl;have hrl:=chRows_length d.chans us h1;have HFIN:Hid (∀W v' tk base,Below w.heap.size w W→OwnS W base 63 3 v' ((chRows d.chans us).set n (chRow c uv))→w.heap.size≤base→tk=d.tick→DeskX P W (.agg #[v',.slice aw d.wait.length kw,.int .i64 tk]) (putD d n c)):=fun W v' tk base hb ho hbs ht=>⟨v',.slice aw d.wait.length kw,by rw [ht]; rfl,SlHX.put h1 h3 h4 (by omega) hb ho hn hu hau hcw (fun b hb=>hP b (by omega)),hwt.below hb⟩;obtain ⟨ac,kc,rfl,-⟩:=hss.len;rw [hrl];rw [hrl] at hss;obtain ⟨rows,hrows⟩:∃z,chRows d.chans us=z:=⟨_,rfl⟩;rw [hrows] at HFIN hss hrl;have HSS:=Lib.hid hss;obtain ⟨cn,hcn⟩:∃z,d.chans.length=z:=⟨_,rfl⟩;rw [hcn] at HSS hrl hn hcl ⊢;obtain ⟨wn,hwn⟩:∃z,d.wait.length=z:=⟨_,rfl⟩;rw [hwn] at HFIN ⊢;obtain ⟨tk,htk⟩:∃z,d.tick=z:=⟨_,rfl⟩;have HF2:=Lib.hid fun W v' base h1 h2 h3=>HFIN.out W v' tk base h1 h2 h3 htk.symm;rw [htk];have HRL:Hid (rows.length=cn):=hrl;obtain ⟨up,un,uc,rfl⟩:∃p n q,uv=.slice p n q:=by
  obtain ⟨a,c,e,-⟩:=hu.1.len;exact ⟨_,_,_,e⟩
 obtain ⟨cc,bf,cl⟩:=c;dsimp only at HF2 ⊢;clear HFIN h1 h3 h4 h5 h6 hu hau hcw hP hd hwt hss hrl hrows hcn hwn htk;obtain ⟨W,hW,HB,R0,R1,R2,hz⟩:=three_new w (.cells #[.slice ac cn kc,.slice aw wn kw,.int .i64 tk] 34) (.cells #[.int .i64 cc,.slice up un uc,.bool cl] 63) (.cells #[.slice none 0 0,.slice none 0 0,.int .i64 0] 34);have HW:=Lib.hid hW;clear hW;go_enter Try.func73,Try.ntmps73;go_upto_region 1 with fail
 rw [HW.out];clear HW;obtain ⟨x0_0,x0_1,x0_2⟩:=rowc3 R0.out;obtain ⟨x1_0,x1_1,x1_2⟩:=rowc3 R1.out;go_wp2_with fail;refine (cloneS_any (.slice ac cn kc) rows W (HSS.out.below HB.out) (by rw [HRL.out]; omega)).mono ?_; rintro e w1 ⟨v1,rfl,ho1,hB1⟩;clear x0_0 x0_1 x0_2 x1_0 x1_1 x1_2;have R01:=Lib.hid (row_below3 hB1 R0.out);have R11:=Lib.hid (row_below3 hB1 R1.out);have R21:=Lib.hid (row_below3 hB1 R2.out);obtain ⟨g,c1,rfl,hgb,hgl,-⟩:=ho1.open (by rw [HRL.out]; omega);rw [HRL.out] at ho1 ⊢;have fz:=frozen_of_row w1 w.heap.size 0 _ _ R01.out;have r1:=heap_setCell_same w1 w.heap.size 0 _ _ (.slice (some ⟨g,0,none⟩) cn c1) R01.out;simp at r1;have R12:=Lib.hid ((heap_setCell_other w1 ⟨w.heap.size,0,none⟩ (w.heap.size+1) (.slice (some ⟨g,0,none⟩) cn c1) (by show w.heap.size+1≠w.heap.size; omega)).trans R11.out);have R22:=Lib.hid ((heap_setCell_other w1 ⟨w.heap.size,0,none⟩ (w.heap.size+2) (.slice (some ⟨g,0,none⟩) cn c1) (by show w.heap.size+2≠w.heap.size; omega)).trans R21.out);have HB2:=Lib.hid ((below_then HB.out hB1).setCell (p:=⟨w.heap.size,0,none⟩) (Nat.le_refl _) (.slice (some ⟨g,0,none⟩) cn c1));have hO2:=ho1.kept (grownBy_setCell w1 ⟨w.heap.size,0,none⟩ (.slice (some ⟨g,0,none⟩) cn c1)) (ho1.ne (show w.heap.size<W.heap.size by omega));obtain ⟨w2,hw2⟩:∃w2,w1.setCell ⟨w.heap.size,0,none⟩ (.slice (some ⟨g,0,none⟩) cn c1)=w2:=⟨_,rfl⟩;rw [hw2] at r1 R12 R22 HB2 hO2;have R02:=Lib.hid r1;have HW2:=Lib.hid hw2;have hth:=(hO2.row n (by rw [HRL.out]; exact hn)).2;have HTH:=Lib.hid hth;have hN:=hO2.setRow n (by rw [HRL.out]; exact hn) (r:=[.int .i64 cc,.slice up un uc,.bool cl]) rfl (by intro u hu; simp only [List.mem_cons,List.not_mem_nil,or_false] at hu; rcases hu with rfl | rfl | rfl <;> rfl);have hgW:w.heap.size+2<g:=by have:=(ltR R2); omega
 have hB3:=below_grown HB2.out (setCells_grown g [.int .i64 cc,.slice up un uc,.bool cl] (n * 3) w2) (by omega);have R03:=Lib.hid ((setCells_other g [.int .i64 cc,.slice up un uc,.bool cl] (n * 3) w2 w.heap.size (by omega)).trans R02.out);have R23:=Lib.hid ((setCells_other g [.int .i64 cc,.slice up un uc,.bool cl] (n * 3) w2 (w.heap.size+2) (by omega)).trans R22.out);obtain ⟨w3,hw3⟩:∃w3,w2.setCells g (n * 3) [.int .i64 cc,.slice up un uc,.bool cl]=w3:=⟨_,rfl⟩;rw [hw3] at hN hB3 R03 R23;have HW3:=Lib.hid hw3;have HN:=Lib.hid (And.intro hN hB3);have hnI:(n:Int)<(cn:Int):=by omega
 clear hB1 ho1 r1 hw2 hth hN hB3 hw3 hO2;have z1:w1.cell? ⟨w.heap.size,0,none⟩=some (.slice ac cn kc):=(rowc3 R01.out).1;go_upto_region 2 with fail
 rw [HW2.out];try simp only [Act.put]
 clear z1 fz HW2;obtain ⟨x0,x1,x2⟩:=rowc3 R02.out;obtain ⟨y0,y1,y2⟩:=rowc3 R12.out;go_upto_region 3 with (refine wpList_store_mid rfl 63 _ _ rfl g (n * 3) _ rfl rfl HTH.out (by kernel_rfl) (by simp [Value.oneCell']) ?_)
 rw [HW3.out];try simp only [Act.put]
 clear x0 x1 x2 y0 y1 y2 HW3 HTH;obtain ⟨x0,x1,x2⟩:=rowc3 R03.out;go_wp2_with (refine wpList_store_row rfl 34 _ _ rfl (w.heap.size+2) _ rfl rfl 34 _ R23.out (by kernel_rfl) rfl (by simp [Value.oneCell']) ?_);refine bodyPost_ret (v:=.agg #[.slice (some ⟨g,0,none⟩) cn c1,.slice aw wn kw,.int .i64 tk]) (results_cell_row Try.results73 _ _ (w.heap.size+2) 34 _ (0,0) _ rfl (setRow_heap _ _ _ _ 34 (0,0) R23.out) Try.underlying34 rfl (by kernel_rfl)) rfl ?_;have hB4:=row_below HN.out.2 (show w.heap.size≤w.heap.size+2 by omega) #[.slice (some ⟨g,0,none⟩) cn c1,.slice aw wn kw,.int .i64 tk];exact ⟨_,rfl,HF2.out _ _ W.heap.size hB4 (HN.out.1.kept (row_grown w3 (w.heap.size+2) #[.slice (some ⟨g,0,none⟩) cn c1,.slice aw wn kw,.int .i64 tk]) (HN.out.1.ne (by omega))) (by omega),hB4⟩
set_option maxRecDepth 100000 in
set_option maxHeartbeats 16000000 in
theorem growW_nil (n:Nat) (w:World) (hn:n≤1000000) :
  Calls Try.prog 96 #[.slice none 0 0,.int .i64 n] w fun e w'=>∃v',e=.returned v'∧OwnS w' w.heap.size 66 8 v' []∧Below w.heap.size w w':=by
 by_cases h0:n=0
 ·subst h0
  go_enter Try.func96,Try.ntmps96;go_wp2;go_ret;exact ⟨_,rfl,OwnS.nil _ _ _ _,Below.refl _ _⟩
 ·have hpos:0<(n:Int):=by omega
  obtain ⟨i0,hi,hz0,hz1,hz2⟩:=info_parts Try.info_wait;have hr:=fun ty=>Lib.run_append_nil_zeros (P:=Try.prog) w 32 3 ty 66 i0 (Value.agg #[.int .i64 0,.int .i64 0,.int .i64 0,.int .i64 0,.int .u64 0,.int .i64 0,.slice none 0 0,.slice none 0 0]) .i64 .i64 (by kernel_rfl) Try.underlying3 hi hz0 n (by omega) (by rw [hz1]; omega) (by omega) (by rw [hz2]; omega);have hge:=grownCap_ge w n 0 66;have hle:=grownCap_le_maxLen w n 0 66 (by unfold maxLen; omega);generalize grownCap w n 0 66=c at *;have hown:Hid (OwnS (w.drew.alloc (.cells (Builtin.zeroCells (Value.agg #[.int .i64 0,.int .i64 0,.int .i64 0,.int .i64 0,.int .u64 0,.int .i64 0,.slice none 0 0,.slice none 0 0]).cells n ++ Builtin.zeroCells (Value.agg #[.int .i64 0,.int .i64 0,.int .i64 0,.int .i64 0,.int .u64 0,.int .i64 0,.slice none 0 0,.slice none 0 0]).cells (c - n)) 66)) w.heap.size 66 8 (.slice (some ⟨w.heap.size,0,none⟩) 0 c) []):=by
   refine ⟨fun r hr=>by simp at hr,?_⟩;exact World.ownsRow_made w.drew _ c (Nat.le_refl _) hle (by simp [Builtin.zeroCells,Value.cells]; omega)
  have hb:Hid (Below w.heap.size w (w.drew.alloc (.cells (Builtin.zeroCells (Value.agg #[.int .i64 0,.int .i64 0,.int .i64 0,.int .i64 0,.int .u64 0,.int .i64 0,.slice none 0 0,.slice none 0 0]).cells n ++ Builtin.zeroCells (Value.agg #[.int .i64 0,.int .i64 0,.int .i64 0,.int .i64 0,.int .u64 0,.int .i64 0,.slice none 0 0,.slice none 0 0]).cells (c - n)) 66))):=below_new (below_drewN (Below.refl _ _) 1) _;unfold maxLen at hle;go_enter Try.func96,Try.ntmps96;go_wp2_with (at_builtin; refine Lib.wpList_append_run _ rfl _ _ _ _ rfl _ _ rfl rfl _ _ (hr _) ?_);go_ret;exact ⟨_,rfl,hown.out,hb.out⟩
def SlLS (w:World) (s:Nat) (v:Value) (us:List Value) (ll:List (List (List Value))):Prop:=
 ll.length≤1000000∧us.length=ll.length∧∃a cap,v=.slice a ll.length cap∧ll.length≤cap∧
  ∀t,t<ll.length→∃b off,a=some ⟨b,off,none⟩∧b<w.heap.size∧w.cell? ⟨b,off+t,none⟩=some (us.getD t (.slice none 0 0))∧SlS w s (us.getD t (.slice none 0 0)) (ll.getD t [])
theorem SlLS.len {w:World} {s:Nat} {v:Value} {us:List Value} {ll:List (List (List Value))} (h:SlLS w s v us ll):∃a cap,v=.slice a ll.length cap∧ll.length≤cap:=by
 obtain ⟨-,-,a,cap,e,hc,-⟩:=h;exact ⟨a,cap,e,hc⟩
theorem SlLS.below {w w':World} {s:Nat} {v:Value} {us:List Value} {ll:List (List (List Value))} (h:SlLS w s v us ll) (hb:Below w.heap.size w w'):SlLS w' s v us ll:=by
 obtain ⟨h1,h2,a,cap,e,hc,h5⟩:=h;refine ⟨h1,h2,a,cap,e,hc,fun t ht=>?_⟩;obtain ⟨b,off,e,hlt,hcl,hs⟩:=h5 t ht;exact ⟨b,off,e,Nat.lt_of_lt_of_le hlt hb.size,(hb.cell (p:=⟨b,off+t,none⟩) hlt).trans hcl,hs.below hb⟩
theorem flat_takeS (ll:List (List (List Value))) (k:Nat) (hk:k<ll.length):(ll.take (k+1)).flatten=(ll.take k).flatten ++ ll.getD k []:=by
 rw [List.take_succ_eq_append_getElem hk,List.flatten_append];simp [List.getD_eq_getElem?_getD,hk]
set_option maxRecDepth 100000 in
set_option maxHeartbeats 16000000 in
theorem concatW_any (v:Value) (us:List Value) (ll:List (List (List Value))) (w:World) (h:SlLS w 8 v us ll) (hl:ll.length≤10) (hf:ll.flatten.length≤900000) :
  Calls Try.prog 71 #[v] w fun e w'=>∃v',e=.returned v'∧OwnS w' w.heap.size 66 8 v' ll.flatten∧Below w.heap.size w w':=by
 obtain ⟨a,cap,rfl,hcap⟩:=h.len;have H:=Lib.hid h;have HF:Hid (∀k,k<ll.length→(ll.take (k+1)).flatten.length=(ll.take k).flatten.length+(ll.getD k []).length∧(ll.take (k+1)).flatten.length≤900000∧(ll.take (k+1)).flatten=(ll.take k).flatten ++ ll.getD k []):=fun k hk=>by
  have e:=flat_takeS ll k hk;refine ⟨by rw [e,List.length_append],?_,e⟩;refine Nat.le_trans ?_ hf;conv=>rhs; rw [← List.take_append_drop (k+1) ll,List.flatten_append,List.length_append]
  omega
 have HA:Hid ((ll.take ll.length).flatten=ll.flatten):=by show _=_; rw [List.take_length]
 have HZ:Hid ((ll.take 0).flatten=[]):=by show _=_; simp
 clear h;generalize hn:ll.length=n at *;have HN:=Lib.hid hn;clear hn;go_enter Try.func71,Try.ntmps71;go_wp2;go_loop [3,11] (fun s i=>∃k:Nat,k≤n∧i=.int .i64 k∧s=.int .i64 ((ll.take k).flatten.length:Nat)) (fun _ i=>n - (intOf i).toNat)
 case atStart=>exact ⟨0,Nat.zero_le _,rfl,by rw [HZ.out]; rfl⟩
 case round=>
  obtain ⟨k,hk,rfl,rfl⟩:=hrel;by_cases hlt:k<n
  ·obtain ⟨hf1,hf2,hf3⟩:=HF.out k hlt
   obtain ⟨_,_,a',cap',e,_,h5⟩:=H.out;obtain ⟨b,off,rfl,hb,hc,hu⟩:=h5 k (by rw [HN.out]; exact hlt);generalize us.getD k (.slice none 0 0)=u at *;simp only [Value.slice.injEq] at e;obtain ⟨rfl,-,rfl⟩:=e;obtain ⟨ua,uc,rfl,-⟩:=hu.len;clear h5 hu hf3;have HF1:=Lib.hid hf1;have h12:(ll.take k).flatten.length+(ll.getD k []).length≤900000:=by omega
   clear hf1 hf2;generalize (ll.take k).flatten.length=s1 at *;generalize (ll.getD k []).length=s3 at *;go_wp2;go_round
   case rel=>exact ⟨k+1,by omega,by go_num,by rw [HF1.out]; go_num⟩
   case measure=>simp [intOf]; omega
  ·obtain rfl:k=n:=by omega
   have hf':(ll.take k).flatten.length≤900000:=by rw [HA.out]; exact hf
   generalize (ll.take k).flatten.length=tot at *;go_wp2_with fail;refine (growW_nil tot _ (by omega)).mono ?_; rintro e w1 ⟨v',rfl,ho,hb⟩;have HO:=Lib.hid ho;have HB:=Lib.hid hb;clear ho hb;go_wp2_with fail;go_loopw [6,27] (fun r i wr=>∃j:Nat,j≤k∧i=.int .i64 j∧Hid (OwnS wr w.heap.size 66 8 r (ll.take j).flatten)∧Hid (Below w.heap.size w wr)) (fun _ i _=>k - (intOf i).toNat)
   case atStart=>exact ⟨0,Nat.zero_le _,rfl,by rw [HZ.out]; exact HO,HB⟩
   case round=>
    obtain ⟨j,hj,rfl,hO,hB⟩:=hrel;obtain ⟨wo,rfl⟩:∃wo:World,wo=wr:=⟨_,rfl⟩;by_cases hlt:j<k
    ·have hf3:=(HF.out j hlt).2
     obtain ⟨_,_,a',cap',e,_,h5⟩:=H.out.below hB.out;obtain ⟨b,off,rfl,hb,hc,hu⟩:=h5 j (by rw [HN.out]; exact hlt);generalize us.getD j (.slice none 0 0)=u at *;simp only [Value.slice.injEq] at e;obtain ⟨rfl,-,rfl⟩:=e;have HU:=Lib.hid hu;have HE:=Lib.hid hf3.2;have L1:Hid ((ll.take j).flatten.length+(ll.getD j []).length≤1000000):=by
      have h1:=hf3.1;have h2:=(HF.out j hlt).1;show _≤_;omega
     have hz:=hB.out.size;clear h5 hu hf3;go_wp2_with (at_builtin; refine wp_app_ss 32 (by kernel_rfl) Try.info_wait rfl (by decide) (by decide) rfl _ _ rfl (base:=w.heap.size) rfl rfl hO.out HU.out L1.out hz ?_; intro v2 w2 h1 h2 _; have H1:=Lib.hid h1; have H2:=Lib.hid h2; clear h1 h2);go_roundw
     case rel=>exact ⟨j+1,by omega,by go_num,by rw [HE.out]; exact H1,Below.grown hB.out H2.out hB.out.size (fun j hj=>(hO.out.lt j hj).1)⟩
     case measure=>simp [intOf]; omega
    ·obtain rfl:j=k:=by omega
     go_wp2;go_ret;exact ⟨_,rfl,by rw [← HA.out]; exact hO.out,hB.out⟩
theorem SlLS.two {w:World} {s g:Nat} {v0 v1:Value} {r0 r1:List (List Value)} {T:TypeId} (h:w.heap[g]?=some (.cells #[v0,v1] T (0,0))) (h0:SlS w s v0 r0) (h1:SlS w s v1 r1):SlLS w s (.slice (some ⟨g,0,none⟩) 2 2) [v0,v1] [r0,r1]:=by
 refine ⟨by simp,rfl,_,2,rfl,Nat.le_refl _,fun t ht=>⟨g,0,rfl,(Array.getElem?_eq_some_iff.1 h).1,?_,?_⟩⟩
 ·rw [Nat.zero_add]
  obtain rfl | rfl:t=0∨t=1:=by simp at ht; omega
  ·exact cell_of_row _ _ 0 _ _ _ h
  ·exact cell_of_row _ _ 1 _ _ _ h
 ·obtain rfl | rfl:t=0∨t=1:=by simp at ht; omega
  ·exact h0
  ·exact h1
theorem flat_two (a b:List (List Value)):[a,b].flatten=a ++ b:=by simp
set_option maxRecDepth 100000 in
set_option maxHeartbeats 16000000 in
theorem withoutWaiter_any (P:Nat→Prop) (v:Value) (d:DeskM) (i:Nat) (w:World) (h:DeskX P w v d) (hd:d.ok) (hi:i<d.wait.length) (hP:∀b,w.heap.size≤b→P b):Calls Try.prog 93 #[v,.int .i64 (i:Int)] w fun e w'=>∃u,e=.returned u∧DeskX P w' u (leaveD d i)∧Below w.heap.size w w':=by
 obtain ⟨vc,vw,rfl,hch,hwt⟩:=h;obtain ⟨ac,kc,rfl,-⟩:=hch.slH.len;obtain ⟨rows,hrl,hss,hrr,hat⟩:=hwt;have hwl:=hd.wl;obtain ⟨aw,kw,rfl,hkw⟩:=hss.len;obtain ⟨b,off,cap,hve,hbl,-⟩:=hss.open (by omega);simp only [Value.slice.injEq] at hve;obtain ⟨rfl,-,rfl⟩:=hve;have HFIN:Hid (∀w' v' tk,Below w.heap.size w w'→SlS w' 8 v' (rows.take i ++ rows.drop (i+1))→atP P v'→tk=d.tick→DeskX P w' (.agg #[.slice ac d.chans.length kc,v',.int .i64 tk]) (leaveD d i)):=fun w' v' tk hb hs ha ht=>⟨.slice ac d.chans.length kc,v',by rw [ht]; rfl,hch.below hb,SlWX.erase hi hrl hrr hb hs ha⟩;have HSS:=Lib.hid hss;have HP:=Lib.hid hP;have HRI:Hid (i<rows.length∧rows.length≤1000):=⟨by omega,by omega⟩;rw [hrl] at hkw;rw [hrl] at HSS ⊢;obtain ⟨n,hn⟩:∃z,d.wait.length=z:=⟨_,rfl⟩;rw [hn] at HSS hi hkw hwl ⊢;have HN:Hid (rows.length=n):=by show _=_; rw [hrl,hn]
 obtain ⟨cn,hcn⟩:∃z,d.chans.length=z:=⟨_,rfl⟩;obtain ⟨tk,htk⟩:∃z,d.tick=z:=⟨_,rfl⟩;have HF2:=Lib.hid fun w' v' h1 h2 h3=>HFIN.out w' v' tk h1 h2 h3 htk.symm;rw [hcn] at HF2 ⊢;rw [htk];clear HFIN hch hss hrr hat hd hrl hn hcn htk hP;obtain ⟨W,hW,HB,R0,R1,hz⟩:=two_new w (.cells #[.slice ac cn kc,.slice (some ⟨b,off,none⟩) n kw,.int .i64 tk] 34) (.cells #[.slice none 0 0,.slice none 0 0,.int .i64 0] 34);have HW:=Lib.hid hW;clear hW;go_enter Try.func93,Try.ntmps93;go_upto_region 1 with fail
 rw [HW.out];clear HW;obtain ⟨x0_0,x0_1,x0_2⟩:=rowc3 R0.out;have KS:Hid (∀w',Below W.heap.size W w'→(fun w':World=>w'.cell? ⟨w.heap.size,1,none⟩=some (.slice (some ⟨b,off,none⟩) n kw)) w'):=fun w' hb=>(rowc3 (row_below3 hb R0.out)).2.1;have hw1:IntKind.i64.wrap ((i:Int)+1)=(i:Int)+1:=(i64_small _ (by omega) (by omega)).symm;have hi1:(i:Int)+1≤(n:Int):=by omega
 have hi0:0≤(i:Int)+1:=by omega
 have hik:i≤kw:=by omega
 have hin:i≤n:=by omega
 have hik1:i+1≤kw:=by omega
 have hin1:i+1≤n:=by omega
 have hI1:((i:Int)+1).toNat=i+1:=by omega
 obtain ⟨pa,hpa⟩:∃z:Option Addr,(if kw=i+1 then some ⟨b,off,none⟩ else some ⟨b,off+(i+1) * 8,none⟩)=z:=⟨_,rfl⟩;have HPA:=Lib.hid hpa;have hwz:w.heap.size<W.heap.size:=by omega
 clear x0_0 x0_1 x0_2 hpa;refine untilK KS 12 13 (by kernel_rfl) rfl ?_;obtain ⟨u0,hu0,HU0⟩:=drew_pack W;rw [hu0];clear hu0;have hSU0:=KS.out _ HU0.out;apply tkV 0 hSU0 rfl (by kernel_rfl) (fun _ _ _ h=>h) rfl;intro w hSw;(go_simp<;>with_reducible rfl);simp only [J0,J1,J2,J3,J4];apply tkV 1 hSU0 rfl (by kernel_rfl) (fun _ _ _ h=>h) rfl;intro w hSw;(go_simp<;>with_reducible rfl);simp only [J0,J1,J2,J3,J4];apply tkV 2 hSU0 rfl (by kernel_rfl) (fun _ _ _ h=>h) rfl;intro w hSw;(go_simp<;>with_reducible rfl);simp only [J0,J1,J2,J3,J4];apply tkV 3 hSU0 rfl (by kernel_rfl) (fun _ _ _ h=>h) rfl;intro w hSw;(go_simp<;>with_reducible rfl);simp only [J0,J1,J2,J3,J4];apply tkV 4 hSU0 rfl (by kernel_rfl) (fun _ _ _ h=>h) rfl;intro w hSw;(go_simp<;>with_reducible rfl);simp only [J0,J1,J2,J3,J4];apply tkV 5 hSU0 rfl (by kernel_rfl) (fun _ _ _ h=>h) rfl;intro w hSw;(go_simp<;>with_reducible rfl);simp only [J0,J1,J2,J3,J4];apply tkV 6 hSU0 rfl (by kernel_rfl) (fun _ _ _ h=>h) rfl;intro w hSw;(go_simp<;>with_reducible rfl);simp only [J0,J1,J2,J3,J4];apply tkV 7 hSU0 rfl (by kernel_rfl) (fun _ _ _ h=>h) rfl;intro w hSw;(go_simp<;>with_reducible rfl);simp only [J0,J1,J2,J3,J4];apply tkV 8 hSU0 rfl (by kernel_rfl) (fun _ _ _ h=>h) rfl;intro w hSw;(go_simp<;>with_reducible rfl);simp only [J0,J1,J2,J3,J4];refine consU 9 rfl (by kernel_rfl) rfl fun K hK=>?_;go_simp;rw [HPA.out];obtain ⟨u1,nb,hv1,hX,RN,hbn,ltn⟩:=alloc_pack u0 (.cells #[.slice (some ⟨b,off,none⟩) i kw,.slice pa (n - (i+1)) (kw - (i+1))] 32);rw [hv1,hX];have HU1:=Lib.hid (below_then HU0.out hbn.out);clear hv1 hX hbn ltn;refine hK.out _ _ ?_ fun hSU1=>?_;exact KS.out _ HU1.out;clear hK K hSU0;(try simp only [J0,J1,J2,J3,J4]);refine consU 10 rfl (by kernel_rfl) rfl fun K hK=>?_;have HSD:=Lib.hid ((HSS.out.below (below_then HB.out HU1.out)).drop (i+1) (by have:=HRI.out; omega) HPA.out.symm);have HST:=Lib.hid ((HSS.out.below (below_then HB.out HU1.out)).take i (by have:=HRI.out; omega));have HLS:=Lib.hid (SlLS.two RN.out HST.out HSD.out)
 go_simp;go_at_call 71;refine (concatW_any _ _ _ _ HLS.out (by simp) (by have:=HRI.out; simp; omega)).mono ?_;rintro e u2 ⟨v2,rfl,ho2,hb2⟩;rw [flat_two] at ho2;obtain ⟨p2,n2,k2,rfl⟩:=own_sh ho2;have HO2:Hid (OwnS u2 W.heap.size 66 8 (.slice p2 n2 k2) (rows.take i ++ rows.drop (i+1))):=ho2.move HU1.out.size;have HU2:Hid (Below W.heap.size W u2):=below_then HU1.out hb2;clear ho2 hb2 HSD HST HLS;refine hK.out _ _ ?_ fun hSU2=>?_;exact KS.out _ HU2.out;clear hK K hSU1;(try simp only [J0,J1,J2,J3,J4]);apply tkV 11 hSU2 rfl (by kernel_rfl) (fun _ _ _ h=>h) rfl;intro w hSw;(go_simp<;>with_reducible rfl);simp only [J0,J1,J2,J3,J4];refine freeU 12 rfl (by kernel_rfl) rfl (by kernel_rfl) fun K hK=>?_;have R02:=Lib.hid ((HU2.out.block _ (show w.heap.size<W.heap.size by omega)).trans R0.out);have R12:=Lib.hid ((HU2.out.block _ (show w.heap.size+1<W.heap.size by omega)).trans R1.out);have fz:=frozen_of_row u2 w.heap.size 1 _ _ R02.out;obtain ⟨r0,r1,r2⟩:=rowc3 R02.out;go_simp;clear r0 r1 r2 fz;refine hK.out _ _ ?_;clear hK K hSU2;(try simp only [J0,J1,J2,J3,J4]);refine wpAnyU_done (by kernel_rfl) ?_ _;have r1:=heap_setCell_same u2 w.heap.size 1 _ _ (.slice p2 n2 k2) R02.out;simp at r1;have R03:=Lib.hid r1;have R13:=Lib.hid ((heap_setCell_other u2 ⟨w.heap.size,1,none⟩ (w.heap.size+1) (.slice p2 n2 k2) (by show w.heap.size+1≠w.heap.size; omega)).trans R12.out);have HB3:=Lib.hid ((below_then HB.out HU2.out).setCell (p:=⟨w.heap.size,1,none⟩) (Nat.le_refl _) (.slice p2 n2 k2));have HSF:Hid (SlS (u2.setCell ⟨w.heap.size,1,none⟩ (.slice p2 n2 k2)) 8 (.slice p2 n2 k2) (rows.take i ++ rows.drop (i+1))):=(HO2.out.kept (grownBy_setCell u2 ⟨w.heap.size,1,none⟩ (.slice p2 n2 k2)) (HO2.out.ne (by omega))).sls (by rw [List.length_append,List.length_take,List.length_drop]; have:=HRI.out; omega);have HAT:Hid (atP P (.slice p2 n2 k2)):=OwnS.isP HO2.out (fun b hb=>HP.out b (by omega));obtain ⟨w3,hw3⟩:∃w3,u2.setCell ⟨w.heap.size,1,none⟩ (.slice p2 n2 k2)=w3:=⟨_,rfl⟩;rw [hw3] at R03 R13 HB3 HSF;rw [hw3]
 try rw [HPA.out]
 clear hw3 r1;obtain ⟨x0,x1,x2⟩:=rowc3 R03.out;go_wp2_with (refine wpList_store_row rfl 34 _ _ rfl (w.heap.size+1) _ rfl rfl 34 _ R13.out (by kernel_rfl) rfl (by simp [Value.oneCell']) ?_);refine bodyPost_ret (v:=.agg #[.slice ac cn kc,.slice p2 n2 k2,.int .i64 tk]) (results_cell_row Try.results93 _ _ (w.heap.size+1) 34 _ (0,0) _ rfl (setRow_heap _ _ _ _ 34 (0,0) R13.out) Try.underlying34 rfl (by kernel_rfl)) rfl ?_;have hB4:=row_below HB3.out (show w.heap.size≤w.heap.size+1 by omega) #[.slice ac cn kc,.slice p2 n2 k2,.int .i64 tk];exact ⟨_,rfl,HF2.out _ _ hB4 (HSF.out.off (row_grown w3 (w.heap.size+1) #[.slice ac cn kc,.slice p2 n2 k2,.int .i64 tk]) (OwnS.isP (P:=fun b=>W.heap.size≤b) HO2.out (fun b hb=>hb)) (fun b hb e=>by omega)) HAT.out,hB4⟩
def sideRow (x:CaseM) (i:Int):List Value:=[.bool x.send,.int .i64 x.chan,.int .u64 x.val,.int .i64 i]
def sideRows (op:OpM):List (List Value):=(List.range (casesE op).length).map fun i=>sideRow ((casesE op).getD i noCase) (namedI op i)
theorem sideRows_length (op:OpM):(sideRows op).length=(casesE op).length:=by simp [sideRows]
theorem sideRows_get (op:OpM) (i:Nat) (hi:i<(casesE op).length):(sideRows op).getD i []=sideRow ((casesE op).getD i noCase) (namedI op i):=by
 unfold sideRows;rw [getD_lt (by simpa using hi)];simp
theorem made4 (a b c d:Value) (n:Nat):(madeCells #[a,b,c,d] (n * 4)).toList=(List.replicate n [a,b,c,d]).flatten:=by
 unfold madeCells;rw [Array.toList_map,Array.toList_range];induction n with
 | zero=>rfl
 | succ n ih=>
  rw [show (n+1) * 4=n * 4+1+1+1+1 by omega,List.range_succ,List.range_succ,List.range_succ,List.range_succ,List.map_append,List.map_append,List.map_append,List.map_append,ih,List.replicate_succ',List.flatten_append];have h0:n * 4 % 4=0:=by omega
  have h1:(n * 4+1) % 4=1:=by omega
  have h2:(n * 4+1+1) % 4=2:=by omega
  have h3:(n * 4+1+1+1) % 4=3:=by omega
  simp [h0,h1,h2,h3]
def rowsA (op:OpM) (n i:Nat):List (List Value):=(List.range n).map fun j=>if j<i then sideRow ((casesE op).getD j noCase) (namedI op j) else [.bool false,.int .i64 0,.int .u64 0,.int .i64 0]
theorem rowsA_length (op:OpM) (n i:Nat):(rowsA op n i).length=n:=by simp [rowsA]
theorem rowsA_zero (op:OpM) (n:Nat):rowsA op n 0=List.replicate n [.bool false,.int .i64 0,.int .u64 0,.int .i64 0]:=by
 unfold rowsA;simp only [Nat.not_lt_zero,if_false];rw [List.map_const',List.length_range]
theorem rowsA_end (op:OpM):rowsA op (casesE op).length (casesE op).length=sideRows op:=by
 unfold rowsA sideRows;refine List.map_congr_left fun j hj=>?_;rw [if_pos (List.mem_range.1 hj)]
theorem rowsA_set (op:OpM) (n i:Nat) (hi:i<n):(rowsA op n i).set i (sideRow ((casesE op).getD i noCase) (namedI op i))=rowsA op n (i+1):=by
 unfold rowsA;refine List.ext_getElem (by simp) fun j h1 h2=>?_;rw [List.getElem_set];simp only [List.getElem_map,List.getElem_range];by_cases h:i=j
 ·subst h; simp
 ·rw [if_neg h]
  by_cases h3:j<i
  ·rw [if_pos h3,if_pos (by omega)]
  ·rw [if_neg h3,if_neg (by omega)]
theorem Try.info_side:(Try.prog.info? 94).map (fun i=>(i.zero,i.size,i.bytes))=some (some (.agg #[.bool false,.int .i64 0,.int .u64 0,.int .i64 0]),4,32):=by kernel_rfl
set_option maxRecDepth 100000 in
set_option maxHeartbeats 16000000 in
theorem dexists_any (v:Value) (l:List ChanM) (n:Int) (w:World) (hv:SlH w v l):Calls Try.prog 72 #[v,.int .i64 n] w fun e w'=>e=.returned (.bool (exB l n))∧w=w':=by
 have hb:=hv.bound;obtain ⟨a,cap,rfl,-⟩:=hv.len;clear hv;by_cases h0:0≤n
 ·by_cases h1:n<(l.length:Int)
  ·have hh:exB l n=true:=by unfold exB; simp [h0,h1]
   rw [hh];clear hh;go_enter Try.func72,Try.ntmps72;go_wp2;go_ret;exact ⟨rfl,rfl⟩
  ·have hq:decide (n<(l.length:Int))=false:=decide_eq_false h1
   have hh:exB l n=false:=by unfold exB; rw [hq]; simp
   rw [hh];clear hh h1;go_enter Try.func72,Try.ntmps72;go_wp2;go_ret;exact ⟨rfl,rfl⟩
 ·have hq:decide (0≤n)=false:=decide_eq_false h0
  have hq2:decide (n ≥ 0)=false:=decide_eq_false h0;have hh:exB l n=false:=by unfold exB; rw [hq]; rfl
  rw [hh];clear hh h0;go_enter Try.func72,Try.ntmps72;go_wp2;go_ret;exact ⟨rfl,rfl⟩
set_option maxRecDepth 100000 in
set_option maxHeartbeats 16000000 in
theorem sides_any (v:Value) (op:OpM) (w:World) (h:OpV w v op) (hl:(casesE op).length≤100000):Calls Try.prog 101 #[v] w fun e w'=>∃u,e=.returned u∧SlS w' 4 u (sideRows op)∧Below w.heap.size w w':=by
 have TS:=Lib.hid fun w' (hb:Below w.heap.size w w')=>single_any v op w' (h.below hb);obtain ⟨vc,vd,rfl,hc,hd⟩:=h;obtain ⟨rr,hrr⟩:∃z,sideRows op=z:=⟨_,rfl⟩;rw [hrr];obtain ⟨rA,hrA⟩:∃z,rowsA op=z:=⟨_,rfl⟩;have H4:Hid (op.kind=4→casesE op=op.cases∧∀i:Nat,namedI op i=i):=fun h=>⟨by unfold casesE; rw [if_pos h],fun i=>by unfold namedI; rw [if_pos h]⟩;have HE:Hid (op.kind=4→rA op.cases.length op.cases.length=rr):=fun h=>by rw [← hrA,← hrr,← rowsA_end,(H4.out h).1]
 have HZ:Hid (rA op.cases.length 0=List.replicate op.cases.length [.bool false,.int .i64 0,.int .u64 0,.int .i64 0]):=by show _=_; rw [← hrA]; exact rowsA_zero op _
 have HL:Hid (∀i,(rA op.cases.length i).length=op.cases.length):=fun i=>by rw [← hrA]; exact rowsA_length op _ i
 have HS:Hid (op.kind=4→∀i,i<op.cases.length→(rA op.cases.length i).set i (sideRow (op.cases.getD i noCase) i)=rA op.cases.length (i+1)):=fun h i hi=>by
  have:=rowsA_set op op.cases.length i hi;rw [(H4.out h).1,(H4.out h).2 i,hrA] at this;exact this
 have H1:Hid (op.kind≠4→rr=if sgB op=true then [sideRow (sgC op) (-1)] else []):=fun h=>by
  rw [← hrr];unfold sideRows casesE namedI;simp only [if_neg h];rw [show oneB op=sgB op from rfl,show oneC op=sgC op from rfl];cases sgB op <;> rfl
 have hl4:op.kind=4→op.cases.length≤100000:=fun h=>by rw [(H4.out h).1] at hl; exact hl
 clear hrr hrA hl H4;obtain ⟨sb,hsb⟩:∃z,sgB op=z:=⟨_,rfl⟩;obtain ⟨⟨s1,s2,s3⟩,hsc⟩:∃z,sgC op=z:=⟨_,rfl⟩;rw [hsb,hsc] at TS H1;clear hsb hsc;obtain ⟨kd,md,oc,vl,dl,cs,ds⟩:=op;dsimp only at *;have HCS:=Lib.hid hc;obtain ⟨a3,cap3,rfl⟩:=hc.len;obtain ⟨a4,cap4,rfl,-⟩:=hd.len;unfold caseW at TS;dsimp only at TS;clear hc hd;obtain ⟨W,hW,HB,R0,hz⟩:=one_new w (.cells #[.int .i64 kd,.int .i64 md,.int .i64 oc,.int .u64 vl,.int .i64 dl,.slice a3 cs.length cap3,.slice a4 ds.length cap4] 44);have HW:=Lib.hid hW;clear hW;go_enter Try.func101,Try.ntmps101;go_upto_region 1 with fail
 rw [HW.out];clear HW;obtain ⟨x0_0,x0_1,x0_2,x0_3,x0_4,x0_5,x0_6⟩:=rowc7 R0.out;by_cases h4:kd=4
 ·have hlc:=hl4 h4
  have HE4:=Lib.hid (HE.out h4);have HS4:=Lib.hid (HS.out h4);have h4b:(kd != 4)=false:=by rw [h4]; rfl
  clear H1 HE HS TS hl4 h4;have HR0:=R0;go_upto_region 7 with (refine wpList_make_full _ rfl _ _ 141 rfl W.heap.size 94 _ (.agg #[.bool false,.int .i64 0,.int .u64 0,.int .i64 0]) 4 Try.underlying141 (info_parts Try.info_side).choose_spec.1 (info_parts Try.info_side).choose_spec.2.1 (info_parts Try.info_side).choose_spec.2.2.1 _ _ _ _ cs.length rfl rfl rfl rfl (by rw [(info_parts Try.info_side).choose_spec.2.2.2]; omega) (by unfold maxLen; omega) (Nat.le_refl _) ?_; intro w2 ho2 hg2; have HO2:=Lib.hid ho2; have HG2:=Lib.hid hg2; clear ho2 hg2)
  have HB2:Hid (Below W.heap.size W w2):=(Below.refl _ _).grown HG2.out (Nat.le_refl _) (fun j hj=>by cases hj);have HO:Hid (OwnS w2 W.heap.size 94 4 (.slice (some ⟨W.heap.size,0,none⟩) cs.length cs.length) (rA cs.length 0)):=by
   have h:=HO2.out;rw [show (Value.agg #[.bool false,.int .i64 0,.int .u64 0,.int .i64 0]).cells=#[.bool false,.int .i64 0,.int .u64 0,.int .i64 0] from rfl,made4] at h;rw [HZ.out];refine ⟨fun r hr=>?_,?_⟩
   ·rw [List.eq_of_mem_replicate hr]
    exact ⟨rfl,by intro u hu; simp only [List.mem_cons,List.not_mem_nil,or_false] at hu; rcases hu with rfl | rfl | rfl | rfl <;> rfl⟩
   ·rw [List.length_replicate]; exact h
  obtain ⟨g,hg⟩:∃g,W.heap.size=g:=⟨_,rfl⟩;have hwg:w.heap.size<g:=by omega
  have R02:=keepR HB2.out R0;have HBZ:Hid (Below w.heap.size w w2):=below_then HB.out HB2.out;rw [hg] at HO;rw [hg];clear x0_0 x0_1 x0_2 x0_3 x0_4 x0_5 x0_6 HO2 HG2 HB2 hg R0 HB hz HR0 HZ;obtain ⟨x0,x1,x2,x3,x4,x5,x6⟩:=rowc7 R02.out;have hg2:g<w2.heap.size:=(HO.out.lt g rfl).2;go_wp2_with fail;clear x0 x1 x2 x3 x4 x5 x6;go_loopw [28] (fun u28 wr=>∃i:Nat,u28=.int .i64 i∧i≤cs.length∧Hid (OwnS wr g 94 4 (.slice (some ⟨g,0,none⟩) cs.length cs.length) (rA cs.length i))∧Hid (Below g w2 wr)) (fun u28 _=>cs.length - (intOf u28).toNat)
  case atStart=>exact ⟨0,rfl,by omega,HO,Below.refl _ _⟩
  case round=>
   obtain ⟨i,rfl,hi,HI,HBi⟩:=hrel;obtain ⟨wo,rfl⟩:∃wo:World,wo=wr:=⟨_,rfl⟩;by_cases hlt:i<cs.length
   ·have hltI:(i:Int)<(cs.length:Int):=by omega
    have HBo:Hid (Below w.heap.size w wo):=HBZ.out.trans (HBi.out.mono (by omega));obtain ⟨-,-,a6,cp6,hve,-,hcc⟩:=HCS.out.below HBo.out;simp only [Value.slice.injEq,true_and] at hve;obtain ⟨rfl,rfl⟩:=hve;obtain ⟨b2,off2,rfl,hb2,hca⟩:=hcc i hlt;have HS5:=Lib.hid (HS4.out i hlt);obtain ⟨⟨t1,t2,t3⟩,hx⟩:∃x,cs.getD i noCase=x:=⟨_,rfl⟩;rw [hx] at hca HS5;obtain ⟨d0,d1,d2⟩:=hca;dsimp only at d0 d1 d2;clear hcc hx;obtain ⟨Wy,hWy⟩:∃Wy,(wo.alloc (.cells #[.bool false,.int .i64 0,.int .u64 0] 58)).setRow wo.heap.size #[.bool t1,.int .i64 t2,.int .u64 t3]=Wy:=⟨_,rfl⟩;have Ny:Hid ((wo.alloc (.cells #[.bool false,.int .i64 0,.int .u64 0] 58)).heap[wo.heap.size]?=some (.cells #[.bool false,.int .i64 0,.int .u64 0] 58 (0,0))):=heap_alloc_new _ _;have HBy:Hid (Below wo.heap.size wo Wy):=hWy▸row_below (below_new (Below.refl _ _) _) (Nat.le_refl _) _;have Ry:Hid (Wy.heap[wo.heap.size]?=some (.cells #[.bool t1,.int .i64 t2,.int .u64 t3] 58 (0,0))):=hWy▸setRow_heap _ _ _ _ _ (0,0) Ny.out;have HWy:=Lib.hid hWy;clear hWy;go_upto_region 10 with (refine wpList_store_row rfl 58 _ _ rfl (wo.heap.size) _ rfl rfl 58 _ Ny.out (by kernel_rfl) rfl (by simp [Value.oneCell']) ?_)
    rw [HWy.out];try simp only [Act.put]
    clear HWy Ny;obtain ⟨Y,hY⟩:∃Y,wo.heap.size=Y:=⟨_,rfl⟩;rw [hY] at Ry;rw [hY];clear hY;have HIy:=Lib.hid (HI.out.below HBy.out);have hgy:g<wo.heap.size:=(HI.out.lt g rfl).2;have hrl:=HL.out i;have hth:=(HIy.out.row i (by rw [hrl]; exact hlt)).2;have hN:=HIy.out.setRow i (by rw [hrl]; exact hlt) (r:=[.bool t1,.int .i64 t2,.int .u64 t3,.int .i64 i]) rfl (by intro u hu; simp only [List.mem_cons,List.not_mem_nil,or_false] at hu; rcases hu with rfl | rfl | rfl | rfl <;> rfl);have hB9:=((HBi.out.trans (HBy.out.mono (Nat.le_of_lt hgy))).grown (setCells_grown g [.bool t1,.int .i64 t2,.int .u64 t3,.int .i64 i] (i * 4) Wy) (by have:=HBi.out.size; have:=HBy.out.size; omega) (fun j hj=>by cases hj; exact Nat.le_refl _));have HS6:=HS5.out;unfold sideRow at HS6;dsimp only at HS6;rw [HS6] at hN;have HN:=Lib.hid (And.intro hN hB9);have HT:=Lib.hid hth;obtain ⟨w9,hw9⟩:∃w9,Wy.setCells g (i * 4) [.bool t1,.int .i64 t2,.int .u64 t3,.int .i64 i]=w9:=⟨_,rfl⟩;rw [hw9] at HN;have HW9:=Lib.hid hw9;obtain ⟨y0,y1,y2⟩:=rowc3 Ry.out;clear hN hB9 HS6 hth hw9 d0 d1 d2 hrl;go_upto_region 11 with (refine wpList_store_mid rfl 94 _ _ rfl g (i * 4) _ rfl rfl HT.out (by kernel_rfl) (by simp [Value.oneCell']) ?_)
    rw [HW9.out];try simp only [Act.put]
    clear y0 y1 y2 HW9 HT;go_wp2_with fail;go_roundw
    case rel=>exact ⟨i+1,by go_num,by omega,HN.out.1,HN.out.2⟩
    case measure=>simp [intOf]; omega
   ·have hge:¬(i:Int)<(cs.length:Int):=by omega
    have HF:Hid (SlS wo 4 (.slice (some ⟨g,0,none⟩) cs.length cs.length) rr):=by
     have hic:i=cs.length:=by omega
     have hI:=HI.out;have hE:=HE4.out;have hrl:=HL.out cs.length;rw [hic,hE] at hI;rw [hE] at hrl;exact hI.sls (by rw [hrl]; omega)
    clear HS4 HE4;go_wp2_with fail;go_ret;exact ⟨_,rfl,HF.out,HBZ.out.trans (HBi.out.mono (by omega))⟩
 have h4b:(kd != 4)=true:=by simpa using h4
 have HR1:=Lib.hid (H1.out h4);clear H1 HE HS HZ HL hl4 h4;go_wp2_with fail;refine (TS.out _ HB.out).mono ?_; rintro e w1 ⟨rfl,hb1⟩;have HB1:=Lib.hid (below_then HB.out hb1);clear x0_0 x0_1 x0_2 x0_3 x0_4 x0_5 x0_6 hb1 TS;obtain ⟨Wx,hWx⟩:∃Wx,(w1.alloc (.cells #[.bool false,.int .i64 0,.int .u64 0] 58)).setRow w1.heap.size #[.bool s1,.int .i64 s2,.int .u64 s3]=Wx:=⟨_,rfl⟩;have Nx:Hid ((w1.alloc (.cells #[.bool false,.int .i64 0,.int .u64 0] 58)).heap[w1.heap.size]?=some (.cells #[.bool false,.int .i64 0,.int .u64 0] 58 (0,0))):=heap_alloc_new _ _;have HBx:Hid (Below w1.heap.size w1 Wx):=hWx▸row_below (below_new (Below.refl _ _) _) (Nat.le_refl _) _;have Rx:Hid (Wx.heap[w1.heap.size]?=some (.cells #[.bool s1,.int .i64 s2,.int .u64 s3] 58 (0,0))):=hWx▸setRow_heap _ _ _ _ _ (0,0) Nx.out;have HWx:=Lib.hid hWx;clear hWx;go_upto_region 3 with (refine wpList_store_row rfl 58 _ _ rfl (w1.heap.size) _ rfl rfl 58 _ Nx.out (by kernel_rfl) rfl (by simp [Value.oneCell']) ?_)
 rw [HWx.out];try simp only [Act.put]
 clear HWx Nx;obtain ⟨X,hX⟩:∃X,w1.heap.size=X:=⟨_,rfl⟩;rw [hX] at Rx;rw [hX];clear hX;have HBX:=Lib.hid (below_then HB1.out HBx.out);cases sb with
 | false=>
  have HF:Hid (rr=[]):=HR1.out;clear HR1;go_wp2_with fail;go_ret;exact ⟨_,rfl,by rw [HF.out]; exact SlS.nil _ _,HBX.out⟩
 | true=>
  have HF:Hid (rr=[[.bool s1,.int .i64 s2,.int .u64 s3,.int .i64 (-1)]]):=HR1.out;clear HR1;obtain ⟨y0,y1,y2⟩:=rowc3 Rx.out;go_wp2_with fail;go_ret;exact ⟨_,rfl,by rw [HF.out]; exact SlS.lit1 Wx 94 _ 4 rfl (by intro u hu; simp only [List.mem_cons,List.not_mem_nil,or_false] at hu; rcases hu with rfl | rfl | rfl | rfl <;> rfl),below_new HBX.out _⟩
theorem rowc4s {w:World} {g:Nat} {T:TypeId} {v0 v1 v2 v3:Value} (h:w.heap[g]?=some (.cells #[v0,v1,v2,v3] T (0,0))):w.cell? ⟨g,0,none⟩=some v0∧w.cell? ⟨g,1,none⟩=some v1∧w.cell? ⟨g,2,none⟩=some v2∧w.cell? ⟨g,3,none⟩=some v3:=
 ⟨cell_of_row _ _ 0 _ _ _ h,cell_of_row _ _ 1 _ _ _ h,cell_of_row _ _ 2 _ _ _ h,cell_of_row _ _ 3 _ _ _ h⟩
theorem rowc6s {w:World} {g:Nat} {T:TypeId} {v0 v1 v2 v3 v4 v5:Value} (h:w.heap[g]?=some (.cells #[v0,v1,v2,v3,v4,v5] T (0,0))):w.cell? ⟨g,0,none⟩=some v0∧w.cell? ⟨g,1,none⟩=some v1∧w.cell? ⟨g,2,none⟩=some v2∧w.cell? ⟨g,3,none⟩=some v3∧w.cell? ⟨g,4,none⟩=some v4∧w.cell? ⟨g,5,none⟩=some v5:=
 ⟨cell_of_row _ _ 0 _ _ _ h,cell_of_row _ _ 1 _ _ _ h,cell_of_row _ _ 2 _ _ _ h,cell_of_row _ _ 3 _ _ _ h,cell_of_row _ _ 4 _ _ _ h,cell_of_row _ _ 5 _ _ _ h⟩
theorem SlS.side {w:World} {v:Value} {op:OpM} (h:SlS w 4 v (sideRows op)) (i:Nat) (hi:i<(casesE op).length) {x:CaseM} (hx:(casesE op).getD i noCase=x):∃b off cap,v=.slice (some ⟨b,off,none⟩) (casesE op).length cap∧b<w.heap.size∧w.cell? ⟨b,off+i * 4,none⟩=some (.bool x.send)∧w.cell? ⟨b,off+i * 4+1,none⟩=some (.int .i64 x.chan)∧w.cell? ⟨b,off+i * 4+2,none⟩=some (.int .u64 x.val)∧w.cell? ⟨b,off+i * 4+3,none⟩=some (.int .i64 (namedI op i)):=by
 have hl:=sideRows_length op;obtain ⟨b,off,cap,rfl,hb,hc⟩:=h.open (by omega);have h5:=hc i (by omega);rw [sideRows_get op i hi,hx] at h5;exact ⟨b,off,cap,by rw [hl],hb,h5 0 _ rfl,h5 1 _ rfl,h5 2 _ rfl,h5 3 _ rfl⟩
def sideXE (op:OpM) (ch:Int) (sd:Bool):CaseM × Int:=if 0≤sideI op ch sd then ((casesE op).getD (sideI op ch sd).toNat noCase,namedI op (sideI op ch sd)) else (noCase,0)
def sideW (p:CaseM × Int):Value:=.agg #[.bool p.1.send,.int .i64 p.1.chan,.int .u64 p.1.val,.int .i64 p.2]
set_option maxRecDepth 100000 in
set_option maxHeartbeats 16000000 in
theorem dfind_any (v:Value) (op:OpM) (sd:Bool) (ch:Int) (w:World) (h:OpV w v op) (hl:(casesE op).length≤100000):Calls Try.prog 84 #[v,.bool sd,.int .i64 ch] w fun e w'=>e=.returned (.tuple #[sideW (sideXE op ch sd),.bool (decide (0≤sideI op ch sd))])∧Below w.heap.size w w':=by
 have TS:=Lib.hid fun w' (hb:Below w.heap.size w w')=>sides_any v op w' (h.below hb) hl;obtain ⟨⟨⟨r1,r2,r3⟩,r4⟩,hr⟩:∃z,sideXE op ch sd=z:=⟨_,rfl⟩;obtain ⟨rb,hrb⟩:∃z,decide (0≤sideI op ch sd)=z:=⟨_,rfl⟩;rw [hr,hrb];unfold sideW;dsimp only;have HQ1:Hid (∀(i:Nat) (x:CaseM),i<(casesE op).length→(casesE op).getD i noCase=x→isSide ch sd x=true→(∀j,j<i→isSide ch sd ((casesE op).getD j noCase)=false)→rb=true∧x=⟨r1,r2,r3⟩∧namedI op i=r4):=fun i x hi hx h1 h2=>by
  have e:sideI op ch sd=i:=fstI_hit noCase hi (by rw [hx]; exact h1) h2;unfold sideXE at hr;rw [e,if_pos (by omega),Int.toNat_natCast,hx] at hr;rw [e] at hrb;cases hr;exact ⟨by rw [← hrb]; exact decide_eq_true (by omega),rfl,rfl⟩
 have HQ2:Hid ((∀j,j<(casesE op).length→isSide ch sd ((casesE op).getD j noCase)=false)→rb=false∧r1=false∧r2=0∧r3=0∧r4=0):=fun h=>by
  have e:sideI op ch sd=-1:=fstI_none noCase h;unfold sideXE at hr;rw [e,if_neg (by decide)] at hr;rw [e] at hrb;cases hr;exact ⟨by rw [← hrb]; rfl,rfl,rfl,rfl,rfl⟩
 have HSS:Hid (∀w' u i x,SlS w' 4 u (sideRows op)→i<(casesE op).length→(casesE op).getD i noCase=x→_):=fun w' u i x h hi hx=>SlS.side h i hi hx;obtain ⟨n,hn⟩:∃z,(casesE op).length=z:=⟨_,rfl⟩;obtain ⟨ce,hce⟩:∃z,(fun i=>(casesE op).getD i noCase)=z:=⟨_,rfl⟩;have HCE:Hid (∀i,(casesE op).getD i noCase=ce i):=fun i=>by rw [← hce]
 obtain ⟨rr,hrr⟩:∃z,sideRows op=z:=⟨_,rfl⟩;have HLN:Hid (rr.length=n):=by show _=_; rw [← hrr,sideRows_length,hn]
 obtain ⟨nm,hnm⟩:∃z,(fun i:Nat=>namedI op i)=z:=⟨_,rfl⟩;have HNM:Hid (∀i:Nat,namedI op i=nm i):=fun i=>by rw [← hnm]
 rw [hn] at HQ1 HQ2 HSS hl;rw [hrr] at TS HSS;have HC4:Hid (∀w' u i,SlS w' 4 u rr→i<n→∃b off cap,u=.slice (some ⟨b,off,none⟩) n cap∧b<w'.heap.size∧w'.cell? ⟨b,off+i * 4,none⟩=some (.bool (ce i).send)∧w'.cell? ⟨b,off+i * 4+1,none⟩=some (.int .i64 (ce i).chan)∧w'.cell? ⟨b,off+i * 4+2,none⟩=some (.int .u64 (ce i).val)∧w'.cell? ⟨b,off+i * 4+3,none⟩=some (.int .i64 (nm i))):=fun w' u i h hi=>by
  obtain ⟨b,off,cap,h1,h2,h3,h4,h5,h6⟩:=HSS.out w' u i _ h hi (HCE.out i);rw [HNM.out] at h6;exact ⟨b,off,cap,h1,h2,h3,h4,h5,h6⟩
 clear hr hrb hn hce hrr HSS hnm;obtain ⟨vc,vd,rfl,hc,hd⟩:=h;obtain ⟨kd,md,oc,vl,dl,cs,ds⟩:=op;dsimp only at *;obtain ⟨a3,cap3,rfl⟩:=hc.len;obtain ⟨a4,cap4,rfl,-⟩:=hd.len;clear hc hd;obtain ⟨W,hW,HB,R0,R1,hz⟩:=two_new w (.cells #[.int .i64 kd,.int .i64 md,.int .i64 oc,.int .u64 vl,.int .i64 dl,.slice a3 cs.length cap3,.slice a4 ds.length cap4] 44) (.cells #[.bool false,.int .i64 0,.int .u64 0,.int .i64 0] 94);have HW:=Lib.hid hW;clear hW;go_enter Try.func84,Try.ntmps84;go_upto_region 1 with fail
 rw [HW.out];clear HW;obtain ⟨x0_0,x0_1,x0_2,x0_3,x0_4,x0_5,x0_6⟩:=rowc7 R0.out;go_wp2_with fail;refine (TS.out _ HB.out).mono ?_; rintro e w1 ⟨u,rfl,hss,hb1⟩;have HSU:=Lib.hid hss;have HB1:=Lib.hid (below_then HB.out hb1);have R11:=keepR hb1 R1;obtain ⟨au,ku,rfl,-⟩:=hss.len;rw [HLN.out] at HSU ⊢;clear x0_0 x0_1 x0_2 x0_3 x0_4 x0_5 x0_6 hb1 TS hss R0 R1 HB hz HLN;go_wp2_with fail;go_loopw [13] (fun u13 wr=>∃i:Nat,u13=.int .i64 i∧i≤n∧Hid (Below w1.heap.size w1 wr)∧Hid (∀j,j<i→isSide ch sd (ce j)=false)) (fun u13 _=>n - (intOf u13).toNat)
 case atStart=>exact ⟨0,rfl,by omega,Below.refl _ _,fun j hj=>by omega⟩
 case round=>
  obtain ⟨i,rfl,hi,HBi,HP⟩:=hrel;obtain ⟨wo,rfl⟩:∃wo:World,wo=wr:=⟨_,rfl⟩;have R12:=keepR HBi.out R11;have HBo:=Lib.hid (below_then HB1.out HBi.out);have hW1:w.heap.size+1<wo.heap.size:=(ltR R12);by_cases hlt:i<n
  ·have hltI:(i:Int)<(n:Int):=by omega
   obtain ⟨b,off,cap,hve,hb,d0,d1,d2,d3⟩:=HC4.out wo _ i (HSU.out.below HBi.out) hlt;simp only [Value.slice.injEq] at hve;obtain ⟨rfl,-,rfl⟩:=hve;obtain ⟨⟨s1,s2,s3⟩,hx⟩:∃x,ce i=x:=⟨_,rfl⟩;obtain ⟨jn,hjn⟩:∃x,nm i=x:=⟨_,rfl⟩;rw [hx] at d0 d1 d2;rw [hjn] at d3;dsimp only at d0 d1 d2;have HQ:=Lib.hid (HQ1.out i _ hlt (HCE.out i));rw [hx,HNM.out,hjn] at HQ;have HX:=Lib.hid hx;obtain ⟨q1,hq1⟩:∃z,(s2 == ch)=z:=⟨_,rfl⟩;obtain ⟨q2,hq2⟩:∃z,(s1 == sd)=z:=⟨_,rfl⟩;have HIS:Hid (isSide ch sd ⟨s1,s2,s3⟩=(q1 && q2)):=by show ((s2 == ch) && (s1 == sd))=_; rw [hq1,hq2]
   clear hx hb hjn;obtain ⟨Wy,hWy⟩:∃Wy,(wo.alloc (.cells #[.bool false,.int .i64 0,.int .u64 0,.int .i64 0] 94)).setRow wo.heap.size #[.bool s1,.int .i64 s2,.int .u64 s3,.int .i64 jn]=Wy:=⟨_,rfl⟩;have Ny:Hid ((wo.alloc (.cells #[.bool false,.int .i64 0,.int .u64 0,.int .i64 0] 94)).heap[wo.heap.size]?=some (.cells #[.bool false,.int .i64 0,.int .u64 0,.int .i64 0] 94 (0,0))):=heap_alloc_new _ _;have HBy:Hid (Below wo.heap.size wo Wy):=hWy▸row_below (below_new (Below.refl _ _) _) (Nat.le_refl _) _;have Ry:Hid (Wy.heap[wo.heap.size]?=some (.cells #[.bool s1,.int .i64 s2,.int .u64 s3,.int .i64 jn] 94 (0,0))):=hWy▸setRow_heap _ _ _ _ _ (0,0) Ny.out;have HWy:=Lib.hid hWy;clear hWy;go_upto_region 4 with (refine wpList_store_row rfl 94 _ _ rfl (wo.heap.size) _ rfl rfl 94 _ Ny.out (by kernel_rfl) rfl (by simp [Value.oneCell']) ?_)
   rw [HWy.out];try simp only [Act.put]
   clear HWy Ny;obtain ⟨Y,hY⟩:∃Y,wo.heap.size=Y:=⟨_,rfl⟩;rw [hY] at Ry;rw [hY];clear hY;have HBy2:=Lib.hid (below_then HBi.out HBy.out);have R13:=keepR HBy.out R12;have HBZ:=Lib.hid (below_then HBo.out HBy.out);obtain ⟨y0,y1,y2,y3⟩:=rowc4s Ry.out;clear d0 d1 d2 d3;cases q2 with
   | false=>
    go_wp2_with fail;go_roundw
    case rel=>exact ⟨i+1,by go_num,by omega,HBy2,fun j hj=>by
     rcases Nat.lt_or_ge j i with h | h
     ·exact HP.out j h
     ·rw [show j=i by omega,HX.out,HIS.out]; cases q1 <;> rfl⟩
    case measure=>simp [intOf]; omega
   | true=>
    cases q1 with
    | false=>
     go_wp2_with fail;go_roundw
     case rel=>exact ⟨i+1,by go_num,by omega,HBy2,fun j hj=>by
      rcases Nat.lt_or_ge j i with h | h
      ·exact HP.out j h
      ·rw [show j=i by omega,HX.out,HIS.out]; rfl⟩
     case measure=>simp [intOf]; omega
    | true=>
     obtain ⟨hf1,hf2,hf3⟩:=HQ.out HIS.out (fun j hj=>by rw [HCE.out]; exact HP.out j hj);cases hf2;subst hf1;subst hf3;clear HQ1 HQ2 HQ;go_wp2_with (refine wpList_store_row rfl 94 _ _ rfl (w.heap.size+1) _ rfl rfl 94 _ R13.out (by kernel_rfl) rfl (by simp [Value.oneCell']) ?_);refine bodyPost_ret (v:=.tuple #[.agg #[.bool r1,.int .i64 r2,.int .u64 r3,.int .i64 jn],.bool true]) (results_cell_tmp Try.results84 _ _ (w.heap.size+1) 94 _ (0,0) _ rfl (setRow_heap _ _ _ _ 94 (0,0) R13.out) Try.underlying94 rfl (by kernel_rfl) _ rfl) rfl ?_;exact ⟨rfl,row_below HBZ.out (by omega) _⟩
  ·have hge:¬(i:Int)<(n:Int):=by omega
   obtain ⟨rfl,rfl,rfl,rfl,rfl⟩:=HQ2.out (fun j hj=>by rw [HCE.out]; exact HP.out j (by omega));clear HQ1 HQ2;go_wp2_with (refine wpList_store_row rfl 94 _ _ rfl (w.heap.size+1) _ rfl rfl 94 _ R12.out (by kernel_rfl) rfl (by simp [Value.oneCell']) ?_);refine bodyPost_ret (v:=.tuple #[.agg #[.bool false,.int .i64 0,.int .u64 0,.int .i64 0],.bool false]) (results_cell_tmp Try.results84 _ _ (w.heap.size+1) 94 _ (0,0) _ rfl (setRow_heap _ _ _ _ 94 (0,0) R12.out) Try.underlying94 rfl (by kernel_rfl) _ rfl) rfl ?_;exact ⟨rfl,row_below HBo.out (by omega) _⟩
def meetXE (d:DeskM) (thr:Int) (x:CaseM):Int × Int × (CaseM × Int):=if 0≤partI d thr x then (partI d thr x,(wat d.wait (partI d thr x).toNat).thr,sideXE (wat d.wait (partI d thr x).toNat).op x.chan (!x.send)) else (0,0,noCase,0)
def partW (p:Int × Int × (CaseM × Int)):Value:=.agg #[.int .i64 p.1,.int .i64 p.2.1,.bool p.2.2.1.send,.int .i64 p.2.2.1.chan,.int .u64 p.2.2.1.val,.int .i64 p.2.2.2]
set_option maxRecDepth 100000 in
set_option maxHeartbeats 16000000 in
theorem dmeet_any (v:Value) (d:DeskM) (thr:Int) (x:CaseM) (w:World) (h:DeskV w v d) (hd:d.ok):Calls Try.prog 55 #[v,.int .i64 thr,caseW x] w fun e w'=>e=.returned (.tuple #[partW (meetXE d thr x),.bool (decide (0≤partI d thr x))])∧Below w.heap.size w w':=by
 obtain ⟨sd,ch,vl⟩:=x;obtain ⟨vc,vw,rfl,hch,hwt⟩:=h;obtain ⟨ac,kc,rfl,-⟩:=hch.len;obtain ⟨aw,kw,rfl,-⟩:=hwt.len;have TE:=Lib.hid fun w' (hb:Below w.heap.size w w')=>dexists_any (.slice ac d.chans.length kc) d.chans ch w' (hch.below hb);have TS:=Lib.hid fun (i:Nat) (hi:i<d.wait.length) (vo:Value) w' (hb:OpV w' vo (wat d.wait i).op)=>dfind_any vo (wat d.wait i).op (!sd) ch w' hb (hd.fine i hi).len;have HWT:=Lib.hid hwt;obtain ⟨⟨m1,m2,⟨⟨m3,m4,m5⟩,m6⟩⟩,hm⟩:∃z,meetXE d thr ⟨sd,ch,vl⟩=z:=⟨_,rfl⟩;obtain ⟨mb,hmb⟩:∃z,decide (0≤partI d thr ⟨sd,ch,vl⟩)=z:=⟨_,rfl⟩;rw [hm,hmb];unfold partW caseW;dsimp only;obtain ⟨ex,hex⟩:∃z,exB d.chans ch=z:=⟨_,rfl⟩;rw [hex] at TE;have HN:Hid ((ex=false∨∀j,j<d.wait.length→isPart thr ch (!sd) (wat d.wait j)=false)→mb=false∧m1=0∧m2=0∧m3=false∧m4=0∧m5=0∧m6=0):=fun h=>by
  have e:partI d thr ⟨sd,ch,vl⟩=-1:=by
   unfold partI;rw [hex];cases ex with
   | false=>rfl
   | true=>
    rw [if_pos rfl];rcases h with h | h
    ·cases h
    ·exact fstI_none watZ h
  unfold meetXE at hm;rw [e,if_neg (by decide)] at hm;rw [e] at hmb;cases hm;exact ⟨by rw [← hmb]; rfl,rfl,rfl,rfl,rfl,rfl,rfl⟩
 have HY:Hid (ex=true→∀i,i<d.wait.length→∀y,wat d.wait i=y→isPart thr ch (!sd) y=true→(∀j,j<i→isPart thr ch (!sd) (wat d.wait j)=false)→mb=true∧m1=i∧m2=y.thr∧sideXE y.op ch (!sd)=(⟨m3,m4,m5⟩,m6)):=fun h i hi y hy h1 h2=>by
  have e:partI d thr ⟨sd,ch,vl⟩=i:=by
   unfold partI;rw [hex,h,if_pos rfl];exact fstI_hit watZ hi (by show isPart _ _ _ (wat d.wait i)=true; rw [hy]; exact h1) h2
  unfold meetXE at hm;rw [e,if_pos (by omega),Int.toNat_natCast,hy] at hm;rw [e] at hmb;simp only [Prod.mk.injEq] at hm;exact ⟨by rw [← hmb]; exact decide_eq_true (by omega),hm.1.symm,hm.2.1.symm,hm.2.2⟩
 have hnl:=hd.wl;obtain ⟨cn,hcn⟩:∃z,d.chans.length=z:=⟨_,rfl⟩;obtain ⟨wl,hwl⟩:∃z,d.wait=z:=⟨_,rfl⟩;obtain ⟨tk,htk⟩:∃z,d.tick=z:=⟨_,rfl⟩;rw [hwl] at TS HWT HN HY hnl ⊢;rw [hcn] at TE ⊢;rw [htk];clear hch hwt hd hm hmb hcn hwl htk hex;obtain ⟨W,hW,HB,R0,R1,R2,hz⟩:=three_new w (.cells #[.slice ac cn kc,.slice aw wl.length kw,.int .i64 tk] 34) (.cells #[.bool sd,.int .i64 ch,.int .u64 vl] 58) (.cells #[.int .i64 0,.int .i64 0,.bool false,.int .i64 0,.int .u64 0,.int .i64 0] 96);have HW:=Lib.hid hW;clear hW;go_enter Try.func55,Try.ntmps55;go_upto_region 1 with fail
 rw [HW.out];clear HW;obtain ⟨x0_0,x0_1,x0_2⟩:=rowc3 R0.out;obtain ⟨x1_0,x1_1,x1_2⟩:=rowc3 R1.out;go_wp2_with fail;refine (TE.out _ HB.out).mono ?_; rintro e w1 ⟨rfl,rfl⟩;cases ex with
 | false=>
  obtain ⟨rfl,rfl,rfl,rfl,rfl,rfl,rfl⟩:=HN.out (.inl rfl);clear HN HY TS TE;go_wp2_with (refine wpList_store_row rfl 96 _ _ rfl (w.heap.size+2) _ rfl rfl 96 _ R2.out (by kernel_rfl) rfl (by simp [Value.oneCell']) ?_);refine bodyPost_ret (v:=.tuple #[.agg #[.int .i64 0,.int .i64 0,.bool false,.int .i64 0,.int .u64 0,.int .i64 0],.bool false]) (results_cell_tmp Try.results55 _ _ (w.heap.size+2) 96 _ (0,0) _ rfl (setRow_heap _ _ _ _ 96 (0,0) R2.out) Try.underlying96 rfl (by kernel_rfl) _ rfl) rfl ?_;exact ⟨rfl,row_below HB.out (by omega) _⟩
 | true=>
  have HN2:=Lib.hid fun h=>HN.out (.inr h);have HY2:=Lib.hid (HY.out rfl);clear HN HY TE;go_wp2_with fail;go_loopw [22] (fun u22 wr=>∃i:Nat,u22=.int .i64 i∧i≤wl.length∧Hid (Below W.heap.size W wr)∧Hid (∀j,j<i→isPart thr ch (!sd) (wat wl j)=false)) (fun u22 _=>wl.length - (intOf u22).toNat)
  case atStart=>exact ⟨0,rfl,by omega,Below.refl _ _,fun j hj=>by omega⟩
  case round=>
   clear x0_0 x0_1 x0_2 x1_0 x1_1 x1_2;obtain ⟨i,rfl,hi,HBi,HP⟩:=hrel;obtain ⟨wo,rfl⟩:∃wo:World,wo=wr:=⟨_,rfl⟩;have R1o:=keepR HBi.out R1;have R2o:=keepR HBi.out R2;have HBo:=Lib.hid (below_then HB.out HBi.out);have hW2:w.heap.size+2<wo.heap.size:=(ltR R2o);by_cases hlt:i<wl.length
   ·have hltI:(i:Int)<(wl.length:Int):=by omega
    obtain ⟨b,off,cap,wc1,wd1,hve,hb,c0,c1,c2,c3,c4,c5,c6,c7,hsc,hsd⟩:=(HWT.out.below HBo.out).at i hlt;simp only [Value.slice.injEq] at hve;obtain ⟨rfl,-,rfl⟩:=hve;have HQ:=Lib.hid (HY2.out i hlt);have TSi:=Lib.hid (TS.out i hlt);obtain ⟨⟨tt,⟨kd,md,oc,ov,odl,cs,ds⟩⟩,hx⟩:∃x,wat wl i=x:=⟨_,rfl⟩;rw [hx] at c0 c1 c2 c3 c4 c5 hsc hsd TSi;dsimp only at c0 c1 c2 c3 c4 c5 hsc hsd;obtain ⟨a5,k5,rfl⟩:=hsc.len;obtain ⟨a6,k6,rfl,-⟩:=hsd.len;have HSC:=Lib.hid hsc;have HSD:=Lib.hid hsd;have HQ2:=Lib.hid (HQ.out _ hx);have HX:=Lib.hid hx;obtain ⟨⟨⟨g1,g2,g3⟩,g4⟩,hg⟩:∃z,sideXE ⟨kd,md,oc,ov,odl,cs,ds⟩ ch (!sd)=z:=⟨_,rfl⟩;obtain ⟨gb,hgb⟩:∃z,decide (0≤sideI ⟨kd,md,oc,ov,odl,cs,ds⟩ ch (!sd))=z:=⟨_,rfl⟩;have TT:=Lib.hid fun w' (hb:Below wo.heap.size wo w')=>TSi.out (.agg #[.int .i64 kd,.int .i64 md,.int .i64 oc,.int .u64 ov,.int .i64 odl,.slice a5 cs.length k5,.slice a6 ds.length k6]) w' ⟨_,_,rfl,HSC.out.below hb,HSD.out.below hb⟩;dsimp only at TT HQ2;rw [hg,hgb] at TT;rw [hg] at HQ2;unfold sideW at TT;dsimp only at TT;obtain ⟨q1,hq1⟩:∃z,(tt == thr)=z:=⟨_,rfl⟩;have HIS:Hid (isPart thr ch (!sd) ⟨tt,⟨kd,md,oc,ov,odl,cs,ds⟩⟩=(!q1 && gb)):=by
     show ((tt != thr) && decide (0≤sideI ⟨kd,md,oc,ov,odl,cs,ds⟩ ch (!sd)))=_;rw [hgb,← hq1];rfl
    clear hsc hsd hx TSi HQ hg hgb;obtain ⟨Wy,hWy⟩:∃Wy,(wo.alloc (.cells #[.int .i64 0,.int .i64 0,.int .i64 0,.int .i64 0,.int .u64 0,.int .i64 0,.slice none 0 0,.slice none 0 0] 66)).setRow wo.heap.size #[.int .i64 tt,.int .i64 kd,.int .i64 md,.int .i64 oc,.int .u64 ov,.int .i64 odl,.slice a5 cs.length k5,.slice a6 ds.length k6]=Wy:=⟨_,rfl⟩;have Ny:Hid ((wo.alloc (.cells #[.int .i64 0,.int .i64 0,.int .i64 0,.int .i64 0,.int .u64 0,.int .i64 0,.slice none 0 0,.slice none 0 0] 66)).heap[wo.heap.size]?=some (.cells #[.int .i64 0,.int .i64 0,.int .i64 0,.int .i64 0,.int .u64 0,.int .i64 0,.slice none 0 0,.slice none 0 0] 66 (0,0))):=heap_alloc_new _ _;have HBy:Hid (Below wo.heap.size wo Wy):=hWy▸row_below (below_new (Below.refl _ _) _) (Nat.le_refl _) _;have Ry:Hid (Wy.heap[wo.heap.size]?=some (.cells #[.int .i64 tt,.int .i64 kd,.int .i64 md,.int .i64 oc,.int .u64 ov,.int .i64 odl,.slice a5 cs.length k5,.slice a6 ds.length k6] 66 (0,0))):=hWy▸setRow_heap _ _ _ _ _ (0,0) Ny.out;have HWy:=Lib.hid hWy;clear hWy;go_upto_region 6 with (refine wpList_store_row rfl 66 _ _ rfl (wo.heap.size) _ rfl rfl 66 _ Ny.out (by kernel_rfl) rfl (by simp [Value.oneCell']) ?_)
    rw [HWy.out];try simp only [Act.put]
    clear HWy Ny;obtain ⟨Y,hY⟩:∃Y,wo.heap.size=Y:=⟨_,rfl⟩;rw [hY] at Ry;rw [hY];clear hY;have HBy2:=Lib.hid (below_then HBi.out HBy.out);have HBZ:=Lib.hid (below_then HBo.out HBy.out);have R1y:=keepR HBy.out R1o;have R2y:=keepR HBy.out R2o;obtain ⟨y0,y1,y2,y3,y4,y5,y6,y7⟩:=rowc8 Ry.out;clear c0 c1 c2 c3 c4 c5 c6 c7;cases q1 with
    | true=>
     go_wp2_with fail;go_roundw
     case rel=>exact ⟨i+1,by go_num,by omega,HBy2,fun j hj=>by
      rcases Nat.lt_or_ge j i with h | h
      ·exact HP.out j h
      ·rw [show j=i by omega,HX.out,HIS.out]; rfl⟩
     case measure=>simp [intOf]; omega
    | false=>
     obtain ⟨z0,z1,z2⟩:=rowc3 R1y.out;go_wp2_with fail;refine (TT.out _ HBy.out).mono ?_; rintro e w8 ⟨rfl,hb8⟩;have HB8:=Lib.hid (below_then HBy2.out hb8);have HBZ8:=Lib.hid (below_then HBZ.out hb8);have Ry8:=keepR hb8 Ry;have R2z:=keepR hb8 R2y;have hW8:w.heap.size+2<w8.heap.size:=(ltR R2z);clear y0 y1 y2 y3 y4 y5 y6 y7 z0 z1 z2 hb8 TT;obtain ⟨Ws,hWs⟩:∃Ws,(w8.alloc (.cells #[.bool false,.int .i64 0,.int .u64 0,.int .i64 0] 94)).setRow w8.heap.size #[.bool g1,.int .i64 g2,.int .u64 g3,.int .i64 g4]=Ws:=⟨_,rfl⟩;have Ns:Hid ((w8.alloc (.cells #[.bool false,.int .i64 0,.int .u64 0,.int .i64 0] 94)).heap[w8.heap.size]?=some (.cells #[.bool false,.int .i64 0,.int .u64 0,.int .i64 0] 94 (0,0))):=heap_alloc_new _ _;have HBs:Hid (Below w8.heap.size w8 Ws):=hWs▸row_below (below_new (Below.refl _ _) _) (Nat.le_refl _) _;have Rs:Hid (Ws.heap[w8.heap.size]?=some (.cells #[.bool g1,.int .i64 g2,.int .u64 g3,.int .i64 g4] 94 (0,0))):=hWs▸setRow_heap _ _ _ _ _ (0,0) Ns.out;have HWs:=Lib.hid hWs;clear hWs;go_upto_region 8 with (refine wpList_store_row rfl 94 _ _ rfl (w8.heap.size) _ rfl rfl 94 _ Ns.out (by kernel_rfl) rfl (by simp [Value.oneCell']) ?_)
     rw [HWs.out];try simp only [Act.put]
     clear HWs Ns;obtain ⟨S,hS⟩:∃S,w8.heap.size=S:=⟨_,rfl⟩;rw [hS] at Rs;rw [hS];clear hS;have HBs2:=Lib.hid (below_then HB8.out HBs.out);have HBZs:=Lib.hid (below_then HBZ8.out HBs.out);have Rys:=keepR HBs.out Ry8;have R2s:=keepR HBs.out R2z;cases gb with
     | false=>
      go_wp2_with fail;go_roundw
      case rel=>exact ⟨i+1,by go_num,by omega,HBs2,fun j hj=>by
       rcases Nat.lt_or_ge j i with h | h
       ·exact HP.out j h
       ·rw [show j=i by omega,HX.out,HIS.out]; rfl⟩
      case measure=>simp [intOf]; omega
     | true=>
      obtain ⟨hf1,hf2,hf3,hf4⟩:=HQ2.out HIS.out HP.out;simp only [Prod.mk.injEq,CaseM.mk.injEq] at hf4;obtain ⟨⟨rfl,rfl,rfl⟩,rfl⟩:=hf4;subst hf1;subst hf2;subst hf3;clear HN2 HY2 HQ2;obtain ⟨y0,y1,y2,y3,y4,y5,y6,y7⟩:=rowc8 Rys.out;obtain ⟨z0,z1,z2,z3⟩:=rowc4s Rs.out;go_wp2_with (refine wpList_store_row rfl 96 _ _ rfl (w.heap.size+2) _ rfl rfl 96 _ R2s.out (by kernel_rfl) rfl (by simp [Value.oneCell']) ?_);refine bodyPost_ret (v:=.tuple #[.agg #[.int .i64 (i:Int),.int .i64 m2,.bool g1,.int .i64 g2,.int .u64 g3,.int .i64 g4],.bool true]) (results_cell_tmp Try.results55 _ _ (w.heap.size+2) 96 _ (0,0) _ rfl (setRow_heap _ _ _ _ 96 (0,0) R2s.out) Try.underlying96 rfl (by kernel_rfl) _ rfl) rfl ?_;exact ⟨rfl,row_below HBZs.out (by omega) _⟩
   ·have hge:¬(i:Int)<(wl.length:Int):=by omega
    obtain ⟨rfl,rfl,rfl,rfl,rfl,rfl,rfl⟩:=HN2.out (fun j hj=>HP.out j (by omega));clear HN2 HY2;go_wp2_with (refine wpList_store_row rfl 96 _ _ rfl (w.heap.size+2) _ rfl rfl 96 _ R2o.out (by kernel_rfl) rfl (by simp [Value.oneCell']) ?_);refine bodyPost_ret (v:=.tuple #[.agg #[.int .i64 0,.int .i64 0,.bool false,.int .i64 0,.int .u64 0,.int .i64 0],.bool false]) (results_cell_tmp Try.results55 _ _ (w.heap.size+2) 96 _ (0,0) _ rfl (setRow_heap _ _ _ _ 96 (0,0) R2o.out) Try.underlying96 rfl (by kernel_rfl) _ rfl) rfl ?_;exact ⟨rfl,row_below HBo.out (by omega) _⟩
set_option maxRecDepth 100000 in
set_option maxHeartbeats 16000000 in
theorem dreadyD_any (v:Value) (d:DeskM) (thr:Int) (x:CaseM) (w:World) (h:DeskV w v d) (hd:d.ok):Calls Try.prog 27 #[v,.int .i64 thr,caseW x] w fun e w'=>e=.returned (.bool (readyD d thr x))∧Below w.heap.size w w':=by
 have TM:=Lib.hid fun w' (hb:Below w.heap.size w w')=>dmeet_any v d thr x w' (h.below hb) hd;obtain ⟨vc,vw,rfl,hch,hwt⟩:=h;obtain ⟨ac,kc,rfl,-⟩:=hch.len;obtain ⟨aw,kw,rfl,-⟩:=hwt.len;have TR:=Lib.hid fun w' (hb:Below w.heap.size w w')=>qready_any (.slice ac d.chans.length kc) d.chans x w' (hch.below hb);obtain ⟨q,hq⟩:∃z,readyD d thr x=z:=⟨_,rfl⟩;rw [hq];unfold readyD at hq;obtain ⟨q1,hq1⟩:∃z,readyB d.chans x=z:=⟨_,rfl⟩;obtain ⟨q2,hq2⟩:∃z,decide (0≤partI d thr x)=z:=⟨_,rfl⟩;rw [hq1,hq2] at hq;rw [hq1] at TR;rw [hq2] at TM;obtain ⟨⟨m1,m2,⟨⟨m3,m4,m5⟩,m6⟩⟩,hm⟩:∃z,meetXE d thr x=z:=⟨_,rfl⟩;rw [hm] at TM;obtain ⟨sd,ch,vl⟩:=x;unfold caseW partW at TM;unfold caseW at TR ⊢;dsimp only at TR TM ⊢;obtain ⟨cn,hcn⟩:∃z,d.chans.length=z:=⟨_,rfl⟩;obtain ⟨wn,hwn⟩:∃z,d.wait.length=z:=⟨_,rfl⟩;obtain ⟨tk,htk⟩:∃z,d.tick=z:=⟨_,rfl⟩;rw [hcn] at TR;rw [hcn,hwn,htk] at TM ⊢;have HQ:=Lib.hid hq;clear hch hwt hd hq hq1 hq2 hcn hwn htk hm;obtain ⟨W,hW,HB,R0,R1,hz⟩:=two_new w (.cells #[.slice ac cn kc,.slice aw wn kw,.int .i64 tk] 34) (.cells #[.bool sd,.int .i64 ch,.int .u64 vl] 58);have HW:=Lib.hid hW;clear hW;go_enter Try.func27,Try.ntmps27;go_upto_region 1 with fail
 rw [HW.out];clear HW;obtain ⟨x0_0,x0_1,x0_2⟩:=rowc3 R0.out;obtain ⟨x1_0,x1_1,x1_2⟩:=rowc3 R1.out;go_wp2_with fail;refine (TM.out _ HB.out).mono ?_; rintro e w1 ⟨rfl,hb1⟩;have HB1:=Lib.hid (below_then HB.out hb1);have R01:=keepR hb1 R0;have R11:=keepR hb1 R1;clear x0_0 x0_1 x0_2 x1_0 x1_1 x1_2 hb1 TM;obtain ⟨Wm,hWm⟩:∃Wm,(w1.alloc (.cells #[.int .i64 0,.int .i64 0,.bool false,.int .i64 0,.int .u64 0,.int .i64 0] 96)).setRow w1.heap.size #[.int .i64 m1,.int .i64 m2,.bool m3,.int .i64 m4,.int .u64 m5,.int .i64 m6]=Wm:=⟨_,rfl⟩;have Nm:Hid ((w1.alloc (.cells #[.int .i64 0,.int .i64 0,.bool false,.int .i64 0,.int .u64 0,.int .i64 0] 96)).heap[w1.heap.size]?=some (.cells #[.int .i64 0,.int .i64 0,.bool false,.int .i64 0,.int .u64 0,.int .i64 0] 96 (0,0))):=heap_alloc_new _ _;have HBm:Hid (Below w1.heap.size w1 Wm):=hWm▸row_below (below_new (Below.refl _ _) _) (Nat.le_refl _) _;have Rm:Hid (Wm.heap[w1.heap.size]?=some (.cells #[.int .i64 m1,.int .i64 m2,.bool m3,.int .i64 m4,.int .u64 m5,.int .i64 m6] 96 (0,0))):=hWm▸setRow_heap _ _ _ _ _ (0,0) Nm.out;have HWm:=Lib.hid hWm;clear hWm;go_upto_region 2 with (refine wpList_store_row rfl 96 _ _ rfl (w1.heap.size) _ rfl rfl 96 _ Nm.out (by kernel_rfl) rfl (by simp [Value.oneCell']) ?_)
 rw [HWm.out];try simp only [Act.put]
 clear HWm Nm;obtain ⟨M,hM⟩:∃M,w1.heap.size=M:=⟨_,rfl⟩;rw [hM] at Rm;rw [hM];clear hM;have HB2:=Lib.hid (below_then HB1.out HBm.out);have R02:=keepR HBm.out R01;have R12:=keepR HBm.out R11;obtain ⟨x0,x1,x2⟩:=rowc3 R02.out;obtain ⟨y0,y1,y2⟩:=rowc3 R12.out;cases q2 with
 | true=>
  have HF:Hid (q=true):=by show _=_; rw [← HQ.out,Bool.or_true]
  go_wp2_with fail;go_ret;exact ⟨by rw [HF.out]; rfl,HB2.out⟩
 | false=>
  have HF:Hid (q=q1):=by show _=_; rw [← HQ.out,Bool.or_false]
  go_wp2_with fail;refine (TR.out _ HB2.out).mono ?_; rintro e w2 ⟨rfl,hb2b⟩;have HB3:=Lib.hid (below_then HB2.out hb2b);clear x0 x1 x2 y0 y1 y2 hb2b TR;cases q1 with
  | true=>
   go_wp2_with fail;go_ret;exact ⟨by rw [HF.out]; rfl,HB3.out⟩
  | false=>
   go_wp2_with fail;go_ret;exact ⟨by rw [HF.out]; rfl,HB3.out⟩
set_option maxRecDepth 100000 in
set_option maxHeartbeats 16000000 in
theorem dchoice_any (v vo:Value) (d:DeskM) (thr:Int) (op:OpM) (w:World) (h:DeskV w v d) (hd:d.ok) (ho:OpV w vo op):Calls Try.prog 29 #[v,.int .i64 thr,vo] w fun e w'=>e=.returned (.int .i64 (choiceD d thr op))∧Below w.heap.size w w':=by
 have TO:=Lib.hid fun w' (hb:Below w.heap.size w w')=>ownOrder_any vo op w' (ho.below hb);have TR:=Lib.hid fun x w' (hb:Below w.heap.size w w')=>dreadyD_any v d thr x w' (h.below hb) hd;obtain ⟨vc,vw,rfl,hch,hwt⟩:=h;obtain ⟨ac,kc,rfl,-⟩:=hch.len;obtain ⟨aw,kw,rfl,-⟩:=hwt.len;obtain ⟨ol,hol⟩:∃z,ordL op.cases.length op.draws=z:=⟨_,rfl⟩;obtain ⟨q,hq⟩:∃z,choiceD d thr op=z:=⟨_,rfl⟩;rw [hq];have HQ1:Hid (∀k,k<ol.length→readyD d thr (op.cases.getD (ol.getD k 0).toNat noCase)=true→(∀j,j<k→readyD d thr (op.cases.getD (ol.getD j 0).toNat noCase)=false)→q=ol.getD k 0):=fun k hk h1 h2=>by rw [← hq]; unfold choiceD; rw [hol]; exact choiceL_hit hk h1 h2
 have HQ2:Hid ((∀j,j<ol.length→readyD d thr (op.cases.getD (ol.getD j 0).toNat noCase)=false)→q=-1):=fun h=>by rw [← hq]; unfold choiceD; rw [hol]; exact choiceL_none h
 have HOM:Hid (∀k,k<ol.length→0≤ol.getD k 0∧ol.getD k 0<(op.cases.length:Int)):=fun k hk=>ordL_mem _ op.draws _ (by rw [hol,getD_lt hk]; exact List.getElem_mem hk);have hoL:ol.length≤20:=by rw [← hol]; exact ordL_length _ _
 rw [hol] at TO;obtain ⟨vc,vd,rfl,hc,hdr⟩:=ho;obtain ⟨kd,md,oc,vl,dl,cs,ds⟩:=op;dsimp only at *;have HCS:=Lib.hid hc;obtain ⟨a3,cap3,rfl⟩:=hc.len;obtain ⟨a4,cap4,rfl,-⟩:=hdr.len;obtain ⟨cn,hcn⟩:∃z,d.chans.length=z:=⟨_,rfl⟩;obtain ⟨wn,hwn⟩:∃z,d.wait.length=z:=⟨_,rfl⟩;obtain ⟨tk,htk⟩:∃z,d.tick=z:=⟨_,rfl⟩;rw [hcn,hwn,htk] at TR ⊢;clear hch hwt hd hq hcn hwn htk hc hdr hol;obtain ⟨W,hW,HB,R0,R1,hz⟩:=two_new w (.cells #[.slice ac cn kc,.slice aw wn kw,.int .i64 tk] 34) (.cells #[.int .i64 kd,.int .i64 md,.int .i64 oc,.int .u64 vl,.int .i64 dl,.slice a3 cs.length cap3,.slice a4 ds.length cap4] 44);have HW:=Lib.hid hW;clear hW;go_enter Try.func29,Try.ntmps29;go_upto_region 1 with fail
 rw [HW.out];clear HW;obtain ⟨x0_0,x0_1,x0_2⟩:=rowc3 R0.out;obtain ⟨x1_0,x1_1,x1_2,x1_3,x1_4,x1_5,x1_6⟩:=rowc7 R1.out;go_wp2_with fail;refine (TO.out _ HB.out).mono ?_; rintro e w1 ⟨u,rfl,hsu,hb1⟩;have HSU:=Lib.hid hsu;have HB1:=Lib.hid (below_then HB.out hb1);have R01:=keepR hb1 R0;have R11:=keepR hb1 R1;obtain ⟨au,ku,rfl,-⟩:=hsu.len;clear x0_0 x0_1 x0_2 x1_0 x1_1 x1_2 x1_3 x1_4 x1_5 x1_6 hb1 TO hsu R0 R1 HB hz;go_wp2_with fail;go_loopw [12] (fun u8 wr=>∃k:Nat,u8=.int .i64 k∧k≤ol.length∧Hid (Below w1.heap.size w1 wr)∧Hid (∀j,j<k→readyD d thr (cs.getD (ol.getD j 0).toNat noCase)=false)) (fun u8 _=>ol.length - (intOf u8).toNat)
 case atStart=>exact ⟨0,rfl,by omega,Below.refl _ _,fun j hj=>by omega⟩
 case round=>
  obtain ⟨k,rfl,hk,HBk,HP⟩:=hrel;obtain ⟨wo,rfl⟩:∃wo:World,wo=wr:=⟨_,rfl⟩;have R02:=keepR HBk.out R01;have R12:=keepR HBk.out R11;have HBo:=Lib.hid (below_then HB1.out HBk.out);obtain ⟨x0,x1,x2⟩:=rowc3 R02.out;obtain ⟨y0,y1,y2,y3,y4,y5,y6⟩:=rowc7 R12.out;by_cases hlt:k<ol.length
  ·have hltI:(k:Int)<(ol.length:Int):=by omega
   obtain ⟨-,-,a5,cp5,hve,-,hoc⟩:=HSU.out.below HBk.out;simp only [Value.slice.injEq,true_and] at hve;obtain ⟨rfl,rfl⟩:=hve;obtain ⟨b,off,rfl,hb,c0⟩:=hoc k hlt;obtain ⟨z,hz⟩:∃z,ol.getD k 0=z:=⟨_,rfl⟩;have hzr:=HOM.out k hlt;have HQ:=Lib.hid (HQ1.out k hlt);rw [hz] at c0 hzr HQ;have HZ:=Lib.hid hz;obtain ⟨i,rfl⟩:∃i:Nat,z=i:=⟨z.toNat,by omega⟩;have hil:i<cs.length:=by omega
   rw [Int.toNat_natCast] at HQ;obtain ⟨-,-,a6,cp6,hve,-,hcc⟩:=HCS.out.below HBo.out;simp only [Value.slice.injEq,true_and] at hve;obtain ⟨rfl,rfl⟩:=hve;obtain ⟨b2,off2,rfl,hb2,hca⟩:=hcc i hil;obtain ⟨⟨s1,s2,s3⟩,hx⟩:∃x,cs.getD i noCase=x:=⟨_,rfl⟩;rw [hx] at hca HQ;obtain ⟨d0,d1,d2⟩:=hca;dsimp only at d0 d1 d2;have HX:=Lib.hid hx;have hiI:(i:Int)<(cs.length:Int):=by omega
   obtain ⟨r,hr⟩:∃z,readyD d thr ⟨s1,s2,s3⟩=z:=⟨_,rfl⟩;have TT:=Lib.hid fun w' (hb:Below w.heap.size w w')=>TR.out ⟨s1,s2,s3⟩ w' hb;unfold caseW at TT;dsimp only at TT;rw [hr] at TT HQ;have HR:=Lib.hid hr;have hW0:w.heap.size<wo.heap.size:=(ltR R02);have hW1:w.heap.size+1<wo.heap.size:=(ltR R12);clear hz hx hr hoc hcc;go_upto_region 4 with fail
   have Xx0:=ext_cell _ _ (hW0) _ x0;have Xx1:=ext_cell _ _ (hW0) _ x1;have Xx2:=ext_cell _ _ (hW0) _ x2;have Xy5:=ext_cell _ _ (hW1) _ y5;have Xc0:=ext_cell _ _ (hb) _ c0;have Xd0:=ext_cell _ _ (hb2) _ d0;have Xd1:=ext_cell _ _ (hb2) _ d1;have Xd2:=ext_cell _ _ (hb2) _ d2;clear x0 x1 x2 y5 c0 d0 d1 d2;refine wp_region_ext wo (by kernel_rfl) (by kernel_rfl) (Below.refl _ _) ?_
   repeat (go_big_quiet_step (first | (go_at_call 27; with_reducible exact calls_ext (TT.out _ (below_then HBo.out (Ext.below _))))))
   refine wpQuiet_nil ?_;intro _ hw';obtain ⟨n9,rfl⟩:=hw';have HB9:=Lib.hid (below_then HBk.out n9.below);have c0:=Xc0 n9;generalize n9.wd=w9 at *;clear Xx0 Xx1 Xx2 Xy5 Xc0 Xd0 Xd1 Xd2;cases r with
   | false=>
    go_wp2_with fail;go_roundw
    case rel=>exact ⟨k+1,by go_num,by omega,HB9,fun j hj=>by
     rcases Nat.lt_or_ge j k with h | h
     ·exact HP.out j h
     ·rw [show j=k by omega,HZ.out,Int.toNat_natCast,HX.out]; exact HR.out⟩
    case measure=>simp [intOf]; omega
   | true=>
    have HF:=Lib.hid (HQ.out rfl HP.out);clear HQ1 HQ2 HQ;go_wp2_with fail;go_ret;exact ⟨by rw [HF.out]; rfl,below_then HB1.out HB9.out⟩
  ·have hge:¬(k:Int)<(ol.length:Int):=by omega
   have HF:=Lib.hid (HQ2.out (fun j hj=>HP.out j (by omega)));clear HQ1 HQ2;go_wp2_with fail;go_ret;exact ⟨by rw [HF.out]; rfl,HBo.out⟩
set_option maxRecDepth 100000 in
set_option maxHeartbeats 16000000 in
theorem pcount_any (v vo:Value) (d:DeskM) (op:OpM) (w:World) (h:SlH w v d.chans) (ho:OpV w vo op) (hk:op.kind=5∨op.kind=6):Calls Try.prog 51 #[v,vo] w fun e w'=>e=.returned (.agg #[.int .i64 7,.int .i64 (-1),.int .u64 0,.bool false,.int .i64 (cntN d op)])∧Below w.heap.size w w':=by
 have TE:=Lib.hid fun n w' (hb:Below w.heap.size w w')=>dexists_any v d.chans n w' (h.below hb);have HS:=Lib.hid h;obtain ⟨q,hq⟩:∃z,cntN d op=z:=⟨_,rfl⟩;have HQ:=Lib.hid hq;rw [hq];obtain ⟨ac,kc,rfl,-⟩:=h.len;obtain ⟨cn,hcn⟩:∃z,d.chans.length=z:=⟨_,rfl⟩;have HCN:=Lib.hid hcn;rw [hcn] at TE ⊢;obtain ⟨vcs,vds,rfl,hcs,hds⟩:=ho;obtain ⟨kd,md,oc,ov,odl,cs,ds⟩:=op;dsimp only at *;obtain ⟨a3,cap3,rfl⟩:=hcs.len;obtain ⟨a4,cap4,rfl,-⟩:=hds.len;clear h hq hcs hds hcn;obtain ⟨W,hW,HB,R0,R1,hz⟩:=two_new w (.cells #[.int .i64 kd,.int .i64 md,.int .i64 oc,.int .u64 ov,.int .i64 odl,.slice a3 cs.length cap3,.slice a4 ds.length cap4] 44) (.cells #[.int .i64 0,.int .i64 0,.int .u64 0,.bool false,.int .i64 0] 73);have HW:=Lib.hid hW;clear hW;go_enter Try.func51,Try.ntmps51;go_upto_region 1 with fail
 rw [HW.out];clear HW;obtain ⟨x0_0,x0_1,x0_2,x0_3,x0_4,x0_5,x0_6⟩:=rowc7 R0.out;obtain ⟨Wr,hWr⟩:∃Wr,(W.alloc (.cells #[.int .i64 0,.int .i64 0,.int .u64 0,.bool false,.int .i64 0] 73)).setRow W.heap.size #[.int .i64 7,.int .i64 (-1),.int .u64 0,.bool false,.int .i64 0]=Wr:=⟨_,rfl⟩;have Nr:Hid ((W.alloc (.cells #[.int .i64 0,.int .i64 0,.int .u64 0,.bool false,.int .i64 0] 73)).heap[W.heap.size]?=some (.cells #[.int .i64 0,.int .i64 0,.int .u64 0,.bool false,.int .i64 0] 73 (0,0))):=heap_alloc_new _ _;have HBr:Hid (Below W.heap.size W Wr):=hWr▸row_below (below_new (Below.refl _ _) _) (Nat.le_refl _) _;have Rr:Hid (Wr.heap[W.heap.size]?=some (.cells #[.int .i64 7,.int .i64 (-1),.int .u64 0,.bool false,.int .i64 0] 73 (0,0))):=hWr▸setRow_heap _ _ _ _ _ (0,0) Nr.out;have HWr:=Lib.hid hWr;clear hWr;go_upto_region 3 with (refine wpList_store_row rfl 73 _ _ rfl (W.heap.size) _ rfl rfl 73 _ Nr.out (by kernel_rfl) rfl (by simp [Value.oneCell']) ?_)
 rw [HWr.out];try simp only [Act.put]
 clear HWr Nr;obtain ⟨R,hR⟩:∃R,W.heap.size=R:=⟨_,rfl⟩;rw [hR] at Rr;rw [hR];have hRp:W.heap.size=R:=hR;clear hR;have HBR:=Lib.hid (below_then HB.out HBr.out);have R04:=Lib.hid (row_below3 HBr.out R0.out);have R14:=Lib.hid (row_below3 HBr.out R1.out);clear x0_0 x0_1 x0_2 x0_3 x0_4 x0_5 x0_6;obtain ⟨x0,x1,x2,x3,x4,x5,x6⟩:=rowc7 R04.out;go_wp2_with fail;refine (TE.out _ _ HBR.out).mono ?_; rintro e w4 ⟨rfl,rfl⟩;cases he:exB d.chans oc with
 | true=>
  have he2:=he;unfold exB at he2;simp only [Bool.and_eq_true,decide_eq_true_eq] at he2;obtain ⟨n,hn⟩:∃n:Nat,oc=(n:Int):=⟨oc.toNat,by omega⟩;subst hn;have hil:n<d.chans.length:=by omega
  have hiI:(n:Int)<(cn:Int):=by rw [← HCN.out]; omega
  obtain ⟨b,off,cap,u,hve,hbl,c0,c1,-,hsu,-⟩:=(HS.out.below HBR.out).at2 n hil;rw [HCN.out] at hve;simp only [Value.slice.injEq] at hve;obtain ⟨rfl,-,rfl⟩:=hve;obtain ⟨⟨cc,bf,clo⟩,hc⟩:∃z,d.chans.getD n noChan=z:=⟨_,rfl⟩;have hq2:q=if kd=6 then cc else (bf.length:Int):=by
   rw [← HQ.out];unfold cntN;rw [if_pos (by exact he)];show (if kd=6 then (d.chans.getD n noChan).cap else ((d.chans.getD n noChan).buf.length:Int))=_;rw [hc]
  rw [hc] at c0 hsu;dsimp only at c0 hsu;obtain ⟨up,uc,rfl,-⟩:=hsu.len;clear he he2 hsu hc HQ;rcases hk with hk | hk
  ·have hqq:Hid ((bf.length:Int)=q):=by show _=_; rw [hq2,if_neg (by omega)]
   clear hq2;subst hk;obtain ⟨r0,r1,r2,r3,r4⟩:=rowc5s Rr.out;have ff:=frozen_of_row Wr R 4 _ _ Rr.out;go_upto_region 6 with fail
   rw [hqq.out];obtain ⟨W5,hW5⟩:∃W5,Wr.setCell ⟨R,4,none⟩ (.int .i64 q)=W5:=⟨_,rfl⟩;have HGW5:Hid (Wr.grownBy W5 (some R)):=by rw [← hW5]; exact (grownBy_setCell Wr ⟨R,4,none⟩ (.int .i64 q))
   have RR5:Hid (W5.heap[R]?=some (.cells #[.int .i64 7,.int .i64 (-1),.int .u64 0,.bool false,.int .i64 q] 73 (0,0))):=by
    rw [← hW5];have r1:=(heap_setCell_same Wr R 4 _ _ (.int .i64 q) Rr.out);simp at r1;exact r1
   rw [hW5];clear hW5;clear r0 r1 r2 r3 r4 ff;have R15:=Lib.hid (row_keepD HGW5.out R14.out (by omega));have HB5:=Lib.hid (below_grown HBR.out HGW5.out (by omega));obtain ⟨r0,r1,r2,r3,r4⟩:=rowc5s RR5.out;go_wp2_with (refine wpList_store_row rfl 73 _ _ rfl (w.heap.size+1) _ rfl rfl 73 _ R15.out (by kernel_rfl) rfl (by simp [Value.oneCell']) ?_);refine bodyPost_ret (v:=.agg #[.int .i64 7,.int .i64 (-1),.int .u64 0,.bool false,.int .i64 q]) (results_cell_row Try.results51 _ _ (w.heap.size+1) 73 _ (0,0) _ rfl (setRow_heap _ _ _ _ 73 (0,0) R15.out) Try.underlying73 rfl (by kernel_rfl)) rfl ?_;exact ⟨rfl,row_below HB5.out (show w.heap.size≤w.heap.size+1 by omega) _⟩
  ·have hqq:Hid (cc=q):=by show _=_; rw [hq2,if_pos (by omega)]
   clear hq2;subst hk;obtain ⟨r0,r1,r2,r3,r4⟩:=rowc5s Rr.out;have ff:=frozen_of_row Wr R 4 _ _ Rr.out;go_upto_region 6 with fail
   rw [hqq.out];obtain ⟨W5,hW5⟩:∃W5,Wr.setCell ⟨R,4,none⟩ (.int .i64 q)=W5:=⟨_,rfl⟩;have HGW5:Hid (Wr.grownBy W5 (some R)):=by rw [← hW5]; exact (grownBy_setCell Wr ⟨R,4,none⟩ (.int .i64 q))
   have RR5:Hid (W5.heap[R]?=some (.cells #[.int .i64 7,.int .i64 (-1),.int .u64 0,.bool false,.int .i64 q] 73 (0,0))):=by
    rw [← hW5];have r1:=(heap_setCell_same Wr R 4 _ _ (.int .i64 q) Rr.out);simp at r1;exact r1
   rw [hW5];clear hW5;clear r0 r1 r2 r3 r4 ff;have R15:=Lib.hid (row_keepD HGW5.out R14.out (by omega));have HB5:=Lib.hid (below_grown HBR.out HGW5.out (by omega));obtain ⟨r0,r1,r2,r3,r4⟩:=rowc5s RR5.out;go_wp2_with (refine wpList_store_row rfl 73 _ _ rfl (w.heap.size+1) _ rfl rfl 73 _ R15.out (by kernel_rfl) rfl (by simp [Value.oneCell']) ?_);refine bodyPost_ret (v:=.agg #[.int .i64 7,.int .i64 (-1),.int .u64 0,.bool false,.int .i64 q]) (results_cell_row Try.results51 _ _ (w.heap.size+1) 73 _ (0,0) _ rfl (setRow_heap _ _ _ _ 73 (0,0) R15.out) Try.underlying73 rfl (by kernel_rfl)) rfl ?_;exact ⟨rfl,row_below HB5.out (show w.heap.size≤w.heap.size+1 by omega) _⟩
 | false=>
  have hq0:(0:Int)=q:=by
   rw [← HQ.out];unfold cntN;rw [if_neg (by rw [he]; decide)]
  subst hq0;have R15:=R14;have HB5:=HBR;clear he;obtain ⟨r0,r1,r2,r3,r4⟩:=rowc5s Rr.out;go_wp2_with (refine wpList_store_row rfl 73 _ _ rfl (w.heap.size+1) _ rfl rfl 73 _ R15.out (by kernel_rfl) rfl (by simp [Value.oneCell']) ?_);refine bodyPost_ret (v:=.agg #[.int .i64 7,.int .i64 (-1),.int .u64 0,.bool false,.int .i64 0]) (results_cell_row Try.results51 _ _ (w.heap.size+1) 73 _ (0,0) _ rfl (setRow_heap _ _ _ _ 73 (0,0) R15.out) Try.underlying73 rfl (by kernel_rfl)) rfl ?_;exact ⟨rfl,row_below HB5.out (show w.heap.size≤w.heap.size+1 by omega) _⟩
set_option maxRecDepth 100000 in
set_option maxHeartbeats 16000000 in
theorem isNaN_int (x:Int) (w:World):Calls Try.prog 98 #[.int .i64 x] w fun e w'=>e=.returned (.bool false)∧w=w':=by
 go_enter Try.func98,Try.ntmps98;go_wp2_with fail;exact bodyPost_ret (v:=.bool false) (by simp [results,Try.results98,go_sem]) rfl ⟨rfl,rfl⟩
def cmpE (x y:Int):Int:=if x<y then -1 else if x > y then 1 else 0
set_option maxRecDepth 100000 in
set_option maxHeartbeats 16000000 in
theorem cmp_int (x y:Int) (w:World):Calls Try.prog 78 #[.int .i64 x,.int .i64 y] w fun e w'=>e=.returned (.int .i64 (cmpE x y))∧w=w':=by
 obtain ⟨q,hq⟩:∃z,cmpE x y=z:=⟨_,rfl⟩;have HQ:=Lib.hid hq;rw [hq];clear hq;go_enter Try.func78,Try.ntmps78;go_wp2_with fail;refine (isNaN_int x w).mono ?_; rintro e w1 ⟨rfl,rfl⟩;go_wp2_with fail;refine (isNaN_int y w).mono ?_; rintro e w1 ⟨rfl,rfl⟩;by_cases h1:x<y
 ·have hq:q=-1:=by rw [← HQ.out]; unfold cmpE; rw [if_pos h1]
  subst hq;go_wp2_with fail;exact bodyPost_ret (v:=.int .i64 (-1)) (by simp [results,Try.results78,go_sem]) rfl ⟨rfl,rfl⟩
 ·by_cases h2:x > y
  ·have hq:q=1:=by rw [← HQ.out]; unfold cmpE; rw [if_neg h1,if_pos h2]
   subst hq;go_wp2_with fail;exact bodyPost_ret (v:=.int .i64 1) (by simp [results,Try.results78,go_sem]) rfl ⟨rfl,rfl⟩
  ·have hq:q=0:=by rw [← HQ.out]; unfold cmpE; rw [if_neg h1,if_neg h2]
   subst hq;go_wp2_with fail;exact bodyPost_ret (v:=.int .i64 0) (by simp [results,Try.results78,go_sem]) rfl ⟨rfl,rfl⟩
set_option maxRecDepth 100000 in
set_option maxHeartbeats 16000000 in
theorem with1_any (x t k1 k2 k3 k5:Int) (k4:Bool) (w:World):Calls Try.prog 77 #[.agg #[.int .i64 x,.int .i64 k1,.int .i64 k2,.int .u64 k3,.bool k4,.int .i64 k5],.int .i64 t] w fun e w'=>e=.returned (.int .i64 (cmpE x t))∧Below w.heap.size w w':=by
 obtain ⟨q,hq⟩:∃z,cmpE x t=z:=⟨_,rfl⟩;have TC:=Lib.hid fun w'=>cmp_int x t w';rw [hq] at TC ⊢;clear hq;obtain ⟨W,hW,HB,R0,hz⟩:=one_new w (.cells #[.int .i64 x,.int .i64 k1,.int .i64 k2,.int .u64 k3,.bool k4,.int .i64 k5] 75);have HW:=Lib.hid hW;clear hW;go_enter Try.func77,Try.ntmps77;go_upto_region 1 with fail
 rw [HW.out];clear HW;obtain ⟨x0_0,x0_1,x0_2,x0_3,x0_4,x0_5⟩:=rowc6s R0.out;go_wp2_with fail;refine (TC.out _).mono ?_; rintro e w1 ⟨rfl,rfl⟩;go_wp2_with fail;exact bodyPost_ret (v:=.int .i64 q) (by simp [results,Try.results77,go_sem]) rfl ⟨rfl,HB.out⟩
end Go.Proofs.Ytiekicailidhcaa
