import Derived.Deep.QuietTactic
import Derived.BigQuiet
import Derived.Deep.DeepCutAuto
import Derived.Deep.CutBlock
import Derived.Test.YtiekicailidhcaaRows
import Derived.Laws.BitsAllLaws
import Derived.LoopTactic
import Derived.RegionTactic
import Derived.BigRegion
import Derived.Test.YtiekicailidhcaaB01
set_option linter.unusedVariables false
set_option linter.unusedSimpArgs false
namespace Go.Proofs.Ytiekicailidhcaa
open Go.ChangeShapes Go.WideShapes Go.ChangeAt Go.RowKit
set_option maxRecDepth 100000
structure Ext (W:World) where
 wd:World
 below:Below W.heap.size W wd
instance (W:World):Nonempty (Ext W):=⟨⟨W,Below.refl _ _⟩⟩
theorem wp_region_ext {P:Program} {id:Nat} {Q:Exit→Act→World→Prop} {a:Act} {w:World} {l:List Oper} (W:World) (hm:P.follows .mixedOrders=true) (hB:Region.lexB .any l.toArray=true) (hW:Below W.heap.size W w)
  (h:wpQuiet P l.toArray (fun w'=>∃n:Ext W,w'=n.wd) (fun a'=>∀w',(∃n:Ext W,w'=n.wd)→Q .normal a' w') l a):(Code.region id l.toArray true).wp P Q a w:=
 wp_region_quiet (C:=fun w'=>∃n:Ext W,w'=n.wd) hm hB ⟨⟨_,below_drewN hW 1⟩,rfl⟩ (by simpa using h)
theorem calls_ext {P:Program} {f:FuncId} {args:Array Value} {W:World} {n:Ext W} {v:Value}
  (h:Calls P f args n.wd fun e w'=>e=.returned v∧Below n.wd.heap.size n.wd w'):Calls P f args n.wd fun e w''=>e=.returned v∧∃m:Ext W,w''=m.wd:=
 h.mono fun _ w' ⟨he,hm⟩=>⟨he,⟨w',below_then n.below hm⟩,rfl⟩
theorem calls_ext_draw {P:Program} {f:FuncId} {args:Array Value} {W:World} {n:Ext W} {v:Value}
  (h:Calls P f args n.wd fun e w'=>e=.returned v∧∃m,n.wd.drewN m=w'):Calls P f args n.wd fun e w''=>e=.returned v∧∃m:Ext W,w''=m.wd:=
 h.mono fun _ w' ⟨he,m,hm⟩=>⟨he,⟨w',hm▸below_drewN n.below m⟩,rfl⟩
theorem ext_cell {W:World} (b o:Nat) (h:b<W.heap.size) (v:Value) (hc:W.cell? ⟨b,o,none⟩=some v) (n:Ext W):n.wd.cell? ⟨b,o,none⟩=some v:=(n.below.cell (p:=⟨b,o,none⟩) h).trans hc
theorem one_new (w:World) (a:Obj):∃W,w.alloc a=W∧Hid (Below w.heap.size w W)∧Hid (W.heap[w.heap.size]?=some a)∧w.heap.size+1=W.heap.size:=
 ⟨_,rfl,below_new (Below.refl w.heap.size w) _,heap_alloc_new _ _,by simp⟩
theorem two_new (w:World) (a b:Obj):∃W,(w.alloc a).alloc b=W∧Hid (Below w.heap.size w W)∧Hid (W.heap[w.heap.size]?=some a)∧Hid (W.heap[w.heap.size+1]?=some b)∧w.heap.size+2=W.heap.size:=
 ⟨_,rfl,below_new (below_new (Below.refl w.heap.size w) _) _,heap_alloc2_old _ _ _,heap_alloc2_new _ _ _,by simp⟩
theorem three_new (w:World) (a b c:Obj):∃W,((w.alloc a).alloc b).alloc c=W∧Hid (Below w.heap.size w W)∧Hid (W.heap[w.heap.size]?=some a)∧Hid (W.heap[w.heap.size+1]?=some b)∧Hid (W.heap[w.heap.size+2]?=some c)∧w.heap.size+3=W.heap.size:=by
 refine ⟨_,rfl,below_new (below_new (below_new (Below.refl w.heap.size w) _) _) _,Lib.hid ?_,Lib.hid ?_,Lib.hid ?_,by simp⟩
 ·rw [heap_alloc_old _ _ (by simp <;> omega),heap_alloc_old _ _ (by simp <;> omega),heap_alloc_new]
 ·rw [heap_alloc_old _ _ (by simp <;> omega)]
  simpa using heap_alloc_new (w.alloc a) b
 ·simpa using heap_alloc_new ((w.alloc a).alloc b) c
theorem rowc7 {w:World} {g:Nat} {T:TypeId} {v0 v1 v2 v3 v4 v5 v6:Value} (h:w.heap[g]?=some (.cells #[v0,v1,v2,v3,v4,v5,v6] T (0,0))):w.cell? ⟨g,0,none⟩=some v0∧w.cell? ⟨g,1,none⟩=some v1∧w.cell? ⟨g,2,none⟩=some v2∧w.cell? ⟨g,3,none⟩=some v3∧w.cell? ⟨g,4,none⟩=some v4∧w.cell? ⟨g,5,none⟩=some v5∧w.cell? ⟨g,6,none⟩=some v6:=
 ⟨cell_of_row _ _ 0 _ _ _ h,cell_of_row _ _ 1 _ _ _ h,cell_of_row _ _ 2 _ _ _ h,cell_of_row _ _ 3 _ _ _ h,cell_of_row _ _ 4 _ _ _ h,cell_of_row _ _ 5 _ _ _ h,cell_of_row _ _ 6 _ _ _ h⟩
def resW (r:ResM):Value:=.agg #[.int .i64 r.kind,.int .i64 r.case,.int .u64 r.val,.bool r.ok,.int .i64 r.num]
set_option maxRecDepth 100000 in
set_option maxHeartbeats 16000000 in
theorem mexists_any (v:Value) (l:List ChanM) (n:Int) (w:World) (hv:SlH w v l):Calls Try.prog 86 #[v,.int .i64 n] w fun e w'=>e=.returned (.bool (exB l n))∧w=w':=by
 have hb:=hv.bound;obtain ⟨a,cap,rfl,-⟩:=hv.len;clear hv;by_cases h0:0≤n
 ·by_cases h1:n<(l.length:Int)
  ·have hh:exB l n=true:=by unfold exB; simp [h0,h1]
   rw [hh];clear hh;go_enter Try.func86,Try.ntmps86;go_wp2;go_ret;exact ⟨rfl,rfl⟩
  ·have hq:decide (n<(l.length:Int))=false:=decide_eq_false h1
   have hh:exB l n=false:=by unfold exB; rw [hq]; simp
   rw [hh];clear hh h1;go_enter Try.func86,Try.ntmps86;go_wp2;go_ret;exact ⟨rfl,rfl⟩
 ·have hq:decide (0≤n)=false:=decide_eq_false h0
  have hq2:decide (n ≥ 0)=false:=decide_eq_false h0;have hh:exB l n=false:=by unfold exB; rw [hq]; rfl
  rw [hh];clear hh h0;go_enter Try.func86,Try.ntmps86;go_wp2;go_ret;exact ⟨rfl,rfl⟩
set_option maxRecDepth 100000 in
set_option maxHeartbeats 16000000 in
theorem mready_any (v:Value) (l:List ChanM) (x:CaseM) (w:World) (hv:SlH w v l):Calls Try.prog 57 #[v,caseW x] w fun e w'=>e=.returned (.bool (readyB l x))∧Below w.heap.size w w':=by
 have HV:=Lib.hid hv;have TE:=Lib.hid fun w' (hb:Below w.heap.size w w')=>mexists_any v l x.chan w' (hv.below hb);obtain ⟨rb,hrb⟩:∃b,readyB l x=b:=⟨_,rfl⟩;rw [hrb];unfold readyB at hrb;obtain ⟨sd,ch,vl⟩:=x;dsimp only at hrb TE;unfold caseW;try dsimp only
 have HRB:=Lib.hid hrb;obtain ⟨ex,hex⟩:∃b,exB l ch=b:=⟨_,rfl⟩;rw [hex] at TE HRB;have HEX:=Lib.hid hex;obtain ⟨a,cap,hve,-⟩:=hv.len;subst hve;clear hv hrb hex;obtain ⟨W,hW,HB,R0,hz⟩:=one_new w (.cells #[.bool sd,.int .i64 ch,.int .u64 vl] 58);have HW:=Lib.hid hW;clear hW;go_enter Try.func57,Try.ntmps57;go_upto_region 1 with fail
 rw [HW.out];clear HW;obtain ⟨x0_0,x0_1,x0_2⟩:=rowc3 R0.out;go_wp2_with fail;refine (TE.out _ HB.out).mono ?_; rintro e w' ⟨rfl,rfl⟩;cases ex with
 | false=>
  have hr:rb=false:=by rw [← HRB.out]; rfl
  subst hr;go_wp2;go_ret;exact ⟨rfl,HB.out⟩
 | true=>
  have hx:=HEX.out;unfold exB at hx;simp only [Bool.and_eq_true,decide_eq_true_eq] at hx;obtain ⟨i,hi⟩:∃i:Nat,ch=(i:Int):=⟨ch.toNat,by omega⟩;have hil:i<l.length:=by omega
  have hiI:(i:Int)<(l.length:Int):=by omega
  have hce:chE l ch=l.getD i noChan:=by unfold chE; rw [hi]; rfl
  rw [hce] at HRB;have HV2:=HV.out.below HB.out;obtain ⟨b,off,cap',u,hve,hb,c0,c1,c2,hu⟩:=HV2.at i hil;simp only [Value.slice.injEq] at hve;obtain ⟨rfl,-,rfl⟩:=hve;obtain ⟨⟨cc,bf,cl⟩,hcc⟩:∃c,l.getD i noChan=c:=⟨_,rfl⟩;rw [hcc] at c0 c2 hu HRB;dsimp only at c0 c2 hu HRB;have hbl:=hu.1;obtain ⟨ua,uc,rfl,-⟩:=hu.len;rw [hi] at x0_1 ⊢;clear hx hce hcc hi HEX HV HV2 TE;obtain ⟨Wx,hWx⟩:∃Wx,(W.alloc (.cells #[.int .i64 0,.slice none 0 0,.bool false] 63)).setRow W.heap.size #[.int .i64 cc,.slice ua bf.length uc,.bool cl]=Wx:=⟨_,rfl⟩;have Nx:Hid ((W.alloc (.cells #[.int .i64 0,.slice none 0 0,.bool false] 63)).heap[W.heap.size]?=some (.cells #[.int .i64 0,.slice none 0 0,.bool false] 63 (0,0))):=heap_alloc_new _ _;have HBx:Hid (Below W.heap.size W Wx):=hWx▸row_below (below_new (Below.refl _ _) _) (Nat.le_refl _) _;have Rx:Hid (Wx.heap[W.heap.size]?=some (.cells #[.int .i64 cc,.slice ua bf.length uc,.bool cl] 63 (0,0))):=hWx▸setRow_heap _ _ _ _ _ (0,0) Nx.out;have HWx:=Lib.hid hWx;clear hWx;go_upto_region 4 with (refine wpList_store_row rfl 63 _ _ rfl (W.heap.size) _ rfl rfl 63 _ Nx.out (by kernel_rfl) rfl (by simp [Value.oneCell']) ?_)
  rw [HWx.out];try simp only [Act.put]
  clear HWx Nx;have HBX:=Lib.hid (below_then HB.out HBx.out);obtain ⟨y0,y1,y2⟩:=rowc3 Rx.out;obtain ⟨z0,z1,z2⟩:=rowc3 ((HBx.out.block w.heap.size (ltR R0)).trans R0.out);clear c0 c1 c2 x0_0 x0_1 x0_2;rw [Bool.true_and] at HRB;cases sd with
  | true=>
   cases cl with
   | true=>
    have hr:rb=true:=by rw [← HRB.out]; rfl
    subst hr;go_wp2;go_ret;exact ⟨rfl,HBX.out⟩
   | false=>
    obtain ⟨bq,hbq⟩:∃b,decide ((bf.length:Int)<cc)=b:=⟨_,rfl⟩;have hr:rb=bq:=by rw [← HRB.out,← hbq]; rfl
    subst hr;go_wp2;go_ret;exact ⟨by first | rfl | simp [hbq],HBX.out⟩
  | false=>
   cases cl with
   | true=>
    have hr:rb=true:=by rw [← HRB.out]; rfl
    subst hr;go_wp2;go_ret;exact ⟨rfl,HBX.out⟩
   | false=>
    have hr:rb=decide (0<bf.length):=by rw [← HRB.out]; rfl
    by_cases h0:0<bf.length
    ·have h0I:(0:Int)<(bf.length:Int):=by omega
     rw [decide_eq_true h0] at hr;subst hr;go_wp2;go_ret;exact ⟨rfl,HBX.out⟩
    ·have h0I:¬(0:Int)<(bf.length:Int):=by omega
     rw [decide_eq_false h0] at hr;subst hr;go_wp2;go_ret;exact ⟨by first | rfl | (simp; omega),HBX.out⟩
theorem Try.info_chan:(Try.prog.info? 63).map (fun i=>(i.zero,i.size,i.bytes))=some (some (.agg #[.int .i64 0,.slice none 0 0,.bool false]),3,40):=by kernel_rfl
set_option maxRecDepth 100000 in
set_option maxHeartbeats 16000000 in
theorem rcases_any (v:Value) (op:OpM) (w:World) (h:OpV w v op) (hok:op.chan=IntKind.i64.wrap op.chan∧op.val=IntKind.u64.wrap op.val):Calls Try.prog 53 #[v] w fun e w'=>∃u,e=.returned u∧SlC w' u (casesE op)∧Below w.heap.size w w':=by
 have TS:=Lib.hid fun w' (hb:Below w.heap.size w w')=>rsingle_any v op w' (h.below hb);obtain ⟨vc,vd,rfl,hc,hd⟩:=h;obtain ⟨lc,hlc⟩:∃l,casesE op=l:=⟨_,rfl⟩;rw [hlc];have HLC:=Lib.hid hlc;clear hlc;obtain ⟨kd,md,ch,vl,dl,cs,ds⟩:=op;dsimp only at *;obtain ⟨a3,cap3,rfl⟩:=hc.len;obtain ⟨a4,cap4,rfl,-⟩:=hd.len;have HOK:=Lib.hid hok;have HSC:=Lib.hid fun w' (hb:Below w.heap.size w w')=>hc.below hb;clear hc hd hok;obtain ⟨W,hW,HB,R0,hz⟩:=one_new w (.cells #[.int .i64 kd,.int .i64 md,.int .i64 ch,.int .u64 vl,.int .i64 dl,.slice a3 cs.length cap3,.slice a4 ds.length cap4] 44);have HW:=Lib.hid hW;clear hW;go_enter Try.func53,Try.ntmps53;go_upto_region 1 with fail
 rw [HW.out];clear HW;obtain ⟨x0_0,x0_1,x0_2,x0_3,x0_4,x0_5,x0_6⟩:=rowc7 R0.out;by_cases h4:kd=4
 ·have hl:lc=cs:=by rw [← HLC.out]; unfold casesE; rw [if_pos h4]
  subst hl;subst h4;go_wp2;go_ret;exact ⟨_,rfl,HSC.out _ HB.out,HB.out⟩
 have hq4:(kd == 4)=false:=by simpa using h4
 obtain ⟨sb,hsb⟩:∃b,sgB ⟨kd,md,ch,vl,dl,cs,ds⟩=b:=⟨_,rfl⟩;obtain ⟨⟨s1,s2,s3⟩,hsc⟩:∃c,sgC ⟨kd,md,ch,vl,dl,cs,ds⟩=c:=⟨_,rfl⟩;rw [hsb,hsc] at TS;have HL:Hid (lc=if sb=true then [⟨s1,s2,s3⟩] else []):=by
  show _=_;rw [← HLC.out];unfold casesE;rw [if_neg h4];show (if oneB _=true then [oneC _] else [])=_;rw [← hsb,← hsc];rfl
 have HS2:Hid (s2=IntKind.i64.wrap s2∧s3=IntKind.u64.wrap s3):=by
  have h1:=congrArg CaseM.chan hsc;have h2:=congrArg CaseM.val hsc;dsimp only at h1 h2;show _∧_;rw [← h1,← h2];unfold sgC;split
  ·exact HOK.out
  ·split
   ·exact HOK.out
   ·exact ⟨by decide,by decide⟩
 unfold caseW at TS;dsimp only at TS;clear hsb hsc HLC h4 HSC;go_wp2_with fail;refine (TS.out _ HB.out).mono ?_; rintro e w1 ⟨rfl,hb1⟩;have HB1:=Lib.hid (below_then HB.out hb1);clear x0_0 x0_1 x0_2 x0_3 x0_4 x0_5 x0_6 hb1 hq4;obtain ⟨Wx,hWx⟩:∃Wx,(w1.alloc (.cells #[.bool false,.int .i64 0,.int .u64 0] 58)).setRow w1.heap.size #[.bool s1,.int .i64 s2,.int .u64 s3]=Wx:=⟨_,rfl⟩;have Nx:Hid ((w1.alloc (.cells #[.bool false,.int .i64 0,.int .u64 0] 58)).heap[w1.heap.size]?=some (.cells #[.bool false,.int .i64 0,.int .u64 0] 58 (0,0))):=heap_alloc_new _ _;have HBx:Hid (Below w1.heap.size w1 Wx):=hWx▸row_below (below_new (Below.refl _ _) _) (Nat.le_refl _) _;have Rx:Hid (Wx.heap[w1.heap.size]?=some (.cells #[.bool s1,.int .i64 s2,.int .u64 s3] 58 (0,0))):=hWx▸setRow_heap _ _ _ _ _ (0,0) Nx.out;have HWx:=Lib.hid hWx;clear hWx;go_upto_region 4 with (refine wpList_store_row rfl 58 _ _ rfl (w1.heap.size) _ rfl rfl 58 _ Nx.out (by kernel_rfl) rfl (by simp [Value.oneCell']) ?_)
 rw [HWx.out];try simp only [Act.put]
 clear HWx Nx;have HBX:=Lib.hid (below_then HB1.out HBx.out);cases sb with
 | true=>
  have hl:lc=[⟨s1,s2,s3⟩]:=HL.out;subst hl;obtain ⟨y0,y1,y2⟩:=rowc3 Rx.out;go_wp2;go_ret;refine ⟨_,rfl,⟨by simp,fun x hx=>by simp only [List.mem_singleton] at hx; subst hx; exact HS2.out,_,1,rfl,Nat.le_refl _,fun t ht=>?_⟩,below_new HBX.out _⟩;have ht0:t=0:=by simp at ht; exact ht
  subst ht0;refine ⟨_,0,rfl,by simp,?_⟩;exact ⟨World.cell?_alloc_at _ _ _ _ rfl,World.cell?_alloc_at _ _ _ _ rfl,World.cell?_alloc_at _ _ _ _ rfl⟩
 | false=>
  have hl:lc=[]:=HL.out;subst hl;go_wp2;go_ret;exact ⟨_,rfl,SlC.nil _,HBX.out⟩
theorem run_app_u64 (w:World) (ty:TypeId) (base:Nat) (v:Value) (l:List Int) (hown:OwnI w base 41 .u64 v l) (xv:Value) (l2:List Int) (hS:SlI w .u64 xv l2)
  (hl:l.length≤1000000) (hl2:l2.length≤1000000) (hb:base≤w.heap.size) :
  ∃v' w',(Builtin.append_ #[27,27] ty #[v,xv]).run Try.prog w=.ok v' w'∧OwnI w' base 41 .u64 v' (l ++ l2)∧w.grownBy w' v.ownBlock:=by
 obtain ⟨i0,hi,hz0,hz1,hz2⟩:=info_parts Try.info_u64;by_cases hne:l2=[]
 ·subst hne
  obtain ⟨B,c',rfl,-⟩:=hS.len;have e:∃A c,v=.slice A l.length c∧l.length≤c:=by
   rcases hown.shape with ⟨rfl,rfl⟩ | ⟨g,cap,rfl,_,_,h,_⟩
   ·exact ⟨_,_,rfl,Nat.le_refl _⟩
   ·exact ⟨_,_,rfl,h⟩
  obtain ⟨A,c,rfl,hc⟩:=e;refine ⟨_,w,run_append_zero (by kernel_rfl) hi A B l.length c c' hc,by simpa using hown,grownBy_refl _ _⟩
 ·obtain ⟨b,off,cap,rfl,hcap,hbk,hc⟩:=hS.open hne
  obtain ⟨v',w',hr,h2,h3,-⟩:=run_append_own (P:=Try.prog) w base 27 ty 41 i0 (.int .u64 0) 1 _ (by kernel_rfl) hi hz0 hz1 rfl rfl (by decide) v l.length _ hown ⟨b,off,none⟩ l2.length cap (l2.map (Value.int .u64)) (by simp) (by
   intro j u hj;rw [add_plain];simp only [List.getElem?_map,Option.map_eq_some_iff] at hj;obtain ⟨y,hy,rfl⟩:=hj;have hjl:j<l2.length:=(List.getElem?_eq_some_iff.1 hy).1;rw [hc j hjl,List.getD_eq_getElem?_getD,hy]; rfl) (by intro u hu; simp only [List.mem_map] at hu; obtain ⟨y,_,rfl⟩:=hu; rfl) (by unfold maxLen; omega) (by rw [hz2]; omega) hb
  refine ⟨v',w',hr,?_,h3⟩;unfold OwnI;rw [List.length_append,List.map_append];exact h2
theorem wp_app_u64 (w:World) {ops:Array Oper} {rest:List Oper} {o:Oper} {a:Act} {Q:Exit→Act→World→Prop}
  (hg:o.guard=none) (s x:Operand) (hop:o.op=Op.call { callee:=Callee.builtin Builtin.append,args:=#[s,x],argTypes:=#[27,27] })
  (base:Nat) (v:Value) (l:List Int) (hs:a.eval s=v) (hown:OwnI w base 41 .u64 v l) (xv:Value) (l2:List Int) (hx:a.eval x=xv) (hS:SlI w .u64 xv l2)
  (hl:l.length≤1000000) (hl2:l2.length≤1000000) (hb:base≤w.heap.size)
  (hK:∀v' w',OwnI w' base 41 .u64 v' (l ++ l2)→w.grownBy w' v.ownBlock→wpList Try.prog ops Q rest (a.put o.dst v') w') :
  wpList Try.prog ops Q (o :: rest) a w:=by
 obtain ⟨v',w',hr,h1,h2⟩:=run_app_u64 w o.type base v l hown xv l2 hS hl hl2 hb;exact Lib.wpList_append_run w hg s x _ _ hop _ _ hs hx v' w' hr (hK v' w' h1 h2)
theorem step_app_u64 {w:World} {ops:Array Oper} {o:Oper} {a:Act} {K:Act→World→Prop} {Q:Exit→Act→World→Prop} {E:Prop}
  (hgd:o.guard=none) (s x:Operand) (hop:o.op=Op.call { callee:=Callee.builtin Builtin.append,args:=#[s,x],argTypes:=#[27,27] })
  (base:Nat) (v:Value) (l:List Int) (hs:a.eval s=v) (hown:OwnI w base 41 .u64 v l) (xv:Value) (l2:List Int) (hx:a.eval x=xv) (hS:SlI w .u64 xv l2)
  (hl:l.length≤1000000) (hl2:l2.length≤1000000) (hb:base≤w.heap.size)
  (hK:∀v' w',OwnI w' base 41 .u64 v' (l ++ l2)→w.grownBy w' v.ownBlock→K (a.put o.dst v') w') :
  if Region.wanted o (yielded ops a.tmps)=true then Oper.wp Try.prog o a w K Q else E:=by
 have hw:Region.wanted o (yielded ops a.tmps)=true:=by simp [Region.wanted,hgd]
 rw [if_pos hw];obtain ⟨v',w',hr,h1,h2⟩:=run_app_u64 w o.type base v l hown xv l2 hS hl hl2 hb;exact Lib.wp_append_run w s x _ _ hop _ _ hs hx v' w' hr (hK v' w' h1 h2)
theorem SlI.tail1 {w:World} {k:IntKind} {b off cap:Nat} {y:Int} {l:List Int} (h:SlI w k (.slice (some ⟨b,off,none⟩) (l.length+1) cap) (y :: l)):SlI w k (.slice (some ⟨b,off+1,none⟩) l.length (cap - 1)) l:=by
 obtain ⟨h1,h2,a,cap',e,h4,h5⟩:=h;simp only [Value.slice.injEq] at e;obtain ⟨rfl,-,rfl⟩:=e;refine ⟨by simp at h1; omega,fun x hx=>h2 x (List.mem_cons_of_mem _ hx),_,_,rfl,by simp at h4; omega,fun t ht=>?_⟩;obtain ⟨b',off',e,hb,hc⟩:=h5 (t+1) (by simp; omega);simp only [Option.some.injEq,Addr.mk.injEq] at e;obtain ⟨rfl,rfl,-⟩:=e;exact ⟨b,off+1,rfl,hb,by rw [show off+1+t=off+(t+1) by omega]; simpa using hc⟩
theorem own_ge {w:World} {base:Nat} {e:TypeId} {k:IntKind} {v:Value} {l:List Int} (h:OwnI w base e k v l):∀j,v.ownBlock=some j→base≤j:=fun j hj=>by
 rcases h.shape with ⟨rfl,-⟩ | ⟨g,cap,rfl,h1,-⟩
 ·cases hj
 ·cases hj; exact h1
theorem run_copy_own (w:World) (st ty:TypeId) {e:TypeId} {s bytes:Nat} {z:Value} (hu:Try.prog.underlying st=some (.slice e)) (hinfo:(Try.prog.info? e).map (fun i=>(i.zero,i.size,i.bytes))=some (some z,s,bytes)) (hzs:z.cells.size=s) (hsz:0<s) (hby:bytes≤200)
  {base:Nat} {v v0:Value} {rows:List (List Value)} (hown:OwnS w base e s v0 []) (hS:SlS w s v rows) (hl:rows.length≤1000000) (hb:base≤w.heap.size) :
  ∃v' w',(Builtin.append_ #[st,st] ty #[v0,v]).run Try.prog w=.ok v' w'∧OwnS w' base e s v' rows∧w.grownBy w' v0.ownBlock:=by
 obtain ⟨i0,hi,hz0,hz1,hz2⟩:=info_parts hinfo;have hr1:=hS.2.1;by_cases hne:rows=[]
 ·subst hne
  obtain ⟨B,c',rfl,-⟩:=hS.len;have e:∃A c,v0=.slice A 0 c∧0≤c:=by
   rcases hown.shape with ⟨rfl,-⟩ | ⟨g,cap,rfl,-,-,h⟩
   ·exact ⟨_,_,rfl,Nat.le_refl _⟩
   ·exact ⟨_,_,rfl,h⟩
  obtain ⟨A,c,rfl,hc⟩:=e;exact ⟨_,w,run_append_zero hu hi A B 0 c c' hc,hown,grownBy_refl _ _⟩
 obtain ⟨b,off,cap,rfl,hbl,hr⟩:=hS.open (List.length_pos_iff.2 hne);obtain ⟨v',w',hrun,h2,h3,-,h4⟩:=run_append_own_at (P:=Try.prog) w base st ty e i0 z s bytes hu hi hz0 hz1 hz2 hzs hsz v0 0 [] hown.2 ⟨b,off,none⟩ rows.length cap rows.flatten (flatS_length rows hr1) (fun j u hj=>by
   have hlt:=(List.getElem?_eq_some_iff.1 hj).1;rw [flatS_length rows hr1] at hlt;have hq:j / s<rows.length:=Nat.div_lt_of_lt_mul (by rw [Nat.mul_comm]; exact hlt);have hm:j % s<s:=Nat.mod_lt _ hsz;have hj2:j=j / s * s+j % s:=by rw [Nat.mul_comm]; exact (Nat.div_add_mod j s).symm
   have e2:((⟨b,off,none⟩:Addr).add j)=⟨b,off+(j / s) * s+j % s,none⟩:=by rw [Addr.add_mid,Nat.add_assoc,← hj2]
   rw [e2];refine hr (j / s) hq (j % s) u ?_;rw [List.getD_eq_getElem?_getD,List.getElem?_eq_getElem hq];have h9:=flatS_get rows hr1 (j / s) (j % s) hq hm;rw [← hj2] at h9;show rows[j / s][j % s]?=some u;rw [← h9];exact hj) (fun u hu=>by
   obtain ⟨r,hr,hur⟩:=List.mem_flatten.1 hu;exact (hr1 r hr).2 u hur) (by unfold maxLen; omega) (by have:(0+rows.length) * bytes≤1000000 * 200:=Nat.mul_le_mul (by omega) hby; omega) hb
 rw [Nat.zero_add,List.nil_append] at h2;exact ⟨v',w',hrun,⟨hr1,h2⟩,h3⟩
theorem SlS.nil_of {w:World} {s n c:Nat} {rows:List (List Value)} (h:SlS w s (.slice none n c) rows):rows=[]:=by
 rcases Nat.eq_zero_or_pos rows.length with h0 | h0
 ·exact List.length_eq_zero_iff.1 h0
 ·obtain ⟨b,off,cap,e,-⟩:=h.open h0
  simp at e
set_option maxRecDepth 100000 in
set_option maxHeartbeats 16000000 in
theorem cloneS_any (v:Value) (rows:List (List Value)) (w:World) (h:SlS w 3 v rows) (hl:rows.length≤1000000) :
  Calls Try.prog 97 #[v] w fun e w'=>∃v',e=.returned v'∧OwnS w' w.heap.size 63 3 v' rows∧Below w.heap.size w w':=by
 obtain ⟨a,cap,e,hcap⟩:=h.len;have H:=Lib.hid h;have HL:=Lib.hid hl;clear h hl;have q0:∀(w:World) (a:Option Addr) (n c n' c':Nat),(binOp .eql 31 (.slice a n c) (.slice none n' c')).run Try.prog w=.ok (.bool a.isNone) w:=fun w a n c n' c'=>Lib.run_eql_slice_nil w _ _ a n c n' c' Try.underlying31;cases a with
 | none=>
  subst e;have hl0:=H.out.nil_of;subst hl0;go_enter Try.func97,Try.ntmps97;go_wp2;go_ret;exact ⟨_,rfl,OwnS.nil _ _ _ _,Below.refl _ _⟩
 | some p=>
  subst e;generalize hn:rows.length=n at *;have HN:=Lib.hid hn;clear hn;have hnew:Hid (SlS (w.alloc (.cells #[] 63)) 3 (.slice (some p) n cap) rows):=H.out.below (below_new (Below.refl _ _) _);obtain ⟨v',w',hr,h1,h2⟩:=run_copy_own (w.alloc (.cells #[] 63)) 31 31 (by kernel_rfl) Try.info_chan rfl (by decide) (by decide) (base:=w.heap.size) (v0:=.slice (some ⟨w.heap.size,0,none⟩) 0 0) ⟨by intro r h; simp at h,World.ownsRow_made w #[] 0 (Nat.le_refl _) (Nat.zero_le _) rfl⟩ hnew.out (by rw [HN.out]; exact HL.out) (by simp);have H1:=Lib.hid h1;have H2:=Lib.hid h2;clear h1 h2;go_enter Try.func97,Try.ntmps97;go_wp2_with (at_builtin; refine Lib.wpList_append_run _ rfl _ _ _ _ rfl _ _ rfl rfl _ _ hr ?_);go_ret;exact ⟨v',rfl,H1.out,below_grown (below_new (Below.refl _ _) _) H2.out (Nat.le_refl _)⟩
structure CopyR (l:List ChanM) (w w':World) (v:Value) (us:List Value) (B:Nat):Prop where
 len:us.length=l.length
 rows:OwnS w' w.heap.size 63 3 v (chRows l us)
 lo:w.heap.size≤B
 hi:B≤w'.heap.size
 vlt:∀j,v.ownBlock=some j→j<B
 bufs:∀i,i<l.length→OwnI w' B 41 .u64 (us.getD i (.slice none 0 0)) (l.getD i noChan).buf
 apart:∀i j,i<j→j<l.length→(us.getD i (.slice none 0 0)).ownBlock=none∨(us.getD i (.slice none 0 0)).ownBlock≠(us.getD j (.slice none 0 0)).ownBlock
 below:Below w.heap.size w w'
structure CopyI (l:List ChanM) (w0 wc wr:World) (base:Nat) (v:Value) (us:List Value) (i:Nat):Prop where
 len:us.length=l.length
 rows:OwnS wr base 63 3 v (chRows l us)
 bufs:∀j,j<i→OwnI wr wc.heap.size 41 .u64 (us.getD j (.slice none 0 0)) (l.getD j noChan).buf
 apart:∀a b,a<b→b<i→(us.getD a (.slice none 0 0)).ownBlock=none∨(us.getD a (.slice none 0 0)).ownBlock≠(us.getD b (.slice none 0 0)).ownBlock
 rest:∀j,i≤j→j<l.length→SlI w0 .u64 (us.getD j (.slice none 0 0)) (l.getD j noChan).buf
theorem chRows_row (l:List ChanM) (us:List Value) (i:Nat) (h:us.length=l.length) (hi:i<l.length) (hi2:i<(chRows l us).length):(chRows l us)[i]=chRow (l.getD i noChan) (us.getD i (.slice none 0 0)):=by
 have:=chRows_get l us i h hi;rw [List.getD_eq_getElem?_getD,List.getElem?_eq_getElem hi2] at this;exact this
theorem chRows_put (l:List ChanM) (us:List Value) (i:Nat) (u:Value) (h:us.length=l.length) (hi:i<l.length):(chRows l us).set i (chRow (l.getD i noChan) u)=chRows l (us.set i u):=by
 rw [chRows_set l us i _ _ h];congr 1;rw [List.getD_eq_getElem?_getD,List.getElem?_eq_getElem hi];exact List.set_getElem_self hi
theorem CopyI.next {l:List ChanM} {w0 wc wr w2:World} {base g n cap i:Nat} {us:List Value} {u:Value} (h:CopyI l w0 wc wr base (.slice (some ⟨g,0,none⟩) n cap) us i) (hi:i<l.length) (hb:Below wr.heap.size wr w2) (hwc:wc.heap.size≤wr.heap.size) (hg:g<wc.heap.size) (hu:OwnI w2 wr.heap.size 41 .u64 u (l.getD i noChan).buf) :
  CopyI l w0 wc (w2.setCell ⟨g,i * 3+1,none⟩ u) base (.slice (some ⟨g,0,none⟩) n cap) (us.set i u) (i+1):=by
 have hlen:=chRows_length l us h.len;have ho:u.oneCell'=true:=by
  rcases hu.shape with ⟨rfl,-⟩ | ⟨g2,c2,rfl,-⟩ <;> rfl
 have hr2:=h.rows.below hb;have hkeep:∀(b:Nat) (v:Value) (x:List Int),OwnI w2 b 41 .u64 v x→g<b→OwnI (w2.setCell ⟨g,i * 3+1,none⟩ u) b 41 .u64 v x:=fun b v x hv hgb=>hv.kept (grownBy_setCell w2 ⟨g,i * 3+1,none⟩ u) (hv.ne hgb);refine ⟨by rw [List.length_set]; exact h.len,?_,fun j hj=>?_,fun a b hab hb3=>?_,fun j hj hjl=>?_⟩
 ·have hi2:i<(chRows l us).length:=by omega
  have h3:=hr2.setCell i hi2 [.int .i64 (l.getD i noChan).cap] [.bool (l.getD i noChan).closed] _ u (chRows_row l us i h.len hi hi2) ho;rw [← chRows_put l us i u h.len hi];exact h3
 ·rw [getD_setL]
  by_cases hji:i=j
  ·subst hji
   rw [if_pos ⟨rfl,by rw [h.len]; exact hi⟩];exact (hkeep _ _ _ hu (by omega)).mono_base hwc
  ·rw [if_neg (fun e=>hji e.1)]
   exact hkeep _ _ _ ((h.bufs j (by omega)).below hb) hg
 ·rw [getD_setL,getD_setL]
  rw [if_neg (fun e=>by omega)];by_cases hib:i=b
  ·rw [if_pos ⟨hib,by rw [h.len]; omega⟩]
   have h1:=h.bufs a (by omega);rcases h1.shape with ⟨e,-⟩ | ⟨g1,c1,e,-,hg1,-⟩
   ·rw [e]; exact .inl rfl
   ·rw [e]
    refine .inr fun e2=>?_;have:=hu.own_ge g1 e2.symm;omega
  ·rw [if_neg (fun e=>hib e.1)]
   exact h.apart a b hab (by omega)
 ·rw [getD_setL,if_neg (fun e=>by omega)]
  exact h.rest j (by omega) hjl
theorem slH_put {l:List ChanM} {W:World} {base:Nat} {v:Value} {us:List Value} {i:Nat} {c:ChanM} {u:Value} (hi:i<l.length) (hl:l.length≤1000000) (h1:us.length=l.length) (h4:∀c∈l,c.cap=IntKind.i64.wrap c.cap) (hc:c.cap=IntKind.i64.wrap c.cap)
  (hr:OwnS W base 63 3 v ((chRows l us).set i (chRow c u))) (hu:SlU W u c.buf) (ho:∀j,j<l.length→j≠i→SlU W (us.getD j (.slice none 0 0)) (l.getD j noChan).buf):SlH W v (l.set i c):=by
 rw [chRows_set l us i _ _ h1] at hr;refine hr.slH (by rw [List.length_set,List.length_set]; exact h1) (by rw [List.length_set]; exact hl) (fun j hj=>?_) (fun d hd=>?_)
 ·rw [List.length_set] at hj
  rw [getD_setL,getD_setL];by_cases hji:i=j
  ·rw [if_pos ⟨hji,by rw [h1]; exact hj⟩,if_pos ⟨hji,hj⟩]
   exact hu
  ·rw [if_neg (fun h=>hji h.1),if_neg (fun h=>hji h.1)]
   exact ho j hj (fun e=>hji e.symm)
 ·rcases List.mem_or_eq_of_mem_set hd with hd | rfl
  ·exact h4 d hd
  ·exact hc
theorem CopyR.slH {l:List ChanM} {w w' W:World} {v:Value} {us:List Value} {B:Nat} (h:CopyR l w w' v us B) (hl:l.length≤1000000) (hbf:∀i,i<l.length→(l.getD i noChan).buf.length≤1000000∧∀x∈(l.getD i noChan).buf,x=IntKind.u64.wrap x) (h4:∀c∈l,c.cap=IntKind.i64.wrap c.cap) (hb:Below w'.heap.size w' W):SlH W v l:=
 (h.rows.below hb).slH h.len hl (fun i hi=>((h.bufs i hi).below hb).slU (by have:=(hbf i hi).1; omega) (hbf i hi).2) h4
theorem CopyR.put {l:List ChanM} {w w' W:World} {g n cap:Nat} {us:List Value} {B i:Nat} (h:CopyR l w w' (.slice (some ⟨g,0,none⟩) n cap) us B) (hi:i<l.length) (hl:l.length≤1000000) (hbf:∀i,i<l.length→(l.getD i noChan).buf.length≤1000000∧∀x∈(l.getD i noChan).buf,x=IntKind.u64.wrap x) (h4:∀c∈l,c.cap=IntKind.i64.wrap c.cap)
  (hW:w'.grownBy W (us.getD i (.slice none 0 0)).ownBlock) (c:ChanM) (u x x2:Value) (a b:List Value) (hc:c.cap=IntKind.i64.wrap c.cap) (he:chRow (l.getD i noChan) (us.getD i (.slice none 0 0))=a ++ x :: b) (he2:chRow c u=a ++ x2 :: b) (ho:x2.oneCell'=true)
  (hu:SlU (W.setCell ⟨g,i * 3+a.length,none⟩ x2) u c.buf):SlH (W.setCell ⟨g,i * 3+a.length,none⟩ x2) (.slice (some ⟨g,0,none⟩) n cap) (l.set i c):=by
 have hgB:g<B:=h.vlt g rfl;have hi2:i<(chRows l us).length:=by rw [chRows_length l us h.len]; exact hi
 have hne:(Value.slice (some ⟨g,0,none⟩) n cap).ownBlock=none∨(Value.slice (some ⟨g,0,none⟩) n cap).ownBlock≠(us.getD i (.slice none 0 0)).ownBlock:=by
  refine .inr fun e=>?_;have:=(h.bufs i hi).own_ge g e.symm;omega
 have hr2:=(h.rows.kept hW hne).setCell i hi2 a b x x2 (by rw [chRows_row l us i h.len hi hi2,he]) ho;rw [← he2] at hr2;refine slH_put hi hl h.len h4 hc hr2 hu fun j hj hji=>?_;have hoj:=h.bufs j hj;have hnj:(us.getD j (.slice none 0 0)).ownBlock=none∨(us.getD j (.slice none 0 0)).ownBlock≠(us.getD i (.slice none 0 0)).ownBlock:=by
  rcases Nat.lt_or_gt_of_ne hji with h1 | h1
  ·exact h.apart j i h1 hi
  ·rcases h.apart i j h1 hj with h2 | h2
   ·rw [h2]
    cases (us.getD j (.slice none 0 0)).ownBlock <;> simp
   ·exact .inr fun e=>h2 e.symm
 exact ((hoj.kept hW hnj).kept (grownBy_setCell W ⟨g,i * 3+a.length,none⟩ x2) ((hoj.kept hW hnj).ne hgB)).slU (by have:=(hbf j hj).1; omega) (hbf j hj).2
theorem AllReadyU.consG {P:Program} {md:Region.Mode} {Q:Exit→Act→World→Prop} {S:World→Prop} {k:Nat} {l:List Oper} {fuel:Nat} {listed:Array Bool} {a:Act} {w:World} {i:Nat} {o:Oper} {rs:List Nat} (ho:ListAt l i o)
  (h:∀K':Act→World→Prop,ShutU (∀a w,S w→(S w→wpAnyU P md l.toArray Q S k fuel (listed.setIfInBounds i true) a w)→K' a w)→if Region.wanted o (yielded l.toArray a.tmps)=true then Oper.wp P o a w K' Q else K' (a.put o.dst undef) w)
  (hs:AllReadyU P md l.toArray Q S k fuel listed a w rs):AllReadyU P md l.toArray Q S k fuel listed a w (i :: rs):=fun j hj=>by
 rcases List.mem_cons.1 hj with rfl | hj
 ·exact wpOp_step ho.get (fun K' hK=>h K' (fun a w hS hW=>hK a w ⟨fun _=>hS,hW hS⟩))
 ·exact hs j hj
def sizeI (k:Int):Int:=if k<1 then 1 else if k=1 then 2 else if 1073741824<k then 0 else 2 * 2 ^ Nat.log2 (k.toNat - 1)
theorem sizeI_16 (x:Int) (h0:0≤x) (h1:x≤16):1≤sizeI x∧sizeI x≤16:=by
 rcases (show x=0∨x=1∨x=2∨x=3∨x=4∨x=5∨x=6∨x=7∨x=8∨x=9∨x=10∨x=11∨x=12∨x=13∨x=14∨x=15∨x=16 by omega) with rfl | rfl | rfl | rfl | rfl | rfl | rfl | rfl | rfl | rfl | rfl | rfl | rfl | rfl | rfl | rfl | rfl <;> decide +kernel
structure ConfM.good (c:ConfM):Prop where
 len:c.caps.length≤8
 same:c.starts.length=c.caps.length
 caps:∀x∈c.caps,0≤x∧x≤16
 starts:∀x∈c.starts,0≤x∧x<9223372036854775808
 thr:1≤c.threads∧c.threads≤8
theorem below_setRow {B g:Nat} {a w:World} (h:Below B a w) (hB:B≤g) (cs:Array Value):Below B a (w.setRow g cs):=
 ⟨h.os,h.tape,h.output,by simpa [World.setRow] using h.size,fun k hk=>(setRow_other w g k cs (by omega)).trans (h.block k hk)⟩
theorem ConfM.good.cap {c:ConfM} (h:c.good) (k:Nat) (hk:k<c.caps.length):0≤c.caps.getD k 0∧c.caps.getD k 0≤16:=by
 rw [List.getD_eq_getElem?_getD,List.getElem?_eq_getElem hk];exact h.caps _ (List.getElem_mem hk)
def ConfM.size (c:ConfM) (k:Nat):Int:=sizeI (c.caps.getD k 0)
theorem ConfM.good.size {c:ConfM} (h:c.good) (k:Nat) (hk:k<c.caps.length):1≤c.size k∧c.size k≤16:=sizeI_16 _ (h.cap k hk).1 (h.cap k hk).2
def ConfM.base (c:ConfM):Nat→Int
 | 0=>0
 | k+1=>c.base k+(5+c.size k * 2)
theorem ConfM.good.base {c:ConfM} (h:c.good) (k:Nat) (hk:k≤c.caps.length):0≤c.base k∧c.base k≤37 * k:=by
 induction k with
 | zero=>exact ⟨Int.le_refl _,Int.le_refl _⟩
 | succ k ih=>
  have h1:=ih (by omega);have h2:=h.size k (by omega);show 0≤c.base k+(5+c.size k * 2)∧c.base k+(5+c.size k * 2)≤_;omega
theorem SlI.cellAt {w:World} {k:IntKind} {a:Option Addr} {n cap:Nat} {l:List Int} (h:SlI w k (.slice a n cap) l) (t:Nat) (ht:t<l.length) :
  ∃b off,a=some ⟨b,off,none⟩∧b<w.heap.size∧w.cell? ⟨b,off+t,none⟩=some (.int k (l.getD t 0)):=by
 obtain ⟨_,_,a',cap',e,_,h5⟩:=h;simp only [Value.slice.injEq] at e;obtain ⟨rfl,_,_⟩:=e;exact h5 t ht
def capB (x:Int):Bool:=decide (0≤x) && decide (x≤16)
def startB (x:Int):Bool:=decide (x<9223372036854775808)
def checkC (c:ConfM):Int:=
 if 8<c.caps.length then 3 else if c.starts.length≠c.caps.length then 5 else if c.caps.all capB=false then 2 else if c.starts.all startB=false then 2 else
 if c.threads<1∨8<c.threads then 2 else 0
theorem checkC_good {c:ConfM} (h:c.good):checkC c=0:=by
 have h1:=h.len;have h2:=h.thr;have h3:c.caps.all capB=true:=List.all_eq_true.2 fun x hx=>by have:=h.caps x hx; simp [capB,this]
 have h4:c.starts.all startB=true:=List.all_eq_true.2 fun x hx=>by have:=h.starts x hx; simp [startB,this]
 unfold checkC;rw [if_neg (by omega),if_neg (by simp [h.same]),if_neg (by simp [h3]),if_neg (by simp [h4]),if_neg (by omega)]
theorem checkC_many {c:ConfM} (h:8<c.caps.length):checkC c=3:=by unfold checkC; rw [if_pos h]
theorem checkC_shape {c:ConfM} (h:¬8<c.caps.length) (h2:c.starts.length≠c.caps.length):checkC c=5:=by unfold checkC; rw [if_neg h,if_pos h2]
theorem all_bad {l:List Int} {p:Int→Bool} (j:Nat) (h:j<l.length) (hb:p (l.getD j 0)=false):l.all p=false:=by
 rw [List.all_eq_false];rw [List.getD_eq_getElem?_getD,List.getElem?_eq_getElem h] at hb;exact ⟨_,List.getElem_mem h,by simpa using hb⟩
theorem all_next {l:List Int} {p:Int→Bool} (j:Nat) (h:j<l.length) (ha:(l.take j).all p=true) (hb:p (l.getD j 0)=true):(l.take (j+1)).all p=true:=by
 rw [List.take_add_one,List.getElem?_eq_getElem h,List.all_append,ha];rw [List.getD_eq_getElem?_getD,List.getElem?_eq_getElem h] at hb;simpa using hb
theorem checkC_caps {c:ConfM} (h:¬8<c.caps.length) (h2:c.starts.length=c.caps.length) (h3:c.caps.all capB=false):checkC c=2:=by
 unfold checkC; rw [if_neg h,if_neg (by simp [h2]),if_pos h3]
theorem checkC_starts {c:ConfM} (h:¬8<c.caps.length) (h2:c.starts.length=c.caps.length) (h4:c.starts.all startB=false):checkC c=2:=by
 unfold checkC; rw [if_neg h,if_neg (by simp [h2])]; simp only [h4,if_true]; split <;> rfl
theorem checkC_thr {c:ConfM} (h:¬8<c.caps.length) (h2:c.starts.length=c.caps.length) (h3:c.caps.all capB=true) (h4:c.starts.all startB=true):checkC c=if c.threads<1∨8<c.threads then 2 else 0:=by
 unfold checkC; rw [if_neg h,if_neg (by simp [h2]),if_neg (by simp [h3]),if_neg (by simp [h4])]
set_option maxHeartbeats 2000000 in
theorem checkC_any (v:Value) (c:ConfM) (w:World) (h:ConfV w v c) :
  Calls Try.prog 66 #[v] w fun e w'=>e=.returned (.int .i64 (checkC c))∧Below w.heap.size w w':=by
 obtain ⟨vc,vs,rfl,h1,h2⟩:=h;have hn:=h1.1;have hm:=h2.1;obtain ⟨a,cap,rfl,-⟩:=h1.len;obtain ⟨a2,cap2,rfl,-⟩:=h2.len;obtain ⟨W,hW⟩:∃W,w.alloc (.cells #[.slice a c.caps.length cap,.slice a2 c.starts.length cap2,.int .i64 c.threads] 29)=W:=⟨_,rfl⟩;have HB:Hid (Below w.heap.size w W):=hW▸below_new (Below.refl w.heap.size w) _;have R0:Hid (W.heap[w.heap.size]?=some (.cells #[.slice a c.caps.length cap,.slice a2 c.starts.length cap2,.int .i64 c.threads] 29 (0,0))):=hW▸heap_alloc_new _ _;have S1:=Lib.hid (h1.below HB.out);have S2:=Lib.hid (h2.below HB.out);have HW:=Lib.hid hW;clear h1 h2 hW;have CM:=Lib.hid (checkC_many (c:=c));have CS:=Lib.hid (checkC_shape (c:=c));have CC:=Lib.hid (checkC_caps (c:=c));have CT:=Lib.hid (checkC_starts (c:=c));have CZ:=Lib.hid (checkC_thr (c:=c));generalize hcn:c.caps.length=n at *;generalize hcm:c.starts.length=m at *;have HN:=Lib.hid hcn;have HM:=Lib.hid hcm;clear hcn hcm;generalize c.threads=thr at *;go_enter Try.func66,Try.ntmps66;go_upto_region 1 with fail
 rw [HW.out];clear HW;obtain ⟨x0,x1,x2⟩:=rowc3 R0.out;by_cases h8:8<n
 ·go_wp2
  go_ret;exact ⟨ret_i64 (CM.out h8).symm,HB.out⟩
 by_cases hs:m=n
 case neg=>
  have hsb:((m:Int) != (n:Int))=true:=by simp; omega
  have HS:=Lib.hid hs;clear hs;go_wp2;go_ret;exact ⟨ret_i64 (CS.out h8 HS.out).symm,HB.out⟩
 case pos=>
 subst hs;go_wp2_with fail;go_loop [21] (fun i=>∃j:Nat,j≤m∧i=.int .i64 j∧Hid ((c.caps.take j).all capB=true)) (fun i=>9 - (intOf i).toNat)
 case atStart=>exact ⟨0,by omega,rfl,(by simp:(c.caps.take 0).all capB=true)⟩
 case round=>
  obtain ⟨j,hj,rfl,hall⟩:=hrel;by_cases hlt:j<m
  ·obtain ⟨b,off,rfl,hb,hc⟩:=S1.out.cellAt j (by rw [HN.out]; exact hlt)
   have BD:=Lib.hid fun h=>all_bad (l:=c.caps) (p:=capB) j (by rw [HN.out]; exact hlt) h;have NX:=Lib.hid fun h=>all_next (l:=c.caps) (p:=capB) j (by rw [HN.out]; exact hlt) hall.out h;generalize c.caps.getD j 0=x at *;by_cases h0:0≤x∧x≤16
   ·obtain ⟨h0,h1⟩:=h0
    have hx:=Lib.hid (NX.out (by simp [capB,h0,h1]));clear BD NX;go_wp2;go_round
    case rel=>exact ⟨j+1,by omega,by go_num,hx⟩
    case measure=>simp [intOf]; omega
   ·have hx:=Lib.hid (CC.out h8 (by trivial) (BD.out (by simp [capB]; omega)))
    clear BD NX;by_cases hx0:x<0
    ·go_wp2
     go_ret;exact ⟨ret_i64 hx.out.symm,HB.out⟩
    ·have hx1:16<x:=by omega
     clear h0;go_wp2;go_ret;exact ⟨ret_i64 hx.out.symm,HB.out⟩
  ·obtain rfl:j=m:=by omega
   have HA:Hid (c.caps.all capB=true):=by
    have:=hall.out;rw [List.take_of_length_le (by rw [HN.out]; exact Nat.le_refl _)] at this;exact this
   clear hall;go_wp2_with fail;go_loop [35] (fun i=>∃t:Nat,t≤j∧i=.int .i64 t∧Hid ((c.starts.take t).all startB=true)) (fun i=>9 - (intOf i).toNat)
   case atStart=>exact ⟨0,by omega,rfl,(by simp:(c.starts.take 0).all startB=true)⟩
   case round=>
    obtain ⟨t,ht,rfl,hall⟩:=hrel;by_cases htl:t<j
    ·obtain ⟨b,off,rfl,hb,hc⟩:=S2.out.cellAt t (by rw [HM.out]; exact htl)
     have BD:=Lib.hid fun h=>all_bad (l:=c.starts) (p:=startB) t (by rw [HM.out]; exact htl) h;have NX:=Lib.hid fun h=>all_next (l:=c.starts) (p:=startB) t (by rw [HM.out]; exact htl) hall.out h;generalize c.starts.getD t 0=x at *;by_cases h0:x<9223372036854775808
     ·have hx:=Lib.hid (NX.out (by simp [startB,h0]))
      clear BD NX;have hxd:decide (9223372036854775808≤x)=false:=decide_eq_false (by omega);clear h0;go_wp2;go_round
      case rel=>exact ⟨t+1,by omega,by go_num,hx⟩
      case measure=>simp [intOf]; omega
     ·have hx:=Lib.hid (CT.out h8 (by trivial) (BD.out (by simp [startB]; omega)))
      clear BD NX;have hxd:decide (9223372036854775808≤x)=true:=decide_eq_true (by omega);clear h0;go_wp2;go_ret;exact ⟨ret_i64 hx.out.symm,HB.out⟩
    ·obtain rfl:t=j:=by omega
     have HA2:Hid (c.starts.all startB=true):=by
      have:=hall.out;rw [List.take_of_length_le (by rw [HM.out]; exact Nat.le_refl _)] at this;exact this
     have HZ:=Lib.hid (CZ.out h8 (by trivial) HA.out HA2.out);clear hall HA HA2;by_cases h1:thr<1
     ·go_wp2
      go_ret;exact ⟨ret_i64 (by rw [HZ.out,if_pos (.inl h1)]),HB.out⟩
     ·by_cases h9:8<thr
      ·go_wp2
       go_ret;exact ⟨ret_i64 (by rw [HZ.out,if_pos (.inr h9)]),HB.out⟩
      ·go_wp2
       go_ret;exact ⟨ret_i64 (by rw [HZ.out,if_neg (by omega)]),HB.out⟩
theorem results_cell_tmp {fn:Func} {P:Program} {p u:Tmp} {t1:TypeId} (h:fn.results=#[.cell p t1,.tmp u]) (tmps:Array Value) (w:World) (g1:Nat) (u1:TypeId) (c1:Array Value) (f1:Nat × Nat) (d1:TypeDesc)
  (hp:tmps.getD p undef=.pointer (some ⟨g1,0,none⟩)) (hg1:w.heap[g1]?=some (.cells c1 u1 f1))
  (hu1:P.underlying t1=some d1) (hd1:(match d1 with | .struct _ | .array _ _=>true | _=>false)=true) (hi1:(P.info? t1).map (·.size)=some c1.size) (x:Value) (hx:tmps.getD u undef=x) :
  (results fn tmps).run P w=.ok (.tuple #[.agg c1,x]) w:=by
 have hp':tmps[p]?.getD undef=.pointer (some ⟨g1,0,none⟩):=by simpa using hp
 have hx':tmps[u]?.getD undef=x:=by simpa using hx
 simp [results,h,hp',hx',asAddr,run_loadVar_row w g1 u1 t1 c1 f1 d1 hg1 hu1 hd1 hi1]
def ConfM.st (c:ConfM) (k:Nat):Int:=c.starts.getD k 0
def Wf (l:List Int):Prop:=∀x∈l,x=IntKind.u64.wrap x
theorem Wf.set {l:List Int} (h:Wf l) (i:Nat) (x:Int) (hx:x=IntKind.u64.wrap x):Wf (l.set i x):=by
 intro y hy;rcases List.mem_or_eq_of_mem_set hy with hy | rfl
 ·exact h y hy
 ·exact hx
theorem ConfM.good.st {c:ConfM} (h:c.good) (k:Nat) (hk:k<c.caps.length):0≤c.st k∧c.st k<9223372036854775808:=by
 have hk2:k<c.starts.length:=by rw [h.same]; exact hk
 show 0≤c.starts.getD k 0∧c.starts.getD k 0<9223372036854775808;rw [List.getD_eq_getElem?_getD,List.getElem?_eq_getElem hk2];exact h.starts _ (List.getElem_mem hk2)
theorem ConfM.good.mono {c:ConfM} (h:c.good) (k:Nat) (hk:k<c.caps.length):c.base k+(5+c.size k * 2)≤c.base c.caps.length:=by
 have key:∀d,k+1+d≤c.caps.length→c.base (k+1)≤c.base (k+1+d):=by
  intro d;induction d with
  | zero=>intro _; exact Int.le_refl _
  | succ d ih=>
   intro hd;have h1:=ih (by omega);have h2:=h.size (k+1+d) (by omega);have e:c.base (k+1+(d+1))=c.base (k+1+d)+(5+c.size (k+1+d) * 2):=rfl;omega
 have h1:=key (c.caps.length - (k+1)) (by omega);rw [show k+1+(c.caps.length - (k+1))=c.caps.length by omega] at h1;exact h1
structure NewI (w0 wr:World) (X t:Nat) (ws:List Int):Prop where
 row:OwnI wr X 41 .u64 (.slice (some ⟨X,0,none⟩) t t) ws
 len:ws.length=t
 below:Below X w0 wr
theorem NewI.next {w0 wr w2:World} {X t:Nat} {ws:List Int} (h:NewI w0 wr X t ws) (hb:Below wr.heap.size wr w2):NewI w0 w2 X t ws:=by
 have hX:X≤wr.heap.size:=by
  rcases h.row.shape with ⟨h1,_⟩ | ⟨g,cap,h1,_,h2,_⟩
  ·simp at h1
  ·simp only [Value.slice.injEq,Option.some.injEq,Addr.mk.injEq] at h1; omega
 exact ⟨h.row.below hb,h.len,h.below.trans (hb.mono hX)⟩
theorem NewI.set {w0 wr:World} {X t:Nat} {ws:List Int} (h:NewI w0 wr X t ws) (i:Nat) (x:Int):NewI w0 (wr.setCell ⟨X,i,none⟩ (.int .u64 x)) X t (ws.set i x):=
 ⟨h.row.store i x h.len.symm,by rw [List.length_set]; exact h.len,h.below.setCell (p:=⟨X,i,none⟩) (Nat.le_refl _) _⟩
def fndE (l:List ChanM) (n:Int):ChanM:=if exB l n=true then chE l n else noChan
def FindQ (l:List ChanM) (n:Int) (w:World) (e:Ending) (w':World):Prop:=∃u,e=.returned (.tuple #[.agg #[.int .i64 (fndE l n).cap,u,.bool (fndE l n).closed],.bool (exB l n)])∧SlI w' .u64 u (fndE l n).buf∧Below w.heap.size w w'
def aloneC (ex:Bool) (c:ChanM) (sd:Bool):Option ResM:=
 if ex=false then none
 else if sd=true then (if c.closed=true then some ⟨5,-1,0,false,0⟩ else if (c.buf.length:Int)<c.cap then some ⟨1,-1,0,false,0⟩ else none)
 else if 0<c.buf.length then some ⟨2,-1,c.buf.getD 0 0,true,0⟩ else if c.closed=true then some ⟨2,-1,0,false,0⟩ else none
def aloneE (l:List ChanM) (x:CaseM):Option ResM:=aloneC (exB l x.chan) (fndE l x.chan) x.send
def ResQ (o:Option ResM) (w:World) (e:Ending) (w':World):Prop:=∃r b,e=.returned (.tuple #[resW r,.bool b])∧((b=true∧o=some r)∨(b=false∧o=none))∧Below w.heap.size w w'
theorem aloneE_ready (l:List ChanM) (x:CaseM):(aloneE l x).isSome=readyB l x:=by
 unfold aloneE aloneC readyB fndE;obtain ⟨sd,ch,vl⟩:=x;dsimp only;cases exB l ch with
 | false=>simp
 | true=>
  simp only [Bool.true_eq_false,if_false,if_true,Bool.true_and];obtain ⟨⟨cc,bf,cl⟩,hc⟩:∃c,chE l ch=c:=⟨_,rfl⟩;rw [hc];dsimp only;cases sd <;> cases cl <;> simp
  all_goals (split <;> simp_all)
set_option maxRecDepth 100000 in
set_option maxHeartbeats 16000000 in
theorem qfind_any (v:Value) (l:List ChanM) (n:Int) (w:World) (hv:SlH w v l):Calls Try.prog 102 #[v,.int .i64 n] w (FindQ l n w):=by
 have hbd:=hv.bound;have HV:=Lib.hid hv;obtain ⟨a,cap,hve,-⟩:=hv.len;subst hve;clear hv;obtain ⟨c,hc⟩:∃c,fndE l n=c:=⟨_,rfl⟩;obtain ⟨ex,hex⟩:∃b,exB l n=b:=⟨_,rfl⟩;unfold FindQ;rw [hc,hex];obtain ⟨cc,bf,cl⟩:=c;dsimp only;have HC:=Lib.hid hc;have HEX:=Lib.hid hex;clear hc hex;obtain ⟨W,hW,HB,R0,hz⟩:=one_new w (.cells #[.int .i64 0,.slice none 0 0,.bool false] 63);have HW:=Lib.hid hW;clear hW;go_enter Try.func102,Try.ntmps102;go_upto_region 1 with fail
 rw [HW.out];clear HW;cases ex with
 | false=>
  have hn:(⟨cc,bf,cl⟩:ChanM)=noChan:=by rw [← HC.out]; unfold fndE; rw [HEX.out]; rfl
  simp only [noChan,ChanM.mk.injEq] at hn;obtain ⟨rfl,rfl,rfl⟩:=hn;have hx:=HEX.out;unfold exB at hx;clear HC HEX;have HF:∀w',Below w.heap.size w w'→∃u,Ending.returned (.tuple #[.agg #[.int .i64 0,.slice none 0 0,.bool false],.bool false])=.returned (.tuple #[.agg #[.int .i64 0,u,.bool false],.bool false])∧SlI w' .u64 u []∧Below w.heap.size w w':=fun w' hb=>⟨_,rfl,SlI.nil _ _,hb⟩;have HF:=Lib.hid HF;by_cases h0:n<0
  ·clear hx
   go_wp2_with (refine wpList_store_row rfl 63 _ _ rfl (w.heap.size) _ rfl rfl 63 _ R0.out (by kernel_rfl) rfl (by simp [Value.oneCell']) ?_);refine bodyPost_ret (v:=.tuple #[.agg #[.int .i64 0,.slice none 0 0,.bool false],.bool false]) (results_cell_tmp Try.results102 _ _ (w.heap.size) 63 _ (0,0) _ rfl (setRow_heap _ _ _ _ 63 (0,0) R0.out) Try.underlying63 rfl (by kernel_rfl) _ rfl) rfl ?_;exact HF.out _ (row_below HB.out (by omega) _)
  ·have h1:(l.length:Int)≤n:=by
    simp only [Bool.and_eq_false_iff,decide_eq_false_iff_not] at hx;omega
   clear hx;go_wp2_with (refine wpList_store_row rfl 63 _ _ rfl (w.heap.size) _ rfl rfl 63 _ R0.out (by kernel_rfl) rfl (by simp [Value.oneCell']) ?_);refine bodyPost_ret (v:=.tuple #[.agg #[.int .i64 0,.slice none 0 0,.bool false],.bool false]) (results_cell_tmp Try.results102 _ _ (w.heap.size) 63 _ (0,0) _ rfl (setRow_heap _ _ _ _ 63 (0,0) R0.out) Try.underlying63 rfl (by kernel_rfl) _ rfl) rfl ?_;exact HF.out _ (row_below HB.out (by omega) _)
 | true=>
  have hx:=HEX.out;unfold exB at hx;simp only [Bool.and_eq_true,decide_eq_true_eq] at hx;obtain ⟨i,hi⟩:∃i:Nat,n=(i:Int):=⟨n.toNat,by omega⟩;subst hi;have hil:i<l.length:=by omega
  have hiI:(i:Int)<(l.length:Int):=by omega
  have hcc:l.getD i noChan=⟨cc,bf,cl⟩:=by
   rw [← HC.out];unfold fndE;rw [HEX.out,if_pos rfl];rfl
  obtain ⟨b,off,cap',u,hve,hb,c0,c1,c2,hu⟩:=HV.out.at i hil;simp only [Value.slice.injEq] at hve;obtain ⟨rfl,-,rfl⟩:=hve;rw [hcc] at c0 c2 hu;dsimp only at c0 c2 hu;obtain ⟨ua,uc,rfl,-⟩:=hu.len;have HU:=Lib.hid hu;have c0:=(HB.out.cell (p:=⟨b,off+i * 3,none⟩) hb).trans c0;have c1:=(HB.out.cell (p:=⟨b,off+i * 3+1,none⟩) hb).trans c1;have c2:=(HB.out.cell (p:=⟨b,off+i * 3+2,none⟩) hb).trans c2;have hb:=Nat.lt_of_lt_of_le hb HB.out.size;clear hx hcc HEX HC HV hu;go_wp2_with (refine wpList_store_row rfl 63 _ _ rfl (w.heap.size) _ rfl rfl 63 _ R0.out (by kernel_rfl) rfl (by simp [Value.oneCell']) ?_);refine bodyPost_ret (v:=.tuple #[.agg #[.int .i64 cc,.slice ua bf.length uc,.bool cl],.bool true]) (results_cell_tmp Try.results102 _ _ (w.heap.size) 63 _ (0,0) _ rfl (setRow_heap _ _ _ _ 63 (0,0) R0.out) Try.underlying63 rfl (by kernel_rfl) _ rfl) rfl ?_;exact ⟨_,rfl,(HU.out.below HB.out).grown (row_grown _ _ _) (HU.out.offOf (Nat.le_refl _)),row_below HB.out (by omega) _⟩
set_option maxRecDepth 100000 in
set_option maxHeartbeats 16000000 in
theorem qalone_any (v:Value) (l:List ChanM) (x:CaseM) (w:World) (hv:SlH w v l):Calls Try.prog 85 #[v,caseW x] w (ResQ (aloneE l x) w):=by
 have TF:=Lib.hid fun w' (hb:Below w.heap.size w w')=>qfind_any v l x.chan w' (hv.below hb);obtain ⟨ro,hro⟩:∃o,aloneE l x=o:=⟨_,rfl⟩;rw [hro];unfold aloneE at hro;obtain ⟨sd,ch,vl⟩:=x;dsimp only at hro TF;unfold caseW;try dsimp only
 obtain ⟨ex,hex⟩:∃b,exB l ch=b:=⟨_,rfl⟩;obtain ⟨⟨cc,bf,cl⟩,hc⟩:∃c,fndE l ch=c:=⟨_,rfl⟩;unfold FindQ at TF;rw [hex,hc] at TF;dsimp only at TF;rw [hex,hc] at hro;have HRO:=Lib.hid hro;obtain ⟨a,cap,hve,-⟩:=hv.len;subst hve;clear hv hro hex hc;obtain ⟨W,hW,HB,R0,R1,hz⟩:=two_new w (.cells #[.bool sd,.int .i64 ch,.int .u64 vl] 58) (.cells #[.int .i64 0,.int .i64 0,.int .u64 0,.bool false,.int .i64 0] 73);have HW:=Lib.hid hW;clear hW;go_enter Try.func85,Try.ntmps85;go_upto_region 1 with fail
 rw [HW.out];clear HW;obtain ⟨x0_0,x0_1,x0_2⟩:=rowc3 R0.out;go_wp2_with fail;refine (TF.out _ HB.out).mono ?_; rintro e w1 ⟨u,rfl,hu,hb1⟩;have hbl:=hu.1;obtain ⟨ua,uc,rfl,-⟩:=hu.len;have HU1:=Lib.hid hu;have HB1:=Lib.hid (below_then HB.out hb1);have R0b:=keepR hb1 R0;have R1b:=keepR hb1 R1;clear x0_0 x0_1 x0_2;clear hu hb1;obtain ⟨Wx,hWx⟩:∃Wx,(w1.alloc (.cells #[.int .i64 0,.slice none 0 0,.bool false] 63)).setRow w1.heap.size #[.int .i64 cc,.slice ua bf.length uc,.bool cl]=Wx:=⟨_,rfl⟩;have Nx:Hid ((w1.alloc (.cells #[.int .i64 0,.slice none 0 0,.bool false] 63)).heap[w1.heap.size]?=some (.cells #[.int .i64 0,.slice none 0 0,.bool false] 63 (0,0))):=heap_alloc_new _ _;have HBx:Hid (Below w1.heap.size w1 Wx):=hWx▸row_below (below_new (Below.refl _ _) _) (Nat.le_refl _) _;have Rx:Hid (Wx.heap[w1.heap.size]?=some (.cells #[.int .i64 cc,.slice ua bf.length uc,.bool cl] 63 (0,0))):=hWx▸setRow_heap _ _ _ _ _ (0,0) Nx.out;have HWx:=Lib.hid hWx;clear hWx;go_upto_region 2 with (refine wpList_store_row rfl 63 _ _ rfl (w1.heap.size) _ rfl rfl 63 _ Nx.out (by kernel_rfl) rfl (by simp [Value.oneCell']) ?_)
 rw [HWx.out];try simp only [Act.put]
 clear HWx Nx;have HBX:=Lib.hid (below_then HB1.out HBx.out);have R0c:=keepR HBx.out R0b;have R1c:=keepR HBx.out R1b;have HUx:=Lib.hid (HU1.out.below HBx.out);obtain ⟨y0,y1,y2⟩:=rowc3 Rx.out;obtain ⟨x0_0,x0_1,x0_2⟩:=rowc3 R0c.out;cases ex with
 | false=>
  go_wp2_with (refine wpList_store_row rfl 73 _ _ rfl (w.heap.size+1) _ rfl rfl 73 _ R1c.out (by kernel_rfl) rfl (by simp [Value.oneCell']) ?_);refine bodyPost_ret (v:=.tuple #[.agg #[.int .i64 0,.int .i64 0,.int .u64 0,.bool false,.int .i64 0],.bool false]) (results_cell_tmp Try.results85 _ _ (w.heap.size+1) 73 _ (0,0) _ rfl (setRow_heap _ _ _ _ 73 (0,0) R1c.out) Try.underlying73 rfl (by kernel_rfl) _ rfl) rfl ?_;unfold ResQ;exact ⟨⟨0,0,0,false,0⟩,false,rfl,.inr ⟨rfl,by rw [← HRO.out]; simp [aloneC]⟩,row_below HBX.out (by omega) _⟩
 | true=>
  cases sd with
  | true=>
   cases cl with
   | true=>
    go_wp2_with (refine wpList_store_row rfl 73 _ _ rfl (w.heap.size+1) _ rfl rfl 73 _ R1c.out (by kernel_rfl) rfl (by simp [Value.oneCell']) ?_);refine bodyPost_ret (v:=.tuple #[.agg #[.int .i64 5,.int .i64 (-1),.int .u64 0,.bool false,.int .i64 0],.bool true]) (results_cell_tmp Try.results85 _ _ (w.heap.size+1) 73 _ (0,0) _ rfl (setRow_heap _ _ _ _ 73 (0,0) R1c.out) Try.underlying73 rfl (by kernel_rfl) _ rfl) rfl ?_;unfold ResQ;exact ⟨⟨5,(-1),0,false,0⟩,true,rfl,.inl ⟨rfl,by rw [← HRO.out]; simp [aloneC]⟩,row_below HBX.out (by omega) _⟩
   | false=>
    by_cases hlt:(bf.length:Int)<cc
    ·skip
     go_wp2_with (refine wpList_store_row rfl 73 _ _ rfl (w.heap.size+1) _ rfl rfl 73 _ R1c.out (by kernel_rfl) rfl (by simp [Value.oneCell']) ?_);refine bodyPost_ret (v:=.tuple #[.agg #[.int .i64 1,.int .i64 (-1),.int .u64 0,.bool false,.int .i64 0],.bool true]) (results_cell_tmp Try.results85 _ _ (w.heap.size+1) 73 _ (0,0) _ rfl (setRow_heap _ _ _ _ 73 (0,0) R1c.out) Try.underlying73 rfl (by kernel_rfl) _ rfl) rfl ?_;unfold ResQ;exact ⟨⟨1,(-1),0,false,0⟩,true,rfl,.inl ⟨rfl,by rw [← HRO.out]; simp [aloneC,hlt]⟩,row_below HBX.out (by omega) _⟩
    ·skip
     go_wp2_with (refine wpList_store_row rfl 73 _ _ rfl (w.heap.size+1) _ rfl rfl 73 _ R1c.out (by kernel_rfl) rfl (by simp [Value.oneCell']) ?_);refine bodyPost_ret (v:=.tuple #[.agg #[.int .i64 0,.int .i64 0,.int .u64 0,.bool false,.int .i64 0],.bool false]) (results_cell_tmp Try.results85 _ _ (w.heap.size+1) 73 _ (0,0) _ rfl (setRow_heap _ _ _ _ 73 (0,0) R1c.out) Try.underlying73 rfl (by kernel_rfl) _ rfl) rfl ?_;unfold ResQ;exact ⟨⟨0,0,0,false,0⟩,false,rfl,.inr ⟨rfl,by rw [← HRO.out]; simp [aloneC,hlt]⟩,row_below HBX.out (by omega) _⟩
  | false=>
   cases bf with
   | nil=>
    simp only [List.length_nil] at y1;cases cl with
    | true=>
     go_wp2_with (refine wpList_store_row rfl 73 _ _ rfl (w.heap.size+1) _ rfl rfl 73 _ R1c.out (by kernel_rfl) rfl (by simp [Value.oneCell']) ?_);refine bodyPost_ret (v:=.tuple #[.agg #[.int .i64 2,.int .i64 (-1),.int .u64 0,.bool false,.int .i64 0],.bool true]) (results_cell_tmp Try.results85 _ _ (w.heap.size+1) 73 _ (0,0) _ rfl (setRow_heap _ _ _ _ 73 (0,0) R1c.out) Try.underlying73 rfl (by kernel_rfl) _ rfl) rfl ?_;unfold ResQ;exact ⟨⟨2,(-1),0,false,0⟩,true,rfl,.inl ⟨rfl,by rw [← HRO.out]; simp [aloneC]⟩,row_below HBX.out (by omega) _⟩
    | false=>
     go_wp2_with (refine wpList_store_row rfl 73 _ _ rfl (w.heap.size+1) _ rfl rfl 73 _ R1c.out (by kernel_rfl) rfl (by simp [Value.oneCell']) ?_);refine bodyPost_ret (v:=.tuple #[.agg #[.int .i64 0,.int .i64 0,.int .u64 0,.bool false,.int .i64 0],.bool false]) (results_cell_tmp Try.results85 _ _ (w.heap.size+1) 73 _ (0,0) _ rfl (setRow_heap _ _ _ _ 73 (0,0) R1c.out) Try.underlying73 rfl (by kernel_rfl) _ rfl) rfl ?_;unfold ResQ;exact ⟨⟨0,0,0,false,0⟩,false,rfl,.inr ⟨rfl,by rw [← HRO.out]; simp [aloneC]⟩,row_below HBX.out (by omega) _⟩
   | cons yb bt=>
    obtain ⟨b2,off2,cap2,e2,hcp,hb2,hcc2⟩:=HUx.out.open (by simp);simp only [Value.slice.injEq] at e2;obtain ⟨rfl,-,rfl⟩:=e2;have q0:=hcc2 0 (by simp);simp only [Nat.add_zero,List.getD_cons_zero] at q0;simp only [List.length_cons] at y1;simp only [List.length_cons] at hbl;have h03:(0:Int)<(bt.length:Int)+1:=by omega
    have h04:(0:Int)<((bt.length+1:Nat):Int):=by omega
    clear hcc2;go_wp2_with (refine wpList_store_row rfl 73 _ _ rfl (w.heap.size+1) _ rfl rfl 73 _ R1c.out (by kernel_rfl) rfl (by simp [Value.oneCell']) ?_);refine bodyPost_ret (v:=.tuple #[.agg #[.int .i64 2,.int .i64 (-1),.int .u64 yb,.bool true,.int .i64 0],.bool true]) (results_cell_tmp Try.results85 _ _ (w.heap.size+1) 73 _ (0,0) _ rfl (setRow_heap _ _ _ _ 73 (0,0) R1c.out) Try.underlying73 rfl (by kernel_rfl) _ rfl) rfl ?_;unfold ResQ;exact ⟨⟨2,(-1),yb,true,0⟩,true,rfl,.inl ⟨rfl,by rw [← HRO.out]; simp [aloneC]⟩,row_below HBX.out (by omega) _⟩
set_option maxRecDepth 100000 in
set_option maxHeartbeats 16000000 in
theorem qready_any (v:Value) (l:List ChanM) (x:CaseM) (w:World) (hv:SlH w v l):Calls Try.prog 56 #[v,caseW x] w fun e w'=>e=.returned (.bool (readyB l x))∧Below w.heap.size w w':=by
 have TF:=Lib.hid fun w' (hb:Below w.heap.size w w')=>qalone_any v l x w' (hv.below hb);rw [← aloneE_ready];obtain ⟨ro,hro⟩:∃o,aloneE l x=o:=⟨_,rfl⟩;rw [hro] at TF;rw [hro];obtain ⟨sd,ch,vl⟩:=x;unfold caseW at TF ⊢;try dsimp only at TF ⊢
 obtain ⟨a,cap,hve,-⟩:=hv.len;subst hve;clear hv hro;obtain ⟨W,hW,HB,R0,hz⟩:=one_new w (.cells #[.bool sd,.int .i64 ch,.int .u64 vl] 58);have HW:=Lib.hid hW;clear hW;go_enter Try.func56,Try.ntmps56;go_upto_region 1 with fail
 rw [HW.out];clear HW;obtain ⟨x0_0,x0_1,x0_2⟩:=rowc3 R0.out;go_wp2_with fail;refine (TF.out _ HB.out).mono ?_; rintro e w1 ⟨⟨q1,q2,q3,q4,q5⟩,b,rfl,hr,hb1⟩;unfold resW;dsimp only;have HB1:=Lib.hid (below_then HB.out hb1);have HR:Hid (ro.isSome=b):=by
  rcases hr with ⟨rfl,rfl⟩ | ⟨rfl,rfl⟩ <;> rfl
 clear hr hb1 x0_0 x0_1 x0_2;obtain ⟨Wx,hWx⟩:∃Wx,(w1.alloc (.cells #[.int .i64 0,.int .i64 0,.int .u64 0,.bool false,.int .i64 0] 73)).setRow w1.heap.size #[.int .i64 q1,.int .i64 q2,.int .u64 q3,.bool q4,.int .i64 q5]=Wx:=⟨_,rfl⟩;have Nx:Hid ((w1.alloc (.cells #[.int .i64 0,.int .i64 0,.int .u64 0,.bool false,.int .i64 0] 73)).heap[w1.heap.size]?=some (.cells #[.int .i64 0,.int .i64 0,.int .u64 0,.bool false,.int .i64 0] 73 (0,0))):=heap_alloc_new _ _;have HBx:Hid (Below w1.heap.size w1 Wx):=hWx▸row_below (below_new (Below.refl _ _) _) (Nat.le_refl _) _;have Rx:Hid (Wx.heap[w1.heap.size]?=some (.cells #[.int .i64 q1,.int .i64 q2,.int .u64 q3,.bool q4,.int .i64 q5] 73 (0,0))):=hWx▸setRow_heap _ _ _ _ _ (0,0) Nx.out;have HWx:=Lib.hid hWx;clear hWx;go_upto_region 2 with (refine wpList_store_row rfl 73 _ _ rfl (w1.heap.size) _ rfl rfl 73 _ Nx.out (by kernel_rfl) rfl (by simp [Value.oneCell']) ?_)
 rw [HWx.out];try simp only [Act.put]
 clear HWx Nx;go_wp2;go_ret;exact ⟨by rw [HR.out]; rfl,below_then HB1.out HBx.out⟩
section
variable {e:TypeId} {s base:Nat} {w:World} {v:Value} {rows:List (List Value)}
theorem wp_append_ss (st:TypeId) {bytes:Nat} {z:Value} (hu:Try.prog.underlying st=some (.slice e)) (hinfo:(Try.prog.info? e).map (fun i=>(i.zero,i.size,i.bytes))=some (some z,s,bytes)) (hzs:z.cells.size=s) (hsz:0<s) (hby:bytes≤200)
  {ops:Array Oper} {rest:List Oper} {o:Oper} {a:Act} {Q:Exit→Act→World→Prop}
  (hgd:o.guard=none) (sl x:Operand) (hop:o.op=Op.call { callee:=Callee.builtin Builtin.append,args:=#[sl,x],argTypes:=#[st,st] })
  (hs:a.eval sl=v) (hown:OwnS w base e s v rows) (rs:List (List Value)) (hr:Rows' s rs) (g n:Nat) (hn:rs.length=n)
  (hx:a.eval x=.slice (some ⟨g,0,none⟩) n n) (hcell:w.heap[g]?=some (.cells rs.flatten.toArray e (0,0))) (hl:rows.length+rs.length≤1000001) (hb:base≤w.heap.size)
  (hK:∀v' w',OwnS w' base e s v' (rows ++ rs)→w.grownBy w' v.ownBlock→wpList Try.prog ops Q rest (a.put o.dst v') w') :
  wpList Try.prog ops Q (o :: rest) a w:=by
 subst hn;obtain ⟨i0,hi,hz0,hz1,hz2⟩:=info_parts hinfo;obtain ⟨v',w',hrun,h2,h3,-,h4⟩:=run_append_own_at (P:=Try.prog) w base st o.type e i0 z s bytes hu hi hz0 hz1 hz2 hzs hsz v rows.length _ hown.2 ⟨g,0,none⟩ rs.length rs.length rs.flatten (flatS_length rs hr) (fun j u hj=>by
  have:w.cell? ⟨g,j,none⟩=rs.flatten.toArray[j]?:=cell_of_row _ _ j _ _ _ hcell;have e2:((⟨g,0,none⟩:Addr).add j)=⟨g,j,none⟩:=by rw [Addr.add_mid,Nat.zero_add]
  rw [e2,this];simpa using hj) (fun u hu=>by
   obtain ⟨r,hr2,hur⟩:=List.mem_flatten.1 hu;exact (hr r hr2).2 u hur) (by unfold maxLen; omega) (by have:(rows.length+rs.length) * bytes≤1000001 * 200:=Nat.mul_le_mul (by omega) hby; omega) hb
 refine Lib.wpList_append_run w hgd sl x _ _ hop _ _ hs hx v' w' hrun (hK v' w' ⟨fun r hr2=>?_,?_⟩ h3)
 ·rcases List.mem_append.1 hr2 with h | h
  ·exact hown.1 r h
  ·exact hr r h
 ·rw [List.length_append,List.flatten_append]
  exact h2
theorem SlS.lit1 (w:World) (e:TypeId) (row:List Value) (s:Nat) (hs:row.length=s) (h1:∀u∈row,u.oneCell'=true):SlS (w.alloc (.cells row.toArray e)) s (.slice (some ⟨w.heap.size,0,none⟩) 1 1) [row]:=by
 refine ⟨by simp,fun r hr=>?_,_,1,rfl,Nat.le_refl _,fun i hi=>⟨w.heap.size,0,rfl,by simp,?_⟩⟩
 ·rw [List.mem_singleton.1 hr]; exact ⟨hs,h1⟩
 ·have hi0:i=0:=by simp at hi; exact hi
  subst hi0;intro j u hj;have h2:(w.alloc (.cells row.toArray e)).cell? ⟨w.heap.size,j,none⟩=row.toArray[j]?:=cell_of_row _ _ j _ _ (0,0) (heap_alloc_new w (.cells row.toArray e));simp only [Nat.zero_mul,Nat.zero_add];rw [h2];simpa using hj
end
def resL (r:ResM):List Value:=[.int .i64 r.kind,.int .i64 r.case,.int .u64 r.val,.bool r.ok,.int .i64 r.num]
def resRows (l:List ResM):List (List Value):=l.map resL
theorem resRows_length (l:List ResM):(resRows l).length=l.length:=List.length_map _
theorem resRows_get (l:List ResM) (i:Nat) (hi:i<l.length):(resRows l).getD i []=resL (l.getD i ⟨0,0,0,false,0⟩):=by
 simp [resRows,List.getD_eq_getElem?_getD,hi]
theorem SlS.res {w:World} {v:Value} {l:List ResM} (h:SlS w 5 v (resRows l)) (i:Nat) (hi:i<l.length) {r:ResM} (hr:l.getD i ⟨0,0,0,false,0⟩=r):∃b off cap,v=.slice (some ⟨b,off,none⟩) l.length cap∧b<w.heap.size∧w.cell? ⟨b,off+i * 5,none⟩=some (.int .i64 r.kind)∧w.cell? ⟨b,off+i * 5+1,none⟩=some (.int .i64 r.case)∧w.cell? ⟨b,off+i * 5+2,none⟩=some (.int .u64 r.val)∧w.cell? ⟨b,off+i * 5+3,none⟩=some (.bool r.ok)∧w.cell? ⟨b,off+i * 5+4,none⟩=some (.int .i64 r.num):=by
 have hl:=resRows_length l;obtain ⟨b,off,cap,rfl,hb,hc⟩:=h.open (by omega);have h5:=hc i (by omega);rw [resRows_get l i hi,hr] at h5;exact ⟨b,off,cap,by rw [hl],hb,h5 0 _ rfl,h5 1 _ rfl,h5 2 _ rfl,h5 3 _ rfl,h5 4 _ rfl⟩
def atP (P:Nat→Prop) (v:Value):Prop:=∀a n c,v=.slice (some a) n c→n=0∨P a.block
theorem atP.mono {P Q:Nat→Prop} {v:Value} (h:atP P v) (hpq:∀b,P b→Q b):atP Q v:=fun a n c e=>(h a n c e).imp id (hpq _)
theorem atP.off {P:Nat→Prop} {v:Value} {g:Nat} (h:atP P v) (hg:∀b,P b→b≠g):offB g v:=fun a n c e=>(h a n c e).imp id (hg _)
theorem OwnI.isP {P:Nat→Prop} {w:World} {base:Nat} {e:TypeId} {k:IntKind} {v:Value} {l:List Int} (h:OwnI w base e k v l) (hp:∀b,base≤b→P b):atP P v:=by
 intro a n c e2;rcases h.shape with ⟨rfl,-⟩ | ⟨g,cap,rfl,hg,-⟩
 ·simp at e2
 ·simp only [Value.slice.injEq,Option.some.injEq] at e2
  obtain ⟨rfl,-,-⟩:=e2;exact .inr (hp _ hg)
theorem OwnS.isP {P:Nat→Prop} {w:World} {base s:Nat} {e:TypeId} {v:Value} {rows:List (List Value)} (h:OwnS w base e s v rows) (hp:∀b,base≤b→P b):atP P v:=by
 intro a n c e2;rcases h.shape with ⟨rfl,-⟩ | ⟨g,cap,rfl,hg,-⟩
 ·simp at e2
 ·simp only [Value.slice.injEq,Option.some.injEq] at e2
  obtain ⟨rfl,-,-⟩:=e2;exact .inr (hp _ hg)
def SlHX (P:Nat→Prop) (w:World) (v:Value) (l:List ChanM):Prop:=
 ∃us:List Value,us.length=l.length∧SlS w 3 v (chRows l us)∧(∀i,i<l.length→SlU w (us.getD i (.slice none 0 0)) (l.getD i noChan).buf∧atP P (us.getD i (.slice none 0 0)))∧(∀c∈l,c.cap=IntKind.i64.wrap c.cap)∧fineB w v∧atP P v
theorem SlHX.slH {P:Nat→Prop} {w:World} {v:Value} {l:List ChanM} (h:SlHX P w v l):SlH w v l:=by
 obtain ⟨us,h1,h2,h3,h4,h5,-⟩:=h;exact ⟨us,h1,h2,fun i hi=>(h3 i hi).1,h4,h5⟩
theorem SlHX.mono {P Q:Nat→Prop} {w:World} {v:Value} {l:List ChanM} (h:SlHX P w v l) (hpq:∀b,P b→Q b):SlHX Q w v l:=by
 obtain ⟨us,h1,h2,h3,h4,h5,h6⟩:=h;exact ⟨us,h1,h2,fun i hi=>⟨(h3 i hi).1,(h3 i hi).2.mono hpq⟩,h4,h5,h6.mono hpq⟩
theorem fineB.isP {w:World} {v:Value} (h:fineB w v):atP (fun b=>b<w.heap.size) v:=fun a n c e=>(h a n c e).imp id (·.1)
theorem SlH.slHX {w:World} {v:Value} {l:List ChanM} (h:SlH w v l):SlHX (fun b=>b<w.heap.size) w v l:=by
 obtain ⟨us,h1,h2,h3,h4,h5⟩:=h;exact ⟨us,h1,h2,fun i hi=>⟨h3 i hi,(h3 i hi).2.isP⟩,h4,h5,h5.isP⟩
theorem SlHX.below {P:Nat→Prop} {w w2:World} {v:Value} {l:List ChanM} (h:SlHX P w v l) (hb:Below w.heap.size w w2):SlHX P w2 v l:=by
 obtain ⟨us,h1,h2,h3,h4,h5,h6⟩:=h;exact ⟨us,h1,h2.below hb,fun i hi=>⟨(h3 i hi).1.below hb,(h3 i hi).2⟩,h4,h5.below hb,h6⟩
theorem fineB.keptO {w w2:World} {g:Nat} {v:Value} (h:fineB w v) (hg:w.grownBy w2 (some g)) (ho:offB g v):fineB w2 v:=fun a n c e=>by
 rcases h a n c e with h1 | ⟨h1,h2⟩
 ·exact .inl h1
 ·rcases ho a n c e with h3 | h3
  ·exact .inl h3
  ·refine .inr ⟨Nat.lt_of_lt_of_le h1 hg.size,fun cs f=>?_⟩
   rw [hg.block a.block h1 (fun e=>h3 (by simpa using e))];exact h2 cs f
theorem SlHX.off {P:Nat→Prop} {w w2:World} {g:Nat} {v:Value} {l:List ChanM} (h:SlHX P w v l) (hg:w.grownBy w2 (some g)) (hP:∀b,P b→b≠g):SlHX P w2 v l:=by
 obtain ⟨us,h1,h2,h3,h4,h5,h6⟩:=h;refine ⟨us,h1,?_,fun i hi=>⟨⟨(h3 i hi).1.1.grown hg ((h3 i hi).2.off hP),(h3 i hi).1.2.keptO hg ((h3 i hi).2.off hP)⟩,(h3 i hi).2⟩,h4,h5.keptO hg (h6.off hP),h6⟩;obtain ⟨q1,q2,a,cap,rfl,q4,q5⟩:=h2;refine ⟨q1,q2,a,cap,rfl,q4,fun i hi=>?_⟩;obtain ⟨b,off,rfl,hb,hr⟩:=q5 i hi;have hne:b≠g:=by
  rcases h6 _ _ _ rfl with h7 | h7
  ·omega
  ·exact hP _ h7
 exact ⟨b,off,rfl,Nat.lt_of_lt_of_le hb hg.size,fun j u hj=>by
  have hbk:=hg.block b hb (fun e=>hne (by simpa using e));have:=hr j u hj;unfold World.cell? at this ⊢;rw [hbk];exact this⟩
theorem SlHX.drawn {P:Nat→Prop} {w w2:World} {g:Nat} {v:Value} {l:List ChanM} (h:SlHX P w v l) (hg:w.grownBy w2 (some g)) (hC:∃cs f,w.heap[g]?=some (.cells cs 77 f)):SlHX P w2 v l:=by
 have h0:SlHX (fun b=>P b∧b≠g) w v l:=by
  obtain ⟨cs,f,hc⟩:=hC;have hf:∀{v:Value},fineB w v→atP P v→atP (fun b=>P b∧b≠g) v:=fun {v} hf ha a n c e=>by
   rcases hf a n c e with h1 | ⟨-,h1⟩
   ·exact .inl h1
   ·rcases ha a n c e with h2 | h2
    ·exact .inl h2
    ·exact .inr ⟨h2,fun e2=>by rw [e2] at h1; exact h1 cs f hc⟩
  obtain ⟨us,h1,h2,h3,h4,h5,h6⟩:=h;exact ⟨us,h1,h2,fun i hi=>⟨(h3 i hi).1,hf (h3 i hi).1.2 (h3 i hi).2⟩,h4,h5,hf h5 h6⟩
 exact (h0.off hg (fun b hb=>hb.2)).mono fun b hb=>hb.1
theorem OwnS.slHX {P:Nat→Prop} {w:World} {base:Nat} {v:Value} {l:List ChanM} {us:List Value} (h:OwnS w base 63 3 v (chRows l us)) (h1:us.length=l.length) (hl:l.length≤1000000) (h3:∀i,i<l.length→SlU w (us.getD i (.slice none 0 0)) (l.getD i noChan).buf∧atP P (us.getD i (.slice none 0 0))) (h4:∀c∈l,c.cap=IntKind.i64.wrap c.cap) (hp:∀b,base≤b→P b):SlHX P w v l:=
 ⟨us,h1,h.sls (by rw [chRows_length l us h1]; omega),h3,h4,own_fine h.2 (by decide),OwnS.isP h hp⟩
theorem CopyR.slHX {P:Nat→Prop} {l:List ChanM} {w w' W:World} {v:Value} {us:List Value} {B:Nat} (h:CopyR l w w' v us B) (hp:∀b,w.heap.size≤b→P b) (hl:l.length≤1000000) (hbf:∀i,i<l.length→(l.getD i noChan).buf.length≤1000000∧∀x∈(l.getD i noChan).buf,x=IntKind.u64.wrap x) (h4:∀c∈l,c.cap=IntKind.i64.wrap c.cap) (hb:Below w'.heap.size w' W):SlHX P W v l:=
 (h.rows.below hb).slHX h.len hl (fun i hi=>⟨((h.bufs i hi).below hb).slU (by have:=(hbf i hi).1; omega) (hbf i hi).2,OwnI.isP (h.bufs i hi) (fun b hb=>hp b (Nat.le_trans h.lo hb))⟩) h4 hp
theorem valid_any (v:Value) (l:List Int) (i:Nat) (w:World) (hl:SlI w .i64 v l) (hi:i≤20) :
  Calls Try.prog 104 #[v,.int .i64 (i:Int)] w fun e w'=>e=.returned (.int .i64 (drawI l i))∧w=w':=by
 by_cases h:l.length≤i
 ·have HR:=Lib.hid (drawI_out l i h)
  obtain ⟨a,cap,rfl,_⟩:=hl.len;have:=hl.1;clear hl;go_enter Try.func104,Try.ntmps104;go_wp2;go_ret;exact ⟨by rw [HR.out]; rfl,rfl⟩
 ·have hmx:=hl.1
  obtain ⟨b,off,cap,rfl,h4,hlt,hc⟩:=hl.open (by rintro rfl; simp at h);have hcell:=hc i (by omega);have b1:=tmod_bd (l.getD i 0) i;have N1:=Lib.hid (drawI_neg l i);have N2:=Lib.hid (drawI_pos l i);clear hc hl;have hlt:i<l.length:=by omega
  generalize l.getD i 0=x at *;go_enter Try.func104,Try.ntmps104;go_wp2
  ·have hh:x.tmod (↑i+1)<0:=by assumption
   go_ret;exact ⟨ret_i64 (N1.out hh),rfl⟩
  ·have hh:0≤x.tmod (↑i+1):=by assumption
   go_ret;exact ⟨ret_i64 (N2.out hh),rfl⟩
theorem rdraw_any (v:Value) (l:List Int) (i:Nat) (w:World) (hl:SlI w .i64 v l) (hi:i≤20) :
  Calls Try.prog 91 #[v,.int .i64 (i:Int)] w fun e w'=>e=.returned (.int .i64 (drawI l i))∧w=w':=by
 by_cases h:l.length≤i
 ·have HR:=Lib.hid (drawI_out l i h)
  obtain ⟨a,cap,rfl,_⟩:=hl.len;have:=hl.1;clear hl;go_enter Try.func91,Try.ntmps91;go_wp2;go_ret;exact ⟨by rw [HR.out]; rfl,rfl⟩
 ·have hmx:=hl.1
  obtain ⟨b,off,cap,rfl,h4,hlt,hc⟩:=hl.open (by rintro rfl; simp at h);have hcell:=hc i (by omega);have b1:=tmod_bd (l.getD i 0) i;have N1:=Lib.hid (drawI_neg l i);have N2:=Lib.hid (drawI_pos l i);clear hc hl;have hlt:i<l.length:=by omega
  generalize l.getD i 0=x at *;go_enter Try.func91,Try.ntmps91;go_wp2
  ·have hh:x.tmod (↑i+1)<0:=by assumption
   go_ret;exact ⟨ret_i64 (N1.out hh),rfl⟩
  ·have hh:0≤x.tmod (↑i+1):=by assumption
   go_ret;exact ⟨ret_i64 (N2.out hh),rfl⟩
theorem mod_any (x n:Int) (w:World) (h2:1≤n) (h3:n≤1000000) :
  Calls Try.prog 25 #[.int .i64 x,.int .i64 n] w fun e w'=>e=.returned (.int .i64 (x % n))∧w=w':=by
 obtain ⟨m,hm⟩:∃m:Nat,n=m+1:=⟨(n - 1).toNat,by omega⟩;have b:-n<x.tmod n∧x.tmod n<n:=by have:=tmod_bd x m; rw [hm]; omega
 have M:=Lib.hid (show x % n=if x.tmod n<0 then x.tmod n+n else x.tmod n by have:=tmod_mod x m; rw [hm]; exact this);clear hm;go_enter Try.func25,Try.ntmps25;go_wp2
 ·have hh:x.tmod n<0:=by assumption
  go_ret;exact ⟨ret_i64 (by rw [M.out,if_pos hh]),rfl⟩
 ·have hh:0≤x.tmod n:=by assumption
  go_ret;exact ⟨ret_i64 (by rw [M.out,if_neg (by omega)]),rfl⟩
def CodesAt (w:World) (g:Nat) (r:List Int) (val:Int):Prop:=
 ∃v l,∃k:Nat,w.heap[g]?=some (.cells #[v,.int .i64 k,.int .u64 val] 77 (0,0))∧SlI w .u8 v l∧k≤l.length∧r=l.drop k∧(l≠[]→∀a n c,v=.slice a n c→∀b,a=some b→b.block<g)
theorem CodesAt.drew {w:World} {g:Nat} {r:List Int} {val:Int} (h:CodesAt w g r val) (n:Nat):CodesAt (w.drewN n) g r val:=h
theorem CodesAt.lt {w:World} {g:Nat} {r:List Int} {val:Int} (h:CodesAt w g r val):g<w.heap.size:=by
 obtain ⟨v,l,k,hg,_⟩:=h;exact (Array.getElem?_eq_some_iff.1 hg).1
theorem CodesAt.kept {w w':World} {g B:Nat} {r:List Int} {val:Int} (h:CodesAt w g r val) (hB:g<B) (hb:Below B w w'):CodesAt w' g r val:=by
 obtain ⟨v,l,k,hg,⟨m1,m2,a,cap,rfl,hcap,h5⟩,hk,hr,h4⟩:=h;refine ⟨_,l,k,(hb.block g hB).trans hg,⟨m1,m2,a,cap,rfl,hcap,fun t ht=>?_⟩,hk,hr,h4⟩;obtain ⟨b,off,e,hlt,hc⟩:=h5 t ht;have hbg:=h4 (by rintro rfl; simp at ht) _ _ _ rfl _ e;exact ⟨b,off,e,Nat.lt_of_lt_of_le hlt hb.size,(hb.cell (p:=⟨b,off+t,none⟩) (by simp at hbg ⊢; omega)).trans hc⟩
def nxt (r:List Int) (n:Int):Int:=match r with | []=>0 | c :: _=>c % n
theorem nxt_bd (r:List Int) (n:Int) (h:1≤n):0≤nxt r n∧nxt r n<n:=by
 unfold nxt;split
 ·omega
 ·exact ⟨Int.emod_nonneg _ (by omega),Int.emod_lt_of_pos _ (by omega)⟩
theorem left_any (g:Nat) (r:List Int) (val:Int) (w:World) (h:CodesAt w g r val) :
  Calls Try.prog 15 #[.pointer (some ⟨g,0,none⟩)] w fun e w'=>∃n,e=.returned (.bool (!r.isEmpty))∧w.drewN n=w':=by
 obtain ⟨v,l,k,hg,hl,hk,rfl,_⟩:=h;have hmx:=hl.1;obtain ⟨a,cap,rfl,_⟩:=hl.len;have c0:=cell_of_row w g 0 _ _ _ hg;have c1:=cell_of_row w g 1 _ _ _ hg;simp at c0 c1;clear hg hl;have hr:((l.drop k).isEmpty)=decide (l.length≤k):=by
  rw [Bool.eq_iff_iff]; simp
 have HR:=Lib.hid hr;clear hr;go_enter Try.func15,Try.ntmps15;go_wp2;go_quiet (fail);go_wp2;go_ret;exact ⟨nq,ret_bool (by rw [HR.out]; by_cases e:k<l.length <;> simp [e] <;> omega),rfl⟩
theorem codes_step {w:World} {g:Nat} {val:Int} {b off n cap k:Nat} {l:List Int}
  (hg:w.heap[g]?=some (.cells #[.slice (some ⟨b,off,none⟩) n cap,.int .i64 k,.int .u64 val] 77 (0,0)))
  (hl:SlI w .u8 (.slice (some ⟨b,off,none⟩) n cap) l) (hlt:k<l.length) (hbg0:b<g) (m:Nat) :
  (CodesAt (w.setCell ⟨g,1,none⟩ (.int .i64 ((k:Int)+1))) g (l.drop k).tail val)∧
  w.grownBy ((w.setCell ⟨g,1,none⟩ (.int .i64 ((k:Int)+1))).drewN m) (some g)∧
  (w.setCell ⟨g,1,none⟩ (.int .i64 ((k:Int)+1))).cell? ⟨g,0,none⟩=some (.slice (some ⟨b,off,none⟩) n cap)∧
  (w.setCell ⟨g,1,none⟩ (.int .i64 ((k:Int)+1))).cell? ⟨g,1,none⟩=some (.int .i64 ((k:Int)+1))∧
  (w.setCell ⟨g,1,none⟩ (.int .i64 ((k:Int)+1))).cell? ⟨b,off+k,none⟩=some (.int .u8 (l.getD k 0)):=by
 have hbg:b≠g:=by omega
 have hs:=heap_setCell_same w g 1 _ _ (.int .i64 ((k:Int)+1)) hg;have ho:∀j,j≠g→(w.setCell ⟨g,1,none⟩ (.int .i64 ((k:Int)+1))).heap[j]?=w.heap[j]?:=fun j hj=>heap_setCell_other w ⟨g,1,none⟩ j _ hj;have e0:=cell_of_row _ g 0 _ _ _ hs;have e1:=cell_of_row _ g 1 _ _ _ hs;have hcell:∀j,(w.setCell ⟨g,1,none⟩ (.int .i64 ((k:Int)+1))).cell? ⟨b,j,none⟩=w.cell? ⟨b,j,none⟩:=fun j=>World.cell?_of_block (ho b hbg);obtain ⟨m1,m2,a',cap',e,hle,h5⟩:=hl;simp only [Value.slice.injEq] at e;obtain ⟨rfl,rfl,rfl⟩:=e;have hsz:(w.setCell ⟨g,1,none⟩ (.int .i64 ((k:Int)+1))).heap.size=w.heap.size:=by simp
 refine ⟨⟨_,l,k+1,by simpa using hs,⟨m1,m2,_,_,rfl,hle,fun t ht=>?_⟩,hlt,by rw [List.tail_drop],?_⟩,⟨rfl,rfl,rfl,by simp,fun j _ hj=>ho j (fun e=>hj (by rw [e]))⟩,by simpa using e0,by simpa using e1,?_⟩
 ·obtain ⟨b1,o1,e2,h6,h7⟩:=h5 t ht
  simp only [Option.some.injEq,Addr.mk.injEq,and_true] at e2;obtain ⟨rfl,rfl⟩:=e2;exact ⟨_,_,rfl,by rw [hsz]; exact h6,(hcell _).trans h7⟩
 ·intro _ a n c e bb e2
  simp only [Value.slice.injEq] at e;rw [← e.1] at e2;cases e2;exact hbg0
 ·obtain ⟨b1,o1,e2,h6,h7⟩:=h5 k hlt
  simp only [Option.some.injEq,Addr.mk.injEq,and_true] at e2;obtain ⟨rfl,rfl⟩:=e2;exact (hcell _).trans h7
theorem next_any (g:Nat) (r:List Int) (val n:Int) (w:World) (h:CodesAt w g r val) (h1:1≤n) (h2:n≤256) :
  Calls Try.prog 16 #[.pointer (some ⟨g,0,none⟩),.int .i64 n] w fun e w'=>e=.returned (.int .i64 (nxt r n))∧CodesAt w' g r.tail val∧w.grownBy w' (some g):=by
 have h0:=h;obtain ⟨v,l,k,hg,hl,hk,hr,hv⟩:=h;have hmx:=hl.1;by_cases hlt:k<l.length
 ·obtain ⟨b,off,cap,rfl,hcap,hb,hc⟩:=hl.open (by rintro rfl; simp at hlt)
  have c0:=cell_of_row w g 0 _ _ _ hg;have c1:=cell_of_row w g 1 _ _ _ hg;have f1:=frozen_of_row w g 1 _ _ hg;simp at c0 c1;have hu:=hl.2.1 (l.getD k 0) (by simp [List.getD_eq_getElem?_getD,hlt]);have ST:=Lib.hid fun m q=>codes_step (w:=w.drewN m) hg (hl.drew m) hlt (hv (by rintro rfl; simp at hlt) _ _ _ rfl _ rfl) q;have hre:r.isEmpty=false:=by rw [hr]; simp; omega
  have hn:=Lib.hid (show nxt r n=l.getD k 0 % n by rw [hr,List.drop_eq_getElem_cons hlt]; simp [nxt,List.getD_eq_getElem?_getD,hlt]);have L:=Lib.hid fun w'=>left_any g r val w';have H0:=Lib.hid h0;have HR:=Lib.hid hr;have hkx:k≤140737488351232:=by omega
  generalize l.getD k 0=x at *;have hx:0≤x∧x<256:=by rw [hu,IntKind.wrap_u8]; omega
  obtain ⟨hx0,hx1⟩:=hx;have e1:=Int.tmod_eq_emod_of_nonneg (b:=n) hx0;have e2:=Int.emod_nonneg x (show n≠0 by omega);have e3:=Int.emod_lt_of_pos x (show 0<n by omega);have hltI:(k:Int)<l.length:=by omega
  clear hg hl hc hv hr h0 hu;have EX:=Lib.hid e1;clear e1;go_enter Try.func16,Try.ntmps16;go_wp2_with (go_at_call 15; refine (L.out _ H0.out).mono ?_; rintro e w' ⟨m,rfl,rfl⟩);obtain ⟨s1,s5,s2,s3,s4⟩:=ST.out m 0;have SS:=Lib.hid (And.intro s1 s5);clear s1 s5 c0 c1 f1;generalize (w.drewN m).setCell _ _=W1 at *;go_quiet (fail);go_wp2;go_ret;exact ⟨ret_i64 (hn.out.symm),by rw [HR.out]; exact SS.out.1,⟨SS.out.2.os,SS.out.2.tape,SS.out.2.output,SS.out.2.size,SS.out.2.block⟩⟩
 ·have hr0:r=[]:=by rw [hr]; simp; omega
  subst hr0;have L:=Lib.hid fun w'=>left_any g [] val w';have H0:=Lib.hid h0;clear hg hl hv hr h0;go_enter Try.func16,Try.ntmps16;go_wp2_with (go_at_call 15; refine (L.out _ H0.out).mono ?_; rintro e w' ⟨m,rfl,rfl⟩);go_ret;exact ⟨rfl,H0.out,⟨rfl,rfl,rfl,Nat.le_refl _,fun _ _ _=>rfl⟩⟩
theorem new_any (v:Value) (l:List Int) (m:Nat) (w:World) (hl:SlI w .u8 v l) (hm:m≤1000) :
  Calls Try.prog 10 #[v,.int .i64 m] w fun e w'=>e=.returned (.pointer (some ⟨w.heap.size,0,none⟩))∧CodesAt w' w.heap.size (l.take m) 0∧Below w.heap.size w w':=by
 have h0:=hl;obtain ⟨m1,m2,a,cap,rfl,hcap,h5⟩:=hl;by_cases hlt:m<l.length
 ·obtain ⟨b,off,rfl,hb,-⟩:=h5 m hlt
  have hlen:(l.take m).length=m:=by simp; omega
  have hfin:SlI (w.alloc (.cells #[.slice (some ⟨b,off,none⟩) m cap,.int .i64 0,.int .u64 0] 77)) .u8 (.slice (some ⟨b,off,none⟩) m cap) (l.take m):=by
   refine ⟨by omega,fun x hx=>m2 x (List.mem_of_mem_take hx),_,cap,by rw [hlen],by omega,fun t ht=>?_⟩;have ht':t<m:=by simp at ht; omega
   obtain ⟨b',off',e,hb',hc⟩:=h5 t (by omega);simp only [Option.some.injEq,Addr.mk.injEq,and_true] at e;obtain ⟨rfl,rfl⟩:=e;refine ⟨b,off,rfl,by simp; omega,?_⟩;rw [World.cell?_alloc_past _ _ _ hb',hc];simp [List.getD_eq_getElem?_getD,ht']
  have HF:=Lib.hid hfin;clear hfin h5;have hmc:(m:Int)≤cap:=by omega
  have hb':b<w.heap.size:=hb;clear hlen h0 m2;go_enter Try.func10,Try.ntmps10;go_wp2;go_ret;exact ⟨rfl,⟨_,l.take m,0,heap_alloc_new w _,HF.out,Nat.zero_le _,rfl,fun _ a n c e b2 e2=>by
   simp only [Value.slice.injEq] at e;rw [← e.1] at e2;cases e2;exact hb'⟩,(Below.refl _ _).alloc (Nat.le_refl _) _⟩
 ·have e:l.take m=l:=List.take_of_length_le (by omega)
  rw [e];have hfin:SlI (w.alloc (.cells #[.slice a l.length cap,.int .i64 0,.int .u64 0] 77)) .u8 (.slice a l.length cap) l:=h0.below ((Below.refl _ _).alloc (Nat.le_refl _) _);have HF:=Lib.hid hfin;have H5:=Lib.hid h5;clear hfin h5 e h0 m2;go_enter Try.func10,Try.ntmps10;go_wp2;go_ret;refine ⟨rfl,⟨_,l,0,heap_alloc_new w _,HF.out,Nat.zero_le _,rfl,fun hne a n c e b2 e2=>?_⟩,(Below.refl _ _).alloc (Nat.le_refl _) _⟩;simp only [Value.slice.injEq] at e;obtain ⟨b,off,e3,hb,_⟩:=H5.out 0 (List.length_pos_iff.2 hne);rw [← e.1,e3] at e2;cases e2;exact hb
theorem ascending_any (n:Nat) (w:World) (hn:n≤1000) :
  Calls Try.prog 103 #[.int .i64 n] w fun e w'=>e=.returned (.slice (some ⟨w.heap.size,0,none⟩) n n)∧OwnI w' w.heap.size 3 .i64 (.slice (some ⟨w.heap.size,0,none⟩) n n) (asc n)∧Below w.heap.size w w':=by
 have HF:=Lib.hid (fill_full n);go_enter Try.func103,Try.ntmps103;go_wp2_with (at_make; refine wp_make_i64 w rfl _ _ rfl n _ _ rfl rfl rfl rfl ?_ ?_; omega; intro w1 hown hgrow);rw [← fill_zero] at hown;go_loopw [4,9] (fun _ c wr=>∃k:Nat,k≤n∧c=.int .i64 k∧OwnI wr w.heap.size 3 .i64 (.slice (some ⟨w.heap.size,0,none⟩) n n) (fill n k)∧Below w.heap.size w wr) (fun _ c _=>n - (intOf c).toNat)
 case atStart=>exact ⟨0,by omega,rfl,hown,hgrow⟩
 case round=>
  clear hown hgrow;obtain ⟨k,hk,rfl,hown,hbel⟩:=hrel;by_cases hlt:k<n
  ·have hlen:=fill_length n k hk
   obtain ⟨c1,c2⟩:=hown.cell k (by omega);have S1:=hown.store k k (by omega);rw [fill_step n k hlt] at S1;have S2:=hbel.setCell (p:=⟨w.heap.size,k,none⟩) (Nat.le_refl _) (.int .i64 k);have SS:=Lib.hid (And.intro S1 S2);clear S1 S2 hown hbel hlen;generalize (fill n k).getD k 0=x0 at c1;go_wp2;go_roundw
   case rel=>exact ⟨k+1,by omega,by go_num,SS.out.1,SS.out.2⟩
   case measure=>simp [intOf]; omega
  ·obtain rfl:k=n:=by omega
   have SS:=Lib.hid (And.intro hown hbel);clear hown hbel;go_wp2;go_ret;exact ⟨rfl,by rw [← HF.out]; exact SS.out.1,SS.out.2⟩
theorem order_any (n:Int) (v:Value) (d:List Int) (w:World) (hd:SlI w .i64 v d) (h1:1≤n) (h2:n≤20) :
  Calls Try.prog 87 #[.int .i64 n,v] w fun e w'=>e=.returned (.slice (some ⟨w.heap.size,0,none⟩) n.toNat n.toNat)∧OwnI w' w.heap.size 3 .i64 (.slice (some ⟨w.heap.size,0,none⟩) n.toNat n.toNat) (shuf d (n.toNat - 1) (asc n.toNat))∧Below w.heap.size w w':=by
 obtain ⟨m,rfl⟩:∃m:Nat,n=m:=⟨n.toNat,by omega⟩;rw [Int.toNat_natCast];go_enter Try.func87,Try.ntmps87;go_wp2_with (go_at_call 103; refine (ascending_any m w (by omega)).mono ?_; rintro e w1 ⟨rfl,hown,hbel⟩);go_loopw [6,7] (fun c _ wr=>∃k:Nat,∃l:List Int,k<m∧c=.int .i64 k∧l.length=m∧Hid (shuf d k l=shuf d (m - 1) (asc m))∧OwnI wr w.heap.size 3 .i64 (.slice (some ⟨w.heap.size,0,none⟩) m m) l∧Below w.heap.size w wr) (fun c _ _=>(intOf c).toNat)
 case atStart=>exact ⟨m - 1,asc m,by omega,by go_num,asc_length m,Lib.hid rfl,hown,hbel⟩
 case round=>
  clear hown hbel;obtain ⟨k,l,hk,rfl,hl,hsh,hown,hbel⟩:=hrel;by_cases hlt:0<k
  ·have V:=Lib.hid (valid_any v d k wr (hd.below hbel) (by omega))
   have hj:=drawI_le d k;generalize hjj:drawI d k=j at *;obtain ⟨c1,c2⟩:=hown.cell k (by omega);obtain ⟨c3,c4⟩:=hown.cell j (by omega);have HJ:=Lib.hid hjj;have HL:=Lib.hid hl;have HO:=Lib.hid (And.intro hown hbel);have hjl:j<l.length:=by omega
   clear hjj hl hown hbel;generalize hx:l.getD k 0=x at *;generalize hy:l.getD j 0=y at *;have HX:=Lib.hid hx;have HY:=Lib.hid hy;clear hx hy;go_wp2_with (go_at_call 104; refine V.out.mono ?_; rintro e w2 ⟨rfl,rfl⟩);obtain ⟨z,c5⟩:=cell?_setCell_some (w:=wr) (p:=⟨w.heap.size,k,none⟩) (x:=.int .i64 y) (q:=⟨w.heap.size,j,none⟩) (v:=.int .i64 y) c3;have R:=Lib.hid (shuf_round d l k j hlt HJ.out);go_region;go_wp2;go_roundw
   case rel=>exact ⟨k - 1,swp l k j,by omega,by go_num,by rw [swp_length]; exact HL.out,by rw [← R.out]; exact hsh,by
     have:=(HO.out.1.store k y HL.out.symm).store j x (by simp; exact HL.out.symm);unfold swp; rw [HX.out,HY.out]; exact this,(HO.out.2.setCell (p:=⟨w.heap.size,k,none⟩) (Nat.le_refl _) _).setCell (p:=⟨w.heap.size,j,none⟩) (Nat.le_refl _) _ |>.drew⟩
   case measure=>simp [intOf]; omega
  ·obtain rfl:k=0:=by omega
   have HO:=Lib.hid (And.intro hown hbel);clear hown hbel;go_wp2;go_ret;exact ⟨rfl,by rw [← hsh.out]; exact HO.out.1,HO.out.2⟩
theorem rorder_any (n:Int) (v:Value) (d:List Int) (w:World) (hd:SlI w .i64 v d) (h1:1≤n) (h2:n≤20) :
  Calls Try.prog 65 #[.int .i64 n,v] w fun e w'=>e=.returned (.slice (some ⟨w.heap.size,0,none⟩) n.toNat n.toNat)∧OwnI w' w.heap.size 3 .i64 (.slice (some ⟨w.heap.size,0,none⟩) n.toNat n.toNat) (shuf d (n.toNat - 1) (asc n.toNat))∧Below w.heap.size w w':=by
 obtain ⟨m,rfl⟩:∃m:Nat,n=m:=⟨n.toNat,by omega⟩;rw [Int.toNat_natCast];have HF:=Lib.hid (fill_full m);go_enter Try.func65,Try.ntmps65;go_wp2_with (at_make; refine wp_make_i64 w rfl _ _ rfl m _ _ rfl rfl rfl rfl ?_ ?_; omega; intro w1 hown hgrow);rw [← fill_zero] at hown;go_loopw [6] (fun c wr=>∃k:Nat,k≤m∧c=.int .i64 k∧OwnI wr w.heap.size 3 .i64 (.slice (some ⟨w.heap.size,0,none⟩) m m) (fill m k)∧Below w.heap.size w wr) (fun c _=>m - (intOf c).toNat)
 case atStart=>exact ⟨0,by omega,rfl,hown,hgrow⟩
 case round=>
  clear hown hgrow;obtain ⟨k,hk,rfl,hown,hbel⟩:=hrel;by_cases hlt:k<m
  ·have hlen:=fill_length m k hk
   obtain ⟨c1,c2⟩:=hown.cell k (by omega);have S1:=hown.store k k (by omega);rw [fill_step m k hlt] at S1;have S2:=hbel.setCell (p:=⟨w.heap.size,k,none⟩) (Nat.le_refl _) (.int .i64 k);have SS:=Lib.hid (And.intro S1 S2);clear S1 S2 hown hbel hlen;generalize (fill m k).getD k 0=x0 at c1;go_wp2;go_roundw
   case rel=>exact ⟨k+1,by omega,by go_num,SS.out.1,SS.out.2⟩
   case measure=>simp [intOf]; omega
  ·obtain rfl:k=m:=by omega
   rw [HF.out] at hown;go_wp2;go_loopw [7,8,9,10] (fun c _ _ _ wr=>∃q:Nat,∃l:List Int,q<k∧c=.int .i64 q∧l.length=k∧Hid (shuf d q l=shuf d (k - 1) (asc k))∧OwnI wr w.heap.size 3 .i64 (.slice (some ⟨w.heap.size,0,none⟩) k k) l∧Below w.heap.size w wr) (fun c _ _ _ _=>(intOf c).toNat)
   case atStart=>exact ⟨k - 1,asc k,by omega,by go_num,asc_length k,Lib.hid rfl,hown,hbel⟩
   case round=>
    clear hown hbel;obtain ⟨q,l,hq,rfl,hl,hsh,hown,hbel⟩:=hrel;by_cases hlt:0<q
    ·have V:=Lib.hid fun wx=>rdraw_any v d q wx
     have HD:=Lib.hid (hd.below hbel);have hj:=drawI_le d q;generalize hjj:drawI d q=j at *;obtain ⟨c1,c2⟩:=hown.cell q (by omega);obtain ⟨c3,c4⟩:=hown.cell j (by omega);have HJ:=Lib.hid hjj;have HL:=Lib.hid hl;have HO:=Lib.hid (And.intro hown hbel);have hjl:j<l.length:=by omega
     clear hjj hl hown hbel;generalize hx:l.getD q 0=x at *;generalize hy:l.getD j 0=y at *;have HX:=Lib.hid hx;have HY:=Lib.hid hy;clear hx hy;have hq20:q≤20:=by omega
     go_wp2_with (go_at_call 91; refine (V.out _ HD.out hq20).mono ?_; rintro e w2 ⟨rfl,rfl⟩);go_quiet (fail);obtain ⟨z,c5⟩:=cell?_setCell_some (w:=wr.drewN nq) (p:=⟨w.heap.size,q,none⟩) (x:=.int .i64 y) (q:=⟨w.heap.size,j,none⟩) (v:=.int .i64 y) c3;have R:=Lib.hid (shuf_round d l q j hlt HJ.out);go_wp2;go_roundw
     case rel=>exact ⟨q - 1,swp l q j,by omega,by go_num,by rw [swp_length]; exact HL.out,by rw [← R.out]; exact hsh,by
       have:=(HO.out.1.store q y HL.out.symm).store j x (by simp; exact HL.out.symm);unfold swp; rw [HX.out,HY.out]; exact this,(below_drewN HO.out.2 _).setCell (p:=⟨w.heap.size,q,none⟩) (Nat.le_refl _) _ |>.setCell (p:=⟨w.heap.size,j,none⟩) (Nat.le_refl _) _⟩
     case measure=>simp [intOf]; omega
    ·obtain rfl:q=0:=by omega
     have HO:=Lib.hid (And.intro hown hbel);clear hown hbel;go_wp2;go_ret;exact ⟨rfl,by rw [← hsh.out]; exact HO.out.1,HO.out.2⟩
def ordL (n:Int) (d:List Int):List Int:=if 1≤n∧n≤20 then shuf d (n.toNat - 1) (asc n.toNat) else []
theorem ordL_mem (n:Int) (d:List Int) (x:Int) (h:x∈ordL n d):0≤x∧x<n:=by
 unfold ordL at h;split at h
 ·have:=asc_mem _ _ (shuf_mem d _ _ (by rw [asc_length]; omega) x h); omega
 ·simp at h
theorem ordL_length (n:Int) (d:List Int):(ordL n d).length≤20:=by
 unfold ordL;split
 ·rw [shuf_length,asc_length]; omega
 ·simp
theorem order_read (n:Int) (v:Value) (d:List Int) (w:World) (hd:SlI w .i64 v d) :
  Calls Try.prog 87 #[.int .i64 n,v] w fun e w'=>∃u,e=.returned u∧SlI w' .i64 u (ordL n d)∧Below w.heap.size w w':=by
 by_cases h:1≤n∧n≤20
 ·refine (order_any n v d w hd h.1 h.2).mono ?_
  rintro e w' ⟨rfl,ho,hb⟩;refine ⟨_,rfl,?_,hb⟩;have e1:ordL n d=shuf d (n.toNat - 1) (asc n.toNat):=by unfold ordL; rw [if_pos h]
  have hm:=ordL_mem n d;have hl:=ordL_length n d;rw [e1] at hm hl ⊢;exact ho.read (by omega) fun x hx=>i64_ok x (by have:=hm x hx; omega) (by have:=hm x hx; omega)
 ·have e1:ordL n d=[]:=by unfold ordL; rw [if_neg h]
  have H:=Lib.hid e1;clear e1;rcases (show n<1∨20<n by omega) with h | h
  ·go_enter Try.func87,Try.ntmps87
   go_wp2;go_ret;exact ⟨_,rfl,by rw [H.out]; exact SlI.nil _ _,Below.refl _ _⟩
  ·have h':¬n<1:=by omega
   go_enter Try.func87,Try.ntmps87;go_wp2;go_ret;exact ⟨_,rfl,by rw [H.out]; exact SlI.nil _ _,Below.refl _ _⟩
theorem rorder_read (n:Int) (v:Value) (d:List Int) (w:World) (hd:SlI w .i64 v d) :
  Calls Try.prog 65 #[.int .i64 n,v] w fun e w'=>∃u,e=.returned u∧SlI w' .i64 u (ordL n d)∧Below w.heap.size w w':=by
 by_cases h:1≤n∧n≤20
 ·refine (rorder_any n v d w hd h.1 h.2).mono ?_
  rintro e w' ⟨rfl,ho,hb⟩;refine ⟨_,rfl,?_,hb⟩;have e1:ordL n d=shuf d (n.toNat - 1) (asc n.toNat):=by unfold ordL; rw [if_pos h]
  have hm:=ordL_mem n d;have hl:=ordL_length n d;rw [e1] at hm hl ⊢;exact ho.read (by omega) fun x hx=>i64_ok x (by have:=hm x hx; omega) (by have:=hm x hx; omega)
 ·have e1:ordL n d=[]:=by unfold ordL; rw [if_neg h]
  have H:=Lib.hid e1;clear e1;rcases (show n<1∨20<n by omega) with h | h
  ·go_enter Try.func65,Try.ntmps65
   go_wp2;go_ret;exact ⟨_,rfl,by rw [H.out]; exact SlI.nil _ _,Below.refl _ _⟩
  ·have h':¬n<1:=by omega
   go_enter Try.func65,Try.ntmps65;go_wp2;go_ret;exact ⟨_,rfl,by rw [H.out]; exact SlI.nil _ _,Below.refl _ _⟩
end Go.Proofs.Ytiekicailidhcaa
