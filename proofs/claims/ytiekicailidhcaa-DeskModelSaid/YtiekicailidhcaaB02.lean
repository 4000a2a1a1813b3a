import Derived.Shelf.RegionOpenPlain
import Derived.Lib.SliceRun
import Derived.Deep.LoopGhost
import Derived.Deep.QuietTactic
import Derived.BigQuiet
import Derived.Deep.DeepCutAuto
import Derived.Deep.CutBlock
import Derived.Test.YtiekicailidhcaaRows
import Derived.Laws.BitsAllLaws
import Derived.LoopTactic
import Derived.Test.YtiekicailidhcaaB01
set_option linter.unusedVariables false
set_option linter.unusedSimpArgs false
namespace Go.Proofs.Ytiekicailidhcaa
open Go.ChangeShapes Go.WideShapes Go.ChangeAt Go.RowKit
set_option maxRecDepth 100000
theorem SlI.nil_of {w:World} {k:IntKind} {n c:Nat} {l:List Int} (h:SlI w k (.slice none n c) l):l=[]:=by
 obtain ⟨_,_,a',cap',e,_,h5⟩:=h;simp only [Value.slice.injEq] at e;rcases Nat.eq_zero_or_pos l.length with h0 | h0
 ·exact List.length_eq_zero_iff.1 h0
 ·obtain ⟨b,off,e2,_⟩:=h5 0 h0
  rw [← e.1] at e2; cases e2
theorem SlL.nil_of {w:World} {n c:Nat} {us:List Value} {l:List (List Int)} (h:SlL w (.slice none n c) us l):l=[]:=by
 obtain ⟨_,_,a',cap',e,_,h5⟩:=h;simp only [Value.slice.injEq] at e;rcases Nat.eq_zero_or_pos l.length with h0 | h0
 ·exact List.length_eq_zero_iff.1 h0
 ·obtain ⟨b,off,e2,_⟩:=h5 0 h0
  rw [← e.1] at e2; cases e2
structure FstL (l:List Int) (x:Int) (i:Nat):Prop where
 lt:i<l.length
 hit:l.getD i 0=x
 miss:∀j,j<i→l.getD j 0≠x
theorem FstL.erase {l:List Int} {x:Int} {i:Nat} (h:FstL l x i):l.erase x=l.take i ++ l.drop (i+1):=by
 induction l generalizing i with
 | nil=>exact absurd h.lt (by simp)
 | cons y l ih=>
  cases i with
  | zero=>
   have e:y=x:=by simpa using h.hit
   subst e;simp
  | succ i=>
   have e:y≠x:=by simpa using h.miss 0 (Nat.succ_pos _)
   have hi:FstL l x i:=⟨by simpa using h.lt,by simpa using h.hit,fun j hj=>by simpa using h.miss (j+1) (by omega)⟩;rw [List.erase_cons_tail (by simpa using e),ih hi];simp
def sgB (op:OpM):Bool:=op.kind == 1 || op.kind == 2
def sgC (op:OpM):CaseM:=if op.kind=1 then ⟨true,op.chan,op.val⟩ else if op.kind=2 then ⟨false,op.chan,op.val⟩ else noCase
def caseW (c:CaseM):Value:=.agg #[.bool c.send,.int .i64 c.chan,.int .u64 c.val]
theorem single_any (v:Value) (op:OpM) (w:World) (h:OpV w v op) :
  Calls Try.prog 92 #[v] w fun e w'=>e=.returned (.tuple #[caseW (sgC op),.bool (sgB op)])∧Below w.heap.size w w':=by
 have HC:Hid (sgC op=if op.kind=1 then ⟨true,op.chan,op.val⟩ else if op.kind=2 then ⟨false,op.chan,op.val⟩ else noCase):=rfl;have HS:Hid (sgB op=(op.kind == 1 || op.kind == 2)):=rfl;generalize sgC op=sc at *;generalize sgB op=sb at *;obtain ⟨kd,md,ch,vl,dl,cs,ds⟩:=op;obtain ⟨vc,vd,rfl,hc,hd⟩:=h;dsimp only at *;obtain ⟨a3,cap3,rfl⟩:=hc.len;obtain ⟨a4,cap4,rfl,-⟩:=hd.len;clear hc hd;by_cases h1:kd=1
 ·subst h1
  rw [if_pos rfl] at HC;go_enter Try.func92,Try.ntmps92;go_wp2;refine bodyPost_ret (v:=.tuple #[.agg #[.bool true,.int .i64 ch,.int .u64 vl],.bool true]) (by simp [results,Try.results92,go_sem]) rfl ?_;exact ⟨by rw [HC.out,HS.out]; rfl,(((Below.refl w.heap.size w).alloc (Nat.le_refl _) _).alloc (by simp) _)⟩
 ·rw [if_neg h1] at HC
  by_cases h2:kd=2
  ·subst h2
   rw [if_pos rfl] at HC;clear h1;go_enter Try.func92,Try.ntmps92;go_wp2;refine bodyPost_ret (v:=.tuple #[.agg #[.bool false,.int .i64 ch,.int .u64 vl],.bool true]) (by simp [results,Try.results92,go_sem]) rfl ?_;exact ⟨by rw [HC.out,HS.out]; rfl,(((Below.refl w.heap.size w).alloc (Nat.le_refl _) _).alloc (by simp) _)⟩
  ·rw [if_neg h2] at HC
   have b1:(kd == 1)=false:=by simpa using h1
   have b2:(kd == 2)=false:=by simpa using h2
   have b3:(kd != 1)=true:=by simpa using h1
   have b4:(kd != 2)=true:=by simpa using h2
   have HS2:Hid (sb=false):=by have:=HS.out; rw [b1,b2] at this; exact this
   clear h1 h2;go_enter Try.func92,Try.ntmps92;go_wp2;refine bodyPost_ret (v:=.tuple #[.agg #[.bool false,.int .i64 0,.int .u64 0],.bool false]) (by simp [results,Try.results92,go_sem]) rfl ?_;exact ⟨by rw [HC.out,HS2.out]; rfl,(((Below.refl w.heap.size w).alloc (Nat.le_refl _) _).alloc (by simp) _)⟩
theorem rsingle_any (v:Value) (op:OpM) (w:World) (h:OpV w v op) :
  Calls Try.prog 83 #[v] w fun e w'=>e=.returned (.tuple #[caseW (sgC op),.bool (sgB op)])∧Below w.heap.size w w':=by
 have HC:Hid (sgC op=if op.kind=1 then ⟨true,op.chan,op.val⟩ else if op.kind=2 then ⟨false,op.chan,op.val⟩ else noCase):=rfl;have HS:Hid (sgB op=(op.kind == 1 || op.kind == 2)):=rfl;generalize sgC op=sc at *;generalize sgB op=sb at *;obtain ⟨kd,md,ch,vl,dl,cs,ds⟩:=op;obtain ⟨vc,vd,rfl,hc,hd⟩:=h;dsimp only at *;obtain ⟨a3,cap3,rfl⟩:=hc.len;obtain ⟨a4,cap4,rfl,-⟩:=hd.len;clear hc hd;by_cases h1:kd=1
 ·subst h1
  rw [if_pos rfl] at HC;go_enter Try.func83,Try.ntmps83;go_wp2;refine bodyPost_ret (v:=.tuple #[.agg #[.bool true,.int .i64 ch,.int .u64 vl],.bool true]) (by simp [results,Try.results83,go_sem]) rfl ?_;exact ⟨by rw [HC.out,HS.out]; rfl,(((Below.refl w.heap.size w).alloc (Nat.le_refl _) _).alloc (by simp) _)⟩
 ·rw [if_neg h1] at HC
  by_cases h2:kd=2
  ·subst h2
   rw [if_pos rfl] at HC;clear h1;go_enter Try.func83,Try.ntmps83;go_wp2;refine bodyPost_ret (v:=.tuple #[.agg #[.bool false,.int .i64 ch,.int .u64 vl],.bool true]) (by simp [results,Try.results83,go_sem]) rfl ?_;exact ⟨by rw [HC.out,HS.out]; rfl,(((Below.refl w.heap.size w).alloc (Nat.le_refl _) _).alloc (by simp) _)⟩
  ·rw [if_neg h2] at HC
   have b1:(kd == 1)=false:=by simpa using h1
   have b2:(kd == 2)=false:=by simpa using h2
   have b3:(kd != 1)=true:=by simpa using h1
   have b4:(kd != 2)=true:=by simpa using h2
   have HS2:Hid (sb=false):=by have:=HS.out; rw [b1,b2] at this; exact this
   clear h1 h2;go_enter Try.func83,Try.ntmps83;go_wp2;refine bodyPost_ret (v:=.tuple #[.agg #[.bool false,.int .i64 0,.int .u64 0],.bool false]) (by simp [results,Try.results83,go_sem]) rfl ?_;exact ⟨by rw [HC.out,HS2.out]; rfl,(((Below.refl w.heap.size w).alloc (Nat.le_refl _) _).alloc (by simp) _)⟩
structure Ext (W:World) where
 wd:World
 below:Below W.heap.size W wd
instance (W:World):Nonempty (Ext W):=⟨⟨W,Below.refl _ _⟩⟩
theorem wp_region_ext {P:Program} {id:Nat} {Q:Exit→Act→World→Prop} {a:Act} {w:World} {l:List Oper} (W:World) (hm:P.follows .mixedOrders=true) (hB:Region.lexB .any l.toArray=true) (hW:Below W.heap.size W w)
  (h:wpQuiet P l.toArray (fun w'=>∃n:Ext W,w'=n.wd) (fun a'=>∀w',(∃n:Ext W,w'=n.wd)→Q .normal a' w') l a):(Code.region id l.toArray true).wp P Q a w:=
 wp_region_quiet (C:=fun w'=>∃n:Ext W,w'=n.wd) hm hB ⟨⟨_,below_drewN hW 1⟩,rfl⟩ (by simpa using h)
theorem calls_ext {P:Program} {f:FuncId} {args:Array Value} {W:World} {n:Ext W} {v:Value}
  (h:Calls P f args n.wd fun e w'=>e=.returned v∧Below n.wd.heap.size n.wd w'):Calls P f args n.wd fun e w''=>e=.returned v∧∃m:Ext W,w''=m.wd:=
 h.mono fun _ w' ⟨he,hm⟩=>⟨he,⟨w',below_then n.below hm⟩,rfl⟩
theorem calls_ext_draw {P:Program} {f:FuncId} {args:Array Value} {W:World} {n:Ext W} {v:Value}
  (h:Calls P f args n.wd fun e w'=>e=.returned v∧∃m,n.wd.drewN m=w'):Calls P f args n.wd fun e w''=>e=.returned v∧∃m:Ext W,w''=m.wd:=
 h.mono fun _ w' ⟨he,m,hm⟩=>⟨he,⟨w',hm▸below_drewN n.below m⟩,rfl⟩
theorem ext_cell {W:World} (b o:Nat) (h:b<W.heap.size) (v:Value) (hc:W.cell? ⟨b,o,none⟩=some v) (n:Ext W):n.wd.cell? ⟨b,o,none⟩=some v:=(n.below.cell (p:=⟨b,o,none⟩) h).trans hc
theorem one_new (w:World) (a:Obj):∃W,w.alloc a=W∧Hid (Below w.heap.size w W)∧Hid (W.heap[w.heap.size]?=some a)∧w.heap.size+1=W.heap.size:=
 ⟨_,rfl,below_new (Below.refl w.heap.size w) _,heap_alloc_new _ _,by simp⟩
theorem two_new (w:World) (a b:Obj):∃W,(w.alloc a).alloc b=W∧Hid (Below w.heap.size w W)∧Hid (W.heap[w.heap.size]?=some a)∧Hid (W.heap[w.heap.size+1]?=some b)∧w.heap.size+2=W.heap.size:=
 ⟨_,rfl,below_new (below_new (Below.refl w.heap.size w) _) _,heap_alloc2_old _ _ _,heap_alloc2_new _ _ _,by simp⟩
theorem three_new (w:World) (a b c:Obj):∃W,((w.alloc a).alloc b).alloc c=W∧Hid (Below w.heap.size w W)∧Hid (W.heap[w.heap.size]?=some a)∧Hid (W.heap[w.heap.size+1]?=some b)∧Hid (W.heap[w.heap.size+2]?=some c)∧w.heap.size+3=W.heap.size:=by
 refine ⟨_,rfl,below_new (below_new (below_new (Below.refl w.heap.size w) _) _) _,Lib.hid ?_,Lib.hid ?_,Lib.hid ?_,by simp⟩
 ·rw [heap_alloc_old _ _ (by simp <;> omega),heap_alloc_old _ _ (by simp <;> omega),heap_alloc_new]
 ·rw [heap_alloc_old _ _ (by simp <;> omega)]
  simpa using heap_alloc_new (w.alloc a) b
 ·simpa using heap_alloc_new ((w.alloc a).alloc b) c
theorem rowc7 {w:World} {g:Nat} {T:TypeId} {v0 v1 v2 v3 v4 v5 v6:Value} (h:w.heap[g]?=some (.cells #[v0,v1,v2,v3,v4,v5,v6] T (0,0))):w.cell? ⟨g,0,none⟩=some v0∧w.cell? ⟨g,1,none⟩=some v1∧w.cell? ⟨g,2,none⟩=some v2∧w.cell? ⟨g,3,none⟩=some v3∧w.cell? ⟨g,4,none⟩=some v4∧w.cell? ⟨g,5,none⟩=some v5∧w.cell? ⟨g,6,none⟩=some v6:=
 ⟨cell_of_row _ _ 0 _ _ _ h,cell_of_row _ _ 1 _ _ _ h,cell_of_row _ _ 2 _ _ _ h,cell_of_row _ _ 3 _ _ _ h,cell_of_row _ _ 4 _ _ _ h,cell_of_row _ _ 5 _ _ _ h,cell_of_row _ _ 6 _ _ _ h⟩
def resW (r:ResM):Value:=.agg #[.int .i64 r.kind,.int .i64 r.case,.int .u64 r.val,.bool r.ok,.int .i64 r.num]
set_option maxRecDepth 100000 in
set_option maxHeartbeats 16000000 in
theorem mexists_any (v:Value) (l:List ChanM) (n:Int) (w:World) (hv:SlH w v l):Calls Try.prog 86 #[v,.int .i64 n] w fun e w'=>e=.returned (.bool (exB l n))∧w=w':=by
 have hb:=hv.bound;obtain ⟨a,cap,rfl,-⟩:=hv.len;clear hv;by_cases h0:0≤n
 ·by_cases h1:n<(l.length:Int)
  ·have hh:exB l n=true:=by unfold exB; simp [h0,h1]
   rw [hh];clear hh;go_enter Try.func86,Try.ntmps86;go_wp2;go_ret;exact ⟨rfl,rfl⟩
  ·have hq:decide (n<(l.length:Int))=false:=decide_eq_false h1
   have hh:exB l n=false:=by unfold exB; rw [hq]; simp
   rw [hh];clear hh h1;go_enter Try.func86,Try.ntmps86;go_wp2;go_ret;exact ⟨rfl,rfl⟩
 ·have hq:decide (0≤n)=false:=decide_eq_false h0
  have hq2:decide (n ≥ 0)=false:=decide_eq_false h0;have hh:exB l n=false:=by unfold exB; rw [hq]; rfl
  rw [hh];clear hh h0;go_enter Try.func86,Try.ntmps86;go_wp2;go_ret;exact ⟨rfl,rfl⟩
set_option maxRecDepth 100000 in
set_option maxHeartbeats 16000000 in
theorem monly_any (r:ResM) (value number:Bool) (w:World):Calls Try.prog 107 #[resW r,.bool value,.bool number] w fun e w'=>e=.returned (.bool (onlyB r value number))∧Below w.heap.size w w':=by
 obtain ⟨kd,cs,rv,rok,nm⟩:=r;obtain ⟨bb,hbb⟩:∃b,onlyB ⟨kd,cs,rv,rok,nm⟩ value number=b:=⟨_,rfl⟩;rw [hbb];unfold onlyB at hbb;unfold resW;dsimp only at hbb ⊢;obtain ⟨b1,h1⟩:∃b,(rv == 0)=b:=⟨_,rfl⟩;obtain ⟨b2,h2⟩:∃b,(nm == 0)=b:=⟨_,rfl⟩;rw [h1,h2] at hbb;have HBB:=Lib.hid hbb;clear hbb;obtain ⟨W,hW,HB,R0,hz⟩:=one_new w (.cells #[.int .i64 kd,.int .i64 cs,.int .u64 rv,.bool rok,.int .i64 nm] 73);have HW:=Lib.hid hW;clear hW;go_enter Try.func107,Try.ntmps107;go_upto_region 1 with fail
 rw [HW.out];clear HW;obtain ⟨x0,x1,x2,x3,x4⟩:=rowc5 R0.out;cases value <;> cases number <;> cases rok <;> cases b1 <;> cases b2 <;> (
  go_wp2;go_ret;exact ⟨by rw [← HBB.out]; rfl,HB.out⟩)
set_option maxRecDepth 100000 in
set_option maxHeartbeats 16000000 in
theorem mready_any (v:Value) (l:List ChanM) (x:CaseM) (w:World) (hv:SlH w v l):Calls Try.prog 57 #[v,caseW x] w fun e w'=>e=.returned (.bool (readyB l x))∧Below w.heap.size w w':=by
 have HV:=Lib.hid hv;have TE:=Lib.hid fun w' (hb:Below w.heap.size w w')=>mexists_any v l x.chan w' (hv.below hb);obtain ⟨rb,hrb⟩:∃b,readyB l x=b:=⟨_,rfl⟩;rw [hrb];unfold readyB at hrb;obtain ⟨sd,ch,vl⟩:=x;dsimp only at hrb TE;unfold caseW;try dsimp only
 have HRB:=Lib.hid hrb;obtain ⟨ex,hex⟩:∃b,exB l ch=b:=⟨_,rfl⟩;rw [hex] at TE HRB;have HEX:=Lib.hid hex;obtain ⟨a,cap,hve,-⟩:=hv.len;subst hve;clear hv hrb hex;obtain ⟨W,hW,HB,R0,hz⟩:=one_new w (.cells #[.bool sd,.int .i64 ch,.int .u64 vl] 58);have HW:=Lib.hid hW;clear hW;go_enter Try.func57,Try.ntmps57;go_upto_region 1 with fail
 rw [HW.out];clear HW;obtain ⟨x0_0,x0_1,x0_2⟩:=rowc3 R0.out;go_wp2_with fail;refine (TE.out _ HB.out).mono ?_; rintro e w' ⟨rfl,rfl⟩;cases ex with
 | false=>
  have hr:rb=false:=by rw [← HRB.out]; rfl
  subst hr;go_wp2;go_ret;exact ⟨rfl,HB.out⟩
 | true=>
  have hx:=HEX.out;unfold exB at hx;simp only [Bool.and_eq_true,decide_eq_true_eq] at hx;obtain ⟨i,hi⟩:∃i:Nat,ch=(i:Int):=⟨ch.toNat,by omega⟩;have hil:i<l.length:=by omega
  have hiI:(i:Int)<(l.length:Int):=by omega
  have hce:chE l ch=l.getD i noChan:=by unfold chE; rw [hi]; rfl
  rw [hce] at HRB;have HV2:=HV.out.below HB.out;obtain ⟨b,off,cap',u,hve,hb,c0,c1,c2,hu⟩:=HV2.at i hil;simp only [Value.slice.injEq] at hve;obtain ⟨rfl,-,rfl⟩:=hve;obtain ⟨⟨cc,bf,cl⟩,hcc⟩:∃c,l.getD i noChan=c:=⟨_,rfl⟩;rw [hcc] at c0 c2 hu HRB;dsimp only at c0 c2 hu HRB;have hbl:=hu.1;obtain ⟨ua,uc,rfl,-⟩:=hu.len;rw [hi] at x0_1 ⊢;clear hx hce hcc hi HEX HV HV2 TE;obtain ⟨Wx,hWx⟩:∃Wx,(W.alloc (.cells #[.int .i64 0,.slice none 0 0,.bool false] 63)).setRow W.heap.size #[.int .i64 cc,.slice ua bf.length uc,.bool cl]=Wx:=⟨_,rfl⟩;have Nx:Hid ((W.alloc (.cells #[.int .i64 0,.slice none 0 0,.bool false] 63)).heap[W.heap.size]?=some (.cells #[.int .i64 0,.slice none 0 0,.bool false] 63 (0,0))):=heap_alloc_new _ _;have HBx:Hid (Below W.heap.size W Wx):=hWx▸row_below (below_new (Below.refl _ _) _) (Nat.le_refl _) _;have Rx:Hid (Wx.heap[W.heap.size]?=some (.cells #[.int .i64 cc,.slice ua bf.length uc,.bool cl] 63 (0,0))):=hWx▸setRow_heap _ _ _ _ _ (0,0) Nx.out;have HWx:=Lib.hid hWx;clear hWx;go_upto_region 4 with (refine wpList_store_row rfl 63 _ _ rfl (W.heap.size) _ rfl rfl 63 _ Nx.out (by kernel_rfl) rfl (by simp [Value.oneCell']) ?_)
  rw [HWx.out];try simp only [Act.put]
  clear HWx Nx;have HBX:=Lib.hid (below_then HB.out HBx.out);obtain ⟨y0,y1,y2⟩:=rowc3 Rx.out;obtain ⟨z0,z1,z2⟩:=rowc3 ((HBx.out.block w.heap.size (ltR R0)).trans R0.out);clear c0 c1 c2 x0_0 x0_1 x0_2;rw [Bool.true_and] at HRB;cases sd with
  | true=>
   cases cl with
   | true=>
    have hr:rb=true:=by rw [← HRB.out]; rfl
    subst hr;go_wp2;go_ret;exact ⟨rfl,HBX.out⟩
   | false=>
    obtain ⟨bq,hbq⟩:∃b,decide ((bf.length:Int)<cc)=b:=⟨_,rfl⟩;have hr:rb=bq:=by rw [← HRB.out,← hbq]; rfl
    subst hr;go_wp2;go_ret;exact ⟨by first | rfl | simp [hbq],HBX.out⟩
  | false=>
   cases cl with
   | true=>
    have hr:rb=true:=by rw [← HRB.out]; rfl
    subst hr;go_wp2;go_ret;exact ⟨rfl,HBX.out⟩
   | false=>
    have hr:rb=decide (0<bf.length):=by rw [← HRB.out]; rfl
    by_cases h0:0<bf.length
    ·have h0I:(0:Int)<(bf.length:Int):=by omega
     rw [decide_eq_true h0] at hr;subst hr;go_wp2;go_ret;exact ⟨rfl,HBX.out⟩
    ·have h0I:¬(0:Int)<(bf.length:Int):=by omega
     rw [decide_eq_false h0] at hr;subst hr;go_wp2;go_ret;exact ⟨by first | rfl | (simp; omega),HBX.out⟩
theorem Try.info_chan:(Try.prog.info? 63).map (fun i=>(i.zero,i.size,i.bytes))=some (some (.agg #[.int .i64 0,.slice none 0 0,.bool false]),3,40):=by kernel_rfl
set_option maxRecDepth 100000 in
set_option maxHeartbeats 16000000 in
theorem rcases_any (v:Value) (op:OpM) (w:World) (h:OpV w v op) (hok:op.chan=IntKind.i64.wrap op.chan∧op.val=IntKind.u64.wrap op.val):Calls Try.prog 53 #[v] w fun e w'=>∃u,e=.returned u∧SlC w' u (casesE op)∧Below w.heap.size w w':=by
 have TS:=Lib.hid fun w' (hb:Below w.heap.size w w')=>rsingle_any v op w' (h.below hb);obtain ⟨vc,vd,rfl,hc,hd⟩:=h;obtain ⟨lc,hlc⟩:∃l,casesE op=l:=⟨_,rfl⟩;rw [hlc];have HLC:=Lib.hid hlc;clear hlc;obtain ⟨kd,md,ch,vl,dl,cs,ds⟩:=op;dsimp only at *;obtain ⟨a3,cap3,rfl⟩:=hc.len;obtain ⟨a4,cap4,rfl,-⟩:=hd.len;have HOK:=Lib.hid hok;have HSC:=Lib.hid fun w' (hb:Below w.heap.size w w')=>hc.below hb;clear hc hd hok;obtain ⟨W,hW,HB,R0,hz⟩:=one_new w (.cells #[.int .i64 kd,.int .i64 md,.int .i64 ch,.int .u64 vl,.int .i64 dl,.slice a3 cs.length cap3,.slice a4 ds.length cap4] 44);have HW:=Lib.hid hW;clear hW;go_enter Try.func53,Try.ntmps53;go_upto_region 1 with fail
 rw [HW.out];clear HW;obtain ⟨x0_0,x0_1,x0_2,x0_3,x0_4,x0_5,x0_6⟩:=rowc7 R0.out;by_cases h4:kd=4
 ·have hl:lc=cs:=by rw [← HLC.out]; unfold casesE; rw [if_pos h4]
  subst hl;subst h4;go_wp2;go_ret;exact ⟨_,rfl,HSC.out _ HB.out,HB.out⟩
 have hq4:(kd == 4)=false:=by simpa using h4
 obtain ⟨sb,hsb⟩:∃b,sgB ⟨kd,md,ch,vl,dl,cs,ds⟩=b:=⟨_,rfl⟩;obtain ⟨⟨s1,s2,s3⟩,hsc⟩:∃c,sgC ⟨kd,md,ch,vl,dl,cs,ds⟩=c:=⟨_,rfl⟩;rw [hsb,hsc] at TS;have HL:Hid (lc=if sb=true then [⟨s1,s2,s3⟩] else []):=by
  show _=_;rw [← HLC.out];unfold casesE;rw [if_neg h4];show (if oneB _=true then [oneC _] else [])=_;rw [← hsb,← hsc];rfl
 have HS2:Hid (s2=IntKind.i64.wrap s2∧s3=IntKind.u64.wrap s3):=by
  have h1:=congrArg CaseM.chan hsc;have h2:=congrArg CaseM.val hsc;dsimp only at h1 h2;show _∧_;rw [← h1,← h2];unfold sgC;split
  ·exact HOK.out
  ·split
   ·exact HOK.out
   ·exact ⟨by decide,by decide⟩
 unfold caseW at TS;dsimp only at TS;clear hsb hsc HLC h4 HSC;go_wp2_with fail;refine (TS.out _ HB.out).mono ?_; rintro e w1 ⟨rfl,hb1⟩;have HB1:=Lib.hid (below_then HB.out hb1);clear x0_0 x0_1 x0_2 x0_3 x0_4 x0_5 x0_6 hb1 hq4;obtain ⟨Wx,hWx⟩:∃Wx,(w1.alloc (.cells #[.bool false,.int .i64 0,.int .u64 0] 58)).setRow w1.heap.size #[.bool s1,.int .i64 s2,.int .u64 s3]=Wx:=⟨_,rfl⟩;have Nx:Hid ((w1.alloc (.cells #[.bool false,.int .i64 0,.int .u64 0] 58)).heap[w1.heap.size]?=some (.cells #[.bool false,.int .i64 0,.int .u64 0] 58 (0,0))):=heap_alloc_new _ _;have HBx:Hid (Below w1.heap.size w1 Wx):=hWx▸row_below (below_new (Below.refl _ _) _) (Nat.le_refl _) _;have Rx:Hid (Wx.heap[w1.heap.size]?=some (.cells #[.bool s1,.int .i64 s2,.int .u64 s3] 58 (0,0))):=hWx▸setRow_heap _ _ _ _ _ (0,0) Nx.out;have HWx:=Lib.hid hWx;clear hWx;go_upto_region 4 with (refine wpList_store_row rfl 58 _ _ rfl (w1.heap.size) _ rfl rfl 58 _ Nx.out (by kernel_rfl) rfl (by simp [Value.oneCell']) ?_)
 rw [HWx.out];try simp only [Act.put]
 clear HWx Nx;have HBX:=Lib.hid (below_then HB1.out HBx.out);cases sb with
 | true=>
  have hl:lc=[⟨s1,s2,s3⟩]:=HL.out;subst hl;obtain ⟨y0,y1,y2⟩:=rowc3 Rx.out;go_wp2;go_ret;refine ⟨_,rfl,⟨by simp,fun x hx=>by simp only [List.mem_singleton] at hx; subst hx; exact HS2.out,_,1,rfl,Nat.le_refl _,fun t ht=>?_⟩,below_new HBX.out _⟩;have ht0:t=0:=by simp at ht; exact ht
  subst ht0;refine ⟨_,0,rfl,by simp,?_⟩;exact ⟨World.cell?_alloc_at _ _ _ _ rfl,World.cell?_alloc_at _ _ _ _ rfl,World.cell?_alloc_at _ _ _ _ rfl⟩
 | false=>
  have hl:lc=[]:=HL.out;subst hl;go_wp2;go_ret;exact ⟨_,rfl,SlC.nil _,HBX.out⟩
set_option maxRecDepth 100000 in
set_option maxHeartbeats 16000000 in
theorem mset_any (v:Value) (l:List ChanM) (i:Nat) (hi:i<l.length) (c:ChanM) (u:Value) (w:World) (hv:SlH w v l) (hu:SlU w u c.buf) (hcw:c.cap=IntKind.i64.wrap c.cap) (hl:l.length≤1000000):Calls Try.prog 108 #[v,.int .i64 i,.agg #[.int .i64 c.cap,u,.bool c.closed]] w fun e w'=>∃v',e=.returned v'∧SlH w' v' (l.set i c)∧Below w.heap.size w w':=by
 obtain ⟨cc,bf,cl⟩:=c;dsimp only at *;obtain ⟨ua,uc,rfl,-⟩:=hu.1.len;have HU:=Lib.hid hu;obtain ⟨us,h1,h2,h3,h4,-⟩:=hv;have hlen:=chRows_length l us h1;obtain ⟨a,cap,hve,-⟩:=h2.len;rw [hlen] at hve;subst hve;have HS:=Lib.hid h2;have H3:=Lib.hid h3;have H4:=Lib.hid h4;have H1:=Lib.hid h1;have HLN:=Lib.hid hlen;have HNE:Hid (chRows l us≠[]):=fun e=>by rw [e] at hlen; simp at hlen; omega
 have HCW:=Lib.hid hcw;clear h1 h2 h3 h4 hu hcw hlen;obtain ⟨W,hW,HB,R0,hz⟩:=one_new w (.cells #[.int .i64 cc,.slice ua bf.length uc,.bool cl] 63);have HW:=Lib.hid hW;clear hW;go_enter Try.func108,Try.ntmps108;go_upto_region 1 with fail
 rw [HW.out];clear HW;obtain ⟨x0_0,x0_1,x0_2⟩:=rowc3 R0.out;have HS1:=Lib.hid (HS.out.below HB.out);go_upto_region 2 with (at_builtin; refine wp_copy_sls _ 31 (by kernel_rfl) Try.info_chan rfl (by decide) (by decide) rfl _ _ rfl (base:=W.heap.size) rfl rfl HS1.out HNE.out (by rw [HLN.out]; omega) (Nat.le_refl _) ?_; intro v2 w2 h5 h6; have H5:=Lib.hid h5; have H6:=Lib.hid h6; clear h5 h6)
 have HB2:Hid (Below W.heap.size W w2):=(Below.refl W.heap.size W).grown H6.out (Nat.le_refl _) (fun j hj=>by cases hj);obtain ⟨g,cap2,hve,hg,hg2,-⟩:=H5.out.open (by rw [HLN.out]; omega);rw [HLN.out] at hve;subst hve;have hT:=(H5.out.row i (by rw [HLN.out]; exact hi)).2;have HT:=Lib.hid hT;have hiI:(i:Int)<(l.length:Int):=by omega
 obtain ⟨y0,y1,y2⟩:=rowc3 ((HB2.out.block w.heap.size (ltR R0)).trans R0.out);clear x0_0 x0_1 x0_2 hT;go_wp2_with (refine wpList_store_mid rfl 63 _ _ rfl g (i * 3) _ rfl rfl HT.out (by kernel_rfl) (by simp [Value.oneCell']) ?_);have H7:=H5.out.setRow i (by rw [HLN.out]; exact hi) (r:=[.int .i64 cc,.slice ua bf.length uc,.bool cl]) rfl (by intro x hx; simp only [List.mem_cons,List.not_mem_nil,or_false] at hx; rcases hx with rfl | rfl | rfl <;> rfl);rw [show ([.int .i64 cc,.slice ua bf.length uc,.bool cl]:List Value)=chRow ⟨cc,bf,cl⟩ (.slice ua bf.length uc) from rfl,chRows_set l us i _ _ H1.out] at H7;have hb3:Below w.heap.size w (w2.setCells g (i * 3) (chRow ⟨cc,bf,cl⟩ (.slice ua bf.length uc))):=(below_then HB.out HB2.out).grown (setCells_grown g _ _ _) (below_then HB.out HB2.out).size (fun j hj=>by cases hj; have:=HB.out.size; omega);have hbw:Below W.heap.size W (w2.setCells g (i * 3) (chRow ⟨cc,bf,cl⟩ (.slice ua bf.length uc))):=HB2.out.grown (setCells_grown g _ _ _) HB2.out.size (fun j hj=>by cases hj; exact hg);go_ret;refine ⟨_,rfl,H7.slH (by rw [List.length_set,List.length_set]; exact H1.out) (by rw [List.length_set]; exact hl) (fun j hj=>?_) (fun c hc=>?_),hb3⟩
 ·rw [List.length_set] at hj
  rw [getD_setL,getD_setL];by_cases hji:i=j
  ·rw [if_pos ⟨hji,by rw [H1.out]; exact hj⟩,if_pos ⟨hji,hj⟩]
   exact HU.out.below hb3
  ·rw [if_neg (fun h=>hji h.1),if_neg (fun h=>hji h.1)]
   exact (H3.out j hj).below hb3
 ·rcases List.mem_or_eq_of_mem_set hc with hc | rfl
  ·exact H4.out c hc
  ·exact HCW.out
theorem run_app_u64 (w:World) (ty:TypeId) (base:Nat) (v:Value) (l:List Int) (hown:OwnI w base 41 .u64 v l) (xv:Value) (l2:List Int) (hS:SlI w .u64 xv l2)
  (hl:l.length≤1000000) (hl2:l2.length≤1000000) (hb:base≤w.heap.size) :
  ∃v' w',(Builtin.append_ #[27,27] ty #[v,xv]).run Try.prog w=.ok v' w'∧OwnI w' base 41 .u64 v' (l ++ l2)∧w.grownBy w' v.ownBlock:=by
 obtain ⟨i0,hi,hz0,hz1,hz2⟩:=info_parts Try.info_u64;by_cases hne:l2=[]
 ·subst hne
  obtain ⟨B,c',rfl,-⟩:=hS.len;have e:∃A c,v=.slice A l.length c∧l.length≤c:=by
   rcases hown.shape with ⟨rfl,rfl⟩ | ⟨g,cap,rfl,_,_,h,_⟩
   ·exact ⟨_,_,rfl,Nat.le_refl _⟩
   ·exact ⟨_,_,rfl,h⟩
  obtain ⟨A,c,rfl,hc⟩:=e;refine ⟨_,w,run_append_zero (by kernel_rfl) hi A B l.length c c' hc,by simpa using hown,grownBy_refl _ _⟩
 ·obtain ⟨b,off,cap,rfl,hcap,hbk,hc⟩:=hS.open hne
  obtain ⟨v',w',hr,h2,h3,-⟩:=run_append_own (P:=Try.prog) w base 27 ty 41 i0 (.int .u64 0) 1 _ (by kernel_rfl) hi hz0 hz1 rfl rfl (by decide) v l.length _ hown ⟨b,off,none⟩ l2.length cap (l2.map (Value.int .u64)) (by simp) (by
   intro j u hj;rw [add_plain];simp only [List.getElem?_map,Option.map_eq_some_iff] at hj;obtain ⟨y,hy,rfl⟩:=hj;have hjl:j<l2.length:=(List.getElem?_eq_some_iff.1 hy).1;rw [hc j hjl,List.getD_eq_getElem?_getD,hy]; rfl) (by intro u hu; simp only [List.mem_map] at hu; obtain ⟨y,_,rfl⟩:=hu; rfl) (by unfold maxLen; omega) (by rw [hz2]; omega) hb
  refine ⟨v',w',hr,?_,h3⟩;unfold OwnI;rw [List.length_append,List.map_append];exact h2
theorem wp_app_u64 (w:World) {ops:Array Oper} {rest:List Oper} {o:Oper} {a:Act} {Q:Exit→Act→World→Prop}
  (hg:o.guard=none) (s x:Operand) (hop:o.op=Op.call { callee:=Callee.builtin Builtin.append,args:=#[s,x],argTypes:=#[27,27] })
  (base:Nat) (v:Value) (l:List Int) (hs:a.eval s=v) (hown:OwnI w base 41 .u64 v l) (xv:Value) (l2:List Int) (hx:a.eval x=xv) (hS:SlI w .u64 xv l2)
  (hl:l.length≤1000000) (hl2:l2.length≤1000000) (hb:base≤w.heap.size)
  (hK:∀v' w',OwnI w' base 41 .u64 v' (l ++ l2)→w.grownBy w' v.ownBlock→wpList Try.prog ops Q rest (a.put o.dst v') w') :
  wpList Try.prog ops Q (o :: rest) a w:=by
 obtain ⟨v',w',hr,h1,h2⟩:=run_app_u64 w o.type base v l hown xv l2 hS hl hl2 hb;exact Lib.wpList_append_run w hg s x _ _ hop _ _ hs hx v' w' hr (hK v' w' h1 h2)
theorem step_app_u64 {w:World} {ops:Array Oper} {o:Oper} {a:Act} {K:Act→World→Prop} {Q:Exit→Act→World→Prop} {E:Prop}
  (hgd:o.guard=none) (s x:Operand) (hop:o.op=Op.call { callee:=Callee.builtin Builtin.append,args:=#[s,x],argTypes:=#[27,27] })
  (base:Nat) (v:Value) (l:List Int) (hs:a.eval s=v) (hown:OwnI w base 41 .u64 v l) (xv:Value) (l2:List Int) (hx:a.eval x=xv) (hS:SlI w .u64 xv l2)
  (hl:l.length≤1000000) (hl2:l2.length≤1000000) (hb:base≤w.heap.size)
  (hK:∀v' w',OwnI w' base 41 .u64 v' (l ++ l2)→w.grownBy w' v.ownBlock→K (a.put o.dst v') w') :
  if Region.wanted o (yielded ops a.tmps)=true then Oper.wp Try.prog o a w K Q else E:=by
 have hw:Region.wanted o (yielded ops a.tmps)=true:=by simp [Region.wanted,hgd]
 rw [if_pos hw];obtain ⟨v',w',hr,h1,h2⟩:=run_app_u64 w o.type base v l hown xv l2 hS hl hl2 hb;exact Lib.wp_append_run w s x _ _ hop _ _ hs hx v' w' hr (hK v' w' h1 h2)
def DoQ (o:Option (List ChanM)) (w:World) (e:Ending) (w':World):Prop:=∃(v':Value) (ok:Bool),e=.returned (.tuple #[v',.bool ok])∧((∃l',o=some l'∧ok=true∧SlH w' v' l')∨(o=none∧ok=false))∧Below w.heap.size w w'
def doB (l:List ChanM) (x:CaseM) (c:ChanM) (r:ResM):Option (List ChanM):=
 if r.kind=1∧x.send=true then
  (if onlyB r false false=true∧c.closed=false∧(c.buf.length:Int)<c.cap then some (setE l x.chan { c with buf:=c.buf ++ [x.val] }) else none)
 else if r.kind=5∧x.send=true then (if onlyB r false false=true∧c.closed=true then some l else none)
 else if r.kind=2∧x.send=false∧r.ok=true then
  (if onlyB r true false=true∧c.buf.head?=some r.val then some (setE l x.chan { c with buf:=c.buf.tail }) else none)
 else if r.kind=2∧x.send=false then (if onlyB r true false=true∧r.val=0∧c.closed=true∧c.buf=[] then some l else none)
 else none
theorem doE_in {l:List ChanM} {x:CaseM} {r:ResM} (h:exB l x.chan=true):doE l x r=doB l x (chE l x.chan) r:=by
 unfold doE;rw [if_neg (by simp [h])];rfl
theorem doE_out {l:List ChanM} {x:CaseM} {r:ResM} (h:exB l x.chan=false):doE l x r=none:=by
 unfold doE;rw [if_pos h]
theorem SlI.tail1 {w:World} {k:IntKind} {b off cap:Nat} {y:Int} {l:List Int} (h:SlI w k (.slice (some ⟨b,off,none⟩) (l.length+1) cap) (y :: l)):SlI w k (.slice (some ⟨b,off+1,none⟩) l.length (cap - 1)) l:=by
 obtain ⟨h1,h2,a,cap',e,h4,h5⟩:=h;simp only [Value.slice.injEq] at e;obtain ⟨rfl,-,rfl⟩:=e;refine ⟨by simp at h1; omega,fun x hx=>h2 x (List.mem_cons_of_mem _ hx),_,_,rfl,by simp at h4; omega,fun t ht=>?_⟩;obtain ⟨b',off',e,hb,hc⟩:=h5 (t+1) (by simp; omega);simp only [Option.some.injEq,Addr.mk.injEq] at e;obtain ⟨rfl,rfl,-⟩:=e;exact ⟨b,off+1,rfl,hb,by rw [show off+1+t=off+(t+1) by omega]; simpa using hc⟩
theorem own_ge {w:World} {base:Nat} {e:TypeId} {k:IntKind} {v:Value} {l:List Int} (h:OwnI w base e k v l):∀j,v.ownBlock=some j→base≤j:=fun j hj=>by
 rcases h.shape with ⟨rfl,-⟩ | ⟨g,cap,rfl,h1,-⟩
 ·cases hj
 ·cases hj; exact h1
set_option maxRecDepth 100000 in
set_option maxHeartbeats 16000000 in
theorem mdo_any (v:Value) (l:List ChanM) (x:CaseM) (r:ResM) (w:World) (hv:SlH w v l) (hl:l.length≤1000000) (hbf:∀c∈l,c.buf.length≤999999) (hxv:x.val=IntKind.u64.wrap x.val):Calls Try.prog 106 #[v,caseW x,resW r] w fun e w'=>DoQ (doE l x r) w e w':=by
 have HV:=Lib.hid hv;have TE:=Lib.hid fun w' (hb:Below w.heap.size w w')=>mexists_any v l x.chan w' (hv.below hb);have TO:=Lib.hid fun b1 b2 w'=>monly_any r b1 b2 w';obtain ⟨lo,hlo⟩:∃o,doE l x r=o:=⟨_,rfl⟩;rw [hlo];obtain ⟨sd,ch,vl⟩:=x;obtain ⟨kd,cs,rv,rok,nm⟩:=r;dsimp only at hxv TE;unfold caseW;unfold resW at TO ⊢;dsimp only at TO ⊢;have HLO:=Lib.hid hlo;have HXV:=Lib.hid hxv;obtain ⟨ex,hex⟩:∃b,exB l ch=b:=⟨_,rfl⟩;rw [hex] at TE;have HEX:=Lib.hid hex;have HL:=Lib.hid hl;have HBF:=Lib.hid hbf;obtain ⟨a,cap,hve,-⟩:=hv.len;subst hve;clear hv hlo hex hxv hl hbf;obtain ⟨W,hW,HB,R0,R1,hz⟩:=two_new w (.cells #[.bool sd,.int .i64 ch,.int .u64 vl] 58) (.cells #[.int .i64 kd,.int .i64 cs,.int .u64 rv,.bool rok,.int .i64 nm] 73);have HW:=Lib.hid hW;clear hW;go_enter Try.func106,Try.ntmps106;go_upto_region 1 with fail
 rw [HW.out];clear HW;obtain ⟨x0_0,x0_1,x0_2⟩:=rowc3 R0.out;obtain ⟨x1_0,x1_1,x1_2,x1_3,x1_4⟩:=rowc5 R1.out;go_wp2_with fail;refine (TE.out _ HB.out).mono ?_; rintro e w' ⟨rfl,rfl⟩;cases ex with
 | false=>
  have hr:lo=none:=by rw [← HLO.out]; exact doE_out HEX.out
  subst hr;go_wp2;refine bodyPost_ret (v:=.tuple #[.slice none 0 0,.bool false]) (by simp [results,Try.results106,go_sem]) rfl ?_;exact ⟨_,_,rfl,.inr ⟨rfl,rfl⟩,HB.out⟩
 | true=>
  have hx:=HEX.out;unfold exB at hx;simp only [Bool.and_eq_true,decide_eq_true_eq] at hx;obtain ⟨i,hi⟩:∃i:Nat,ch=(i:Int):=⟨ch.toNat,by omega⟩;subst hi;have hil:i<l.length:=by omega
  have HIL:=Lib.hid hil;have hiI:(i:Int)<(l.length:Int):=by omega
  obtain ⟨⟨cc,bf,cl⟩,hcc⟩:∃c,l.getD i noChan=c:=⟨_,rfl⟩;have HDO:Hid (doB l ⟨sd,i,vl⟩ ⟨cc,bf,cl⟩ ⟨kd,cs,rv,rok,nm⟩=lo):=by
   show _=_;rw [← HLO.out,doE_in (by exact HEX.out)];show _=doB l _ (l.getD (Int.toNat (i:Int)) noChan) _;rw [Int.toNat_natCast,hcc]
  have hmem:(⟨cc,bf,cl⟩:ChanM)∈l:=by
   rw [← hcc,List.getD_eq_getElem?_getD,List.getElem?_eq_getElem hil];exact List.getElem_mem hil
  have hbl:bf.length≤999999:=HBF.out _ hmem;have HCW:Hid (cc=IntKind.i64.wrap cc):=by
   obtain ⟨us,-,-,-,h4,-⟩:=HV.out;exact h4 _ hmem
  have TS:=Lib.hid fun c u w' (hb:Below w.heap.size w w') hu hcw=>mset_any _ l i HIL.out c u w' (HV.out.below hb) hu hcw HL.out;have HV2:=HV.out.below HB.out;obtain ⟨b,off,cap',u,hve,hb,c0,c1,c2,hu,hfu⟩:=HV2.at2 i hil;simp only [Value.slice.injEq] at hve;obtain ⟨rfl,-,rfl⟩:=hve;rw [hcc] at c0 c2 hu;dsimp only at c0 c2 hu;obtain ⟨ua,uc,rfl,-⟩:=hu.len;have HU:=Lib.hid hu;have HFU:=Lib.hid hfu;clear hfu hx hcc HEX HV2 TE hmem HBF HLO hu;obtain ⟨Wx,hWx⟩:∃Wx,(W.alloc (.cells #[.int .i64 0,.slice none 0 0,.bool false] 63)).setRow W.heap.size #[.int .i64 cc,.slice ua bf.length uc,.bool cl]=Wx:=⟨_,rfl⟩;have Nx:Hid ((W.alloc (.cells #[.int .i64 0,.slice none 0 0,.bool false] 63)).heap[W.heap.size]?=some (.cells #[.int .i64 0,.slice none 0 0,.bool false] 63 (0,0))):=heap_alloc_new _ _;have HBx:Hid (Below W.heap.size W Wx):=hWx▸row_below (below_new (Below.refl _ _) _) (Nat.le_refl _) _;have Rx:Hid (Wx.heap[W.heap.size]?=some (.cells #[.int .i64 cc,.slice ua bf.length uc,.bool cl] 63 (0,0))):=hWx▸setRow_heap _ _ _ _ _ (0,0) Nx.out;have HWx:=Lib.hid hWx;clear hWx;go_upto_region 4 with (refine wpList_store_row rfl 63 _ _ rfl (W.heap.size) _ rfl rfl 63 _ Nx.out (by kernel_rfl) rfl (by simp [Value.oneCell']) ?_)
  rw [HWx.out];try simp only [Act.put]
  clear HWx Nx;obtain ⟨X,hX⟩:∃X,W.heap.size=X:=⟨_,rfl⟩;rw [hX] at Rx;rw [hX];have hXX:w.heap.size+2≤X:=by omega
  have HUb:Hid (bf≠[]→∃b2 off2,ua=some ⟨b2,off2,none⟩∧b2<X):=fun hne=>by
   obtain ⟨b2,off2,c2,e2,-,hb2,-⟩:=HU.out.open hne;simp only [Value.slice.injEq] at e2;exact ⟨b2,off2,e2.1,hX▸hb2⟩
  clear hX;have HBX:=Lib.hid (below_then HB.out HBx.out);have R0x:=keepR HBx.out R0;have R1x:=keepR HBx.out R1;have HUx:=Lib.hid (HU.out.below HBx.out);have HBx9:=Lib.hid HBx.out;clear c0 c1 c2 x0_0 x0_1 x0_2 x1_0 x1_1 x1_2 x1_3 x1_4 hb HU HB HBx R0 R1;obtain ⟨x0,x1,x2⟩:=rowc3 R0x.out;obtain ⟨r0,r1,r2,r3,r4⟩:=rowc5 R1x.out;obtain ⟨y0,y1,y2⟩:=rowc3 Rx.out;have hnone:lo=none→∀w' e v',Below Wx.heap.size Wx w'→e=.returned (.tuple #[v',.bool false])→DoQ lo w e w':=fun h w' e v' hb he=>⟨v',false,he,.inr ⟨h,rfl⟩,below_then HBX.out hb⟩;have HNONE:=Lib.hid hnone;have hsame:lo=some l→∀w' e,Below Wx.heap.size Wx w'→e=.returned (.tuple #[.slice (some ⟨b,off,none⟩) l.length cap,.bool true])→DoQ lo w e w':=fun h w' e hb he=>⟨_,true,he,.inl ⟨l,h,rfl,HV.out.below (below_then HBX.out hb)⟩,below_then HBX.out hb⟩;have HSAME:=Lib.hid hsame;clear hnone hsame;unfold doB at HDO;dsimp only at HDO;by_cases k1:kd=1
  ·subst k1
   cases sd with
   | false=>
    have hr:Hid (lo=none):=by show _=_; rw [← HDO.out]; simp
    go_wp2;refine bodyPost_ret (v:=.tuple #[.slice none 0 0,.bool false]) (by simp [results,Try.results106,go_sem]) rfl ?_;exact HNONE.out hr.out _ _ _ (Below.refl _ _) rfl
   | true=>
    obtain ⟨o1,ho1⟩:∃b,onlyB ⟨1,cs,rv,rok,nm⟩ false false=b:=⟨_,rfl⟩;have T:=Lib.hid (TO.out false false);rw [ho1] at HDO T;go_wp2_with fail;refine (T.out _).mono ?_; rintro e w1 ⟨rfl,hb1⟩;have HB1:=Lib.hid hb1;have R0y:=keepR hb1 R0x;have Rxy:=keepR hb1 Rx;have HUy:=Lib.hid (HUx.out.below hb1);clear x0 x1 x2 r0 r1 r2 r3 r4 y0 y1 y2 T hb1 R0x R1x Rx HUx;obtain ⟨x0,x1,x2⟩:=rowc3 R0y.out;obtain ⟨y0,y1,y2⟩:=rowc3 Rxy.out;cases o1 with
    | false=>
     have hr:Hid (lo=none):=by show _=_; rw [← HDO.out]; simp
     go_wp2;refine bodyPost_ret (v:=.tuple #[.slice none 0 0,.bool false]) (by simp [results,Try.results106,go_sem]) rfl ?_;exact HNONE.out hr.out _ _ _ HB1.out rfl
    | true=>
     cases cl with
     | true=>
      have hr:Hid (lo=none):=by show _=_; rw [← HDO.out]; simp
      go_wp2;refine bodyPost_ret (v:=.tuple #[.slice none 0 0,.bool false]) (by simp [results,Try.results106,go_sem]) rfl ?_;exact HNONE.out hr.out _ _ _ HB1.out rfl
     | false=>
      by_cases hge:(bf.length:Int) ≥ cc
      ·have hnl:¬(bf.length:Int)<cc:=by omega
       have hr:Hid (lo=none):=by show _=_; rw [← HDO.out]; simp [hnl]
       go_wp2;refine bodyPost_ret (v:=.tuple #[.slice none 0 0,.bool false]) (by simp [results,Try.results106,go_sem]) rfl ?_;exact HNONE.out hr.out _ _ _ HB1.out rfl
      have hr:Hid (lo=some (l.set i ⟨cc,bf ++ [vl],false⟩)):=by
       show _=_;rw [← HDO.out];simp [setE,show (bf.length:Int)<cc by omega]
      have hXl:X<w1.heap.size:=(ltR Rxy);have KS7:Hid (∀w',Below w1.heap.size w1 w'→(fun w':World=>w'.cell? ⟨X,1,none⟩=some (.slice ua bf.length uc)∧w'.cell? ⟨w.heap.size,2,none⟩=some (.int .u64 vl)) w'):=fun w' hb=>⟨(rowc3 ((hb.block X (ltR Rxy)).trans Rxy.out)).2.1,(rowc3 ((hb.block w.heap.size (ltR R0y)).trans R0y.out)).2.2⟩;go_upto_region 7 with fail
      clear x0 x1 x2 y0 y1 y2 HDO;refine untilK KS7 8 9 (by kernel_rfl) rfl ?_;obtain ⟨u0,hu0,HU0⟩:=drew_pack w1;rw [hu0];clear hu0;have hSU0:=KS7.out _ HU0.out;apply tkV 0 hSU0 rfl (by kernel_rfl) (fun _ _ _ h=>h) rfl;intro w hSw;(go_simp<;>with_reducible rfl);simp only [J0,J1,J2,J3,J4];apply tkV 1 hSU0 rfl (by kernel_rfl) (fun _ _ _ h=>h) rfl;intro w hSw;(go_simp<;>with_reducible rfl);simp only [J0,J1,J2,J3,J4];apply tkV 3 hSU0 rfl (by kernel_rfl) (fun _ _ _ h=>h) rfl;intro w hSw;(go_simp<;>with_reducible rfl);simp only [J0,J1,J2,J3,J4];apply tkV 4 hSU0 rfl (by kernel_rfl) (fun _ _ _ h=>h) rfl;intro w hSw;(go_simp<;>with_reducible rfl);simp only [J0,J1,J2,J3,J4];refine wpAnyU_ready (rs:=[2,5]) (by kernel_rfl) rfl ?_;refine AllReadyU.cons la2 rfl (fun K hK=>?_) ?_
      ·refine step_app_u64 (w:=u0) (by rfl) _ _ (by rfl) w1.heap.size (.slice none 0 0) [] (by rfl) (World.ownsRow_nil _ _ _ _) (.slice ua bf.length uc) bf (by rfl) (HUy.out.below HU0.out) (by simp) (by omega) HU0.out.size ?_
       intro v2 u1 ho2 hg2;have HO2:Hid (OwnI u1 w1.heap.size 41 .u64 v2 bf):=ho2;have HU1:=Lib.hid (HU0.out.grown hg2 HU0.out.size (fun j hj=>by cases hj));clear ho2 hg2;refine hK.out _ _ ?_ fun hSU1=>?_;exact KS7.out _ HU1.out;clear hK K hSU0;(try simp only [J0,J1,J2,J3,J4]);refine consU 5 rfl (by kernel_rfl) rfl fun K hK=>?_;go_simp;obtain ⟨u2,nb,hv1,hX,RN,hbn,ltn⟩:=alloc_pack u1 (.cells #[.int .u64 vl] 41);have HO3:Hid (OwnI u2 w1.heap.size 41 .u64 v2 bf):=HO2.out.below hbn.out;rw [hv1,hX];have HU2:=Lib.hid (below_then HU1.out hbn.out);clear hv1 hX hbn ltn;refine hK.out _ _ ?_ fun hSU2=>?_;exact KS7.out _ HU2.out;clear hK K hSU1;(try simp only [J0,J1,J2,J3,J4]);refine consU 6 rfl (by kernel_rfl) rfl fun K hK=>?_;refine step_append_u64 (w:=u2) (by rfl) _ _ (by rfl) w1.heap.size v2 bf (by rfl) HO3.out vl nb (by rfl) (by exact cell_of_row _ _ 0 _ _ _ RN.out) (by omega) HU2.out.size ?_;intro v6 u3 ho6 hg6;obtain ⟨p6,n6,q6,rfl⟩:∃p n q,v6=.slice p n q:=by
        rcases ho6.shape with ⟨rfl,-⟩ | ⟨g,c,rfl,-⟩
        ·exact ⟨_,_,_,rfl⟩
        ·exact ⟨_,_,_,rfl⟩
       have HO6:Hid (OwnI u3 w1.heap.size 41 .u64 (.slice p6 n6 q6) (bf ++ [vl])):=ho6;have HU3:=Lib.hid (HU2.out.grown hg6 HU2.out.size (fun j hj=>HO3.out.own_ge j hj));clear ho6 hg6;refine hK.out _ _ ?_ fun hSU3=>?_;exact KS7.out _ HU3.out;clear hK K hSU2;(try simp only [J0,J1,J2,J3,J4]);apply tkV 7 hSU3 rfl (by kernel_rfl) (fun _ _ _ h=>h) rfl;intro w hSw;(go_simp<;>with_reducible rfl);simp only [J0,J1,J2,J3,J4];refine freeU 8 rfl (by kernel_rfl) rfl (by kernel_rfl) fun K hK=>?_;have rr:=(HU3.out.block X (ltR Rxy)).trans Rxy.out;have RR:=Lib.hid rr;have ff:=frozen_of_row u3 X 1 _ _ rr;obtain ⟨z0,z1,z2⟩:=rowc3 rr;clear rr;go_simp;clear z0 z1 z2 ff;refine hK.out _ _ ?_;clear hK K hSU3;(try simp only [J0,J1,J2,J3,J4]);refine wpAnyU_done (by kernel_rfl) ?_ _;obtain ⟨u4,hu4⟩:∃u4,u3.setCell ⟨X,1,none⟩ (.slice p6 n6 q6)=u4:=⟨_,rfl⟩;have HR4:Hid (u4.heap[X]?=some (.cells #[.int .i64 cc,.slice p6 n6 q6,.bool false] 63 (0,0))):=by
        rw [← hu4];have r1:=heap_setCell_same u3 X 1 _ _ (.slice p6 n6 q6) RR.out;simp at r1;exact r1
       have HC4:Hid (u4.heap[w.heap.size]?=some (.cells #[.bool true,.int .i64 i,.int .u64 vl] 58 (0,0))):=by
        rw [← hu4];exact (heap_setCell_other u3 ⟨X,1,none⟩ w.heap.size (.slice p6 n6 q6) (by show w.heap.size≠X; omega)).trans ((HU3.out.block w.heap.size (ltR R0y)).trans R0y.out)
       have HB4:Hid (Below w.heap.size w u4):=by
        rw [← hu4];exact (below_then HBX.out (below_then HB1.out HU3.out)).setCell (p:=⟨X,1,none⟩) (by show w.heap.size≤X; omega) (.slice p6 n6 q6)
       have HS4:Hid (SlU u4 (.slice p6 n6 q6) (bf ++ [vl])):=by
        rw [← hu4];exact (HO6.out.kept (grownBy_setCell u3 ⟨X,1,none⟩ (.slice p6 n6 q6)) (HO6.out.ne hXl)).slU (by simp; omega) (fun x hx=>by rcases List.mem_append.1 hx with h | h; exact HUy.out.2.1 x h; rw [List.mem_singleton.1 h]; exact HXV.out)
       rw [hu4];clear hu4;obtain ⟨z0,z1,z2⟩:=rowc3 HR4.out;obtain ⟨x0,x1,x2⟩:=rowc3 HC4.out;have T5:=TS.out ⟨cc,bf ++ [vl],false⟩ (.slice p6 n6 q6) u4 HB4.out HS4.out HCW.out;dsimp only at T5;have T5':=Lib.hid T5;clear T5;go_wp2_with fail;refine T5'.out.mono ?_; rintro e u5 ⟨v5,rfl,hs5,hb5⟩;have HB5:=Lib.hid (below_then HB4.out hb5);have HS5:=Lib.hid hs5;clear z0 z1 z2 x0 x1 x2 hb5 hs5 T5';go_wp2_with fail;refine bodyPost_ret (v:=.tuple #[v5,.bool true]) (by simp [results,Try.results106,go_sem]) rfl ?_;exact ⟨v5,true,rfl,.inl ⟨_,hr.out,rfl,HS5.out⟩,HB5.out⟩
      refine AllReadyU.cons la5 rfl (fun K hK=>?_) ?_
      ·go_simp
       obtain ⟨u1,nb,hv1,hX,RN,hbn,ltn⟩:=alloc_pack u0 (.cells #[.int .u64 vl] 41);rw [hv1,hX];have HU1:=Lib.hid (below_then HU0.out hbn.out);clear hv1 hX hbn ltn;refine hK.out _ _ ?_ fun hSU4=>?_;exact KS7.out _ HU1.out;clear hK K hSU0;(try simp only [J0,J1,J2,J3,J4]);refine consU 2 rfl (by kernel_rfl) rfl fun K hK=>?_;refine step_app_u64 (w:=u1) (by rfl) _ _ (by rfl) w1.heap.size (.slice none 0 0) [] (by rfl) (World.ownsRow_nil _ _ _ _) (.slice ua bf.length uc) bf (by rfl) (HUy.out.below HU1.out) (by simp) (by omega) HU1.out.size ?_;intro v2 u2 ho2 hg2;have HO2:Hid (OwnI u2 w1.heap.size 41 .u64 v2 bf):=ho2;have HU2:=Lib.hid (HU1.out.grown hg2 HU1.out.size (fun j hj=>by cases hj));have RN2:=Lib.hid ((((Below.refl u1.heap.size u1).grown hg2 (Nat.le_refl _) (fun j hj=>by cases hj)).block nb (ltR RN)).trans RN.out);clear ho2 hg2;refine hK.out _ _ ?_ fun hSU5=>?_;exact KS7.out _ HU2.out;clear hK K hSU4;(try simp only [J0,J1,J2,J3,J4]);refine consU 6 rfl (by kernel_rfl) rfl fun K hK=>?_;refine step_append_u64 (w:=u2) (by rfl) _ _ (by rfl) w1.heap.size v2 bf (by rfl) HO2.out vl nb (by rfl) (by exact cell_of_row _ _ 0 _ _ _ RN2.out) (by omega) HU2.out.size ?_;intro v6 u3 ho6 hg6;obtain ⟨p6,n6,q6,rfl⟩:∃p n q,v6=.slice p n q:=by
        rcases ho6.shape with ⟨rfl,-⟩ | ⟨g,c,rfl,-⟩
        ·exact ⟨_,_,_,rfl⟩
        ·exact ⟨_,_,_,rfl⟩
       have HO6:Hid (OwnI u3 w1.heap.size 41 .u64 (.slice p6 n6 q6) (bf ++ [vl])):=ho6;have HU3:=Lib.hid (HU2.out.grown hg6 HU2.out.size (fun j hj=>HO2.out.own_ge j hj));clear ho6 hg6;refine hK.out _ _ ?_ fun hSU6=>?_;exact KS7.out _ HU3.out;clear hK K hSU5;(try simp only [J0,J1,J2,J3,J4]);apply tkV 7 hSU6 rfl (by kernel_rfl) (fun _ _ _ h=>h) rfl;intro w hSw;(go_simp<;>with_reducible rfl);simp only [J0,J1,J2,J3,J4];refine freeU 8 rfl (by kernel_rfl) rfl (by kernel_rfl) fun K hK=>?_;have rr:=(HU3.out.block X (ltR Rxy)).trans Rxy.out;have RR:=Lib.hid rr;have ff:=frozen_of_row u3 X 1 _ _ rr;obtain ⟨z0,z1,z2⟩:=rowc3 rr;clear rr;go_simp;clear z0 z1 z2 ff;refine hK.out _ _ ?_;clear hK K hSU6;(try simp only [J0,J1,J2,J3,J4]);refine wpAnyU_done (by kernel_rfl) ?_ _;obtain ⟨u4,hu4⟩:∃u4,u3.setCell ⟨X,1,none⟩ (.slice p6 n6 q6)=u4:=⟨_,rfl⟩;have HR4:Hid (u4.heap[X]?=some (.cells #[.int .i64 cc,.slice p6 n6 q6,.bool false] 63 (0,0))):=by
        rw [← hu4];have r1:=heap_setCell_same u3 X 1 _ _ (.slice p6 n6 q6) RR.out;simp at r1;exact r1
       have HC4:Hid (u4.heap[w.heap.size]?=some (.cells #[.bool true,.int .i64 i,.int .u64 vl] 58 (0,0))):=by
        rw [← hu4];exact (heap_setCell_other u3 ⟨X,1,none⟩ w.heap.size (.slice p6 n6 q6) (by show w.heap.size≠X; omega)).trans ((HU3.out.block w.heap.size (ltR R0y)).trans R0y.out)
       have HB4:Hid (Below w.heap.size w u4):=by
        rw [← hu4];exact (below_then HBX.out (below_then HB1.out HU3.out)).setCell (p:=⟨X,1,none⟩) (by show w.heap.size≤X; omega) (.slice p6 n6 q6)
       have HS4:Hid (SlU u4 (.slice p6 n6 q6) (bf ++ [vl])):=by
        rw [← hu4];exact (HO6.out.kept (grownBy_setCell u3 ⟨X,1,none⟩ (.slice p6 n6 q6)) (HO6.out.ne hXl)).slU (by simp; omega) (fun x hx=>by rcases List.mem_append.1 hx with h | h; exact HUy.out.2.1 x h; rw [List.mem_singleton.1 h]; exact HXV.out)
       rw [hu4];clear hu4;obtain ⟨z0,z1,z2⟩:=rowc3 HR4.out;obtain ⟨x0,x1,x2⟩:=rowc3 HC4.out;have T5:=TS.out ⟨cc,bf ++ [vl],false⟩ (.slice p6 n6 q6) u4 HB4.out HS4.out HCW.out;dsimp only at T5;have T5':=Lib.hid T5;clear T5;go_wp2_with fail;refine T5'.out.mono ?_; rintro e u5 ⟨v5,rfl,hs5,hb5⟩;have HB5:=Lib.hid (below_then HB4.out hb5);have HS5:=Lib.hid hs5;clear z0 z1 z2 x0 x1 x2 hb5 hs5 T5';go_wp2_with fail;refine bodyPost_ret (v:=.tuple #[v5,.bool true]) (by simp [results,Try.results106,go_sem]) rfl ?_;exact ⟨v5,true,rfl,.inl ⟨_,hr.out,rfl,HS5.out⟩,HB5.out⟩
      exact AllReadyU.nil
  have k1b:(kd == 1)=false:=by simpa using k1
  by_cases k5:kd=5
  ·subst k5
   cases sd with
   | false=>
    have hr:Hid (lo=none):=by show _=_; rw [← HDO.out]; simp
    go_wp2;refine bodyPost_ret (v:=.tuple #[.slice none 0 0,.bool false]) (by simp [results,Try.results106,go_sem]) rfl ?_;exact HNONE.out hr.out _ _ _ (Below.refl _ _) rfl
   | true=>
    obtain ⟨o1,ho1⟩:∃b,onlyB ⟨5,cs,rv,rok,nm⟩ false false=b:=⟨_,rfl⟩;have T:=Lib.hid (TO.out false false);rw [ho1] at HDO T;by_cases hq:o1=true∧cl=true
    ·obtain ⟨rfl,rfl⟩:=hq
     have hr:Hid (lo=some l):=by show _=_; rw [← HDO.out]; simp
     go_upto_region 10 with fail
     have Xx0:=ext_cell _ _ ((ltR R0x)) _ x0;have Xx1:=ext_cell _ _ ((ltR R0x)) _ x1;have Xx2:=ext_cell _ _ ((ltR R0x)) _ x2;have Xr0:=ext_cell _ _ ((ltR R1x)) _ r0;have Xr1:=ext_cell _ _ ((ltR R1x)) _ r1;have Xr2:=ext_cell _ _ ((ltR R1x)) _ r2;have Xr3:=ext_cell _ _ ((ltR R1x)) _ r3;have Xr4:=ext_cell _ _ ((ltR R1x)) _ r4;have Xy0:=ext_cell _ _ ((ltR Rx)) _ y0;have Xy1:=ext_cell _ _ ((ltR Rx)) _ y1;have Xy2:=ext_cell _ _ ((ltR Rx)) _ y2;clear x0 x1 x2 r0 r1 r2 r3 r4 y0 y1 y2;refine wp_region_ext Wx (by kernel_rfl) (by kernel_rfl) (Below.refl _ _) ?_
     repeat (go_big_quiet_step (first | (go_at_call 107; with_reducible exact calls_ext (T.out _))))
     refine wpQuiet_nil ?_;intro _ hw';obtain ⟨n9,rfl⟩:=hw';have HB9:=Lib.hid n9.below;generalize n9.wd=w9 at *;clear Xx0 Xx1 Xx2 Xr0 Xr1 Xr2 Xr3 Xr4 Xy0 Xy1 Xy2;go_wp2_with fail;refine bodyPost_ret (v:=.tuple #[.slice (some ⟨b,off,none⟩) l.length cap,.bool true]) (by simp [results,Try.results106,go_sem]) rfl ?_;exact HSAME.out hr.out _ _ HB9.out rfl
    have hr:Hid (lo=none):=by show _=_; rw [← HDO.out]; simp [hq]
    cases o1 <;> cases cl <;> first | exact absurd ⟨rfl,rfl⟩ hq | skip
    all_goals (
     go_upto_region 10 with fail
     have Xx0:=ext_cell _ _ ((ltR R0x)) _ x0;have Xx1:=ext_cell _ _ ((ltR R0x)) _ x1;have Xx2:=ext_cell _ _ ((ltR R0x)) _ x2;have Xr0:=ext_cell _ _ ((ltR R1x)) _ r0;have Xr1:=ext_cell _ _ ((ltR R1x)) _ r1;have Xr2:=ext_cell _ _ ((ltR R1x)) _ r2;have Xr3:=ext_cell _ _ ((ltR R1x)) _ r3;have Xr4:=ext_cell _ _ ((ltR R1x)) _ r4;have Xy0:=ext_cell _ _ ((ltR Rx)) _ y0;have Xy1:=ext_cell _ _ ((ltR Rx)) _ y1;have Xy2:=ext_cell _ _ ((ltR Rx)) _ y2;clear x0 x1 x2 r0 r1 r2 r3 r4 y0 y1 y2;refine wp_region_ext Wx (by kernel_rfl) (by kernel_rfl) (Below.refl _ _) ?_
     repeat (go_big_quiet_step (first | (go_at_call 107; with_reducible exact calls_ext (T.out _))))
     refine wpQuiet_nil ?_;intro _ hw';obtain ⟨n9,rfl⟩:=hw';have HB9:=Lib.hid n9.below;generalize n9.wd=w9 at *;clear Xx0 Xx1 Xx2 Xr0 Xr1 Xr2 Xr3 Xr4 Xy0 Xy1 Xy2;go_wp2_with fail;refine bodyPost_ret (v:=.tuple #[.slice (some ⟨b,off,none⟩) l.length cap,.bool false]) (by simp [results,Try.results106,go_sem]) rfl ?_;exact HNONE.out hr.out _ _ _ HB9.out rfl)
  have k5b:(kd == 5)=false:=by simpa using k5
  by_cases k2:kd=2
  ·subst k2
   cases sd with
   | true=>
    have hr:Hid (lo=none):=by show _=_; rw [← HDO.out]; simp
    go_wp2;refine bodyPost_ret (v:=.tuple #[.slice none 0 0,.bool false]) (by simp [results,Try.results106,go_sem]) rfl ?_;exact HNONE.out hr.out _ _ _ (Below.refl _ _) rfl
   | false=>
    cases rok with
    | true=>
     obtain ⟨o1,ho1⟩:∃b,onlyB ⟨2,cs,rv,true,nm⟩ true false=b:=⟨_,rfl⟩;have T:=Lib.hid (TO.out true false);rw [ho1] at HDO T;cases bf with
     | nil=>
      have hr:Hid (lo=none):=by show _=_; rw [← HDO.out]; simp
      simp only [List.length_nil] at y1;cases o1
      all_goals (
       go_upto_region 12 with fail
       have Xx0:=ext_cell _ _ ((ltR R0x)) _ x0;have Xx1:=ext_cell _ _ ((ltR R0x)) _ x1;have Xx2:=ext_cell _ _ ((ltR R0x)) _ x2;have Xr0:=ext_cell _ _ ((ltR R1x)) _ r0;have Xr1:=ext_cell _ _ ((ltR R1x)) _ r1;have Xr2:=ext_cell _ _ ((ltR R1x)) _ r2;have Xr3:=ext_cell _ _ ((ltR R1x)) _ r3;have Xr4:=ext_cell _ _ ((ltR R1x)) _ r4;have Xy0:=ext_cell _ _ ((ltR Rx)) _ y0;have Xy1:=ext_cell _ _ ((ltR Rx)) _ y1;have Xy2:=ext_cell _ _ ((ltR Rx)) _ y2;clear x0 x1 x2 r0 r1 r2 r3 r4 y0 y1 y2;refine wp_region_ext Wx (by kernel_rfl) (by kernel_rfl) (Below.refl _ _) ?_
       repeat (go_big_quiet_step (first | (go_at_call 107; with_reducible exact calls_ext (T.out _))))
       refine wpQuiet_nil ?_;intro _ hw';obtain ⟨n9,rfl⟩:=hw';have HB9:=Lib.hid n9.below;generalize n9.wd=w9 at *;clear Xx0 Xx1 Xx2 Xr0 Xr1 Xr2 Xr3 Xr4 Xy0 Xy1 Xy2;go_wp2_with fail;refine bodyPost_ret (v:=.tuple #[.slice none 0 0,.bool false]) (by simp [results,Try.results106,go_sem]) rfl ?_;exact HNONE.out hr.out _ _ _ HB9.out rfl)
     | cons yb bt=>
      obtain ⟨b2,off2,cap2,e2,hcp,hb2,hcc2⟩:=HUx.out.open (by simp);simp only [Value.slice.injEq] at e2;obtain ⟨rfl,-,rfl⟩:=e2;have q0:=hcc2 0 (by simp);simp only [Nat.add_zero,List.getD_cons_zero] at q0;simp only [List.length_cons] at y1;have hbl2:bt.length+1≤999999:=by simpa using hbl
      have h01:(((bt.length+1:Nat):Int) == 0)=false:=by simp; omega
      have h02:((bt.length:Int)+1 == 0)=false:=by simp; omega
      have h03:(0:Int)<(bt.length:Int)+1:=by omega
      obtain ⟨b3,off3,e3,hb3⟩:=HUb.out (by simp);simp only [Option.some.injEq,Addr.mk.injEq] at e3;obtain ⟨rfl,rfl,-⟩:=e3;have hbX:b2≠X:=by omega
      clear hcc2 hb3 HUb;cases o1 with
      | false=>
       have hr:Hid (lo=none):=by show _=_; rw [← HDO.out]; simp
       go_upto_region 12 with fail
       have Xx0:=ext_cell _ _ ((ltR R0x)) _ x0;have Xx1:=ext_cell _ _ ((ltR R0x)) _ x1;have Xx2:=ext_cell _ _ ((ltR R0x)) _ x2;have Xr0:=ext_cell _ _ ((ltR R1x)) _ r0;have Xr1:=ext_cell _ _ ((ltR R1x)) _ r1;have Xr2:=ext_cell _ _ ((ltR R1x)) _ r2;have Xr3:=ext_cell _ _ ((ltR R1x)) _ r3;have Xr4:=ext_cell _ _ ((ltR R1x)) _ r4;have Xy0:=ext_cell _ _ ((ltR Rx)) _ y0;have Xy1:=ext_cell _ _ ((ltR Rx)) _ y1;have Xy2:=ext_cell _ _ ((ltR Rx)) _ y2;have Xq0:=ext_cell _ _ (hb2) _ q0;clear x0 x1 x2 r0 r1 r2 r3 r4 y0 y1 y2 q0;refine wp_region_ext Wx (by kernel_rfl) (by kernel_rfl) (Below.refl _ _) ?_
       repeat (go_big_quiet_step (first | (go_at_call 107; with_reducible exact calls_ext (T.out _))))
       refine wpQuiet_nil ?_;intro _ hw';obtain ⟨n9,rfl⟩:=hw';have HB9:=Lib.hid n9.below;generalize n9.wd=w9 at *;clear Xx0 Xx1 Xx2 Xr0 Xr1 Xr2 Xr3 Xr4 Xy0 Xy1 Xy2 Xq0;go_wp2_with fail;refine bodyPost_ret (v:=.tuple #[.slice none 0 0,.bool false]) (by simp [results,Try.results106,go_sem]) rfl ?_;exact HNONE.out hr.out _ _ _ HB9.out rfl
      | true=>
       by_cases hyr:yb=rv
       ·subst hyr
        have hr:Hid (lo=some (l.set i ⟨cc,bt,cl⟩)):=by
         show _=_;rw [← HDO.out];simp [setE]
        go_upto_region 12 with fail
        have Xx0:=ext_cell _ _ ((ltR R0x)) _ x0;have Xx1:=ext_cell _ _ ((ltR R0x)) _ x1;have Xx2:=ext_cell _ _ ((ltR R0x)) _ x2;have Xr0:=ext_cell _ _ ((ltR R1x)) _ r0;have Xr1:=ext_cell _ _ ((ltR R1x)) _ r1;have Xr2:=ext_cell _ _ ((ltR R1x)) _ r2;have Xr3:=ext_cell _ _ ((ltR R1x)) _ r3;have Xr4:=ext_cell _ _ ((ltR R1x)) _ r4;have Xy0:=ext_cell _ _ ((ltR Rx)) _ y0;have Xy1:=ext_cell _ _ ((ltR Rx)) _ y1;have Xy2:=ext_cell _ _ ((ltR Rx)) _ y2;have Xq0:=ext_cell _ _ (hb2) _ q0;clear x0 x1 x2 r0 r1 r2 r3 r4 y0 y1 y2 q0;refine wp_region_ext Wx (by kernel_rfl) (by kernel_rfl) (Below.refl _ _) ?_
        repeat (go_big_quiet_step (first | (go_at_call 107; with_reducible exact calls_ext (T.out _))))
        refine wpQuiet_nil ?_;intro _ hw';obtain ⟨n9,rfl⟩:=hw';have HB9:=Lib.hid n9.below;generalize n9.wd=w9 at *;clear Xx0 Xx1 Xx2 Xr0 Xr1 Xr2 Xr3 Xr4 Xy0 Xy1 Xy2 Xq0;have R9:=keepR HB9.out Rx;have C9:=keepR HB9.out R0x;have U9:=Lib.hid (HUx.out.below HB9.out);have ff:=frozen_of_row w9 X 1 _ _ R9.out;obtain ⟨z0,z1,z2⟩:=rowc3 R9.out;simp only [List.length_cons] at z1;obtain ⟨pa,hpa⟩:∃pa,(if uc=1 then some (⟨b2,off2,none⟩:Addr) else some ⟨b2,off2+1,none⟩)=pa:=⟨_,rfl⟩;have HS9:Hid (SlI w9 .u64 (.slice pa bt.length (uc - 1)) bt):=by
         show SlI _ _ _ _;rw [← hpa];split
         ·have hbt:bt=[]:=List.length_eq_zero_iff.1 (by simp at hcp; omega)
          subst hbt;exact ⟨by simp,by simp,_,_,rfl,Nat.zero_le _,fun t ht=>by simp at ht⟩
         ·exact U9.out.tail1
        have HF9:Hid (fineB w9 (.slice pa bt.length (uc - 1))):=by
         have hf:=HFU.out.below (below_then HBx9.out HB9.out);intro a n c e;rw [← hpa] at e;rcases hf _ _ _ rfl with h0 | h0
         ·simp at h0
         ·split at e <;> (cases e; exact .inr h0)
        have HO9:Hid (offB X (.slice pa bt.length (uc - 1))):=by
         intro a n c e;rw [← hpa] at e;refine .inr ?_;split at e
         ·cases e; exact hbX
         ·cases e; exact hbX
        have HPA:=Lib.hid hpa;clear hpa;go_upto_region 15 with fail
        rw [HPA.out];clear z0 z1 z2 ff;obtain ⟨u4,hu4⟩:∃u4,w9.setCell ⟨X,1,none⟩ (.slice pa bt.length (uc - 1))=u4:=⟨_,rfl⟩;have HR4:Hid (u4.heap[X]?=some (.cells #[.int .i64 cc,.slice pa bt.length (uc - 1),.bool cl] 63 (0,0))):=by
         rw [← hu4];have r1:=heap_setCell_same w9 X 1 _ _ (.slice pa bt.length (uc - 1)) R9.out;simp at r1;exact r1
        have HC4:Hid (u4.heap[w.heap.size]?=some (.cells #[.bool false,.int .i64 i,.int .u64 vl] 58 (0,0))):=by
         rw [← hu4];exact (heap_setCell_other w9 ⟨X,1,none⟩ w.heap.size (.slice pa bt.length (uc - 1)) (by show w.heap.size≠X; omega)).trans C9.out
        have HB4:Hid (Below w.heap.size w u4):=by
         rw [← hu4];exact (below_then HBX.out HB9.out).setCell (p:=⟨X,1,none⟩) (by show w.heap.size≤X; omega) (.slice pa bt.length (uc - 1))
        have HS4:Hid (SlU u4 (.slice pa bt.length (uc - 1)) (bt)):=by
         rw [← hu4];exact ⟨HS9.out.grown (grownBy_setCell w9 ⟨X,1,none⟩ (.slice pa bt.length (uc - 1))) HO9.out,HF9.out.setCell _ _⟩
        rw [hu4];clear hu4;obtain ⟨z0,z1,z2⟩:=rowc3 HR4.out;obtain ⟨x0,x1,x2⟩:=rowc3 HC4.out;have T5:=TS.out ⟨cc,bt,cl⟩ (.slice pa bt.length (uc - 1)) u4 HB4.out HS4.out HCW.out;dsimp only at T5;have T5':=Lib.hid T5;clear T5;go_wp2_with fail;refine T5'.out.mono ?_; rintro e u5 ⟨v5,rfl,hs5,hb5⟩;have HB5:=Lib.hid (below_then HB4.out hb5);have HS5:=Lib.hid hs5;clear z0 z1 z2 x0 x1 x2 hb5 hs5 T5';go_wp2_with fail;refine bodyPost_ret (v:=.tuple #[v5,.bool true]) (by simp [results,Try.results106,go_sem]) rfl ?_;exact ⟨v5,true,rfl,.inl ⟨_,hr.out,rfl,HS5.out⟩,HB5.out⟩
       ·have hyb:(yb == rv)=false:=by simpa using hyr
        have hyn:(yb != rv)=true:=by simpa using hyr
        have hr:Hid (lo=none):=by show _=_; rw [← HDO.out]; simp [hyr]
        go_upto_region 12 with fail
        have Xx0:=ext_cell _ _ ((ltR R0x)) _ x0;have Xx1:=ext_cell _ _ ((ltR R0x)) _ x1;have Xx2:=ext_cell _ _ ((ltR R0x)) _ x2;have Xr0:=ext_cell _ _ ((ltR R1x)) _ r0;have Xr1:=ext_cell _ _ ((ltR R1x)) _ r1;have Xr2:=ext_cell _ _ ((ltR R1x)) _ r2;have Xr3:=ext_cell _ _ ((ltR R1x)) _ r3;have Xr4:=ext_cell _ _ ((ltR R1x)) _ r4;have Xy0:=ext_cell _ _ ((ltR Rx)) _ y0;have Xy1:=ext_cell _ _ ((ltR Rx)) _ y1;have Xy2:=ext_cell _ _ ((ltR Rx)) _ y2;have Xq0:=ext_cell _ _ (hb2) _ q0;clear x0 x1 x2 r0 r1 r2 r3 r4 y0 y1 y2 q0;refine wp_region_ext Wx (by kernel_rfl) (by kernel_rfl) (Below.refl _ _) ?_
        repeat (go_big_quiet_step (first | (go_at_call 107; with_reducible exact calls_ext (T.out _))))
        refine wpQuiet_nil ?_;intro _ hw';obtain ⟨n9,rfl⟩:=hw';have HB9:=Lib.hid n9.below;generalize n9.wd=w9 at *;clear Xx0 Xx1 Xx2 Xr0 Xr1 Xr2 Xr3 Xr4 Xy0 Xy1 Xy2 Xq0;go_wp2_with fail;refine bodyPost_ret (v:=.tuple #[.slice none 0 0,.bool false]) (by simp [results,Try.results106,go_sem]) rfl ?_;exact HNONE.out hr.out _ _ _ HB9.out rfl
    | false=>
     obtain ⟨o1,ho1⟩:∃b,onlyB ⟨2,cs,rv,false,nm⟩ true false=b:=⟨_,rfl⟩;have T:=Lib.hid (TO.out true false);rw [ho1] at HDO T;obtain ⟨z1,hz1⟩:∃b,(rv == 0)=b:=⟨_,rfl⟩;obtain ⟨z2,hz2⟩:∃b,((bf.length:Int) == 0)=b:=⟨_,rfl⟩;have hzz:lo=if o1=true∧z1=true∧cl=true∧z2=true then some l else none:=by
      rw [← HDO.out,← hz1,← hz2];simp
     have HZZ:=Lib.hid hzz;clear hzz HDO;cases o1 <;> cases z1 <;> cases cl <;> cases z2
     all_goals (
      go_upto_region 17 with fail
      have Xx0:=ext_cell _ _ ((ltR R0x)) _ x0;have Xx1:=ext_cell _ _ ((ltR R0x)) _ x1;have Xx2:=ext_cell _ _ ((ltR R0x)) _ x2;have Xr0:=ext_cell _ _ ((ltR R1x)) _ r0;have Xr1:=ext_cell _ _ ((ltR R1x)) _ r1;have Xr2:=ext_cell _ _ ((ltR R1x)) _ r2;have Xr3:=ext_cell _ _ ((ltR R1x)) _ r3;have Xr4:=ext_cell _ _ ((ltR R1x)) _ r4;have Xy0:=ext_cell _ _ ((ltR Rx)) _ y0;have Xy1:=ext_cell _ _ ((ltR Rx)) _ y1;have Xy2:=ext_cell _ _ ((ltR Rx)) _ y2;clear x0 x1 x2 r0 r1 r2 r3 r4 y0 y1 y2;refine wp_region_ext Wx (by kernel_rfl) (by kernel_rfl) (Below.refl _ _) ?_
      repeat (go_big_quiet_step (first | (go_at_call 107; with_reducible exact calls_ext (T.out _))))
      refine wpQuiet_nil ?_;intro _ hw';obtain ⟨n9,rfl⟩:=hw';have HB9:=Lib.hid n9.below;generalize n9.wd=w9 at *;clear Xx0 Xx1 Xx2 Xr0 Xr1 Xr2 Xr3 Xr4 Xy0 Xy1 Xy2;go_wp2_with fail
      first
       | (refine bodyPost_ret (v:=.tuple #[.slice (some ⟨b,off,none⟩) l.length cap,.bool true]) (by simp [results,Try.results106,go_sem]) rfl ?_; exact HSAME.out HZZ.out _ _ HB9.out rfl)
       | (refine bodyPost_ret (v:=.tuple #[.slice (some ⟨b,off,none⟩) l.length cap,.bool false]) (by simp [results,Try.results106,go_sem]) rfl ?_; exact HNONE.out HZZ.out _ _ _ HB9.out rfl))
  have k2b:(kd == 2)=false:=by simpa using k2
  have hr:Hid (lo=none):=by show _=_; rw [← HDO.out]; simp [k1,k5,k2]
  go_wp2;refine bodyPost_ret (v:=.tuple #[.slice none 0 0,.bool false]) (by simp [results,Try.results106,go_sem]) rfl ?_;exact HNONE.out hr.out _ _ _ (Below.refl _ _) rfl
theorem run_copy_own (w:World) (st ty:TypeId) {e:TypeId} {s bytes:Nat} {z:Value} (hu:Try.prog.underlying st=some (.slice e)) (hinfo:(Try.prog.info? e).map (fun i=>(i.zero,i.size,i.bytes))=some (some z,s,bytes)) (hzs:z.cells.size=s) (hsz:0<s) (hby:bytes≤200)
  {base:Nat} {v v0:Value} {rows:List (List Value)} (hown:OwnS w base e s v0 []) (hS:SlS w s v rows) (hl:rows.length≤1000000) (hb:base≤w.heap.size) :
  ∃v' w',(Builtin.append_ #[st,st] ty #[v0,v]).run Try.prog w=.ok v' w'∧OwnS w' base e s v' rows∧w.grownBy w' v0.ownBlock:=by
 obtain ⟨i0,hi,hz0,hz1,hz2⟩:=info_parts hinfo;have hr1:=hS.2.1;by_cases hne:rows=[]
 ·subst hne
  obtain ⟨B,c',rfl,-⟩:=hS.len;have e:∃A c,v0=.slice A 0 c∧0≤c:=by
   rcases hown.shape with ⟨rfl,-⟩ | ⟨g,cap,rfl,-,-,h⟩
   ·exact ⟨_,_,rfl,Nat.le_refl _⟩
   ·exact ⟨_,_,rfl,h⟩
  obtain ⟨A,c,rfl,hc⟩:=e;exact ⟨_,w,run_append_zero hu hi A B 0 c c' hc,hown,grownBy_refl _ _⟩
 obtain ⟨b,off,cap,rfl,hbl,hr⟩:=hS.open (List.length_pos_iff.2 hne);obtain ⟨v',w',hrun,h2,h3,-,h4⟩:=run_append_own_at (P:=Try.prog) w base st ty e i0 z s bytes hu hi hz0 hz1 hz2 hzs hsz v0 0 [] hown.2 ⟨b,off,none⟩ rows.length cap rows.flatten (flatS_length rows hr1) (fun j u hj=>by
   have hlt:=(List.getElem?_eq_some_iff.1 hj).1;rw [flatS_length rows hr1] at hlt;have hq:j / s<rows.length:=Nat.div_lt_of_lt_mul (by rw [Nat.mul_comm]; exact hlt);have hm:j % s<s:=Nat.mod_lt _ hsz;have hj2:j=j / s * s+j % s:=by rw [Nat.mul_comm]; exact (Nat.div_add_mod j s).symm
   have e2:((⟨b,off,none⟩:Addr).add j)=⟨b,off+(j / s) * s+j % s,none⟩:=by rw [Addr.add_mid,Nat.add_assoc,← hj2]
   rw [e2];refine hr (j / s) hq (j % s) u ?_;rw [List.getD_eq_getElem?_getD,List.getElem?_eq_getElem hq];have h9:=flatS_get rows hr1 (j / s) (j % s) hq hm;rw [← hj2] at h9;show rows[j / s][j % s]?=some u;rw [← h9];exact hj) (fun u hu=>by
   obtain ⟨r,hr,hur⟩:=List.mem_flatten.1 hu;exact (hr1 r hr).2 u hur) (by unfold maxLen; omega) (by have:(0+rows.length) * bytes≤1000000 * 200:=Nat.mul_le_mul (by omega) hby; omega) hb
 rw [Nat.zero_add,List.nil_append] at h2;exact ⟨v',w',hrun,⟨hr1,h2⟩,h3⟩
theorem SlS.nil_of {w:World} {s n c:Nat} {rows:List (List Value)} (h:SlS w s (.slice none n c) rows):rows=[]:=by
 rcases Nat.eq_zero_or_pos rows.length with h0 | h0
 ·exact List.length_eq_zero_iff.1 h0
 ·obtain ⟨b,off,cap,e,-⟩:=h.open h0
  simp at e
set_option maxRecDepth 100000 in
set_option maxHeartbeats 16000000 in
theorem cloneS_any (v:Value) (rows:List (List Value)) (w:World) (h:SlS w 3 v rows) (hl:rows.length≤1000000) :
  Calls Try.prog 97 #[v] w fun e w'=>∃v',e=.returned v'∧OwnS w' w.heap.size 63 3 v' rows∧Below w.heap.size w w':=by
 obtain ⟨a,cap,e,hcap⟩:=h.len;have H:=Lib.hid h;have HL:=Lib.hid hl;clear h hl;have q0:∀(w:World) (a:Option Addr) (n c n' c':Nat),(binOp .eql 31 (.slice a n c) (.slice none n' c')).run Try.prog w=.ok (.bool a.isNone) w:=fun w a n c n' c'=>Lib.run_eql_slice_nil w _ _ a n c n' c' Try.underlying31;cases a with
 | none=>
  subst e;have hl0:=H.out.nil_of;subst hl0;go_enter Try.func97,Try.ntmps97;go_wp2;go_ret;exact ⟨_,rfl,OwnS.nil _ _ _ _,Below.refl _ _⟩
 | some p=>
  subst e;generalize hn:rows.length=n at *;have HN:=Lib.hid hn;clear hn;have hnew:Hid (SlS (w.alloc (.cells #[] 63)) 3 (.slice (some p) n cap) rows):=H.out.below (below_new (Below.refl _ _) _);obtain ⟨v',w',hr,h1,h2⟩:=run_copy_own (w.alloc (.cells #[] 63)) 31 31 (by kernel_rfl) Try.info_chan rfl (by decide) (by decide) (base:=w.heap.size) (v0:=.slice (some ⟨w.heap.size,0,none⟩) 0 0) ⟨by intro r h; simp at h,World.ownsRow_made w #[] 0 (Nat.le_refl _) (Nat.zero_le _) rfl⟩ hnew.out (by rw [HN.out]; exact HL.out) (by simp);have H1:=Lib.hid h1;have H2:=Lib.hid h2;clear h1 h2;go_enter Try.func97,Try.ntmps97;go_wp2_with (at_builtin; refine Lib.wpList_append_run _ rfl _ _ _ _ rfl _ _ rfl rfl _ _ hr ?_);go_ret;exact ⟨v',rfl,H1.out,below_grown (below_new (Below.refl _ _) _) H2.out (Nat.le_refl _)⟩
structure CopyR (l:List ChanM) (w w':World) (v:Value) (us:List Value) (B:Nat):Prop where
 len:us.length=l.length
 rows:OwnS w' w.heap.size 63 3 v (chRows l us)
 lo:w.heap.size≤B
 hi:B≤w'.heap.size
 vlt:∀j,v.ownBlock=some j→j<B
 bufs:∀i,i<l.length→OwnI w' B 41 .u64 (us.getD i (.slice none 0 0)) (l.getD i noChan).buf
 apart:∀i j,i<j→j<l.length→(us.getD i (.slice none 0 0)).ownBlock=none∨(us.getD i (.slice none 0 0)).ownBlock≠(us.getD j (.slice none 0 0)).ownBlock
 below:Below w.heap.size w w'
structure CopyI (l:List ChanM) (w0 wc wr:World) (base:Nat) (v:Value) (us:List Value) (i:Nat):Prop where
 len:us.length=l.length
 rows:OwnS wr base 63 3 v (chRows l us)
 bufs:∀j,j<i→OwnI wr wc.heap.size 41 .u64 (us.getD j (.slice none 0 0)) (l.getD j noChan).buf
 apart:∀a b,a<b→b<i→(us.getD a (.slice none 0 0)).ownBlock=none∨(us.getD a (.slice none 0 0)).ownBlock≠(us.getD b (.slice none 0 0)).ownBlock
 rest:∀j,i≤j→j<l.length→SlI w0 .u64 (us.getD j (.slice none 0 0)) (l.getD j noChan).buf
theorem chRows_row (l:List ChanM) (us:List Value) (i:Nat) (h:us.length=l.length) (hi:i<l.length) (hi2:i<(chRows l us).length):(chRows l us)[i]=chRow (l.getD i noChan) (us.getD i (.slice none 0 0)):=by
 have:=chRows_get l us i h hi;rw [List.getD_eq_getElem?_getD,List.getElem?_eq_getElem hi2] at this;exact this
theorem chRows_put (l:List ChanM) (us:List Value) (i:Nat) (u:Value) (h:us.length=l.length) (hi:i<l.length):(chRows l us).set i (chRow (l.getD i noChan) u)=chRows l (us.set i u):=by
 rw [chRows_set l us i _ _ h];congr 1;rw [List.getD_eq_getElem?_getD,List.getElem?_eq_getElem hi];exact List.set_getElem_self hi
theorem CopyI.next {l:List ChanM} {w0 wc wr w2:World} {base g n cap i:Nat} {us:List Value} {u:Value} (h:CopyI l w0 wc wr base (.slice (some ⟨g,0,none⟩) n cap) us i) (hi:i<l.length) (hb:Below wr.heap.size wr w2) (hwc:wc.heap.size≤wr.heap.size) (hg:g<wc.heap.size) (hu:OwnI w2 wr.heap.size 41 .u64 u (l.getD i noChan).buf) :
  CopyI l w0 wc (w2.setCell ⟨g,i * 3+1,none⟩ u) base (.slice (some ⟨g,0,none⟩) n cap) (us.set i u) (i+1):=by
 have hlen:=chRows_length l us h.len;have ho:u.oneCell'=true:=by
  rcases hu.shape with ⟨rfl,-⟩ | ⟨g2,c2,rfl,-⟩ <;> rfl
 have hr2:=h.rows.below hb;have hkeep:∀(b:Nat) (v:Value) (x:List Int),OwnI w2 b 41 .u64 v x→g<b→OwnI (w2.setCell ⟨g,i * 3+1,none⟩ u) b 41 .u64 v x:=fun b v x hv hgb=>hv.kept (grownBy_setCell w2 ⟨g,i * 3+1,none⟩ u) (hv.ne hgb);refine ⟨by rw [List.length_set]; exact h.len,?_,fun j hj=>?_,fun a b hab hb3=>?_,fun j hj hjl=>?_⟩
 ·have hi2:i<(chRows l us).length:=by omega
  have h3:=hr2.setCell i hi2 [.int .i64 (l.getD i noChan).cap] [.bool (l.getD i noChan).closed] _ u (chRows_row l us i h.len hi hi2) ho;rw [← chRows_put l us i u h.len hi];exact h3
 ·rw [getD_setL]
  by_cases hji:i=j
  ·subst hji
   rw [if_pos ⟨rfl,by rw [h.len]; exact hi⟩];exact (hkeep _ _ _ hu (by omega)).mono_base hwc
  ·rw [if_neg (fun e=>hji e.1)]
   exact hkeep _ _ _ ((h.bufs j (by omega)).below hb) hg
 ·rw [getD_setL,getD_setL]
  rw [if_neg (fun e=>by omega)];by_cases hib:i=b
  ·rw [if_pos ⟨hib,by rw [h.len]; omega⟩]
   have h1:=h.bufs a (by omega);rcases h1.shape with ⟨e,-⟩ | ⟨g1,c1,e,-,hg1,-⟩
   ·rw [e]; exact .inl rfl
   ·rw [e]
    refine .inr fun e2=>?_;have:=hu.own_ge g1 e2.symm;omega
  ·rw [if_neg (fun e=>hib e.1)]
   exact h.apart a b hab (by omega)
 ·rw [getD_setL,if_neg (fun e=>by omega)]
  exact h.rest j (by omega) hjl
inductive ModR (l:List ChanM) (op:OpM) (r:ResM) (l':List ChanM):Prop
 | sent (x:CaseM) (i:Nat) (hk:r.kind=1) (hc:chosenE op r=some x) (hx:x.chan=i) (hi:i<l.length) (e:l'=l.set i { l.getD i noChan with buf:=(l.getD i noChan).buf ++ [x.val] })
 | got (x:CaseM) (i:Nat) (y:Int) (t:List Int) (hk:r.kind=2) (ho:r.ok=true) (hc:chosenE op r=some x) (hx:x.chan=i) (hi:i<l.length) (hb:(l.getD i noChan).buf=y :: t) (e:l'=l.set i { l.getD i noChan with buf:=t })
 | shut (i:Nat) (hk:r.kind=6) (hx:op.chan=i) (hi:i<l.length) (e:l'=l.set i { l.getD i noChan with closed:=true })
 | same (h1:r.kind≠1) (h2:¬(r.kind=2∧r.ok=true)) (h6:r.kind≠6) (e:l'=l)
theorem ite_some {α:Type} {p:Prop} [Decidable p] {a b:α} (h:(if p then some a else none)=some b):a=b:=by
 by_cases hp:p
 ·rw [if_pos hp] at h; exact Option.some.inj h
 ·rw [if_neg hp] at h; cases h
theorem exB_nat {l:List ChanM} {n:Int} (h:exB l n=true):∃i:Nat,n=i∧i<l.length∧chE l n=l.getD i noChan:=by
 unfold exB at h;simp only [Bool.and_eq_true,decide_eq_true_eq] at h;exact ⟨n.toNat,by omega,by omega,rfl⟩
theorem doE_modR {l l':List ChanM} {op:OpM} {r:ResM} {x:CaseM} (hc:chosenE op r=some x) (h:doE l x r=some l'):ModR l op r l':=by
 cases hex:exB l x.chan with
 | false=>rw [doE_out hex] at h; cases h
 | true=>
  rw [doE_in hex] at h;obtain ⟨i,hi,hil,hce⟩:=exB_nat hex;unfold doB at h;rw [hce] at h;split at h
  ·rename_i h1
   split at h
   ·simp only [Option.some.injEq] at h
    refine .sent x i h1.1 hc hi hil ?_;rw [← h,hi];rfl
   ·cases h
  ·split at h
   ·rename_i h1 h2
    split at h
    ·simp only [Option.some.injEq] at h
     exact .same (by rw [h2.1]; decide) (fun e=>by rw [h2.1] at e; exact absurd e.1 (by decide)) (by rw [h2.1]; decide) h.symm
    ·cases h
   ·split at h
    ·rename_i h1 h2 h3
     split at h
     ·rename_i h4
      simp only [Option.some.injEq] at h;have hb:=h4.2;cases hbf:(l.getD i noChan).buf with
      | nil=>rw [hbf] at hb; cases hb
      | cons y t=>
       rw [hbf] at hb;refine .got x i y t h3.1 h3.2.2 hc hi hil hbf ?_;rw [← h,hi,hbf];rfl
     ·cases h
    ·split at h
     ·rename_i h1 h2 h3 h4
      split at h
      ·simp only [Option.some.injEq] at h
       exact .same (by rw [h4.1]; decide) (fun e=>h3 ⟨e.1,h4.2,e.2⟩) (by rw [h4.1]; decide) h.symm
      ·cases h
     ·cases h
theorem modE_modR {l l':List ChanM} {op:OpM} {r:ResM} (h:modE l op r=some l'):ModR l op r l':=by
 unfold modE at h;have hbind:∀{l'},((chosenE op r).bind fun x=>doE l x r)=some l'→ModR l op r l':=fun {l'} h=>by
  cases hc:chosenE op r with
  | none=>rw [hc] at h; cases h
  | some x=>rw [hc] at h; exact doE_modR hc h
 split at h
 ·exact hbind h
 ·rename_i h12
  have hs:r.kind≠6→l'=l→ModR l op r l':=fun h6 e=>.same (fun e=>h12 (.inl e)) (fun e=>h12 (.inr e.1)) h6 e;split at h
  ·rename_i h5
   split at h
   ·split at h
    ·simp only [Option.some.injEq] at h
     exact hs (by rw [h5]; decide) h.symm
    ·cases h
   ·exact hbind h
  ·split at h
   ·rename_i h6
    split at h
    ·rename_i h7
     simp only [Option.some.injEq] at h;obtain ⟨i,hi,hil,hce⟩:=exB_nat h7.2.2.2.1;refine .shut i h6 hi hil ?_;rw [← h,hce,hi];rfl
    ·cases h
   ·rename_i h6
    refine hs h6 ?_;split at h
    ·split at h
     ·simp only [Option.some.injEq] at h; exact h.symm
     ·cases h
    ·split at h
     ·split at h
      ·simp only [Option.some.injEq] at h; exact h.symm
      ·cases h
     ·split at h
      ·exact (ite_some h).symm
      ·cases h
theorem slH_put {l:List ChanM} {W:World} {base:Nat} {v:Value} {us:List Value} {i:Nat} {c:ChanM} {u:Value} (hi:i<l.length) (hl:l.length≤1000000) (h1:us.length=l.length) (h4:∀c∈l,c.cap=IntKind.i64.wrap c.cap) (hc:c.cap=IntKind.i64.wrap c.cap)
  (hr:OwnS W base 63 3 v ((chRows l us).set i (chRow c u))) (hu:SlU W u c.buf) (ho:∀j,j<l.length→j≠i→SlU W (us.getD j (.slice none 0 0)) (l.getD j noChan).buf):SlH W v (l.set i c):=by
 rw [chRows_set l us i _ _ h1] at hr;refine hr.slH (by rw [List.length_set,List.length_set]; exact h1) (by rw [List.length_set]; exact hl) (fun j hj=>?_) (fun d hd=>?_)
 ·rw [List.length_set] at hj
  rw [getD_setL,getD_setL];by_cases hji:i=j
  ·rw [if_pos ⟨hji,by rw [h1]; exact hj⟩,if_pos ⟨hji,hj⟩]
   exact hu
  ·rw [if_neg (fun h=>hji h.1),if_neg (fun h=>hji h.1)]
   exact ho j hj (fun e=>hji e.symm)
 ·rcases List.mem_or_eq_of_mem_set hd with hd | rfl
  ·exact h4 d hd
  ·exact hc
theorem CopyR.slH {l:List ChanM} {w w' W:World} {v:Value} {us:List Value} {B:Nat} (h:CopyR l w w' v us B) (hl:l.length≤1000000) (hbf:∀i,i<l.length→(l.getD i noChan).buf.length≤1000000∧∀x∈(l.getD i noChan).buf,x=IntKind.u64.wrap x) (h4:∀c∈l,c.cap=IntKind.i64.wrap c.cap) (hb:Below w'.heap.size w' W):SlH W v l:=
 (h.rows.below hb).slH h.len hl (fun i hi=>((h.bufs i hi).below hb).slU (by have:=(hbf i hi).1; omega) (hbf i hi).2) h4
theorem CopyR.put {l:List ChanM} {w w' W:World} {g n cap:Nat} {us:List Value} {B i:Nat} (h:CopyR l w w' (.slice (some ⟨g,0,none⟩) n cap) us B) (hi:i<l.length) (hl:l.length≤1000000) (hbf:∀i,i<l.length→(l.getD i noChan).buf.length≤1000000∧∀x∈(l.getD i noChan).buf,x=IntKind.u64.wrap x) (h4:∀c∈l,c.cap=IntKind.i64.wrap c.cap)
  (hW:w'.grownBy W (us.getD i (.slice none 0 0)).ownBlock) (c:ChanM) (u x x2:Value) (a b:List Value) (hc:c.cap=IntKind.i64.wrap c.cap) (he:chRow (l.getD i noChan) (us.getD i (.slice none 0 0))=a ++ x :: b) (he2:chRow c u=a ++ x2 :: b) (ho:x2.oneCell'=true)
  (hu:SlU (W.setCell ⟨g,i * 3+a.length,none⟩ x2) u c.buf):SlH (W.setCell ⟨g,i * 3+a.length,none⟩ x2) (.slice (some ⟨g,0,none⟩) n cap) (l.set i c):=by
 have hgB:g<B:=h.vlt g rfl;have hi2:i<(chRows l us).length:=by rw [chRows_length l us h.len]; exact hi
 have hne:(Value.slice (some ⟨g,0,none⟩) n cap).ownBlock=none∨(Value.slice (some ⟨g,0,none⟩) n cap).ownBlock≠(us.getD i (.slice none 0 0)).ownBlock:=by
  refine .inr fun e=>?_;have:=(h.bufs i hi).own_ge g e.symm;omega
 have hr2:=(h.rows.kept hW hne).setCell i hi2 a b x x2 (by rw [chRows_row l us i h.len hi hi2,he]) ho;rw [← he2] at hr2;refine slH_put hi hl h.len h4 hc hr2 hu fun j hj hji=>?_;have hoj:=h.bufs j hj;have hnj:(us.getD j (.slice none 0 0)).ownBlock=none∨(us.getD j (.slice none 0 0)).ownBlock≠(us.getD i (.slice none 0 0)).ownBlock:=by
  rcases Nat.lt_or_gt_of_ne hji with h1 | h1
  ·exact h.apart j i h1 hi
  ·rcases h.apart i j h1 hj with h2 | h2
   ·rw [h2]
    cases (us.getD j (.slice none 0 0)).ownBlock <;> simp
   ·exact .inr fun e=>h2 e.symm
 exact ((hoj.kept hW hnj).kept (grownBy_setCell W ⟨g,i * 3+a.length,none⟩ x2) ((hoj.kept hW hnj).ne hgB)).slU (by have:=(hbf j hj).1; omega) (hbf j hj).2
theorem AllReadyU.consG {P:Program} {md:Region.Mode} {Q:Exit→Act→World→Prop} {S:World→Prop} {k:Nat} {l:List Oper} {fuel:Nat} {listed:Array Bool} {a:Act} {w:World} {i:Nat} {o:Oper} {rs:List Nat} (ho:ListAt l i o)
  (h:∀K':Act→World→Prop,ShutU (∀a w,S w→(S w→wpAnyU P md l.toArray Q S k fuel (listed.setIfInBounds i true) a w)→K' a w)→if Region.wanted o (yielded l.toArray a.tmps)=true then Oper.wp P o a w K' Q else K' (a.put o.dst undef) w)
  (hs:AllReadyU P md l.toArray Q S k fuel listed a w rs):AllReadyU P md l.toArray Q S k fuel listed a w (i :: rs):=fun j hj=>by
 rcases List.mem_cons.1 hj with rfl | hj
 ·exact wpOp_step ho.get (fun K' hK=>h K' (fun a w hS hW=>hK a w ⟨fun _=>hS,hW hS⟩))
 ·exact hs j hj
theorem AllReadyU.freeG {P:Program} {md:Region.Mode} {Q:Exit→Act→World→Prop} {S:World→Prop} {k:Nat} {l:List Oper} {fuel:Nat} {listed:Array Bool} {a:Act} {w:World} {i:Nat} {o:Oper} {rs:List Nat} (ho:ListAt l i o)
  (hk:(listed.setIfInBounds i true).getD k true=true)
  (h:∀K':Act→World→Prop,ShutU (∀a w,wpAnyU P md l.toArray Q S k fuel (listed.setIfInBounds i true) a w→K' a w)→if Region.wanted o (yielded l.toArray a.tmps)=true then Oper.wp P o a w K' Q else K' (a.put o.dst undef) w)
  (hs:AllReadyU P md l.toArray Q S k fuel listed a w rs):AllReadyU P md l.toArray Q S k fuel listed a w (i :: rs):=fun j hj=>by
 rcases List.mem_cons.1 hj with rfl | hj
 ·exact wpOp_step ho.get (fun K' hK=>h K' (fun a w hW=>hK a w ⟨fun h0=>(by rw [hk] at h0; cases h0),hW⟩))
 ·exact hs j hj
def sizeI (k:Int):Int:=if k<1 then 1 else if k=1 then 2 else if 1073741824<k then 0 else 2 * 2 ^ Nat.log2 (k.toNat - 1)
theorem sizeI_16 (x:Int) (h0:0≤x) (h1:x≤16):1≤sizeI x∧sizeI x≤16:=by
 rcases (show x=0∨x=1∨x=2∨x=3∨x=4∨x=5∨x=6∨x=7∨x=8∨x=9∨x=10∨x=11∨x=12∨x=13∨x=14∨x=15∨x=16 by omega) with rfl | rfl | rfl | rfl | rfl | rfl | rfl | rfl | rfl | rfl | rfl | rfl | rfl | rfl | rfl | rfl | rfl <;> decide +kernel
structure ConfM.good (c:ConfM):Prop where
 len:c.caps.length≤8
 same:c.starts.length=c.caps.length
 caps:∀x∈c.caps,0≤x∧x≤16
 starts:∀x∈c.starts,0≤x∧x<9223372036854775808
 thr:1≤c.threads∧c.threads≤8
theorem below_setRow {B g:Nat} {a w:World} (h:Below B a w) (hB:B≤g) (cs:Array Value):Below B a (w.setRow g cs):=
 ⟨h.os,h.tape,h.output,by simpa [World.setRow] using h.size,fun k hk=>(setRow_other w g k cs (by omega)).trans (h.block k hk)⟩
theorem ConfM.good.cap {c:ConfM} (h:c.good) (k:Nat) (hk:k<c.caps.length):0≤c.caps.getD k 0∧c.caps.getD k 0≤16:=by
 rw [List.getD_eq_getElem?_getD,List.getElem?_eq_getElem hk];exact h.caps _ (List.getElem_mem hk)
def ConfM.size (c:ConfM) (k:Nat):Int:=sizeI (c.caps.getD k 0)
theorem ConfM.good.size {c:ConfM} (h:c.good) (k:Nat) (hk:k<c.caps.length):1≤c.size k∧c.size k≤16:=sizeI_16 _ (h.cap k hk).1 (h.cap k hk).2
def ConfM.base (c:ConfM):Nat→Int
 | 0=>0
 | k+1=>c.base k+(5+c.size k * 2)
theorem ConfM.good.base {c:ConfM} (h:c.good) (k:Nat) (hk:k≤c.caps.length):0≤c.base k∧c.base k≤37 * k:=by
 induction k with
 | zero=>exact ⟨Int.le_refl _,Int.le_refl _⟩
 | succ k ih=>
  have h1:=ih (by omega);have h2:=h.size k (by omega);show 0≤c.base k+(5+c.size k * 2)∧c.base k+(5+c.size k * 2)≤_;omega
theorem SlI.cellAt {w:World} {k:IntKind} {a:Option Addr} {n cap:Nat} {l:List Int} (h:SlI w k (.slice a n cap) l) (t:Nat) (ht:t<l.length) :
  ∃b off,a=some ⟨b,off,none⟩∧b<w.heap.size∧w.cell? ⟨b,off+t,none⟩=some (.int k (l.getD t 0)):=by
 obtain ⟨_,_,a',cap',e,_,h5⟩:=h;simp only [Value.slice.injEq] at e;obtain ⟨rfl,_,_⟩:=e;exact h5 t ht
def capB (x:Int):Bool:=decide (0≤x) && decide (x≤16)
def startB (x:Int):Bool:=decide (x<9223372036854775808)
def checkC (c:ConfM):Int:=
 if 8<c.caps.length then 3 else if c.starts.length≠c.caps.length then 5 else if c.caps.all capB=false then 2 else if c.starts.all startB=false then 2 else
 if c.threads<1∨8<c.threads then 2 else 0
theorem checkC_good {c:ConfM} (h:c.good):checkC c=0:=by
 have h1:=h.len;have h2:=h.thr;have h3:c.caps.all capB=true:=List.all_eq_true.2 fun x hx=>by have:=h.caps x hx; simp [capB,this]
 have h4:c.starts.all startB=true:=List.all_eq_true.2 fun x hx=>by have:=h.starts x hx; simp [startB,this]
 unfold checkC;rw [if_neg (by omega),if_neg (by simp [h.same]),if_neg (by simp [h3]),if_neg (by simp [h4]),if_neg (by omega)]
theorem checkC_many {c:ConfM} (h:8<c.caps.length):checkC c=3:=by unfold checkC; rw [if_pos h]
theorem checkC_shape {c:ConfM} (h:¬8<c.caps.length) (h2:c.starts.length≠c.caps.length):checkC c=5:=by unfold checkC; rw [if_neg h,if_pos h2]
theorem all_bad {l:List Int} {p:Int→Bool} (j:Nat) (h:j<l.length) (hb:p (l.getD j 0)=false):l.all p=false:=by
 rw [List.all_eq_false];rw [List.getD_eq_getElem?_getD,List.getElem?_eq_getElem h] at hb;exact ⟨_,List.getElem_mem h,by simpa using hb⟩
theorem all_next {l:List Int} {p:Int→Bool} (j:Nat) (h:j<l.length) (ha:(l.take j).all p=true) (hb:p (l.getD j 0)=true):(l.take (j+1)).all p=true:=by
 rw [List.take_add_one,List.getElem?_eq_getElem h,List.all_append,ha];rw [List.getD_eq_getElem?_getD,List.getElem?_eq_getElem h] at hb;simpa using hb
theorem checkC_caps {c:ConfM} (h:¬8<c.caps.length) (h2:c.starts.length=c.caps.length) (h3:c.caps.all capB=false):checkC c=2:=by
 unfold checkC; rw [if_neg h,if_neg (by simp [h2]),if_pos h3]
theorem checkC_starts {c:ConfM} (h:¬8<c.caps.length) (h2:c.starts.length=c.caps.length) (h4:c.starts.all startB=false):checkC c=2:=by
 unfold checkC; rw [if_neg h,if_neg (by simp [h2])]; simp only [h4,if_true]; split <;> rfl
theorem checkC_thr {c:ConfM} (h:¬8<c.caps.length) (h2:c.starts.length=c.caps.length) (h3:c.caps.all capB=true) (h4:c.starts.all startB=true):checkC c=if c.threads<1∨8<c.threads then 2 else 0:=by
 unfold checkC; rw [if_neg h,if_neg (by simp [h2]),if_neg (by simp [h3]),if_neg (by simp [h4])]
set_option maxHeartbeats 2000000 in
theorem checkC_any (v:Value) (c:ConfM) (w:World) (h:ConfV w v c) :
  Calls Try.prog 66 #[v] w fun e w'=>e=.returned (.int .i64 (checkC c))∧Below w.heap.size w w':=by
 obtain ⟨vc,vs,rfl,h1,h2⟩:=h;have hn:=h1.1;have hm:=h2.1;obtain ⟨a,cap,rfl,-⟩:=h1.len;obtain ⟨a2,cap2,rfl,-⟩:=h2.len;obtain ⟨W,hW⟩:∃W,w.alloc (.cells #[.slice a c.caps.length cap,.slice a2 c.starts.length cap2,.int .i64 c.threads] 29)=W:=⟨_,rfl⟩;have HB:Hid (Below w.heap.size w W):=hW▸below_new (Below.refl w.heap.size w) _;have R0:Hid (W.heap[w.heap.size]?=some (.cells #[.slice a c.caps.length cap,.slice a2 c.starts.length cap2,.int .i64 c.threads] 29 (0,0))):=hW▸heap_alloc_new _ _;have S1:=Lib.hid (h1.below HB.out);have S2:=Lib.hid (h2.below HB.out);have HW:=Lib.hid hW;clear h1 h2 hW;have CM:=Lib.hid (checkC_many (c:=c));have CS:=Lib.hid (checkC_shape (c:=c));have CC:=Lib.hid (checkC_caps (c:=c));have CT:=Lib.hid (checkC_starts (c:=c));have CZ:=Lib.hid (checkC_thr (c:=c));generalize hcn:c.caps.length=n at *;generalize hcm:c.starts.length=m at *;have HN:=Lib.hid hcn;have HM:=Lib.hid hcm;clear hcn hcm;generalize c.threads=thr at *;go_enter Try.func66,Try.ntmps66;go_upto_region 1 with fail
 rw [HW.out];clear HW;obtain ⟨x0,x1,x2⟩:=rowc3 R0.out;by_cases h8:8<n
 ·go_wp2
  go_ret;exact ⟨ret_i64 (CM.out h8).symm,HB.out⟩
 by_cases hs:m=n
 case neg=>
  have hsb:((m:Int) != (n:Int))=true:=by simp; omega
  have HS:=Lib.hid hs;clear hs;go_wp2;go_ret;exact ⟨ret_i64 (CS.out h8 HS.out).symm,HB.out⟩
 case pos=>
 subst hs;go_wp2_with fail;go_loop [21] (fun i=>∃j:Nat,j≤m∧i=.int .i64 j∧Hid ((c.caps.take j).all capB=true)) (fun i=>9 - (intOf i).toNat)
 case atStart=>exact ⟨0,by omega,rfl,(by simp:(c.caps.take 0).all capB=true)⟩
 case round=>
  obtain ⟨j,hj,rfl,hall⟩:=hrel;by_cases hlt:j<m
  ·obtain ⟨b,off,rfl,hb,hc⟩:=S1.out.cellAt j (by rw [HN.out]; exact hlt)
   have BD:=Lib.hid fun h=>all_bad (l:=c.caps) (p:=capB) j (by rw [HN.out]; exact hlt) h;have NX:=Lib.hid fun h=>all_next (l:=c.caps) (p:=capB) j (by rw [HN.out]; exact hlt) hall.out h;generalize c.caps.getD j 0=x at *;by_cases h0:0≤x∧x≤16
   ·obtain ⟨h0,h1⟩:=h0
    have hx:=Lib.hid (NX.out (by simp [capB,h0,h1]));clear BD NX;go_wp2;go_round
    case rel=>exact ⟨j+1,by omega,by go_num,hx⟩
    case measure=>simp [intOf]; omega
   ·have hx:=Lib.hid (CC.out h8 (by trivial) (BD.out (by simp [capB]; omega)))
    clear BD NX;by_cases hx0:x<0
    ·go_wp2
     go_ret;exact ⟨ret_i64 hx.out.symm,HB.out⟩
    ·have hx1:16<x:=by omega
     clear h0;go_wp2;go_ret;exact ⟨ret_i64 hx.out.symm,HB.out⟩
  ·obtain rfl:j=m:=by omega
   have HA:Hid (c.caps.all capB=true):=by
    have:=hall.out;rw [List.take_of_length_le (by rw [HN.out]; exact Nat.le_refl _)] at this;exact this
   clear hall;go_wp2_with fail;go_loop [35] (fun i=>∃t:Nat,t≤j∧i=.int .i64 t∧Hid ((c.starts.take t).all startB=true)) (fun i=>9 - (intOf i).toNat)
   case atStart=>exact ⟨0,by omega,rfl,(by simp:(c.starts.take 0).all startB=true)⟩
   case round=>
    obtain ⟨t,ht,rfl,hall⟩:=hrel;by_cases htl:t<j
    ·obtain ⟨b,off,rfl,hb,hc⟩:=S2.out.cellAt t (by rw [HM.out]; exact htl)
     have BD:=Lib.hid fun h=>all_bad (l:=c.starts) (p:=startB) t (by rw [HM.out]; exact htl) h;have NX:=Lib.hid fun h=>all_next (l:=c.starts) (p:=startB) t (by rw [HM.out]; exact htl) hall.out h;generalize c.starts.getD t 0=x at *;by_cases h0:x<9223372036854775808
     ·have hx:=Lib.hid (NX.out (by simp [startB,h0]))
      clear BD NX;have hxd:decide (9223372036854775808≤x)=false:=decide_eq_false (by omega);clear h0;go_wp2;go_round
      case rel=>exact ⟨t+1,by omega,by go_num,hx⟩
      case measure=>simp [intOf]; omega
     ·have hx:=Lib.hid (CT.out h8 (by trivial) (BD.out (by simp [startB]; omega)))
      clear BD NX;have hxd:decide (9223372036854775808≤x)=true:=decide_eq_true (by omega);clear h0;go_wp2;go_ret;exact ⟨ret_i64 hx.out.symm,HB.out⟩
    ·obtain rfl:t=j:=by omega
     have HA2:Hid (c.starts.all startB=true):=by
      have:=hall.out;rw [List.take_of_length_le (by rw [HM.out]; exact Nat.le_refl _)] at this;exact this
     have HZ:=Lib.hid (CZ.out h8 (by trivial) HA.out HA2.out);clear hall HA HA2;by_cases h1:thr<1
     ·go_wp2
      go_ret;exact ⟨ret_i64 (by rw [HZ.out,if_pos (.inl h1)]),HB.out⟩
     ·by_cases h9:8<thr
      ·go_wp2
       go_ret;exact ⟨ret_i64 (by rw [HZ.out,if_pos (.inr h9)]),HB.out⟩
      ·go_wp2
       go_ret;exact ⟨ret_i64 (by rw [HZ.out,if_neg (by omega)]),HB.out⟩
theorem results_cell_tmp {fn:Func} {P:Program} {p u:Tmp} {t1:TypeId} (h:fn.results=#[.cell p t1,.tmp u]) (tmps:Array Value) (w:World) (g1:Nat) (u1:TypeId) (c1:Array Value) (f1:Nat × Nat) (d1:TypeDesc)
  (hp:tmps.getD p undef=.pointer (some ⟨g1,0,none⟩)) (hg1:w.heap[g1]?=some (.cells c1 u1 f1))
  (hu1:P.underlying t1=some d1) (hd1:(match d1 with | .struct _ | .array _ _=>true | _=>false)=true) (hi1:(P.info? t1).map (·.size)=some c1.size) (x:Value) (hx:tmps.getD u undef=x) :
  (results fn tmps).run P w=.ok (.tuple #[.agg c1,x]) w:=by
 have hp':tmps[p]?.getD undef=.pointer (some ⟨g1,0,none⟩):=by simpa using hp
 have hx':tmps[u]?.getD undef=x:=by simpa using hx
 simp [results,h,hp',hx',asAddr,run_loadVar_row w g1 u1 t1 c1 f1 d1 hg1 hu1 hd1 hi1]
def ConfM.st (c:ConfM) (k:Nat):Int:=c.starts.getD k 0
def Wf (l:List Int):Prop:=∀x∈l,x=IntKind.u64.wrap x
theorem Wf.set {l:List Int} (h:Wf l) (i:Nat) (x:Int) (hx:x=IntKind.u64.wrap x):Wf (l.set i x):=by
 intro y hy;rcases List.mem_or_eq_of_mem_set hy with hy | rfl
 ·exact h y hy
 ·exact hx
theorem ConfM.good.st {c:ConfM} (h:c.good) (k:Nat) (hk:k<c.caps.length):0≤c.st k∧c.st k<9223372036854775808:=by
 have hk2:k<c.starts.length:=by rw [h.same]; exact hk
 show 0≤c.starts.getD k 0∧c.starts.getD k 0<9223372036854775808;rw [List.getD_eq_getElem?_getD,List.getElem?_eq_getElem hk2];exact h.starts _ (List.getElem_mem hk2)
theorem ConfM.good.mono {c:ConfM} (h:c.good) (k:Nat) (hk:k<c.caps.length):c.base k+(5+c.size k * 2)≤c.base c.caps.length:=by
 have key:∀d,k+1+d≤c.caps.length→c.base (k+1)≤c.base (k+1+d):=by
  intro d;induction d with
  | zero=>intro _; exact Int.le_refl _
  | succ d ih=>
   intro hd;have h1:=ih (by omega);have h2:=h.size (k+1+d) (by omega);have e:c.base (k+1+(d+1))=c.base (k+1+d)+(5+c.size (k+1+d) * 2):=rfl;omega
 have h1:=key (c.caps.length - (k+1)) (by omega);rw [show k+1+(c.caps.length - (k+1))=c.caps.length by omega] at h1;exact h1
structure NewI (w0 wr:World) (X t:Nat) (ws:List Int):Prop where
 row:OwnI wr X 41 .u64 (.slice (some ⟨X,0,none⟩) t t) ws
 len:ws.length=t
 below:Below X w0 wr
theorem NewI.next {w0 wr w2:World} {X t:Nat} {ws:List Int} (h:NewI w0 wr X t ws) (hb:Below wr.heap.size wr w2):NewI w0 w2 X t ws:=by
 have hX:X≤wr.heap.size:=by
  rcases h.row.shape with ⟨h1,_⟩ | ⟨g,cap,h1,_,h2,_⟩
  ·simp at h1
  ·simp only [Value.slice.injEq,Option.some.injEq,Addr.mk.injEq] at h1; omega
 exact ⟨h.row.below hb,h.len,h.below.trans (hb.mono hX)⟩
theorem NewI.set {w0 wr:World} {X t:Nat} {ws:List Int} (h:NewI w0 wr X t ws) (i:Nat) (x:Int):NewI w0 (wr.setCell ⟨X,i,none⟩ (.int .u64 x)) X t (ws.set i x):=
 ⟨h.row.store i x h.len.symm,by rw [List.length_set]; exact h.len,h.below.setCell (p:=⟨X,i,none⟩) (Nat.le_refl _) _⟩
end Go.Proofs.Ytiekicailidhcaa
