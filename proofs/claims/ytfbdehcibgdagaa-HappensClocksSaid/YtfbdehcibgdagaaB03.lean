import Derived.Deep.DeepCutAuto
import Derived.Deep.CutBlock
import Derived.DeepKeys4
import Derived.Shelf.Small.Bits
import Derived.Shelf.Strconv.Itoa0
import Derived.Shelf.Sort.Plain
import Derived.Ground.Names2Prog
import Derived.Shelf.Slices.Clone
import Derived.Shelf.Slices.SearchI
import Derived.Shelf.Slices.In.SortNone
import Derived.Shelf.Slices.Empties
import Derived.Ground.SlgnProg
import Derived.Shelf.SlicesE.Clone
import Derived.Test.YtfbdehcibgdagaaProg
import Derived.Sort.OwnSortedInts
import Derived.Test.YtfbdehcibgdagaaB02
import Derived.Test.YtfbdehcibgdagaaB01
set_option linter.unusedVariables false
set_option linter.unusedSimpArgs false
namespace Go.Proofs.Ytfbdehcibgdagaa
open Go.ChangeShapes Go.WideShapes Go.ChangeAt Go.RowKit
set_option maxRecDepth 100000
theorem SlT.atK {w:World} {v:Value} {l:List ItemM} (h:SlT w v l) (h0:0<l.length):∃b off cap,v=.slice (some ⟨b,off,none⟩) l.length cap∧l.length≤cap∧b<w.heap.size∧∀i w',i<l.length→Below w.heap.size w w'→∀x,l.getD i noItem=x→
  (w'.cell? ⟨b,off+i * 8,none⟩=some (.int .i64 x.thr)∧w'.cell? ⟨b,off+i * 8+1,none⟩=some (.int .i64 x.acc.kind)∧w'.cell? ⟨b,off+i * 8+2,none⟩=some (.int .i64 x.acc.addr)∧w'.cell? ⟨b,off+i * 8+3,none⟩=some (.int .u64 x.acc.old)∧w'.cell? ⟨b,off+i * 8+4,none⟩=some (.int .u64 x.acc.new)∧w'.cell? ⟨b,off+i * 8+5,none⟩=some (.int .i64 x.acc.til)∧w'.cell? ⟨b,off+i * 8+6,none⟩=some (.int .u64 x.val)∧w'.cell? ⟨b,off+i * 8+7,none⟩=some (.bool x.ok)):=by
 obtain ⟨b,off,cap,rfl,hcap,hb,hc⟩:=h.open (by intro e; rw [e] at h0; simp at h0);refine ⟨b,off,cap,rfl,hcap,hb,fun i w' hi hw x hx=>?_⟩;obtain ⟨c0,c1,c2,c3,c4,c5,c6,c7⟩:=hc i hi;rw [hx] at c0 c1 c2 c3 c4 c5 c6 c7;have hk:∀j,w'.cell? ⟨b,j,none⟩=w.cell? ⟨b,j,none⟩:=fun j=>hw.cell (p:=⟨b,j,none⟩) hb;exact ⟨(hk _).trans c0,(hk _).trans c1,(hk _).trans c2,(hk _).trans c3,(hk _).trans c4,(hk _).trans c5,(hk _).trans c6,(hk _).trans c7⟩
set_option maxRecDepth 100000 in
set_option maxHeartbeats 16000000 in
theorem exp1_any (x:ItemM) (n:Int) (B:Nat) (w:World) (h:w.heap[B]?=some (.cells #[.int .i64 n] 3 (0,0))) (h0:0≤x.thr) (h1:x.thr<n):Calls Try.prog 35 #[itemV x,.pointer (some ⟨B,0,none⟩)] w fun e w'=>e=.returned (.bool false)∧Below w.heap.size w w':=by
 obtain ⟨th,⟨ak,ad,ao,an,at_⟩,vl,ok⟩:=x;unfold itemV;dsimp only at h0 h1 ⊢;have hlt:¬th<0:=by omega
 have hge:¬n≤th:=by omega
 obtain ⟨W,hW⟩:∃W,w.alloc (.cells #[.int .i64 th,.int .i64 ak,.int .i64 ad,.int .u64 ao,.int .u64 an,.int .i64 at_,.int .u64 vl,.bool ok] 30)=W:=⟨_,rfl⟩;have HB:Hid (Below w.heap.size w W):=hW▸below_new (Below.refl _ _) _;have R0:Hid (W.heap[w.heap.size]?=some (.cells #[.int .i64 th,.int .i64 ak,.int .i64 ad,.int .u64 ao,.int .u64 an,.int .i64 at_,.int .u64 vl,.bool ok] 30 (0,0))):=hW▸heap_alloc_new _ _;have k1:=(cell_of_row _ _ 0 _ _ _ (row_below3k HB.out h):W.cell? ⟨B,0,none⟩=some (.int .i64 n));have HW:=Lib.hid hW;clear hW h h0 h1;go_enter Try.func35,Try.ntmps35;go_upto_region 1 with fail
 rw [HW.out];clear HW;obtain ⟨y0,y1,y2,y3,y4,y5,y6,y7⟩:=rowc8i R0.out;go_wp2;go_ret;exact ⟨rfl,HB.out⟩
set_option maxRecDepth 100000 in
set_option maxHeartbeats 16000000 in
theorem expI_any (l:List ItemM) (n:Int) (B:Nat) (v:Value) (w:World) (hv:SlT w v l) (hth:∀x∈l,0≤x.thr∧x.thr<n) (h:w.heap[B]?=some (.cells #[.int .i64 n] 3 (0,0))):Calls Try.prog 45 #[v,(.func (.func 35) #[] #[.pointer (some ⟨B,0,none⟩)])] w fun e w'=>e=.returned (.int .i64 (-1))∧Below w.heap.size w w':=by
 have TC:=Lib.hid fun (x:ItemM) w' (hb:Below w.heap.size w w')=>exp1_any x n B w' (row_below3k hb h);have HTH:=Lib.hid hth;have hbd:=hv.1;have HV:=Lib.hid hv;obtain ⟨a,cap,rfl,-⟩:=hv.len;clear hv hth h;go_enter Try.func45,Try.ntmps45;go_wp2_with fail;go_loopw [8] (fun u8 wr=>∃i:Nat,u8=.int .i64 i∧i≤l.length∧Hid (Below w.heap.size w wr)) (fun u8 _=>l.length - (intOf u8).toNat)
 case atStart=>exact ⟨0,rfl,by omega,Below.refl _ _⟩
 case round=>
  obtain ⟨i,rfl,hi,HB⟩:=hrel;obtain ⟨wo,rfl⟩:∃wo:World,wo=wr:=⟨_,rfl⟩;by_cases hlt:i<l.length
  ·have hltI:(i:Int)<(l.length:Int):=by omega
   obtain ⟨b,off,cp,hve,hcp,hb,kc⟩:=(HV.out.below HB.out).atK (by omega);simp only [Value.slice.injEq] at hve;obtain ⟨rfl,-,rfl⟩:=hve;obtain ⟨x,hx⟩:∃x,l.getD i noItem=x:=⟨_,rfl⟩;have hxm:x∈l:=by
    rw [← hx,List.getD_eq_getElem?_getD,List.getElem?_eq_getElem hlt];exact List.getElem_mem _
   obtain ⟨c0,c1,c2,c3,c4,c5,c6,c7⟩:=kc i wo hlt (Below.refl _ _) x hx;obtain ⟨h0,h1⟩:=HTH.out x hxm;have TE:=Lib.hid (TC.out x wo HB.out h0 h1);obtain ⟨th,⟨ak,ad,ao,an,at_⟩,vl,ok⟩:=x;unfold itemV at TE;dsimp only at TE c0 c1 c2 c3 c4 c5 c6 c7;clear kc hx hxm h0 h1;go_wp2_with fail;refine TE.out.mono ?_; rintro e w2 ⟨rfl,hb2⟩;have HB2:=Lib.hid (below_then HB.out hb2);clear hb2 TE c0 c1 c2 c3 c4 c5 c6 c7;go_wp2;go_roundw
   case rel=>exact ⟨i+1,by go_num,by omega,HB2⟩
   case measure=>simp [intOf]; omega
  ·have hge:¬(i:Int)<(l.length:Int):=by omega
   go_wp2;go_ret;exact ⟨rfl,HB.out⟩
set_option maxRecDepth 100000 in
set_option maxHeartbeats 16000000 in
theorem expC_any (l:List ItemM) (n:Int) (B:Nat) (v:Value) (w:World) (hv:SlT w v l) (hth:∀x∈l,0≤x.thr∧x.thr<n) (h:w.heap[B]?=some (.cells #[.int .i64 n] 3 (0,0))):Calls Try.prog 34 #[v,(.func (.func 35) #[] #[.pointer (some ⟨B,0,none⟩)])] w fun e w'=>e=.returned (.bool false)∧Below w.heap.size w w':=by
 have TI:=Lib.hid (expI_any l n B v w hv hth h);obtain ⟨a,cap,rfl,-⟩:=hv.len;clear hv hth h;go_enter Try.func34,Try.ntmps34;go_wp2_with fail;refine TI.out.mono ?_; rintro e w2 ⟨rfl,hb2⟩;have HB2:=Lib.hid hb2;clear hb2 TI;go_wp2;go_ret;exact ⟨rfl,HB2.out⟩
set_option maxRecDepth 100000 in
set_option maxHeartbeats 16000000 in
theorem expected_any (l:List ItemM) (n:Int) (v:Value) (w:World) (hv:SlT w v l) (hn:1≤n∧n≤8) (hth:∀x∈l,0≤x.thr∧x.thr<n):Calls Try.prog 24 #[v,.int .i64 n] w fun e w'=>e=.returned (.bool true)∧Below w.heap.size w w':=by
 obtain ⟨hn1,hn8⟩:=hn;have hlt:¬n<1:=by omega
 have hge:¬(8:Int)<n:=by omega
 obtain ⟨W,hW⟩:∃W,w.alloc (.cells #[.int .i64 n] 3)=W:=⟨_,rfl⟩;have HB:Hid (Below w.heap.size w W):=hW▸below_new (Below.refl _ _) _;have R0:Hid (W.heap[w.heap.size]?=some (.cells #[.int .i64 n] 3 (0,0))):=hW▸heap_alloc_new _ _;have TC:=Lib.hid (expC_any l n w.heap.size v W (hv.below HB.out) hth R0.out);obtain ⟨a,cap,rfl,-⟩:=hv.len;have HW:=Lib.hid hW;clear hW hv hth;go_enter Try.func24,Try.ntmps24;go_upto_region 1 with fail
 rw [HW.out];clear HW;have k1:=(cell_of_row _ _ 0 _ _ _ R0.out:W.cell? ⟨w.heap.size,0,none⟩=some (.int .i64 n));go_wp2_with fail;refine TC.out.mono ?_; rintro e w2 ⟨rfl,hb2⟩;have HB2:=Lib.hid (below_then HB.out hb2);clear hb2 TC k1;go_wp2;go_ret;exact ⟨rfl,HB2.out⟩
def ckR (C:Nat→Clk) (n:Nat):List (List Value):=(List.range n).map fun j=>clkL (C j)
theorem ckR_length (C:Nat→Clk) (n:Nat):(ckR C n).length=n:=by simp [ckR]
theorem ckR_get (C:Nat→Clk) {n i:Nat} (hi:i<n):(ckR C n).getD i []=clkL (C i):=by
 unfold ckR;rw [List.getD_eq_getElem?_getD,List.getElem?_map,List.getElem?_range hi];rfl
theorem clkL_get (c:Clk) {t:Nat} (ht:t<8):(clkL c)[t]?=some (.int .i64 (c t)):=by
 rcases (show t=0∨t=1∨t=2∨t=3∨t=4∨t=5∨t=6∨t=7 by omega) with rfl | rfl | rfl | rfl | rfl | rfl | rfl | rfl <;> rfl
theorem ckR_at {w:World} {v:Value} {C:Nat→Clk} {n:Nat} (h:SlS w 8 v (ckR C n)) (h0:0<n):∃b off cap,v=.slice (some ⟨b,off,none⟩) n cap∧b<w.heap.size∧∀i t w',i<n→t<8→Below w.heap.size w w'→w'.cell? ⟨b,off+i * 8+t,none⟩=some (.int .i64 (C i t)):=by
 obtain ⟨b,off,cap,rfl,hb,hr⟩:=h.open (by rw [ckR_length]; exact h0);refine ⟨b,off,cap,by rw [ckR_length],hb,fun i t w' hi ht hw=>?_⟩;have h5:=hr i (by rw [ckR_length]; exact hi);rw [ckR_get C hi] at h5;exact (hw.cell (p:=⟨b,off+i * 8+t,none⟩) hb).trans (h5 t _ (clkL_get _ ht))
set_option maxRecDepth 100000 in
set_option maxHeartbeats 16000000 in
theorem ordered_any (l:List ItemM) (C:Nat→Clk) (n a b:Nat) (v u:Value) (w:World) (hv:SlT w v l) (hth:∀x∈l,0≤x.thr∧x.thr<8) (hu:SlS w 8 u (ckR C n)) (ha:a<l.length) (han:a<n) (hbn:b<n):Calls Try.prog 29 #[v,u,.int .i64 (a:Int),.int .i64 (b:Int)] w fun e w'=>e=.returned (.bool (decide (C a (l.getD a noItem).thr.toNat≤C b (l.getD a noItem).thr.toNat)))∧Below w.heap.size w w':=by
 obtain ⟨x,hx⟩:∃x,l.getD a noItem=x:=⟨_,rfl⟩;have hxm:x∈l:=by
  rw [← hx,List.getD_eq_getElem?_getD,List.getElem?_eq_getElem ha];exact List.getElem_mem _
 obtain ⟨h0,h8⟩:=hth x hxm;obtain ⟨bl,ol,cl,rfl,hcl,hbl,kl⟩:=hv.atK (by omega);obtain ⟨bc,oc,cc,rfl,hbc,kc⟩:=ckR_at hu (by omega);obtain ⟨c0,-⟩:=kl a w ha (Below.refl _ _) x hx;rw [hx];obtain ⟨t,ht⟩:∃t:Nat,x.thr=t:=⟨x.thr.toNat,by omega⟩;rw [ht] at c0 h8;rw [ht,Int.toNat_natCast];have ht8:t<8:=by omega
 have e1:=kc a t w han ht8 (Below.refl _ _);have e2:=kc b t w hbn ht8 (Below.refl _ _);obtain ⟨p,hp⟩:∃z,C a t=z:=⟨_,rfl⟩;obtain ⟨q,hq⟩:∃z,C b t=z:=⟨_,rfl⟩;rw [hp] at e1;rw [hq] at e2;rw [hp,hq];have haI:(a:Int)<(l.length:Int):=by omega
 have hanI:(a:Int)<(n:Int):=by omega
 have hbnI:(b:Int)<(n:Int):=by omega
 clear hv hth hu kl kc hx hxm ht hp hq;go_enter Try.func29,Try.ntmps29;go_upto_region 2 with fail
 have X0:=ext_cell _ _ hbc _ e1;have X1:=ext_cell _ _ hbc _ e2;clear e1 e2 c0;refine wp_region_ext w (by kernel_rfl) (by kernel_rfl) (Below.refl _ _) ?_
 repeat (go_big_quiet_step (fail))
 refine wpQuiet_nil ?_;intro _ hw';obtain ⟨n9,rfl⟩:=hw';have HB9:=Lib.hid n9.below;generalize n9.wd=w9 at *;clear X0 X1;go_wp2;go_ret;exact ⟨by simp,HB9.out⟩
section
variable {e:TypeId} {s base:Nat} {w:World} {v v0:Value} {rows rows0:List (List Value)}
theorem run_app_ss (w:World) (st ty:TypeId) {bytes:Nat} {z:Value} (hu:Try.prog.underlying st=some (.slice e)) (hinfo:(Try.prog.info? e).map (fun i=>(i.zero,i.size,i.bytes))=some (some z,s,bytes)) (hzs:z.cells.size=s) (hsz:0<s) (hby:bytes≤200)
  (hown:OwnS w base e s v0 rows0) (hS:SlS w s v rows) (hl:rows0.length+rows.length≤1000000) (hb:base≤w.heap.size) :
  ∃v' w',(Builtin.append_ #[st,st] ty #[v0,v]).run Try.prog w=.ok v' w'∧OwnS w' base e s v' (rows0 ++ rows)∧w.grownBy w' v0.ownBlock∧(v'.ownBlock=v0.ownBlock∨v'.ownBlock=some w.heap.size):=by
 obtain ⟨i0,hi,hz0,hz1,hz2⟩:=info_parts hinfo;have hr1:=hS.2.1;by_cases hne:rows=[]
 ·subst hne
  obtain ⟨B,c',rfl,-⟩:=hS.len;have e:∃A c,v0=.slice A rows0.length c∧rows0.length≤c:=by
   rcases hown.shape with ⟨rfl,rfl⟩ | ⟨g,cap,rfl,-,-,h⟩
   ·exact ⟨_,_,rfl,Nat.le_refl _⟩
   ·exact ⟨_,_,rfl,h⟩
  obtain ⟨A,c,rfl,hc⟩:=e;exact ⟨_,w,run_append_zero hu hi A B rows0.length c c' hc,by rw [List.append_nil]; exact hown,grownBy_refl _ _,.inl rfl⟩
 obtain ⟨b,off,cap,rfl,hbl,hr⟩:=hS.open (List.length_pos_iff.2 hne);obtain ⟨v',w',hrun,h2,h3,-,h4⟩:=run_append_own_at (P:=Try.prog) w base st ty e i0 z s bytes hu hi hz0 hz1 hz2 hzs hsz v0 rows0.length _ hown.2 ⟨b,off,none⟩ rows.length cap rows.flatten (flatS_length rows hr1) (fun j u hj=>by
   have hlt:=(List.getElem?_eq_some_iff.1 hj).1;rw [flatS_length rows hr1] at hlt;have hq:j / s<rows.length:=Nat.div_lt_of_lt_mul (by rw [Nat.mul_comm]; exact hlt);have hm:j % s<s:=Nat.mod_lt _ hsz;have hj2:j=j / s * s+j % s:=by rw [Nat.mul_comm]; exact (Nat.div_add_mod j s).symm
   have e2:((⟨b,off,none⟩:Addr).add j)=⟨b,off+(j / s) * s+j % s,none⟩:=by rw [Addr.add_mid,Nat.add_assoc,← hj2]
   rw [e2];refine hr (j / s) hq (j % s) u ?_;rw [List.getD_eq_getElem?_getD,List.getElem?_eq_getElem hq];have h9:=flatS_get rows hr1 (j / s) (j % s) hq hm;rw [← hj2] at h9;show rows[j / s][j % s]?=some u;rw [← h9];exact hj) (fun u hu=>by
   obtain ⟨r,hr,hur⟩:=List.mem_flatten.1 hu;exact (hr1 r hr).2 u hur) (by unfold maxLen; omega) (by have:(rows0.length+rows.length) * bytes≤1000000 * 200:=Nat.mul_le_mul (by omega) hby; omega) hb
 refine ⟨v',w',hrun,⟨fun r hr2=>?_,?_⟩,h3,h4⟩
 ·rcases List.mem_append.1 hr2 with h | h
  ·exact hown.1 r h
  ·exact hr1 r h
 ·rw [List.length_append,List.flatten_append]
  exact h2
theorem wp_app_ss (st:TypeId) {bytes:Nat} {z:Value} (hu:Try.prog.underlying st=some (.slice e)) (hinfo:(Try.prog.info? e).map (fun i=>(i.zero,i.size,i.bytes))=some (some z,s,bytes)) (hzs:z.cells.size=s) (hsz:0<s) (hby:bytes≤200)
  {ops:Array Oper} {rest:List Oper} {o:Oper} {a:Act} {Q:Exit→Act→World→Prop}
  (hgd:o.guard=none) (sl x:Operand) (hop:o.op=Op.call { callee:=Callee.builtin Builtin.append,args:=#[sl,x],argTypes:=#[st,st] })
  (hs:a.eval sl=v0) (hx:a.eval x=v) (hown:OwnS w base e s v0 rows0) (hS:SlS w s v rows) (hl:rows0.length+rows.length≤1000000) (hb:base≤w.heap.size)
  (hK:∀v' w',OwnS w' base e s v' (rows0 ++ rows)→w.grownBy w' v0.ownBlock→(v'.ownBlock=v0.ownBlock∨v'.ownBlock=some w.heap.size)→wpList Try.prog ops Q rest (a.put o.dst v') w') :
  wpList Try.prog ops Q (o :: rest) a w:=by
 obtain ⟨v',w',hrun,h2,h3,h4⟩:=run_app_ss w st o.type hu hinfo hzs hsz hby hown hS hl hb;exact Lib.wpList_append_run w hgd sl x _ _ hop _ _ hs hx v' w' hrun (hK v' w' h2 h3 h4)
theorem SlS.take {a:Option Addr} {n c:Nat} (h:SlS w s (.slice a n c) rows) (i:Nat) (hi:i≤rows.length):SlS w s (.slice a i c) (rows.take i):=by
 obtain ⟨h1,h2,a',cap,e,h3,h4⟩:=h;simp only [Value.slice.injEq] at e;obtain ⟨rfl,-,rfl⟩:=e;have hl:(rows.take i).length=i:=by simp; omega
 refine ⟨by rw [hl]; omega,fun r hr=>h2 r (List.mem_of_mem_take hr),a,c,by rw [hl],by rw [hl]; omega,fun j hj=>?_⟩;rw [hl] at hj;obtain ⟨b,off,rfl,hb,hr⟩:=h4 j (by omega);refine ⟨b,off,rfl,hb,?_⟩;rw [List.getD_eq_getElem?_getD,List.getElem?_take,if_pos hj,← List.getD_eq_getElem?_getD];exact hr
theorem SlS.drop {b off n c:Nat} (h:SlS w s (.slice (some ⟨b,off,none⟩) n c) rows) (i:Nat) (hi:i≤rows.length) {p:Option Addr} (hp:p=if c=i then some ⟨b,off,none⟩ else some ⟨b,off+i * s,none⟩):SlS w s (.slice p (n - i) (c - i)) (rows.drop i):=by
 obtain ⟨h1,h2,a',cap,e,h3,h4⟩:=h;simp only [Value.slice.injEq] at e;obtain ⟨rfl,rfl,rfl⟩:=e;have hl:(rows.drop i).length=rows.length - i:=by simp
 refine ⟨by rw [hl]; omega,fun r hr=>h2 r (List.mem_of_mem_drop hr),p,c - i,by rw [hl],by rw [hl]; omega,fun j hj=>?_⟩;rw [hl] at hj;rw [if_neg (by omega)] at hp;obtain ⟨b2,off2,e2,hb,hr⟩:=h4 (i+j) (by omega);simp only [Option.some.injEq,Addr.mk.injEq] at e2;obtain ⟨rfl,rfl,-⟩:=e2;refine ⟨b,off+i * s,hp,hb,?_⟩;rw [List.getD_eq_getElem?_getD,List.getElem?_drop,← List.getD_eq_getElem?_getD];rw [show off+i * s+j * s=off+(i+j) * s by rw [Nat.add_mul]; omega];exact hr
end
open Go.ChangeShapes Go.WideShapes Go.ChangeAt Go.RowKit Go.WideMaps
open Go.Maps (Keyed)
theorem Try.rowGr:(80:TypeId)<Try.prog.types.size:=of_decide_eq_true (by kernel_rfl)
theorem Try.wideGr:(match Try.prog.underlying 80 with | some (.array _ _) | some (.struct _)=>true | _=>false)=true:=by rw [Try.underlying80]
theorem Try.lawGr:KeyLaw Try.prog 80:=deep_law_laid Try.laidOut (m:=3) (by omega) Try.rowGr (by kernel_rfl) Try.wideGr
theorem Try.keyGr:Keyed Try.prog 80:=Keyed.of_law Try.lawGr
def I64 (p:Int):Prop:=(Lit.int .i64 p).wf=true
def gV (p t:Int) (c:Bool):Value:=.agg #[.int .i64 p,.int .i64 t,.bool c]
def gK (p t:Int) (c:Bool):Lit:=.string (keyBytes [.int .i64 p,.int .i64 t,.bool c])
theorem keyOf_gr {p t:Int} {c:Bool} (hp:I64 p) (ht:I64 t):keyOf Try.prog 80 (gV p t c)=some (gK p t c):=by
 have hkt:Try.prog.keyType 80=true:=by kernel_rfl
 have hcg:Try.prog.cellsOf 80=3:=by kernel_rfl
 have hci:Try.prog.cellsOf 3=1:=by kernel_rfl
 have hcb:Try.prog.cellsOf 4=1:=by kernel_rfl
 have hui:=Try.underlying3;have hub:=Try.underlying4;obtain ⟨m,hm⟩:∃m,Try.prog.types.size=m+1:=match h:Try.prog.types.size with | 0=>absurd Try.rowGr (by rw [h]; exact Nat.not_lt_zero _) | n+1=>⟨n,rfl⟩
 unfold I64 at hp ht;unfold keyOf gV gK;simp only [Try.underlying80];rw [if_pos (by simp [hkt,Value.formed,Try.underlying80,hcg]),hm];unfold Program.keyLits;simp only [Try.underlying80,Value.cells];rw [if_pos (by rw [hcg]; exact ⟨rfl,by kernel_rfl⟩)];simp [hci,hcb,Program.keyLits,hui,hub,hp,ht]
theorem gK_inj {p t p' t':Int} {c c':Bool} (hp:I64 p) (ht:I64 t) (hp':I64 p') (ht':I64 t') (h:gK p t c=gK p' t' c'):p=p'∧t=t'∧c=c':=by
 have h1:=Try.keyGr.inj (keyOf_gr hp ht) (h▸keyOf_gr hp' ht');unfold gV at h1;simp at h1;exact h1
def nRows (l:List Nat):List (List Value):=l.map fun n:Nat=>[.int .i64 (n:Int)]
theorem nRows_snoc (l:List Nat) (n:Nat):nRows (l ++ [n])=nRows l ++ [[.int .i64 (n:Int)]]:=by simp [nRows]
theorem nRows_length (l:List Nat):(nRows l).length=l.length:=by simp [nRows]
abbrev Grp:=Int→Int→Bool→List Nat
structure GrI (w wr:World) (n:Nat) (G:Grp) (f:Lit→Value):Prop where
 bw:Below w.heap.size w wr
 map:MapV 80 (.slice none 0 0) wr w.heap.size n f
 own:∀p t c,I64 p→I64 t→OwnS wr (w.heap.size+1) 3 1 (f (gK p t c)) (nRows (G p t c))
 apart:∀p t c p' t' c',I64 p→I64 t→I64 p'→I64 t'→gK p t c≠gK p' t' c'→(f (gK p t c)).ownBlock=none∨(f (gK p t c)).ownBlock≠(f (gK p' t' c')).ownBlock
section
variable {w wr w2:World} {n:Nat} {G:Grp} {f:Lit→Value}
theorem GrI.below (h:GrI w wr n G f) (hb:Below wr.heap.size wr w2):GrI w w2 n G f:=
 ⟨below_then h.bw hb,h.map.below hb,fun p t c hp ht=>(h.own p t c hp ht).below hb,h.apart⟩
theorem GrI.start (w:World):GrI w (w.alloc (.map #[] 0)) 0 (fun _ _ _=>[]) (fun _=>.slice none 0 0):=
 ⟨below_new (Below.refl _ _) _,MapV.made _ _ w,fun p t c _ _=>OwnS.nil _ _ _ _,fun p t c p' t' c' _ _ _ _ _=>.inl rfl⟩
theorem GrI.mono {m:Nat} (h:GrI w wr n G f) (hm:n≤m):GrI w wr m G f:=by
 obtain ⟨D,h1,h2⟩:=h.map;exact ⟨h.bw,⟨D,h1.mono hm,h2⟩,h.own,h.apart⟩
theorem GrI.put {w1 w3:World} {f2:Lit→Value} {v2:Value} {p0 t0:Int} {c0:Bool} {i:Nat} (h:GrI w wr n G f) (hp:I64 p0) (ht:I64 t0) (hg1:wr.grownBy w1 (some w.heap.size)) (ho:OwnS w2 (w.heap.size+1) 3 1 v2 (nRows (G p0 t0 c0) ++ [[.int .i64 (i:Int)]])) (hg2:w1.grownBy w2 (f (gK p0 t0 c0)).ownBlock) (hn:v2.ownBlock=(f (gK p0 t0 c0)).ownBlock∨v2.ownBlock=some w1.heap.size) (hu:UpdL f (gK p0 t0 c0) v2 f2) (hM:MapV 80 (.slice none 0 0) w3 w.heap.size (n+1) f2) (hg3:w2.grownBy w3 (some w.heap.size)) :
  GrI w w3 (n+1) (fun p t c=>if p=p0∧t=t0∧c=c0 then G p t c ++ [i] else G p t c) f2:=by
 have hb:=h.map.lt;have hs1:=hg1.size;have hs2:=hg2.size;have hlt0:∀k,(f (gK p0 t0 c0)).ownBlock=some k→w.heap.size+1≤k∧k<wr.heap.size:=fun k hk=>(h.own p0 t0 c0 hp ht).lt k hk;have hlt2:∀k,v2.ownBlock=some k→w.heap.size+1≤k:=fun k hk=>(ho.lt k hk).1;refine ⟨((h.bw.grown hg1 (by omega) (fun k hk=>by cases hk; exact Nat.le_refl _)).grown hg2 (by omega) (fun k hk=>by have:=hlt0 k hk; omega)).grown hg3 (by omega) (fun k hk=>by cases hk; exact Nat.le_refl _),hM,fun p t c hp' ht'=>?_,fun p t c p' t' c' a1 a2 a3 a4 hne=>?_⟩
 ·by_cases e:p=p0∧t=t0∧c=c0
  ·obtain ⟨rfl,rfl,rfl⟩:=e
   rw [if_pos ⟨rfl,rfl,rfl⟩,hu.1,nRows_snoc];exact ho.kept hg3 (ho.ne (by omega))
  ·have hk:gK p t c≠gK p0 t0 c0:=fun e2=>e (gK_inj hp' ht' hp ht e2)
   rw [if_neg e,hu.2 _ hk];have o1:=(h.own p t c hp' ht').kept hg1 ((h.own p t c hp' ht').ne (by omega));have o2:=o1.kept hg2 (h.apart p t c p0 t0 c0 hp' ht' hp ht hk);exact o2.kept hg3 (o2.ne (by omega))
 ·have hnew:∀q u d,I64 q→I64 u→gK q u d≠gK p0 t0 c0→((f (gK q u d)).ownBlock=none∨(f (gK q u d)).ownBlock≠v2.ownBlock)∧(v2.ownBlock=none∨v2.ownBlock≠(f (gK q u d)).ownBlock):=fun q u d hq hu' hk=>by
   have a:=h.apart q u d p0 t0 c0 hq hu' hp ht hk;have b:=h.apart p0 t0 c0 q u d hp ht hq hu' hk.symm;rcases hn with e | e
   ·rw [e]; exact ⟨a,b⟩
   ·rw [e]
    refine ⟨?_,?_⟩
    ·cases ho1:(f (gK q u d)).ownBlock with
     | none=>exact .inl rfl
     | some k=>
      have:=((h.own q u d hq hu').lt k ho1).2;exact .inr (fun e2=>by cases e2; omega)
    ·refine .inr (fun e2=>?_)
     have:=((h.own q u d hq hu').lt _ e2.symm).2;omega
  by_cases e1:gK p t c=gK p0 t0 c0
  ·have e2:gK p' t' c'≠gK p0 t0 c0:=fun e=>hne (e1.trans e.symm)
   rw [e1,hu.1,hu.2 _ e2];exact (hnew p' t' c' a3 a4 e2).2
  ·by_cases e2:gK p' t' c'=gK p0 t0 c0
   ·rw [e2,hu.1,hu.2 _ e1]
    exact (hnew p t c a1 a2 e1).1
   ·rw [hu.2 _ e1,hu.2 _ e2]
    exact h.apart p t c p' t' c' a1 a2 a3 a4 hne
end
def inG (x:ItemM) (p t:Int) (c:Bool):Bool:=!atomicB x.acc.kind && (placeE x == p && (x.thr == t && (!c || changesE x)))
def grpN (l:List ItemM) (i:Nat):Grp:=fun p t c=>(List.range i).filter fun n=>inG (l.getD n noItem) p t c
theorem grpN_succ (l:List ItemM) (i:Nat) (p t:Int) (c:Bool):grpN l (i+1) p t c=grpN l i p t c ++ (if inG (l.getD i noItem) p t c=true then [i] else []):=by
 unfold grpN;rw [List.range_succ,List.filter_append];congr 1;rw [List.filter_cons];split <;> simp
theorem Try.info_int1:(Try.prog.info? 3).map (fun i=>(i.zero,i.size,i.bytes))=some (some (.int .i64 0),1,8):=by kernel_rfl
theorem SlS.row1k {w:World} {g s:Nat} {e:TypeId} {row:List Value} (h:w.heap[g]?=some (.cells row.toArray e (0,0))) (hs:row.length=s) (h1:∀u∈row,u.oneCell'=true):SlS w s (.slice (some ⟨g,0,none⟩) 1 1) [row]:=by
 refine ⟨by simp,fun r hr=>?_,_,1,rfl,Nat.le_refl _,fun i hi=>⟨g,0,rfl,(Array.getElem?_eq_some_iff.1 h).1,?_⟩⟩
 ·rw [List.mem_singleton.1 hr]; exact ⟨hs,h1⟩
 ·have hi0:i=0:=by simp at hi; exact hi
  subst hi0;intro j u hj;have h2:w.cell? ⟨g,j,none⟩=row.toArray[j]?:=cell_of_row _ _ j _ _ _ h;simp only [Nat.zero_mul,Nat.zero_add];rw [h2];simpa using hj
theorem placeE_wf {x:ItemM} (h:x.good):I64 (placeE x):=by
 refine wf_i64w ?_;have h1:=h.acc.addr;rw [IntKind.wrap_i64] at *;unfold placeE;split
 ·decide
 ·split
  ·exact h1
  ·split
   ·omega
   ·decide
theorem thr_wf {x:ItemM} (h:x.good):I64 x.thr:=wf_i64w h.thr
theorem grp_plain {l:List ItemM} {i:Nat} {x:ItemM} (hx:l.getD i noItem=x) (ha:atomicB x.acc.kind=false):(if changesE x then (fun p t c=>if p=placeE x∧t=x.thr∧c=true then (fun p t c=>if p=placeE x∧t=x.thr∧c=false then grpN l i p t c ++ [i] else grpN l i p t c) p t c ++ [i] else (fun p t c=>if p=placeE x∧t=x.thr∧c=false then grpN l i p t c ++ [i] else grpN l i p t c) p t c) else (fun p t c=>if p=placeE x∧t=x.thr∧c=false then grpN l i p t c ++ [i] else grpN l i p t c))=grpN l (i+1):=by
 funext p t c
 rw [grpN_succ,hx];unfold inG;rw [ha];by_cases e:p=placeE x∧t=x.thr
 ·obtain ⟨rfl,rfl⟩:=e
  cases c <;> cases hc:changesE x <;> simp
 ·have e2:(placeE x == p && (x.thr == t && (!c || changesE x)))=false:=by
   by_cases e3:placeE x=p
   ·have e4:¬x.thr=t:=fun h=>e ⟨e3.symm,h.symm⟩
    simp [e4]
   ·simp [e3]
  rw [e2];have n1:¬(p=placeE x∧t=x.thr∧c=true):=fun h=>e ⟨h.1,h.2.1⟩;have n2:¬(p=placeE x∧t=x.thr∧c=false):=fun h=>e ⟨h.1,h.2.1⟩;cases hc:changesE x <;> simp [n1,n2]
theorem grp_atomic {l:List ItemM} {i:Nat} {x:ItemM} (hx:l.getD i noItem=x) (ha:atomicB x.acc.kind=true):grpN l i=grpN l (i+1):=by
 funext p t c
 rw [grpN_succ,hx];unfold inG;rw [ha];simp
open Go.ChangeShapes Go.WideShapes Go.ChangeAt Go.RowKit Go.WideMaps
open Go.Maps (Keyed)
theorem OwnS.neRow {w:World} {base s:Nat} {e T:TypeId} {v:Value} {rows:List (List Value)} {I:Nat} {c:Array Value} (h:OwnS w base e s v rows) (hr:w.heap[I]?=some (.cells c T (0,0))) (hT:T≠e):v.ownBlock=none∨v.ownBlock≠some I:=by
 rcases h.2.2 with ⟨rfl,-⟩ | ⟨g,cap,cur,rfl,-,h3,-⟩
 ·exact .inl rfl
 ·refine .inr fun e2=>?_
  simp only [Value.ownBlock,Option.some.injEq] at e2;rw [e2,hr] at h3;simp only [Option.some.injEq,Obj.cells.injEq] at h3;exact hT h3.2.1
theorem rowcG {w:World} {g:Nat} {T:TypeId} {v0 v1 v2:Value} (h:w.heap[g]?=some (.cells #[v0,v1,v2] T (0,0))):w.cell? ⟨g,0,none⟩=some v0∧w.cell? ⟨g,1,none⟩=some v1∧w.cell? ⟨g,2,none⟩=some v2:=
 ⟨cell_of_row _ _ 0 _ _ _ h,cell_of_row _ _ 1 _ _ _ h,cell_of_row _ _ 2 _ _ _ h⟩
theorem grpLen (l:List ItemM) (i:Nat) (p t:Int) (c:Bool):(grpN l i p t c).length≤i:=by
 unfold grpN;have:=List.length_filter_le (fun n=>inG (l.getD n noItem) p t c) (List.range i);rwa [List.length_range] at this
theorem row_keepO {a b:World} {j:Nat} {r:Option Nat} {ob:Obj} (hg:a.grownBy b r) (h:a.heap[j]?=some ob) (hj:r=none∨r≠some j):b.heap[j]?=some ob:=(hg.block j (Array.getElem?_eq_some_iff.1 h).1 (fun e=>by
 rcases hj with h | h
 ·rw [h] at e; cases e
 ·exact h e.symm)).trans h
theorem GrI.other {w wr w2:World} {n:Nat} {G:Grp} {f:Lit→Value} {B:Nat} (h:GrI w wr n G f) (hg:wr.grownBy w2 (some B)) (hB:w.heap.size<B) (ho:∀p t c,I64 p→I64 t→(f (gK p t c)).ownBlock=none∨(f (gK p t c)).ownBlock≠some B):GrI w w2 n G f:=
 ⟨h.bw.grown hg (by have:=h.map.lt; omega) (fun k hk=>by cases hk; omega),h.map.kept hg (fun e=>by simp only [Option.some.injEq] at e; omega),fun p t c hp ht=>(h.own p t c hp ht).kept hg (ho p t c hp ht),h.apart⟩
set_option maxRecDepth 100000 in
set_option maxHeartbeats 16000000 in
theorem groups_any (l:List ItemM) (v:Value) (w:World) (hv:SlT w v l) (hl:l.length≤100000):Calls Try.prog 31 #[v] w fun e w'=>e=.returned (.map (some w.heap.size))∧∃f,GrI w w' (2 * l.length) (grpN l l.length) f:=by
 have TAT:=Lib.hid fun k w'=>atomic_any k w';have HV:=Lib.hid hv;have HGD:=Lib.hid hv.2.1;obtain ⟨a,cap,hve,-⟩:=hv.len;subst hve;obtain ⟨n,hn⟩:∃n,l.length=n:=⟨_,rfl⟩;have HN:=Lib.hid hn;rw [hn] at HV hl ⊢;have hmm:=@run_makeMap Try.prog;have HI0:=Lib.hid (GrI.start w);clear hv hn;go_enter Try.func31,Try.ntmps31;go_wp2_with fail;clear hmm;go_loopw [10] (fun u10 wr=>∃(i:Nat) (f:Lit→Value),u10=.int .i64 (i:Int)∧i≤n∧Hid (GrI w wr (2 * i) (grpN l i) f)) (fun u10 _=>n - (intOf u10).toNat)
 case atStart=>exact ⟨0,_,rfl,by omega,HI0⟩
 case round=>
  clear HI0;obtain ⟨i,f,rfl,hi,HI⟩:=hrel;obtain ⟨wo,rfl⟩:∃wo:World,wo=wr:=⟨_,rfl⟩;by_cases hlt:i<n
  ·have hltI:(i:Int)<(n:Int):=by omega
   obtain ⟨-,-,a9,cap9,hve,-,hit⟩:=HV.out.below HI.out.bw;simp only [Value.slice.injEq] at hve;obtain ⟨hv1,-,hv3⟩:=hve;subst hv1;subst hv3;obtain ⟨b9,o9,rfl,hb9,hca⟩:=hit i (by have:=HN.out; omega);have hxm:l.getD i noItem∈l:=by
    rw [List.getD_eq_getElem?_getD,List.getElem?_eq_getElem (by have:=HN.out; omega)];exact List.getElem_mem _
   obtain ⟨x,hx⟩:∃x,l.getD i noItem=x:=⟨_,rfl⟩;rw [hx] at hca hxm;have HX:=Lib.hid hx;have HGX:=Lib.hid (HGD.out x hxm);have TPL:=Lib.hid fun w'=>place_any x w' HGX.out;have TCH:=Lib.hid fun w'=>changes_any x w';have HPW:=Lib.hid (placeE_wf HGX.out);have HTW:=Lib.hid (thr_wf HGX.out);obtain ⟨pl,hpl⟩:∃z,placeE x=z:=⟨_,rfl⟩;obtain ⟨ch,hch⟩:∃z,changesE x=z:=⟨_,rfl⟩;have HPL:=Lib.hid hpl;have HCH:=Lib.hid hch;rw [hpl] at TPL HPW;rw [hch] at TCH;obtain ⟨th,⟨ak,ad,ao,an,at_⟩,vl,ok⟩:=x;unfold itemV at TPL TCH;dsimp only at TPL TCH HTW;obtain ⟨c0,c1,c2,c3,c4,c5,c6,c7⟩:=hca;simp only [Nat.add_zero] at c0;dsimp only at c0 c1 c2 c3 c4 c5 c6 c7;clear hit hx hxm hpl hch;obtain ⟨Wi,hWi⟩:∃Wi,(wo.alloc (.cells #[.int .i64 0,.int .i64 0,.int .i64 0,.int .u64 0,.int .u64 0,.int .i64 0,.int .u64 0,.bool false] 30)).setRow wo.heap.size #[.int .i64 th,.int .i64 ak,.int .i64 ad,.int .u64 ao,.int .u64 an,.int .i64 at_,.int .u64 vl,.bool ok]=Wi:=⟨_,rfl⟩;have Ni:Hid ((wo.alloc (.cells #[.int .i64 0,.int .i64 0,.int .i64 0,.int .u64 0,.int .u64 0,.int .i64 0,.int .u64 0,.bool false] 30)).heap[wo.heap.size]?=some (.cells #[.int .i64 0,.int .i64 0,.int .i64 0,.int .u64 0,.int .u64 0,.int .i64 0,.int .u64 0,.bool false] 30 (0,0))):=heap_alloc_new _ _;have HBi:Hid (Below wo.heap.size wo Wi):=hWi▸row_below (below_new (Below.refl _ _) _) (Nat.le_refl _) _;have RI:Hid (Wi.heap[wo.heap.size]?=some (.cells #[.int .i64 th,.int .i64 ak,.int .i64 ad,.int .u64 ao,.int .u64 an,.int .i64 at_,.int .u64 vl,.bool ok] 30 (0,0))):=hWi▸setRow_heap _ _ _ _ _ (0,0) Ni.out;have HWi:=Lib.hid hWi;clear hWi;go_upto_region 5 with (refine wpList_store_row rfl 30 _ _ rfl (wo.heap.size) _ rfl rfl 30 _ Ni.out (by kernel_rfl) rfl (by simp [Value.oneCell']) ?_)
   rw [HWi.out];try simp only [Act.put]
   clear HWi Ni c0 c1 c2 c3 c4 c5 c6 c7;obtain ⟨I,hIe⟩:∃I,wo.heap.size=I:=⟨_,rfl⟩;have hgI:w.heap.size<I:=by have:=HI.out.map.lt; omega
   have HGi:=Lib.hid (HI.out.below HBi.out);rw [hIe] at RI;rw [hIe];clear hIe HI HBi;obtain ⟨wi,rfl⟩:∃wi:World,wi=Wi:=⟨_,rfl⟩;obtain ⟨y0,y1,y2,y3,y4,y5,y6,y7⟩:=rowc8i RI.out;go_wp2_with fail;refine (TAT.out ak wi).mono ?_; rintro e wib ⟨rfl,rfl⟩;obtain ⟨ab,hab⟩:∃q,atomicB ak=q:=⟨_,rfl⟩;rw [hab];have HAB:=Lib.hid hab;clear hab y0 y1 y2 y3 y4 y5 y6 y7;cases ab with
   | true=>
    have HE:=Lib.hid (grp_atomic (l:=l) (i:=i) HX.out HAB.out);go_wp2_with fail;go_roundw
    case rel=>exact ⟨i+1,f,by go_num,by omega,by rw [← HE.out]; exact HGi.out.mono (by omega)⟩
    case measure=>simp [intOf]; omega
   | false=>
    have KS:Hid (∀w',Below wi.heap.size wi w'→(fun w':World=>w'.cell? ⟨I,0,none⟩=some (.int .i64 th)∧w'.cell? ⟨I,1,none⟩=some (.int .i64 ak)∧w'.cell? ⟨I,2,none⟩=some (.int .i64 ad)∧w'.cell? ⟨I,3,none⟩=some (.int .u64 ao)∧w'.cell? ⟨I,4,none⟩=some (.int .u64 an)∧w'.cell? ⟨I,5,none⟩=some (.int .i64 at_)∧w'.cell? ⟨I,6,none⟩=some (.int .u64 vl)∧w'.cell? ⟨I,7,none⟩=some (.bool ok)) w'):=fun w' hb=>rowc8i (row_below3k hb RI.out);go_upto_region 6 with fail
    go_cut [6] (fun s6 wx=>∃GB:Nat,s6=.pointer (some ⟨GB,0,none⟩)∧Hid (GrI w wx (2 * i) (grpN l i) f)∧Hid (wx.heap[I]?=some (.cells #[.int .i64 th,.int .i64 ak,.int .i64 ad,.int .u64 ao,.int .u64 an,.int .i64 at_,.int .u64 vl,.bool ok] 30 (0,0)))∧Hid (wx.heap[GB]?=some (.cells #[.int .i64 pl,.int .i64 th,.bool false] 80 (0,0)))∧w.heap.size<GB)
    case first=>
     refine untilK KS 6 7 (by kernel_rfl) rfl ?_;obtain ⟨u0,hu0,hU0⟩:=drew_pack wi;rw [hu0];clear hu0;have HU0:=Lib.hid hU0.out;clear hU0;have hSU0:=KS.out _ HU0.out;apply tkV 0 hSU0 rfl (by kernel_rfl) (fun _ _ _ h=>h) rfl;intro w hSw;(go_simp<;>with_reducible rfl);simp only [J0,J1,J2,J3,J4];apply tkV 2 hSU0 rfl (by kernel_rfl) (fun _ _ _ h=>h) rfl;intro w hSw;(go_simp<;>with_reducible rfl);simp only [J0,J1,J2,J3,J4];apply tkV 3 hSU0 rfl (by kernel_rfl) (fun _ _ _ h=>h) rfl;intro w hSw;(go_simp<;>with_reducible rfl);simp only [J0,J1,J2,J3,J4];refine wpAnyU_ready (rs:=[1,5]) (by kernel_rfl) rfl ?_;refine AllReadyU.cons la1 rfl (fun K hK=>?_) ?_
     ·go_simp
      go_at_call 38;refine (TPL.out u0).mono ?_;rintro e u1 ⟨rfl,hbp⟩;have HU1:=Lib.hid (below_then HU0.out hbp);clear hbp;refine hK.out _ _ ?_ fun hSU1=>?_;exact KS.out _ HU1.out;clear hK K hSU0;(try simp only [J0,J1,J2,J3,J4]);apply tkV 4 hSU1 rfl (by kernel_rfl) (fun _ _ _ h=>h) rfl;intro w hSw;(go_simp<;>with_reducible rfl);simp only [J0,J1,J2,J3,J4];refine consU 5 rfl (by kernel_rfl) rfl fun K hK=>?_;go_simp;obtain ⟨u2,GB,hv1,hXG,RG,hbn,ltn⟩:=alloc_pack u1 (.cells #[.int .i64 0,.int .i64 0,.bool false] 80);rw [hv1,hXG];have HU2:=Lib.hid (below_then HU1.out hbn.out);have hGB:u1.heap.size≤GB:=by omega
      clear hv1 hbn ltn hXG;refine hK.out _ _ ?_ fun hSU2=>?_;exact KS.out _ HU2.out;clear hK K hSU1;(try simp only [J0,J1,J2,J3,J4]);refine freeU 6 rfl (by kernel_rfl) rfl (by kernel_rfl) fun K hK=>?_;refine step_store_row rfl 80 _ _ rfl GB _ rfl rfl 80 _ RG.out (by kernel_rfl) rfl (by simp [Value.oneCell']) ?_;refine hK.out _ _ ?_;clear hK K hSU2;(try simp only [J0,J1,J2,J3,J4]);refine wpAnyU_done (by kernel_rfl) ?_ _;have hBW:Below wi.heap.size wi (u2.setRow GB #[.int .i64 pl,.int .i64 th,.bool false]):=row_below HU2.out (by have:=HU1.out.size; omega) _;have HG7:=Lib.hid (HGi.out.below hBW);have RI7:=Lib.hid (row_below3k hBW RI.out);have RG7:=Lib.hid (setRow_heap u2 GB _ #[.int .i64 pl,.int .i64 th,.bool false] 80 (0,0) RG.out);go_wp2_with fail;go_meet;exact ⟨GB,rfl,HG7,RI7,RG7,by have h1:=HGi.out.map.lt; have h2:=HU0.out.size; have h3:=HU1.out.size; omega⟩
     refine AllReadyU.cons la5 rfl (fun K hK=>?_) ?_
     ·go_simp
      obtain ⟨u1,GB,hv1,hXG,RG,hbn,ltn⟩:=alloc_pack u0 (.cells #[.int .i64 0,.int .i64 0,.bool false] 80);rw [hv1,hXG];have HU1:=Lib.hid (below_then HU0.out hbn.out);have hGB:u0.heap.size≤GB:=by omega
      clear hv1 hbn ltn hXG;refine hK.out _ _ ?_ fun hSU3=>?_;exact KS.out _ HU1.out;clear hK K hSU0;(try simp only [J0,J1,J2,J3,J4]);refine consU 1 rfl (by kernel_rfl) rfl fun K hK=>?_;go_simp;go_at_call 38;refine (TPL.out u1).mono ?_;rintro e u2 ⟨rfl,hbp⟩;have HU2:=Lib.hid (below_then HU1.out hbp);have RG:=Lib.hid (row_below3k hbp RG.out);clear hbp;refine hK.out _ _ ?_ fun hSU4=>?_;exact KS.out _ HU2.out;clear hK K hSU3;(try simp only [J0,J1,J2,J3,J4]);apply tkV 4 hSU4 rfl (by kernel_rfl) (fun _ _ _ h=>h) rfl;intro w hSw;(go_simp<;>with_reducible rfl);simp only [J0,J1,J2,J3,J4];refine freeU 6 rfl (by kernel_rfl) rfl (by kernel_rfl) fun K hK=>?_;refine step_store_row rfl 80 _ _ rfl GB _ rfl rfl 80 _ RG.out (by kernel_rfl) rfl (by simp [Value.oneCell']) ?_;refine hK.out _ _ ?_;clear hK K hSU4;(try simp only [J0,J1,J2,J3,J4]);refine wpAnyU_done (by kernel_rfl) ?_ _;have hBW:Below wi.heap.size wi (u2.setRow GB #[.int .i64 pl,.int .i64 th,.bool false]):=row_below HU2.out (by have:=HU0.out.size; omega) _;have HG7:=Lib.hid (HGi.out.below hBW);have RI7:=Lib.hid (row_below3k hBW RI.out);have RG7:=Lib.hid (setRow_heap u2 GB _ #[.int .i64 pl,.int .i64 th,.bool false] 80 (0,0) RG.out);go_wp2_with fail;go_meet;exact ⟨GB,rfl,HG7,RI7,RG7,by have h1:=HGi.out.map.lt; have h2:=HU0.out.size; have h3:=HU1.out.size; omega⟩
     exact AllReadyU.nil
    obtain ⟨GB,rfl,HG7,RI7,RG7,hgGB⟩:=hcut;obtain ⟨ws,rfl⟩:∃ws:World,ws=wc:=⟨_,rfl⟩;clear HGi RI KS TPL TAT;have hii:2 * i<1000001:=by omega
    obtain ⟨WlA,hWl⟩:∃Wl,ws.alloc (.cells #[.int .i64 (i:Int)] 3)=Wl:=⟨_,rfl⟩;have HBl:Hid (Below ws.heap.size ws WlA):=hWl▸below_new (Below.refl _ _) _;have Rl:Hid (WlA.heap[ws.heap.size]?=some (.cells #[.int .i64 (i:Int)] 3 (0,0))):=hWl▸heap_alloc_new _ _;have HWl:=Lib.hid hWl;have HGl:=Lib.hid (HG7.out.below HBl.out);have RIl:=Lib.hid (row_below3k HBl.out RI7.out);have RGl:=Lib.hid (row_below3k HBl.out RG7.out);have hblA:w.heap.size<ws.heap.size:=HG7.out.map.lt;clear hWl;obtain ⟨stA,w1A,hr1A,hg1,hst⟩:=HGl.out.map.entry (t:=64) (e:=36) (by omega) Try.keyGr Try.underlying64 (fun u=>by kernel_rfl) Try.lawGr (keyOf_gr (p:=pl) (t:=th) (c:=false) HPW.out HTW.out);have HST:=Lib.hid hst;have HG1:=Lib.hid hg1;unfold gV goInt at hr1A;obtain ⟨v0A,hv0⟩:∃z,f (gK pl th false)=z:=⟨_,rfl⟩;have HV0:=Lib.hid hv0;have HO0:Hid (OwnS WlA (w.heap.size+1) 3 1 (f (gK pl th false)) (nRows (grpN l i pl th false))):=by
     have h9:=HGl.out.own pl th false HPW.out HTW.out;try simp at h9
     exact h9
    rw [hv0] at hr1A HO0;have HO1:=Lib.hid (HO0.out.kept hg1 (HO0.out.ne (by omega)));have HR1:Hid (SlS w1A 1 (.slice (some ⟨ws.heap.size,0,none⟩) 1 1) [[.int .i64 (i:Int)]]):=SlS.row1k (e:=3) (row_keepO hg1 Rl.out (.inr (fun e=>by simp only [Option.some.injEq] at e; omega))) rfl (by simp [Value.oneCell']);have RI1:=Lib.hid (row_keepO hg1 RIl.out (.inr (fun e=>by simp only [Option.some.injEq] at e; omega)));have RG1:=Lib.hid (row_keepO hg1 RGl.out (.inr (fun e=>by simp only [Option.some.injEq] at e; omega)));have hlenA:(grpN l i pl th false).length≤i:=grpLen l i pl th false;have hz1A:w.heap.size+1≤w1A.heap.size:=by have:=hg1.size; have:=HGl.out.map.lt; omega
    obtain ⟨g0,g1,g2⟩:=rowcG RG7.out;clear hst hg1 hv0 HO0 RIl RGl Rl;go_wp2_with (first | (rw [HWl.out]) | refine wp_app_ss (w:=w1A) 36 (by kernel_rfl) Try.info_int1 rfl (by decide) (by decide) rfl _ _ rfl (v0:=v0A) (base:=w.heap.size+1) (by rfl) (by rfl) HO1.out HR1.out (by rw [nRows_length]; simp only [List.length_singleton]; omega) hz1A ?_);intro v2A w2A ho2 hg2 hn2;have hn0A:some w.heap.size≠v0A.ownBlock:=fun e=>by have:=(HO1.out.lt _ e.symm).1; omega
    obtain ⟨w3A,hr3A,⟨f2A,hu,hM3⟩,hg3⟩:=HST.out w2A v2A (hg2.block w.heap.size (by omega) hn0A);have RI3:=Lib.hid (row_keepO hg3 (row_keepO hg2 RI1.out (HO1.out.neRow RI1.out (by decide))) (.inr (fun e=>by simp only [Option.some.injEq] at e; omega)));have RG3:=Lib.hid (row_keepO hg3 (row_keepO hg2 RG1.out (HO1.out.neRow RG1.out (by decide))) (.inr (fun e=>by simp only [Option.some.injEq] at e; omega)));rw [← HV0.out] at hg2 hn2;have HGA:=Lib.hid (GrI.put HGl.out HPW.out HTW.out HG1.out (i:=i) (by simpa using ho2) hg2 hn2 hu hM3 hg3);unfold goInt at hr3A;clear hu hM3 hg3 hg2 hn2 ho2 HST HG1 HV0 HO1 HR1 RI1 RG1 HGl HWl HBl g0 g1 g2 hr1A hn0A;obtain ⟨y0,y1,y2,y3,y4,y5,y6,y7⟩:=rowc8i RI3.out;go_wp2_with fail;refine (TCH.out w3A).mono ?_; rintro e ws2 ⟨rfl,hb2⟩;have HG8:=Lib.hid (HGA.out.below hb2);have RI8:=Lib.hid (row_below3k hb2 RI3.out);have RG8:=Lib.hid (row_below3k hb2 RG3.out);clear hb2 y0 y1 y2 y3 y4 y5 y6 y7 HGA RI3 RG3 HG7 RI7 RG7 TCH hr3A;cases ch with
    | false=>
     go_wp2_with fail;go_roundw
     case rel=>
      refine ⟨i+1,f2A,by go_num,by omega,?_⟩;have e:=grp_plain (l:=l) (i:=i) HX.out HAB.out;rw [HCH.out,HPL.out,if_neg (by decide)] at e;rw [← e];exact HG8.out.mono (by omega)
     case measure=>simp [intOf]; omega
    | true=>
     obtain ⟨g0,g1,g2⟩:=rowcG RG8.out;have fz:=frozen_of_row ws2 GB 2 _ _ RG8.out;obtain ⟨wt,hwt⟩:∃z,ws2.setCell ⟨GB,2,none⟩ (.bool true)=z:=⟨_,rfl⟩;have hgt:=grownBy_setCell ws2 ⟨GB,2,none⟩ (.bool true);rw [hwt] at hgt;have r9:=heap_setCell_same ws2 GB 2 _ _ (.bool true) RG8.out;rw [hwt] at r9;simp at r9;have RG9:=Lib.hid r9;have RI9:Hid (wt.heap[I]?=some (.cells #[.int .i64 th,.int .i64 ak,.int .i64 ad,.int .u64 ao,.int .u64 an,.int .i64 at_,.int .u64 vl,.bool ok] 30 (0,0))):=row_keepO hgt RI8.out (.inr (fun e=>by
      simp only [Option.some.injEq] at e;have h1:=RI8.out;rw [← e,RG8.out] at h1;simp at h1))
     have HG9:Hid (GrI w wt (2 * i+1) _ f2A):=GrI.other HG8.out hgt hgGB (fun p t c hp ht=>(HG8.out.own p t c hp ht).neRow RG8.out (by decide));have HWt:=Lib.hid hwt;clear hwt hgt r9;go_upto_region 10 with fail
     rw [HWt.out];clear g0 g1 g2 fz HWt HG8 RI8 RG8;obtain ⟨WlC,hWl⟩:∃Wl,wt.alloc (.cells #[.int .i64 (i:Int)] 3)=Wl:=⟨_,rfl⟩;have HBl:Hid (Below wt.heap.size wt WlC):=hWl▸below_new (Below.refl _ _) _;have Rl:Hid (WlC.heap[wt.heap.size]?=some (.cells #[.int .i64 (i:Int)] 3 (0,0))):=hWl▸heap_alloc_new _ _;have HWl:=Lib.hid hWl;have HGl:=Lib.hid (HG9.out.below HBl.out);have RIl:=Lib.hid (row_below3k HBl.out RI9.out);have RGl:=Lib.hid (row_below3k HBl.out RG9.out);have hblC:w.heap.size<wt.heap.size:=HG9.out.map.lt;clear hWl;obtain ⟨stC,w1C,hr1C,hg1,hst⟩:=HGl.out.map.entry (t:=64) (e:=36) (by omega) Try.keyGr Try.underlying64 (fun u=>by kernel_rfl) Try.lawGr (keyOf_gr (p:=pl) (t:=th) (c:=true) HPW.out HTW.out);have HST:=Lib.hid hst;have HG1:=Lib.hid hg1;unfold gV goInt at hr1C;obtain ⟨v0C,hv0⟩:∃z,f2A (gK pl th true)=z:=⟨_,rfl⟩;have HV0:=Lib.hid hv0;have HO0:Hid (OwnS WlC (w.heap.size+1) 3 1 (f2A (gK pl th true)) (nRows (grpN l i pl th true))):=by
      have h9:=HGl.out.own pl th true HPW.out HTW.out;try simp at h9
      exact h9
     rw [hv0] at hr1C HO0;have HO1:=Lib.hid (HO0.out.kept hg1 (HO0.out.ne (by omega)));have HR1:Hid (SlS w1C 1 (.slice (some ⟨wt.heap.size,0,none⟩) 1 1) [[.int .i64 (i:Int)]]):=SlS.row1k (e:=3) (row_keepO hg1 Rl.out (.inr (fun e=>by simp only [Option.some.injEq] at e; omega))) rfl (by simp [Value.oneCell']);have RI1:=Lib.hid (row_keepO hg1 RIl.out (.inr (fun e=>by simp only [Option.some.injEq] at e; omega)));have RG1:=Lib.hid (row_keepO hg1 RGl.out (.inr (fun e=>by simp only [Option.some.injEq] at e; omega)));have hlenC:(grpN l i pl th true).length≤i:=grpLen l i pl th true;have hz1C:w.heap.size+1≤w1C.heap.size:=by have:=hg1.size; have:=HGl.out.map.lt; omega
     obtain ⟨g0,g1,g2⟩:=rowcG RG9.out;clear hst hg1 hv0 HO0 RIl RGl Rl;go_wp2_with (first | (rw [HWl.out]) | refine wp_app_ss (w:=w1C) 36 (by kernel_rfl) Try.info_int1 rfl (by decide) (by decide) rfl _ _ rfl (v0:=v0C) (base:=w.heap.size+1) (by rfl) (by rfl) HO1.out HR1.out (by rw [nRows_length]; simp only [List.length_singleton]; omega) hz1C ?_);intro v2C w2C ho2 hg2 hn2;have hn0C:some w.heap.size≠v0C.ownBlock:=fun e=>by have:=(HO1.out.lt _ e.symm).1; omega
     obtain ⟨w3C,hr3C,⟨f2C,hu,hM3⟩,hg3⟩:=HST.out w2C v2C (hg2.block w.heap.size (by omega) hn0C);have RI3:=Lib.hid (row_keepO hg3 (row_keepO hg2 RI1.out (HO1.out.neRow RI1.out (by decide))) (.inr (fun e=>by simp only [Option.some.injEq] at e; omega)));have RG3:=Lib.hid (row_keepO hg3 (row_keepO hg2 RG1.out (HO1.out.neRow RG1.out (by decide))) (.inr (fun e=>by simp only [Option.some.injEq] at e; omega)));rw [← HV0.out] at hg2 hn2;have HGC:=Lib.hid (GrI.put HGl.out HPW.out HTW.out HG1.out (i:=i) (by simpa using ho2) hg2 hn2 hu hM3 hg3);unfold goInt at hr3C;clear hu hM3 hg3 hg2 hn2 ho2 HST HG1 HV0 HO1 HR1 RI1 RG1 HGl HWl HBl g0 g1 g2 hr1C hn0C;go_wp2_with fail;go_roundw
     case rel=>
      refine ⟨i+1,f2C,by go_num,by omega,?_⟩;have e:=grp_plain (l:=l) (i:=i) HX.out HAB.out;rw [HCH.out,HPL.out,if_pos rfl] at e;rw [← e];exact HGC.out.mono (by omega)
     case measure=>simp [intOf]; omega
  ·have hge:¬(i:Int)<(n:Int):=by omega
   have hin:i=n:=by omega
   subst hin;go_wp2;go_ret;exact ⟨rfl,f,HI.out⟩
theorem nanC_any (x:Int) (w:World):Calls Try.prog 55 #[.int .i64 x] w fun e w'=>e=.returned (.bool false)∧Below w.heap.size w w':=by
 have hx:(x != x)=false:=by simp
 go_enter Try.func55,Try.ntmps55;go_wp2;go_ret;exact ⟨by simp,Below.refl _ _⟩
theorem nanS_any (x:Int) (w:World):Calls Try.prog 50 #[.int .i64 x] w fun e w'=>e=.returned (.bool false)∧Below w.heap.size w w':=by
 have hx:(x != x)=false:=by simp
 go_enter Try.func50,Try.ntmps50;go_wp2;go_ret;exact ⟨by simp,Below.refl _ _⟩
set_option maxRecDepth 100000 in
set_option maxHeartbeats 4000000 in
theorem less_any (x y:Int) (w:World):Calls Try.prog 49 #[.int .i64 x,.int .i64 y] w fun e w'=>e=.returned (.bool (decide (x<y)))∧Below w.heap.size w w':=by
 have TN:=Lib.hid fun x w'=>nanC_any x w';go_enter Try.func49,Try.ntmps49;go_wp2_with fail;refine (TN.out x w).mono ?_; rintro e w2 ⟨rfl,hb2⟩;have HB2:=Lib.hid hb2;clear hb2;go_wp2;go_ret;exact ⟨by simp,HB2.out⟩
theorem nRows_at {w:World} {v:Value} {l:List Nat} (h:SlS w 1 v (nRows l)) (h0:0<l.length):∃b off cap,v=.slice (some ⟨b,off,none⟩) l.length cap∧l.length≤cap∧b<w.heap.size∧∀i w',i<l.length→Below w.heap.size w w'→w'.cell? ⟨b,off+i,none⟩=some (.int .i64 (l.getD i 0:Nat)):=by
 obtain ⟨a,cap,rfl,hcap⟩:=h.len;rw [nRows_length] at hcap;obtain ⟨b,off,cp,hve,hb,hr⟩:=h.open (by rw [nRows_length]; exact h0);rw [nRows_length] at hve ⊢;simp only [Value.slice.injEq] at hve;obtain ⟨rfl,-,rfl⟩:=hve;refine ⟨b,off,cap,rfl,hcap,hb,fun i w' hi hw=>?_⟩;have h5:=hr i (by rw [nRows_length]; exact hi);have e:(nRows l).getD i []=[.int .i64 (l.getD i 0:Nat)]:=by
  unfold nRows;rw [List.getD_eq_getElem?_getD,List.getElem?_map,List.getD_eq_getElem?_getD,List.getElem?_eq_getElem hi];rfl
 rw [e] at h5;have h6:=h5 0 _ rfl;rw [Nat.mul_one,Nat.add_zero] at h6;exact (hw.cell (p:=⟨b,off+i,none⟩) hb).trans h6
def BsN (l:List Nat) (t:Nat) (w:World) (e:Ending) (w':World):Prop:=∃(i:Nat) (f:Bool),e=.returned (.tuple #[.int .i64 (i:Int),.bool f])∧i≤l.length∧(∀j,j<i→l.getD j 0<t)∧(∀j,i≤j→j<l.length→t≤l.getD j 0)∧Below w.heap.size w w'
set_option maxRecDepth 100000 in
set_option maxHeartbeats 16000000 in
theorem bs_any (v:Value) (l:List Nat) (t:Nat) (w:World) (hv:SlS w 1 v (nRows l)) (hl:l.length≤1000000) (hs:∀i j,i≤j→j<l.length→l.getD i 0≤l.getD j 0):Calls Try.prog 40 #[v,.int .i64 (t:Int)] w (BsN l t w):=by
 have HV:=Lib.hid hv;have HS:=Lib.hid hs;have TL:=Lib.hid fun x y w'=>less_any x y w';have TN:=Lib.hid fun x w'=>nanS_any x w';obtain ⟨a,cap,rfl,-⟩:=hv.len;rw [nRows_length];rw [nRows_length] at HV;obtain ⟨TQ,hTQ⟩:∃z,BsN l t w=z:=⟨_,rfl⟩;have HT:Hid (∀(i:Nat) (f:Bool) w',i≤l.length→(∀j,j<i→l.getD j 0<t)→(∀j,i≤j→j<l.length→t≤l.getD j 0)→Below w.heap.size w w'→TQ (.returned (.tuple #[.int .i64 (i:Int),.bool f])) w'):=fun i f w' h1 h2 h3 h4=>by
  rw [← hTQ];exact ⟨i,f,rfl,h1,h2,h3,h4⟩
 rw [hTQ];obtain ⟨n,hn⟩:∃z,l.length=z:=⟨_,rfl⟩;have HN:=Lib.hid hn;rw [hn] at HT HV hl ⊢;clear hv hs hTQ hn;go_enter Try.func40,Try.ntmps40;go_wp2_with fail;go_loopw [7,8] (fun u7 u8 wr=>∃i j:Nat,u7=.int .i64 i∧u8=.int .i64 j∧i≤j∧j≤n∧Hid (∀q,q<i→l.getD q 0<t)∧Hid (∀q,j≤q→q<n→t≤l.getD q 0)∧Hid (Below w.heap.size w wr)) (fun u7 u8 _=>(intOf u8).toNat - (intOf u7).toNat)
 case atStart=>exact ⟨0,n,rfl,rfl,by omega,Nat.le_refl _,fun q hq=>by omega,fun q h1 h2=>by omega,Below.refl _ _⟩
 case round=>
  obtain ⟨i,j,rfl,rfl,hij,hj,HA,HZ,HB⟩:=hrel;obtain ⟨wo,rfl⟩:∃wo:World,wo=wr:=⟨_,rfl⟩;by_cases hlt:i<j
  ·have hltI:(i:Int)<(j:Int):=by omega
   have hw1:IntKind.i64.wrap ((i:Int)+j)=(i:Int)+j:=by rw [IntKind.wrap_i64]; omega
   have hw2:IntKind.u64.wrap ((i:Int)+j)=(i:Int)+j:=by rw [IntKind.wrap_u64]; omega
   have hp1:((i:Int)+j) / 2<1000001:=by omega
   go_upto_region 5 with fail
   obtain ⟨h,hh⟩:∃h:Nat,((i:Int)+j) / 2=h:=⟨(i+j) / 2,by omega⟩;rw [hh];have hih:i≤h∧h<j:=by omega
   obtain ⟨hih1,hhj⟩:=hih;clear hh hp1 hw1 hw2;have hhn:h<n:=by omega
   have hhI:(h:Int)<(n:Int):=by omega
   have hw3:IntKind.i64.wrap ((h:Int)+1)=(h:Int)+1:=by rw [IntKind.wrap_i64]; omega
   obtain ⟨x,hx0⟩:∃z,l.getD h 0=z:=⟨_,rfl⟩;obtain ⟨b,off,cp,hve,-,hb0,kc⟩:=nRows_at (HV.out.below HB.out) (by have:=HN.out; omega);rw [HN.out] at hve;simp only [Value.slice.injEq] at hve;obtain ⟨rfl,-,rfl⟩:=hve;have c0:=kc h wo (by rw [HN.out]; exact hhn) (Below.refl _ _);rw [hx0] at c0;have HX:=Lib.hid hx0;clear hx0 kc;go_wp2_with fail;refine (TL.out (x:Int) (t:Int) wo).mono ?_; rintro e w2 ⟨rfl,hb2⟩;have HB2:=Lib.hid (below_then HB.out hb2);clear hb2 c0;cases hb:decide ((x:Int)<(t:Int)) with
   | true=>
    have hx:x<t:=by have:=of_decide_eq_true hb; omega
    clear hb;go_wp2_with fail;go_roundw
    case rel=>exact ⟨h+1,j,by go_num,rfl,by omega,hj,fun k hk=>Nat.lt_of_le_of_lt (HS.out k h (by omega) (by rw [HN.out]; exact hhn)) (by rw [HX.out]; exact hx),HZ,HB2⟩
    case measure=>simp [intOf]; omega
   | false=>
    have hx:t≤x:=by have:=of_decide_eq_false hb; omega
    clear hb;go_wp2_with fail;go_roundw
    case rel=>exact ⟨i,h,rfl,rfl,by omega,by omega,HA,fun k hk1 hk2=>by have:=HS.out h k hk1 (by rw [HN.out]; exact hk2); rw [HX.out] at this; exact Nat.le_trans hx this,HB2⟩
    case measure=>simp [intOf]; omega
  ·have hge:¬(i:Int)<(j:Int):=by omega
   have hji:j=i:=by omega
   subst hji;by_cases hin:j<n
   ·have hinI:(j:Int)<(n:Int):=by omega
    obtain ⟨b,off,cp,hve,-,hb0,kc⟩:=nRows_at (HV.out.below HB.out) (by have:=HN.out; omega);rw [HN.out] at hve;simp only [Value.slice.injEq] at hve;obtain ⟨rfl,-,rfl⟩:=hve;obtain ⟨x,hx0⟩:∃z,l.getD j 0=z:=⟨_,rfl⟩;have c0:=kc j wo (by rw [HN.out]; exact hin) (Below.refl _ _);rw [hx0] at c0;clear hx0 kc;by_cases hxt:(x:Int)=(t:Int)
    ·have hxb:((x:Int) == (t:Int))=true:=by simpa using hxt
     have HF:=Lib.hid (HT.out j true wo (by omega) HA.out HZ.out HB.out);clear HT;go_wp2_with fail;exact HF.out
    ·have hxb:((x:Int) == (t:Int))=false:=by simpa using hxt
     go_wp2_with fail;refine (TN.out (x:Int) wo).mono ?_; rintro e w2 ⟨rfl,hb2⟩;have HB2:=Lib.hid (below_then HB.out hb2);have HF:=Lib.hid (HT.out j false w2 (by omega) HA.out HZ.out HB2.out);clear hb2 c0 HT;go_wp2_with fail;exact HF.out
   ·have hgn:¬(j:Int)<(n:Int):=by omega
    have HF:=Lib.hid (HT.out j false wo (by omega) HA.out HZ.out HB.out);clear HT;go_wp2_with fail;exact HF.out
theorem conf_same {x y:ItemM} (h:x.thr=y.thr):conflictE x y=false:=by simp [conflictE,h]
theorem conf_place {x y:ItemM} (h:placeE x≠placeE y):conflictE x y=false:=by simp [conflictE,h]
theorem conf_of {x y:ItemM} (ht:x.thr≠y.thr) (hp:placeE x=placeE y):conflictE x y=(plainB x.acc.kind && plainB y.acc.kind && (changesE x || changesE y)):=by
 have h1:(x.thr == y.thr)=false:=by simpa using ht
 simp [conflictE,h1,hp]
theorem conf_plain {x y:ItemM} (h:(plainB x.acc.kind && plainB y.acc.kind)=false):conflictE x y=false:=by simp only [conflictE,h,Bool.false_and]
set_option maxHeartbeats 16000000 in
theorem conflict_any (x y:ItemM) (w:World) (hx:x.good) (hy:y.good):Calls Try.prog 41 #[itemV x,itemV y] w fun e w'=>e=.returned (.bool (conflictE x y))∧Below w.heap.size w w':=by
 have TPx:=Lib.hid fun w'=>place_any x w' hx;have TPy:=Lib.hid fun w'=>place_any y w' hy;have TCx:=Lib.hid fun w'=>changes_any x w';have TCy:=Lib.hid fun w'=>changes_any y w';have TLx:=Lib.hid fun w'=>plain_any x w';have TLy:=Lib.hid fun w'=>plain_any y w';have HSAME:=Lib.hid (conf_same (x:=x) (y:=y));have HPLACE:=Lib.hid (conf_place (x:=x) (y:=y));have HOF:=Lib.hid (conf_of (x:=x) (y:=y));have HPLAIN:=Lib.hid (conf_plain (x:=x) (y:=y));obtain ⟨px,hpx⟩:∃px,placeE x=px:=⟨_,rfl⟩;obtain ⟨py,hpy⟩:∃py,placeE y=py:=⟨_,rfl⟩;obtain ⟨cx,hcx⟩:∃cx,changesE x=cx:=⟨_,rfl⟩;obtain ⟨cy,hcy⟩:∃cy,changesE y=cy:=⟨_,rfl⟩;obtain ⟨cf,hcf⟩:∃cf,conflictE x y=cf:=⟨_,rfl⟩;rw [hcf] at HSAME HPLACE HOF HPLAIN ⊢;rw [hpx] at TPx HPLACE HOF;rw [hpy] at TPy HPLACE HOF;rw [hcx] at TCx HOF;rw [hcy] at TCy HOF;clear hx hy hpx hpy hcx hcy hcf;obtain ⟨th,⟨k,ad,o,nw,ti⟩,vl,ok⟩:=x;obtain ⟨qth,⟨qk,qad,qo,qnw,qti⟩,qvl,qok⟩:=y;unfold itemV at *;dsimp only at *;obtain ⟨W,hW⟩:∃W,(w.alloc (.cells #[.int .i64 th,.int .i64 k,.int .i64 ad,.int .u64 o,.int .u64 nw,.int .i64 ti,.int .u64 vl,.bool ok] 30)).alloc (.cells #[.int .i64 qth,.int .i64 qk,.int .i64 qad,.int .u64 qo,.int .u64 qnw,.int .i64 qti,.int .u64 qvl,.bool qok] 30)=W:=⟨_,rfl⟩;have HB:Hid (Below w.heap.size w W):=hW▸below_new (below_new (Below.refl w.heap.size w) _) _;have R0:Hid (W.heap[w.heap.size]?=some (.cells #[.int .i64 th,.int .i64 k,.int .i64 ad,.int .u64 o,.int .u64 nw,.int .i64 ti,.int .u64 vl,.bool ok] 30 (0,0))):=hW▸heap_alloc2_old _ _ _;have R1:Hid (W.heap[w.heap.size+1]?=some (.cells #[.int .i64 qth,.int .i64 qk,.int .i64 qad,.int .u64 qo,.int .u64 qnw,.int .i64 qti,.int .u64 qvl,.bool qok] 30 (0,0))):=hW▸heap_alloc2_new _ _ _;have hz:w.heap.size+2=W.heap.size:=by rw [← hW]; simp
 have HW:=Lib.hid hW;clear hW;have hl0:w.heap.size<W.heap.size:=by omega
 have hl1:w.heap.size+1<W.heap.size:=by omega
 go_enter Try.func41,Try.ntmps41;go_upto_region 1 with fail
 rw [HW.out];clear HW;obtain ⟨x0,x1,x2,x3,x4,x5,x6,x7⟩:=rowc8 R0.out;obtain ⟨y0,y1,y2,y3,y4,y5,y6,y7⟩:=rowc8 R1.out;by_cases ht:th=qth
 ·have hcf:=HSAME.out ht
  have htb:(th == qth)=true:=by simpa using ht
  have HCF:=Lib.hid hcf;subst hcf;clear ht;have X0:=ext_cell _ 0 hl0 _ x0;have Y0:=ext_cell _ 0 hl1 _ y0;have X1:=ext_cell _ 1 hl0 _ x1;have Y1:=ext_cell _ 1 hl1 _ y1;have X2:=ext_cell _ 2 hl0 _ x2;have Y2:=ext_cell _ 2 hl1 _ y2;have X3:=ext_cell _ 3 hl0 _ x3;have Y3:=ext_cell _ 3 hl1 _ y3;have X4:=ext_cell _ 4 hl0 _ x4;have Y4:=ext_cell _ 4 hl1 _ y4;have X5:=ext_cell _ 5 hl0 _ x5;have Y5:=ext_cell _ 5 hl1 _ y5;have X6:=ext_cell _ 6 hl0 _ x6;have Y6:=ext_cell _ 6 hl1 _ y6;have X7:=ext_cell _ 7 hl0 _ x7;have Y7:=ext_cell _ 7 hl1 _ y7;clear x0 y0 x1 y1 x2 y2 x3 y3 x4 y4 x5 y5 x6 y6 x7 y7;refine wp_region_ext W (by kernel_rfl) (by kernel_rfl) (Below.refl _ _) ?_
  repeat (go_big_quiet_step (first
   | (go_at_call 38; with_reducible exact calls_ext (TPx.out _))
   | (go_at_call 38; with_reducible exact calls_ext (TPy.out _))))
  refine wpQuiet_nil ?_;intro _ hw';obtain ⟨w2,rfl⟩:=hw';have HB2:=Lib.hid (below_then HB.out w2.below);have S0:=Lib.hid ((w2.below.block w.heap.size hl0).trans R0.out);have S1:=Lib.hid ((w2.below.block (w.heap.size+1) hl1).trans R1.out);generalize w2.wd=w9 at *;clear X0 Y0 X1 Y1 X2 Y2 X3 Y3 X4 Y4 X5 Y5 X6 Y6 X7 Y7;go_wp2;go_ret;exact ⟨rfl,HB2.out⟩
 ·have htb:(th == qth)=false:=by simpa using ht
  have HT:=Lib.hid ht;clear ht;by_cases hp:px=py
  ·have hof:=HOF.out HT.out hp
   have hpb:(px != py)=false:=by simpa using hp
   have hpb2:(px == py)=true:=by simpa using hp
   have HOF2:=Lib.hid hof;clear hp hof;have X0:=ext_cell _ 0 hl0 _ x0;have Y0:=ext_cell _ 0 hl1 _ y0;have X1:=ext_cell _ 1 hl0 _ x1;have Y1:=ext_cell _ 1 hl1 _ y1;have X2:=ext_cell _ 2 hl0 _ x2;have Y2:=ext_cell _ 2 hl1 _ y2;have X3:=ext_cell _ 3 hl0 _ x3;have Y3:=ext_cell _ 3 hl1 _ y3;have X4:=ext_cell _ 4 hl0 _ x4;have Y4:=ext_cell _ 4 hl1 _ y4;have X5:=ext_cell _ 5 hl0 _ x5;have Y5:=ext_cell _ 5 hl1 _ y5;have X6:=ext_cell _ 6 hl0 _ x6;have Y6:=ext_cell _ 6 hl1 _ y6;have X7:=ext_cell _ 7 hl0 _ x7;have Y7:=ext_cell _ 7 hl1 _ y7;clear x0 y0 x1 y1 x2 y2 x3 y3 x4 y4 x5 y5 x6 y6 x7 y7;refine wp_region_ext W (by kernel_rfl) (by kernel_rfl) (Below.refl _ _) ?_
   repeat (go_big_quiet_step (first
    | (go_at_call 38; with_reducible exact calls_ext (TPx.out _))
    | (go_at_call 38; with_reducible exact calls_ext (TPy.out _))))
   refine wpQuiet_nil ?_;intro _ hw';obtain ⟨w2,rfl⟩:=hw';have HB2:=Lib.hid (below_then HB.out w2.below);have S0:=Lib.hid ((w2.below.block w.heap.size hl0).trans R0.out);have S1:=Lib.hid ((w2.below.block (w.heap.size+1) hl1).trans R1.out);generalize w2.wd=w9 at *;clear X0 Y0 X1 Y1 X2 Y2 X3 Y3 X4 Y4 X5 Y5 X6 Y6 X7 Y7;have HBc0:=HB2;have SX0:=S0;have SY0:=S1;have hc00:w.heap.size<w9.heap.size:=(ltR S0);have hc01:w.heap.size+1<w9.heap.size:=(ltR S1);clear HB2 S0 S1;obtain ⟨x0,x1,x2,x3,x4,x5,x6,x7⟩:=rowc8 SX0.out;obtain ⟨y0,y1,y2,y3,y4,y5,y6,y7⟩:=rowc8 SY0.out;generalize plainB k=p1 at *;generalize plainB qk=p2 at *;go_wp2_with fail;refine (TLx.out _).mono ?_; rintro e v1 ⟨rfl,hbc1⟩;have HBc1:=Lib.hid (below_then HBc0.out hbc1);have SX1:=Lib.hid ((hbc1.block w.heap.size hc00).trans SX0.out);have SY1:=Lib.hid ((hbc1.block (w.heap.size+1) hc01).trans SY0.out);have hc10:w.heap.size<v1.heap.size:=(ltR SX1);have hc11:w.heap.size+1<v1.heap.size:=(ltR SY1);clear hbc1 x0 x1 x2 x3 x4 x5 x6 x7 y0 y1 y2 y3 y4 y5 y6 y7;obtain ⟨x0,x1,x2,x3,x4,x5,x6,x7⟩:=rowc8 SX1.out;obtain ⟨y0,y1,y2,y3,y4,y5,y6,y7⟩:=rowc8 SY1.out;cases p1
   ·go_wp2
    go_ret;exact ⟨ret_bool (by rw [HOF2.out]; rfl),HBc1.out⟩
   go_wp2_with fail;refine (TLy.out _).mono ?_; rintro e v2 ⟨rfl,hbc2⟩;have HBc2:=Lib.hid (below_then HBc1.out hbc2);have SX2:=Lib.hid ((hbc2.block w.heap.size hc10).trans SX1.out);have SY2:=Lib.hid ((hbc2.block (w.heap.size+1) hc11).trans SY1.out);have hc20:w.heap.size<v2.heap.size:=(ltR SX2);have hc21:w.heap.size+1<v2.heap.size:=(ltR SY2);clear hbc2 x0 x1 x2 x3 x4 x5 x6 x7 y0 y1 y2 y3 y4 y5 y6 y7;obtain ⟨x0,x1,x2,x3,x4,x5,x6,x7⟩:=rowc8 SX2.out;obtain ⟨y0,y1,y2,y3,y4,y5,y6,y7⟩:=rowc8 SY2.out;cases p2
   ·go_wp2
    go_ret;exact ⟨ret_bool (by rw [HOF2.out]; rfl),HBc2.out⟩
   go_wp2_with fail;refine (TCx.out _).mono ?_; rintro e v3 ⟨rfl,hbc3⟩;have HBc3:=Lib.hid (below_then HBc2.out hbc3);have SX3:=Lib.hid ((hbc3.block w.heap.size hc20).trans SX2.out);have SY3:=Lib.hid ((hbc3.block (w.heap.size+1) hc21).trans SY2.out);have hc30:w.heap.size<v3.heap.size:=(ltR SX3);have hc31:w.heap.size+1<v3.heap.size:=(ltR SY3);clear hbc3 x0 x1 x2 x3 x4 x5 x6 x7 y0 y1 y2 y3 y4 y5 y6 y7;obtain ⟨x0,x1,x2,x3,x4,x5,x6,x7⟩:=rowc8 SX3.out;obtain ⟨y0,y1,y2,y3,y4,y5,y6,y7⟩:=rowc8 SY3.out;cases cx
   case true=>
    go_wp2;go_ret;exact ⟨ret_bool (by rw [HOF2.out]; rfl),HBc3.out⟩
   go_wp2_with fail;refine (TCy.out _).mono ?_; rintro e v4 ⟨rfl,hbc4⟩;have HBc4:=Lib.hid (below_then HBc3.out hbc4);have SX4:=Lib.hid ((hbc4.block w.heap.size hc30).trans SX3.out);have SY4:=Lib.hid ((hbc4.block (w.heap.size+1) hc31).trans SY3.out);have hc40:w.heap.size<v4.heap.size:=(ltR SX4);have hc41:w.heap.size+1<v4.heap.size:=(ltR SY4);clear hbc4 x0 x1 x2 x3 x4 x5 x6 x7 y0 y1 y2 y3 y4 y5 y6 y7;obtain ⟨x0,x1,x2,x3,x4,x5,x6,x7⟩:=rowc8 SX4.out;obtain ⟨y0,y1,y2,y3,y4,y5,y6,y7⟩:=rowc8 SY4.out;go_wp2;go_ret;exact ⟨ret_bool (by rw [HOF2.out]; rfl),HBc4.out⟩
  ·have hcf:=HPLACE.out hp
   have hpb:(px != py)=true:=by simpa using hp
   subst hcf;clear hp;have X0:=ext_cell _ 0 hl0 _ x0;have Y0:=ext_cell _ 0 hl1 _ y0;have X1:=ext_cell _ 1 hl0 _ x1;have Y1:=ext_cell _ 1 hl1 _ y1;have X2:=ext_cell _ 2 hl0 _ x2;have Y2:=ext_cell _ 2 hl1 _ y2;have X3:=ext_cell _ 3 hl0 _ x3;have Y3:=ext_cell _ 3 hl1 _ y3;have X4:=ext_cell _ 4 hl0 _ x4;have Y4:=ext_cell _ 4 hl1 _ y4;have X5:=ext_cell _ 5 hl0 _ x5;have Y5:=ext_cell _ 5 hl1 _ y5;have X6:=ext_cell _ 6 hl0 _ x6;have Y6:=ext_cell _ 6 hl1 _ y6;have X7:=ext_cell _ 7 hl0 _ x7;have Y7:=ext_cell _ 7 hl1 _ y7;clear x0 y0 x1 y1 x2 y2 x3 y3 x4 y4 x5 y5 x6 y6 x7 y7;refine wp_region_ext W (by kernel_rfl) (by kernel_rfl) (Below.refl _ _) ?_
   repeat (go_big_quiet_step (first
    | (go_at_call 38; with_reducible exact calls_ext (TPx.out _))
    | (go_at_call 38; with_reducible exact calls_ext (TPy.out _))))
   refine wpQuiet_nil ?_;intro _ hw';obtain ⟨w2,rfl⟩:=hw';have HB2:=Lib.hid (below_then HB.out w2.below);have S0:=Lib.hid ((w2.below.block w.heap.size hl0).trans R0.out);have S1:=Lib.hid ((w2.below.block (w.heap.size+1) hl1).trans R1.out);generalize w2.wd=w9 at *;clear X0 Y0 X1 Y1 X2 Y2 X3 Y3 X4 Y4 X5 Y5 X6 Y6 X7 Y7;go_wp2;go_ret;exact ⟨rfl,HB2.out⟩
def ordB (l:List ItemM) (a b:Nat):Bool:=decide (clkAt l a (l.getD a noItem).thr.toNat≤clkAt l b (l.getD a noItem).thr.toNat)
def hitB (l:List ItemM) (a b:Nat):Bool:=conflictE (l.getD a noItem) (l.getD b noItem) && !ordB l a b
def tgt (l:List ItemM) (a:Nat):List Nat:=(List.range l.length).filter fun b=>decide (a<b) && hitB l a b
def partT (l:List ItemM) (a:Nat) (th:Nat):List Nat:=(grpN l l.length (placeE (l.getD a noItem)) (th:Int) (!changesE (l.getD a noItem))).filter fun b=>decide (a≤b) && hitB l a b
def allT (l:List ItemM) (a k:Nat):List Nat:=(List.range k).flatMap (partT l a)
theorem nowE_own (s:HbS) (x:ItemM) (i:Nat):s.own x.thr.toNat i≤nowE s x i:=by
 unfold nowE;split
 ·unfold maxC incC
  split <;> omega
 ·unfold incC
  split <;> omega
theorem own_step (s:HbS) (x:ItemM) (t i:Nat):s.own t i≤(hbStep s x).own t i:=by
 show s.own t i≤updN s.own x.thr.toNat (nowE s x) t i;unfold updN;split
 ·next e=>rw [e]; exact nowE_own s x i
 ·exact Int.le_refl _
theorem own_mono (l:List ItemM) (t i:Nat):∀(d k:Nat),k+d≤l.length→(hbAll (l.take k)).own t i≤(hbAll (l.take (k+d))).own t i
 | 0,k,_=>Int.le_refl _
 | d+1,k,h=>by
  have h1:=own_mono l t i d k (by omega);rw [show k+(d+1)=(k+d)+1 by omega,hbAll_succ (by omega)];exact Int.le_trans h1 (own_step _ _ _ _)
theorem clkAt_mono {l:List ItemM} {b c:Nat} (hbc:b≤c) (hc:c<l.length) (ht:(l.getD b noItem).thr.toNat=(l.getD c noItem).thr.toNat) (i:Nat):clkAt l b i≤clkAt l c i:=by
 rcases Nat.lt_or_eq_of_le hbc with h | rfl
 ·have h1:(hbAll (l.take (b+1))).own (l.getD b noItem).thr.toNat=clkAt l b:=by
   rw [hbAll_succ (by omega)];show updN _ _ _ _=_;unfold updN;rw [if_pos rfl];rfl
  have h2:=own_mono l (l.getD b noItem).thr.toNat i (c - (b+1)) (b+1) (by omega);rw [h1,show b+1+(c - (b+1))=c by omega] at h2;refine Int.le_trans h2 ?_;rw [ht];exact nowE_own _ _ _
 ·exact Int.le_refl _
theorem grpN_mem {l:List ItemM} {i n:Nat} {p t:Int} {c:Bool}:n∈grpN l i p t c↔n<i∧inG (l.getD n noItem) p t c=true:=by
 unfold grpN;rw [List.mem_filter,List.mem_range]
theorem grpN_thr {l:List ItemM} {i n:Nat} {p t:Int} {c:Bool} (h:n∈grpN l i p t c):(l.getD n noItem).thr=t:=by
 have h2:=(grpN_mem.1 h).2;unfold inG at h2;simp only [Bool.and_eq_true,beq_iff_eq] at h2;exact h2.2.2.1
theorem grpN_asc (l:List ItemM) (i:Nat) (p t:Int) (c:Bool):(grpN l i p t c).Pairwise (·<·):=by
 unfold grpN;exact List.Pairwise.sublist (List.filter_sublist ..) List.pairwise_lt_range
theorem asc_get {l:List Nat} (h:l.Pairwise (·<·)) (i j:Nat) (hij:i≤j) (hj:j<l.length):l.getD i 0≤l.getD j 0:=by
 rcases Nat.lt_or_eq_of_le hij with h2 | rfl
 ·have:=List.pairwise_iff_getElem.1 h i j (by omega) hj h2
  rw [List.getD_eq_getElem?_getD,List.getD_eq_getElem?_getD,List.getElem?_eq_getElem hj,List.getElem?_eq_getElem (by omega:i<l.length)];exact Nat.le_of_lt this
 ·exact Nat.le_refl _
theorem drop_filter {l:List Nat} {a k:Nat} (hk:k≤l.length) (h1:∀j,j<k→l.getD j 0<a) (h2:∀j,k≤j→j<l.length→a≤l.getD j 0) (P:Nat→Bool):l.filter (fun b=>decide (a≤b) && P b)=(l.drop k).filter P:=by
 conv=>lhs; rw [← List.take_append_drop k l]
 rw [List.filter_append];have e1:(l.take k).filter (fun b=>decide (a≤b) && P b)=[]:=by
  rw [List.filter_eq_nil_iff];intro b hb;obtain ⟨j,hj,rfl⟩:=List.mem_iff_getElem.1 hb;rw [List.length_take] at hj;have:=h1 j (by omega);rw [List.getD_eq_getElem?_getD,List.getElem?_eq_getElem (by omega:j<l.length)] at this;rw [List.getElem_take];have h3:¬a≤l[j]:=by simpa using this
  simp [h3]
 rw [e1,List.nil_append];apply List.filter_congr;intro b hb;obtain ⟨j,hj,rfl⟩:=List.mem_iff_getElem.1 hb;rw [List.length_drop] at hj;have:=h2 (k+j) (by omega) (by omega);rw [List.getD_eq_getElem?_getD,List.getElem?_eq_getElem (by omega:k+j<l.length)] at this;rw [List.getElem_drop];have h3:a≤l[k+j]:=by simpa using this
 simp [h3]
theorem stop_filter {l:List ItemM} {a:Nat} {L:List Nat} (hL:L.Pairwise (·<·)) (hn:∀b∈L,b<l.length) (ht:∀b∈L,∀c∈L,(l.getD b noItem).thr=(l.getD c noItem).thr) {j:Nat} (hj:j<L.length) (ho:ordB l a (L.getD j 0)=true):L.filter (hitB l a)=(L.take j).filter (hitB l a):=by
 conv=>lhs; rw [← List.take_append_drop j L]
 rw [List.filter_append];have e:(L.drop j).filter (hitB l a)=[]:=by
  rw [List.filter_eq_nil_iff];intro b hb;obtain ⟨q,hq,rfl⟩:=List.mem_iff_getElem.1 hb;rw [List.length_drop] at hq;rw [List.getElem_drop];have e1:L.getD j 0=L[j]:=by rw [List.getD_eq_getElem?_getD,List.getElem?_eq_getElem hj]; rfl
  rw [e1] at ho;have hle:L[j]≤L[j+q]:=by
   rcases Nat.eq_zero_or_pos q with rfl | hq0
   ·exact Nat.le_refl _
   ·exact Nat.le_of_lt (List.pairwise_iff_getElem.1 hL j (j+q) hj (by omega) (by omega))
  have hm:=clkAt_mono hle (hn _ (List.getElem_mem _)) (congrArg Int.toNat (ht _ (List.getElem_mem hj) _ (List.getElem_mem (by omega:j+q<L.length)))) (l.getD a noItem).thr.toNat;unfold ordB at ho;have ho2:=of_decide_eq_true ho;unfold hitB ordB;rw [decide_eq_true (Int.le_trans ho2 hm)];simp
 rw [e,List.append_nil]
theorem partT_mem {l:List ItemM} {a th b:Nat}:b∈partT l a th↔b<l.length∧inG (l.getD b noItem) (placeE (l.getD a noItem)) (th:Int) (!changesE (l.getD a noItem))=true∧a≤b∧hitB l a b=true:=by
 unfold partT;rw [List.mem_filter,grpN_mem];simp only [Bool.and_eq_true,decide_eq_true_eq];exact ⟨fun h=>⟨h.1.1,h.1.2,h.2.1,h.2.2⟩,fun h=>⟨⟨h.1,h.2.1⟩,h.2.2.1,h.2.2.2⟩⟩
theorem allT_mem {l:List ItemM} (hth:∀x∈l,0≤x.thr∧x.thr<8) {a b:Nat}:b∈allT l a 8↔b∈tgt l a:=by
 unfold allT tgt;rw [List.mem_flatMap,List.mem_filter,List.mem_range];simp only [Bool.and_eq_true,decide_eq_true_eq];constructor
 ·rintro ⟨th,-,h⟩
  obtain ⟨h1,-,h3,h4⟩:=partT_mem.1 h;refine ⟨h1,?_,h4⟩;rcases Nat.lt_or_eq_of_le h3 with h5 | rfl
  ·exact h5
  ·exfalso
   unfold hitB conflictE at h4;simp at h4
 ·rintro ⟨h1,h2,h3⟩
  have hx:l.getD b noItem∈l:=by
   rw [List.getD_eq_getElem?_getD,List.getElem?_eq_getElem h1];exact List.getElem_mem _
  obtain ⟨t0,t8⟩:=hth _ hx;refine ⟨(l.getD b noItem).thr.toNat,List.mem_range.2 (by omega),partT_mem.2 ⟨h1,?_,by omega,h3⟩⟩;unfold hitB conflictE at h3;simp only [Bool.and_eq_true,beq_iff_eq,Bool.or_eq_true] at h3;obtain ⟨⟨⟨⟨⟨-,hpb⟩,-⟩,hpl⟩,hch⟩,-⟩:=h3;clear hx;generalize l.getD b noItem=y at *;generalize l.getD a noItem=x at *;unfold inG;have ha:atomicB y.acc.kind=false:=by
   unfold plainB at hpb;simp only [Bool.and_eq_true,decide_eq_true_eq] at hpb;unfold atomicB;simp;omega
  rw [ha,hpl,Int.toNat_of_nonneg t0];rcases hch with h | h <;> simp [h]
theorem allT_nodup (l:List ItemM) (a:Nat):∀k,(allT l a k).Nodup:=by
 intro k;unfold allT;rw [List.nodup_iff_pairwise_ne,List.flatMap_def,List.pairwise_flatten];refine ⟨fun L hL=>?_,?_⟩
 ·obtain ⟨th,-,rfl⟩:=List.mem_map.1 hL
  unfold partT;exact (List.Pairwise.sublist (List.filter_sublist ..) (grpN_asc ..)).imp fun h=>by omega
 ·rw [List.pairwise_map]
  refine List.Pairwise.imp (fun {x y} h b hb c hc e=>?_) List.pairwise_lt_range;subst e;unfold partT at hb hc;have h1:=grpN_thr (List.mem_filter.1 hb).1;have h2:=grpN_thr (List.mem_filter.1 hc).1;omega
theorem asc_eqN:∀{l m:List Int},l.Pairwise (·<·)→m.Pairwise (·<·)→(∀x,x∈l↔x∈m)→l=m
 | [],[],_,_,_=>rfl
 | [],y :: m,_,_,h=>by have:=(h y).2 (List.mem_cons_self ..); simp at this
 | x :: l,[],_,_,h=>by have:=(h x).1 (List.mem_cons_self ..); simp at this
 | x :: l,y :: m,hl,hm,h=>by
  have a:=List.pairwise_cons.1 hl;have b:=List.pairwise_cons.1 hm;have e:x=y:=by
   rcases List.mem_cons.1 ((h x).1 (List.mem_cons_self ..)) with h1 | h1
   ·exact h1
   ·rcases List.mem_cons.1 ((h y).2 (List.mem_cons_self ..)) with h2 | h2
    ·exact h2.symm
    ·have:=b.1 x h1; have:=a.1 y h2; omega
  subst e;congr 1;refine asc_eqN a.2 b.2 fun z=>?_;have hz:=h z;rw [List.mem_cons,List.mem_cons] at hz;constructor
  ·intro h1
   rcases hz.1 (.inr h1) with h2 | h2
   ·have:=a.1 z h1; omega
   ·exact h2
  ·intro h1
   rcases hz.2 (.inr h1) with h2 | h2
   ·have:=b.1 z h1; omega
   ·exact h2
def tgtI (l:List ItemM) (a:Nat):List Int:=(tgt l a).map fun n:Nat=>(n:Int)
def allI (l:List ItemM) (a k:Nat):List Int:=(allT l a k).map fun n:Nat=>(n:Int)
theorem sort_all {l:List ItemM} (hth:∀x∈l,0≤x.thr∧x.thr<8) (a:Nat):(allI l a 8).mergeSort (fun x y=>decide (x≤y))=tgtI l a:=by
 have h1:=List.pairwise_mergeSort (le:=fun x y:Int=>decide (x≤y)) (fun a b c h1 h2=>by simp at *; omega) (fun a b=>by simp; omega) (allI l a 8);have hp:=List.mergeSort_perm (allI l a 8) (fun x y=>decide (x≤y));have hn:(allI l a 8).Nodup:=by
  unfold allI;rw [List.nodup_iff_pairwise_ne,List.pairwise_map];exact (allT_nodup l a 8).imp fun h e=>h (by omega)
 have hn2:((allI l a 8).mergeSort (fun x y=>decide (x≤y))).Nodup:=hp.symm.nodup hn;refine asc_eqN ?_ ?_ fun x=>?_
 ·refine (h1.and hn2).imp fun {x y} h=>?_
  have:=of_decide_eq_true h.1;have:=h.2;omega
 ·unfold tgtI tgt
  rw [List.pairwise_map];exact (List.Pairwise.sublist (List.filter_sublist ..) List.pairwise_lt_range).imp fun h=>by omega
 ·rw [hp.mem_iff]
  unfold allI tgtI;rw [List.mem_map,List.mem_map];exact ⟨fun ⟨b,hb,e⟩=>⟨b,(allT_mem hth).1 hb,e⟩,fun ⟨b,hb,e⟩=>⟨b,(allT_mem hth).2 hb,e⟩⟩
end Go.Proofs.Ytfbdehcibgdagaa
namespace Go.Proofs
open Go.Shelf
def Try.lays189_ren:Go.Shelf.Ren:=⟨fun | 189=>42 | 125=>53 | 257=>52 | 128=>64 | 129=>65 | 294=>56 | 295=>57 | 296=>58 | 297=>59 | 298=>60 | 299=>61 | 216=>49 | 300=>62 | 301=>63 | 328=>66 | 329=>67 | 330=>68 | 331=>69 | 332=>70 | 215=>55 | 343=>71 | n=>n,fun | 28=>36 | 3=>3 | 46=>86 | 0=>0 | 51=>98 | 53=>26 | 4=>4 | 183=>92 | 182=>91 | 131=>81 | 5=>5 | 9=>9 | 218=>100 | 222=>104 | 228=>106 | 229=>107 | n=>n,fun | n=>n⟩
theorem Try.lays189:Go.Proofs.Lays.n189 Try.prog Try.lays189_ren:={
 mixed:=by kernel_rfl
 f125:=Try.func53.trans (congrArg some (by kernel_rfl))
 f128:=Try.func64.trans (congrArg some (by kernel_rfl))
 f129:=Try.func65.trans (congrArg some (by kernel_rfl))
 f189:=Try.func42.trans (congrArg some (by kernel_rfl))
 f215:=Try.func55.trans (congrArg some (by kernel_rfl))
 f216:=Try.func49.trans (congrArg some (by kernel_rfl))
 f257:=Try.func52.trans (congrArg some (by kernel_rfl))
 f294:=Try.func56.trans (congrArg some (by kernel_rfl))
 f295:=Try.func57.trans (congrArg some (by kernel_rfl))
 f296:=Try.func58.trans (congrArg some (by kernel_rfl))
 f297:=Try.func59.trans (congrArg some (by kernel_rfl))
 f298:=Try.func60.trans (congrArg some (by kernel_rfl))
 f299:=Try.func61.trans (congrArg some (by kernel_rfl))
 f300:=Try.func62.trans (congrArg some (by kernel_rfl))
 f301:=Try.func63.trans (congrArg some (by kernel_rfl))
 f328:=Try.func66.trans (congrArg some (by kernel_rfl))
 f329:=Try.func67.trans (congrArg some (by kernel_rfl))
 f330:=Try.func68.trans (congrArg some (by kernel_rfl))
 f331:=Try.func69.trans (congrArg some (by kernel_rfl))
 f332:=Try.func70.trans (congrArg some (by kernel_rfl))
 f343:=Try.func71.trans (congrArg some (by kernel_rfl))
 t0:=Try.underlying0
 a0:=Try.isAgg0
 z0:=Try.sizeOf0
 v0:=Try.zeroValue0
 t3:=Try.underlying3
 a3:=Try.isAgg3
 z3:=Try.sizeOf3
 v3:=Try.zeroValue3
 t4:=Try.underlying4
 a4:=Try.isAgg4
 z4:=Try.sizeOf4
 v4:=Try.zeroValue4
 t5:=Try.underlying5
 a5:=Try.isAgg5
 z5:=Try.sizeOf5
 v5:=Try.zeroValue5
 t9:=Try.underlying9
 a9:=Try.isAgg9
 z9:=Try.sizeOf9
 v9:=Try.zeroValue9
 t28:=Try.underlying36
 a28:=Try.isAgg36
 z28:=Try.sizeOf36
 v28:=Try.zeroValue36
 t46:=Try.underlying86
 a46:=Try.isAgg86
 z46:=Try.sizeOf86
 v46:=Try.zeroValue86
 t51:=Try.underlying98
 a51:=Try.isAgg98
 z51:=Try.sizeOf98
 v51:=Try.zeroValue98
 t53:=Try.underlying26
 a53:=Try.isAgg26
 z53:=Try.sizeOf26
 v53:=Try.zeroValue26
 t131:=Try.underlying81
 a131:=Try.isAgg81
 z131:=Try.sizeOf81
 v131:=Try.zeroValue81
 t182:=Try.underlying91
 a182:=Try.isAgg91
 z182:=Try.sizeOf91
 v182:=Try.zeroValue91
 t183:=Try.underlying92
 a183:=Try.isAgg92
 z183:=Try.sizeOf92
 v183:=Try.zeroValue92
 t218:=Try.underlying100
 a218:=Try.isAgg100
 z218:=Try.sizeOf100
 v218:=Try.zeroValue100
 t222:=Try.underlying104
 a222:=Try.isAgg104
 z222:=Try.sizeOf104
 v222:=Try.zeroValue104
 t228:=Try.underlying106
 a228:=Try.isAgg106
 z228:=Try.sizeOf106
 v228:=Try.zeroValue106
 t229:=Try.underlying107
 a229:=Try.isAgg107
 z229:=Try.sizeOf107
 v229:=Try.zeroValue107 }
open Go.Sort Go.RowKit in
theorem Try.slices_Sort_int (blk off cap:Nat) (zs:List Int) (w:World) (hH:Holds (Value.int .i64) w blk off zs.toArray) (hblk:blk<w.heap.size) (hsz:zs.length<4611686018427387904) :
  Calls Try.prog 42 #[.slice (some ⟨blk,off,none⟩) zs.length cap] w fun e w'=>
   e=.returned (.tuple #[])∧∃n os,w'=grow (putRow (Value.int .i64) (Sort.ahead w n) blk off (zs.mergeSort fun x y=>decide (x≤y)).toArray) os:=Any.slices_Sort_int Try.lays189 blk off cap zs w hH hblk hsz
open Go.RowKit Go.Sort in
theorem Try.slices_Sort_int_none (p:Option Addr) (cap:Nat) (w:World) :
  Calls Try.prog 42 #[.slice p 0 cap] w fun e w'=>e=.returned (.tuple #[])∧w'=w:=Any.slices_Sort_int_none Try.lays189 p cap w
end Go.Proofs
namespace Go.Proofs.Ytfbdehcibgdagaa
open Go.ChangeShapes Go.WideShapes Go.ChangeAt Go.RowKit
set_option maxRecDepth 100000
def sorted (l:List Int):List Int:=l.mergeSort fun x y=>decide (x≤y)
theorem sorted_length (l:List Int):(sorted l).length=l.length:=by simp [sorted]
theorem sort_own (B g cap:Nat) (l:List Int) (w:World) (h:OwnI w B 3 .i64 (.slice (some ⟨g,0,none⟩) l.length cap) l) (hl:l.length≤1000000) :
  Calls Try.prog 42 #[.slice (some ⟨g,0,none⟩) l.length cap] w fun e w'=>e=.returned (.tuple #[])∧OwnI w' B 3 .i64 (.slice (some ⟨g,0,none⟩) l.length cap) (sorted l)∧w.grownBy w' (some g):=by
 rcases h.2 with ⟨h1,_⟩ | ⟨g',cap',cur,h1,hb,hg,hn,hcap,hcs,htk⟩
 ·cases h1
 ·cases h1
  have hgl:g<w.heap.size:=(Array.getElem?_eq_some_iff.1 hg).1;refine (Go.Proofs.Try.slices_Sort_int g 0 cap l w (holds_of_blockI hg (by simpa using htk)) hgl (by omega)).mono ?_;rintro e w' ⟨rfl,n,os,rfl⟩;refine ⟨rfl,?_,grownBy_sortedI _⟩;have h5:=ownsRow_sortedI (n:=n) (os:=os) (e:=3) (base:=B) (ss:=l) (ts:=sorted l) (sorted_length l) hb hg hn hcap hcs;unfold OwnI;rw [sorted_length];exact h5
end Go.Proofs.Ytfbdehcibgdagaa
