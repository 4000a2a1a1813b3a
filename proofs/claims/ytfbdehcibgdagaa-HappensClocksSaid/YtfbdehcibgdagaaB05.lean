import Derived.Deep.DeepCutAuto
import Derived.Deep.CutBlock
import Derived.Deep.RegionLaw
import Derived.Test.YtfbdehcibgdagaaRows
import Derived.Laws.BitsAllLaws
import Derived.Test.YtfbdehcibgdagaaB04
import Derived.Test.YtfbdehcibgdagaaB02
import Derived.Test.YtfbdehcibgdagaaB01
set_option linter.unusedVariables false
set_option linter.unusedSimpArgs false
namespace Go.Proofs.Ytfbdehcibgdagaa
open Go.ChangeShapes Go.WideShapes Go.ChangeAt Go.RowKit
set_option maxRecDepth 100000
def tabI (c:Clk) (n:Nat):List Int:=(List.range n).map c
theorem tabI_len (c:Clk) (n:Nat):(tabI c n).length=n:=by simp [tabI]
theorem tabI_get (c:Clk) {n t:Nat} (ht:t<n):(tabI c n).getD t 0=c t:=by
 unfold tabI;rw [List.getD_eq_getElem?_getD,List.getElem?_map,List.getElem?_range ht];rfl
theorem tabI_set (c:Clk) (n t:Nat) (x:Int):(tabI c n).set t x=tabI (fun i=>if i=t then x else c i) n:=by
 unfold tabI;refine List.ext_getElem (by simp) fun i h1 h2=>?_;simp only [List.length_set,List.length_map,List.length_range] at h1;rw [List.getElem_set];by_cases e:t=i
 ·subst e
  simp
 ·rw [if_neg e]
  simp [show i≠t from fun h=>e h.symm]
def mixC (c d:Clk) (k:Nat):Clk:=fun i=>if i<k then max (c i) (d i) else c i
theorem mixC_zero (c d:Clk):mixC c d 0=c:=by funext i; simp [mixC]
theorem mixC_all (c d:Clk) (n:Nat):tabI (mixC c d n) n=tabI (maxC c d) n:=by
 unfold tabI;refine List.map_congr_left fun i hi=>?_;rw [List.mem_range] at hi;simp [mixC,maxC,hi]
theorem mixC_at (c d:Clk) (k:Nat):mixC c d k k=c k:=by simp [mixC]
theorem mixC_step (c d:Clk) (k:Nat):(fun i=>if i=k then max (c k) (d k) else mixC c d k i)=mixC c d (k+1):=by
 funext i
 unfold mixC;by_cases h:i=k
 ·subst h
  rw [if_pos rfl,if_pos (show i<i+1 by omega)]
 ·rw [if_neg h]
  by_cases h2:i<k
  ·rw [if_pos h2,if_pos (show i<k+1 by omega)]
  ·rw [if_neg h2,if_neg (show ¬i<k+1 by omega)]
set_option maxRecDepth 100000 in
set_option maxHeartbeats 16000000 in
theorem rjoin_any (u v:Value) (n:Nat) (c d:Clk) (w:World) (hu:SlI w .i64 u (tabI c n)) (hv:SlI w .i64 v (tabI d n)) (hn:n≤1000):Calls Try.prog 28 #[u,v] w fun e w'=>∃r,e=.returned r∧OwnI w' w.heap.size 3 .i64 r (tabI (maxC c d) n)∧Below w.heap.size w w':=by
 have HU:=Lib.hid hu;have HV:=Lib.hid hv;obtain ⟨pu,cu,rfl,-⟩:=hu.len;obtain ⟨pv,cv,rfl,-⟩:=hv.len;rw [tabI_len] at HU HV ⊢;rw [tabI_len];clear hu hv;go_enter Try.func28,Try.ntmps28;go_wp2_with (at_builtin; refine wp_copy_i64_any _ rfl _ _ rfl (.slice pu n cu) (tabI c n) rfl rfl HU.out (by rw [tabI_len]; omega) w.heap.size (Nat.le_refl _) ?_; intro v1 w1 ho1 hb1);have HO1:Hid (OwnI w1 w.heap.size 3 .i64 v1 (tabI (mixC c d 0) n)):=by rw [mixC_zero]; exact ho1
 have HB1:=Lib.hid hb1;clear ho1 hb1 HU;obtain ⟨p1,c1,hv1⟩:=HO1.out.lenK;rw [tabI_len] at hv1;subst hv1;go_wp2_with fail;go_loopw [6] (fun u6 wr=>∃i:Nat,u6=.int .i64 (i:Int)∧i≤n∧Hid (OwnI wr w.heap.size 3 .i64 (.slice p1 n c1) (tabI (mixC c d i) n))∧Hid (Below w.heap.size w wr)) (fun u6 _=>n - (intOf u6).toNat)
 case atStart=>exact ⟨0,rfl,by omega,HO1,HB1⟩
 case round=>
  clear HO1 HB1;obtain ⟨i,rfl,hi,HO,HB⟩:=hrel;obtain ⟨wo,rfl⟩:∃wo:World,wo=wr:=⟨_,rfl⟩;by_cases hlt:i<n
  ·have hltI:(i:Int)<(n:Int):=by omega
   obtain ⟨g1,hp1,hg1⟩:∃g1,p1=some ⟨g1,0,none⟩∧Hid (w.heap.size≤g1):=by
    rcases HO.out.shape with ⟨-,h2⟩ | ⟨g,cap,h1,h2,-⟩
    ·exact absurd (congrArg List.length h2) (by rw [tabI_len]; simp; omega)
    ·simp only [Value.slice.injEq] at h1
     exact ⟨g,h1.1,h2⟩
   subst hp1;obtain ⟨bv,ov,cv2,hve,-,hbv,kv⟩:=HV.out.open (by intro e; have:=congrArg List.length e; rw [tabI_len] at this; simp at this; omega);simp only [Value.slice.injEq] at hve;obtain ⟨hv1,-,hv3⟩:=hve;subst hv1;subst hv3;obtain ⟨x,hx⟩:∃x,c i=x:=⟨_,rfl⟩;obtain ⟨y,hy⟩:∃y,d i=y:=⟨_,rfl⟩;have kv':∀w',Below w.heap.size w w'→w'.cell? ⟨bv,ov+i,none⟩=some (.int .i64 y):=fun w' hb=>by
    have h2:=kv i (by rw [tabI_len]; exact hlt);rw [tabI_get _ hlt,hy] at h2;exact (hb.cell (p:=⟨bv,ov+i,none⟩) hbv).trans h2
   clear kv;go_upto_region 5 with fail
   refine wp_region_until (fun w':World=>w'.cell? ⟨g1,i,none⟩=some (.int .i64 x)∧w'.cell? ⟨bv,ov+i,none⟩=some (.int .i64 y)) 12 13 (by kernel_rfl) rfl ?_;obtain ⟨u0,hu0,hU0⟩:=drew_pack wo;rw [hu0];clear hu0;have HO1:Hid (OwnI u0 w.heap.size 3 .i64 (.slice (some ⟨g1,0,none⟩) n c1) (tabI (mixC c d i) n)):=OwnI.belowK HO.out hU0.out;obtain ⟨k1,f1⟩:=HO1.out.cell i (by rw [tabI_len]; exact hlt);rw [tabI_get _ hlt,mixC_at] at k1;have k2:=kv' u0 (below_then HB.out hU0.out);have HX:Hid (c i=x):=hx;have HY:Hid (d i=y):=hy;rw [hx] at k1;have HO2:Hid (OwnI (u0.setCell ⟨g1,i,none⟩ (.int .i64 (max x y))) w.heap.size 3 .i64 (.slice (some ⟨g1,0,none⟩) n c1) (tabI (mixC c d (i+1)) n)):=by
    have h2:=OwnI.store HO1.out i (max x y) (by rw [tabI_len]);rw [tabI_set,← hx,← hy,mixC_step] at h2;rw [← hx,← hy];exact h2
   have HB2:Hid (Below w.heap.size w (u0.setCell ⟨g1,i,none⟩ (.int .i64 (max x y)))):=(below_then HB.out hU0.out).setCell (p:=⟨g1,i,none⟩) hg1.out _;clear kv' hU0 hx hy HO HB HO1;have hSU0:=And.intro k1 k2;apply tkV 0 hSU0 rfl (by kernel_rfl) (fun _ _ _ h=>h) rfl;intro w hSw;(go_simp<;>with_reducible rfl);simp only [J0,J1,J2,J3,J4];apply tkV 1 hSU0 rfl (by kernel_rfl) (fun _ _ _ h=>h) rfl;intro w hSw;(go_simp<;>with_reducible rfl);simp only [J0,J1,J2,J3,J4];apply tkV 2 hSU0 rfl (by kernel_rfl) (fun _ _ _ h=>h) rfl;intro w hSw;(go_simp<;>with_reducible rfl);simp only [J0,J1,J2,J3,J4];apply tkV 3 hSU0 rfl (by kernel_rfl) (fun _ _ _ h=>h) rfl;intro w hSw;(go_simp<;>with_reducible rfl);simp only [J0,J1,J2,J3,J4];apply tkV 4 hSU0 rfl (by kernel_rfl) (fun _ _ _ h=>h) rfl;intro w hSw;(go_simp<;>with_reducible rfl);simp only [J0,J1,J2,J3,J4];apply tkV 5 hSU0 rfl (by kernel_rfl) (fun _ _ _ h=>h) rfl;intro w hSw;(go_simp<;>with_reducible rfl);simp only [J0,J1,J2,J3,J4];apply tkV 6 hSU0 rfl (by kernel_rfl) (fun _ _ _ h=>h) rfl;intro w hSw;(go_simp<;>with_reducible rfl);simp only [J0,J1,J2,J3,J4];apply tkV 7 hSU0 rfl (by kernel_rfl) (fun _ _ _ h=>h) rfl;intro w hSw;(go_simp<;>with_reducible rfl);simp only [J0,J1,J2,J3,J4];apply tkV 8 hSU0 rfl (by kernel_rfl) (fun _ _ _ h=>h) rfl;intro w hSw;(go_simp<;>with_reducible rfl);simp only [J0,J1,J2,J3,J4];apply tkV 9 hSU0 rfl (by kernel_rfl) (fun _ _ _ h=>h) rfl;intro w hSw;(go_simp<;>with_reducible rfl);simp only [J0,J1,J2,J3,J4];apply tkV 10 hSU0 rfl (by kernel_rfl) (fun _ _ _ h=>h) rfl;intro w hSw;(go_simp<;>with_reducible rfl);simp only [J0,J1,J2,J3,J4];apply tkV 11 hSU0 rfl (by kernel_rfl) (fun _ _ _ h=>h) rfl;intro w hSw;(go_simp<;>with_reducible rfl);simp only [J0,J1,J2,J3,J4];refine freeU 12 rfl (by kernel_rfl) rfl (by kernel_rfl) fun K hK=>?_;go_simp;refine hK.out _ _ ?_;clear hK K hSU0;(try simp only [J0,J1,J2,J3,J4]);refine wpAnyU_done (by kernel_rfl) ?_ _;go_wp2_with fail;go_roundw
   case rel=>exact ⟨i+1,by go_num,by omega,HO2,HB2⟩
   case measure=>simp [intOf]; omega
  ·have e:i=n:=by omega
   subst e;go_wp2;go_ret;exact ⟨_,rfl,(mixC_all c d i)▸HO.out,HB.out⟩
def noW:Int × Value:=(0,.slice none 0 0)
def wRows (ws:List (Int × Value)):List (List Value):=ws.map fun p=>[.int .i64 p.1,p.2]
theorem wRows_len (ws:List (Int × Value)):(wRows ws).length=ws.length:=by simp [wRows]
theorem wRows_get (ws:List (Int × Value)) {i:Nat} (hi:i<ws.length):(wRows ws).getD i []=[.int .i64 (ws.getD i noW).1,(ws.getD i noW).2]:=by
 unfold wRows;rw [List.getD_eq_getElem?_getD,List.getElem?_map,List.getD_eq_getElem?_getD,List.getElem?_eq_getElem hi];rfl
theorem wRows_at {w:World} {v:Value} {ws:List (Int × Value)} (h:SlS w 2 v (wRows ws)) (h0:0<ws.length):∃b off cap,v=.slice (some ⟨b,off,none⟩) ws.length cap∧b<w.heap.size∧∀i w',i<ws.length→Below w.heap.size w w'→w'.cell? ⟨b,off+i * 2,none⟩=some (.int .i64 (ws.getD i noW).1)∧w'.cell? ⟨b,off+i * 2+1,none⟩=some (ws.getD i noW).2:=by
 obtain ⟨b,off,cap,rfl,hb,hr⟩:=h.open (by rw [wRows_len]; exact h0);refine ⟨b,off,cap,by rw [wRows_len],hb,fun i w' hi hw=>?_⟩;have h5:=hr i (by rw [wRows_len]; exact hi);rw [wRows_get ws hi] at h5;exact ⟨(hw.cell (p:=⟨b,off+i * 2,none⟩) hb).trans (h5 0 _ rfl),(hw.cell (p:=⟨b,off+i * 2+1,none⟩) hb).trans (h5 1 _ rfl)⟩
set_option maxRecDepth 100000 in
set_option maxHeartbeats 16000000 in
theorem rfind_any (v:Value) (ws:List (Int × Value)) (a:Int) (w:World) (hv:SlS w 2 v (wRows ws)) (hl:ws.length≤1000):Calls Try.prog 27 #[v,.int .i64 a] w fun e w'=>∃r:Int,e=.returned (.int .i64 r)∧((r=-1∧∀q,q<ws.length→(ws.getD q noW).1≠a)∨∃k:Nat,r=k∧k<ws.length∧(ws.getD k noW).1=a)∧Below w.heap.size w w':=by
 have HV:=Lib.hid hv;obtain ⟨pv,cv,rfl,-⟩:=hv.len;obtain ⟨n,hn⟩:∃n,ws.length=n:=⟨_,rfl⟩;have HN:=Lib.hid hn;rw [wRows_len,hn] at HV ⊢;rw [hn] at hl;clear hv hn;go_enter Try.func27,Try.ntmps27;go_wp2_with fail;go_loopw [5] (fun u5 wr=>∃i:Nat,u5=.int .i64 (i:Int)∧i≤n∧Hid (∀q,q<i→(ws.getD q noW).1≠a)∧Hid (Below w.heap.size w wr)) (fun u5 _=>n - (intOf u5).toNat)
 case atStart=>exact ⟨0,rfl,by omega,fun q hq=>absurd hq (Nat.not_lt_zero _),Below.refl _ _⟩
 case round=>
  obtain ⟨i,rfl,hi,HQ,HB⟩:=hrel;obtain ⟨wo,rfl⟩:∃wo:World,wo=wr:=⟨_,rfl⟩;by_cases hlt:i<n
  ·have hltI:(i:Int)<(n:Int):=by omega
   obtain ⟨bv,ov,cv2,hve,hbv,kv⟩:=wRows_at HV.out (by have:=HN.out; omega);rw [HN.out] at hve;simp only [Value.slice.injEq] at hve;obtain ⟨hv1,-,hv3⟩:=hve;subst hv1;subst hv3;obtain ⟨c0,-⟩:=kv i wo (by rw [HN.out]; exact hlt) HB.out;obtain ⟨x,hx⟩:∃x,(ws.getD i noW).1=x:=⟨_,rfl⟩;have HX:=Lib.hid hx;rw [hx] at c0;clear kv hx hbv;by_cases hxa:x=a
   ·subst hxa
    have HK:Hid (i<n):=hlt;go_wp2;go_ret;exact ⟨(i:Int),rfl,.inr ⟨i,rfl,HK.out,HX.out⟩,HB.out⟩
   ·have hq:(x == a)=false:=by simpa using hxa
    have HQ2:Hid (∀q,q<i+1→(ws.getD q noW).1≠a):=fun q hq=>by
     rcases Nat.lt_succ_iff_lt_or_eq.1 hq with h | rfl
     ·exact HQ.out q h
     ·rw [HX.out]; exact hxa
    clear hxa HQ;go_wp2_with fail;go_roundw
    case rel=>exact ⟨i+1,by go_num,by omega,HQ2,HB⟩
    case measure=>simp [intOf]; omega
  ·have e:i=n:=by omega
   have HQ3:Hid (∀q,q<n→(ws.getD q noW).1≠a):=fun q hq=>HQ.out q (by omega);clear e HQ;go_wp2;go_ret;exact ⟨-1,rfl,.inl ⟨rfl,HQ3.out⟩,HB.out⟩
structure RcI (w wr:World) (O B2:Nat) (l:List ItemM) (n j m:Nat) (S:HbS) (vw:Value) (ws:List (Int × Value)) (vo:Value) (vs os:List Value):Prop where
 bw:Below w.heap.size w wr
 oge:w.heap.size≤O
 olt:O<B2
 b2:B2≤wr.heap.size
 row:OwnS wr w.heap.size 36 1 (.slice (some ⟨O,0,none⟩) n n) (os.map fun v=>[v])
 olen:os.length=n
 ownv:∀t,t<n→OwnI wr w.heap.size 3 .i64 (os.getD t (.slice none 0 0)) (tabI (S.own t) n)
 wrow:OwnS wr w.heap.size 60 2 vw (wRows ws)
 wdv:∀q,q<ws.length→OwnI wr w.heap.size 3 .i64 (ws.getD q noW).2 (tabI (S.words (ws.getD q noW).1) n)
 wdu:∀p q,p<q→q<ws.length→(ws.getD p noW).1≠(ws.getD q noW).1
 wdz:∀a,(∀q,q<ws.length→(ws.getD q noW).1≠a)→∀i,S.words a i=0
 wl:ws.length≤m
 orow:OwnS wr B2 36 1 vo (vs.map fun v=>[v])
 vlen:vs.length=j
 outv:∀q,q<j→OwnI wr w.heap.size 3 .i64 (vs.getD q (.slice none 0 0)) (clkI l q n)
theorem RcI.lists {w wr w2:World} {B:Nat} {v:Value} {x:List Int} {row:Option Nat} (h:OwnI wr B 3 .i64 v x) (hg:wr.grownBy w2 row) (hr:v.ownBlock=none∨v.ownBlock≠row):OwnI w2 B 3 .i64 v x:=World.ownsRow.kept h hg hr
section
variable {w wr w2:World} {O B2 n j m:Nat} {l:List ItemM} {S:HbS} {vw:Value} {ws:List (Int × Value)} {vo:Value} {vs os:List Value}
theorem RcI.below (h:RcI w wr O B2 l n j m S vw ws vo vs os) (hb:Below wr.heap.size wr w2):RcI w w2 O B2 l n j m S vw ws vo vs os:=
 ⟨below_then h.bw hb,h.oge,h.olt,Nat.le_trans h.b2 hb.size,h.row.below hb,h.olen,fun t ht=>OwnI.belowK (h.ownv t ht) hb,h.wrow.below hb,fun q hq=>OwnI.belowK (h.wdv q hq) hb,h.wdu,h.wdz,h.wl,h.orow.below hb,h.vlen,fun q hq=>OwnI.belowK (h.outv q hq) hb⟩
theorem RcI.oapart (h:RcI w wr O B2 l n j m S vw ws vo vs os):vo.ownBlock=none∨vo.ownBlock≠some O:=h.orow.ne h.olt
theorem RcI.more (h:RcI w wr O B2 l n j m S vw ws vo vs os) {m2:Nat} (hm:m≤m2):RcI w wr O B2 l n j m2 S vw ws vo vs os:=
 ⟨h.bw,h.oge,h.olt,h.b2,h.row,h.olen,h.ownv,h.wrow,h.wdv,h.wdu,h.wdz,Nat.le_trans h.wl hm,h.orow,h.vlen,h.outv⟩
theorem RcI.addWord {vw2 nv:Value} {a:Int} {c:Clk} (h:RcI w wr O B2 l n j m S vw ws vo vs os) (hv:OwnI wr w.heap.size 3 .i64 nv (tabI c n)) (hnew:∀q,q<ws.length→(ws.getD q noW).1≠a) (ho:OwnS w2 w.heap.size 60 2 vw2 (wRows ws ++ [[.int .i64 a,nv]])) (hg:wr.grownBy w2 vw.ownBlock) :
  RcI w w2 O B2 l n j (m+1) ⟨S.own,updI S.words a c⟩ vw2 (ws ++ [(a,nv)]) vo vs os:=by
 have hw0:=h.bw.size;have hI:∀{v:Value} {x:List Int},OwnI wr w.heap.size 3 .i64 v x→OwnI w2 w.heap.size 3 .i64 v x:=fun h2=>RcI.lists (w:=w) h2 hg (ownI_apart h2 h.wrow (by decide));have hold:∀q,q<ws.length→(ws ++ [(a,nv)]).getD q noW=ws.getD q noW:=fun q hq=>by
  rw [List.getD_eq_getElem?_getD,List.getElem?_append_left hq,← List.getD_eq_getElem?_getD]
 have hlast:(ws ++ [(a,nv)]).getD ws.length noW=(a,nv):=by
  rw [List.getD_eq_getElem?_getD,List.getElem?_append_right (Nat.le_refl _),Nat.sub_self];rfl
 refine ⟨h.bw.grown hg hw0 (fun k hk=>(h.wrow.lt k hk).1),h.oge,h.olt,Nat.le_trans h.b2 hg.size,h.row.kept hg (h.row.apart h.wrow (by decide)),h.olen,fun t ht=>hI (h.ownv t ht),?_,fun q hq=>?_,fun p q hpq hq=>?_,fun b hb i=>?_,?_,h.orow.kept hg (h.orow.apart h.wrow (by decide)),h.vlen,fun q hq=>hI (h.outv q hq)⟩
 ·have e:wRows (ws ++ [(a,nv)])=wRows ws ++ [[.int .i64 a,nv]]:=by simp [wRows]
  rw [e];exact ho
 ·rw [List.length_append,List.length_singleton] at hq
  rcases Nat.lt_succ_iff_lt_or_eq.1 hq with hq | rfl
  ·rw [hold q hq]
   have h2:=hI (h.wdv q hq);show OwnI _ _ _ _ _ (tabI (updI S.words a c _) n);unfold updI;rw [if_neg (hnew q hq)];exact h2
  ·rw [hlast]
   show OwnI _ _ _ _ _ (tabI (updI S.words a c a) n);unfold updI;rw [if_pos rfl];exact hI hv
 ·rw [List.length_append,List.length_singleton] at hq
  rcases Nat.lt_succ_iff_lt_or_eq.1 hq with hq | rfl
  ·rw [hold q hq,hold p (by omega)]
   exact h.wdu p q hpq hq
  ·rw [hlast,hold p hpq]
   exact hnew p hpq
 ·have h1:=hb ws.length (by simp)
  rw [hlast] at h1;show updI S.words a c b i=0;unfold updI;rw [if_neg (fun e=>h1 e.symm)];refine h.wdz b (fun q hq=>?_) i;have h2:=hb q (by simp; omega);rw [hold q hq] at h2;exact h2
 ·rw [List.length_append,List.length_singleton]
  have:=h.wl;omega
theorem RcI.setWord {g cap k:Nat} {nv:Value} {a:Int} {c:Clk} (h:RcI w wr O B2 l n j m S (.slice (some ⟨g,0,none⟩) ws.length cap) ws vo vs os) (hv:OwnI wr w.heap.size 3 .i64 nv (tabI c n)) (hn1:nv.oneCell'=true) (hk:k<ws.length) (ha:(ws.getD k noW).1=a) :
  RcI w (wr.setCell ⟨g,k * 2+1,none⟩ nv) O B2 l n j m ⟨S.own,updI S.words a c⟩ (.slice (some ⟨g,0,none⟩) ws.length cap) (ws.set k (a,nv)) vo vs os:=by
 have hw0:=h.bw.size;have hg:=grownBy_setCell wr ⟨g,k * 2+1,none⟩ nv;have hob:(Value.slice (some ⟨g,0,none⟩) ws.length cap).ownBlock=some g:=rfl;have hI:∀{v:Value} {x:List Int},OwnI wr w.heap.size 3 .i64 v x→OwnI (wr.setCell ⟨g,k * 2+1,none⟩ nv) w.heap.size 3 .i64 v x:=fun h2=>RcI.lists (w:=w) h2 hg (ownI_apart h2 h.wrow (by decide));have hget:∀q,q<ws.length→(ws.set k (a,nv)).getD q noW=if k=q then (a,nv) else ws.getD q noW:=fun q hq=>by
  rw [List.getD_eq_getElem?_getD,List.getElem?_set,List.getD_eq_getElem?_getD];by_cases e:k=q
  ·subst e
   simp [hk]
  ·rw [if_neg e,if_neg e]
 have hfst:∀q,q<ws.length→((ws.set k (a,nv)).getD q noW).1=(ws.getD q noW).1:=fun q hq=>by
  rw [hget q hq];split
  ·next e=>rw [← e]; exact ha.symm
  ·rfl
 refine ⟨h.bw.grown hg hw0 (fun b hb=>(h.wrow.lt b (hob.trans hb)).1),h.oge,h.olt,Nat.le_trans h.b2 hg.size,h.row.kept hg (h.row.apart h.wrow (by decide)),h.olen,fun t ht=>hI (h.ownv t ht),?_,fun q hq=>?_,fun p q hpq hq=>?_,fun b hb i=>?_,by rw [List.length_set]; exact h.wl,h.orow.kept hg (h.orow.apart h.wrow (by decide)),h.vlen,fun q hq=>hI (h.outv q hq)⟩
 ·have h2:=h.wrow.setCell k (by rw [wRows_len]; exact hk) [.int .i64 a] [] (ws.getD k noW).2 nv (by
   have h3:=wRows_get ws hk;rw [List.getD_eq_getElem?_getD,List.getElem?_eq_getElem (by rw [wRows_len]; exact hk)] at h3;rw [ha] at h3;exact h3) hn1
  have e:wRows (ws.set k (a,nv))=(wRows ws).set k [.int .i64 a,nv]:=by
   unfold wRows;rw [List.map_set]
  rw [e];exact h2
 ·rw [List.length_set] at hq
  rw [hfst q hq];show OwnI _ _ _ _ _ (tabI (updI S.words a c _) n);rw [hget q hq];unfold updI;by_cases e:k=q
  ·subst e
   rw [if_pos rfl,if_pos ha];exact hI hv
  ·rw [if_neg e,if_neg (fun e2=>by
    rcases Nat.lt_or_gt_of_ne e with h3 | h3
    ·exact h.wdu k q h3 hq (ha.trans e2.symm)
    ·exact h.wdu q k h3 hk (e2.trans ha.symm))]
   exact hI (h.wdv q hq)
 ·rw [List.length_set] at hq
  rw [hfst p (by omega),hfst q hq];exact h.wdu p q hpq hq
 ·have h1:=hb k (by rw [List.length_set]; exact hk)
  rw [hfst k hk,ha] at h1;show updI S.words a c b i=0;unfold updI;rw [if_neg (fun e=>h1 e.symm)];refine h.wdz b (fun q hq=>?_) i;have h2:=hb q (by rw [List.length_set]; exact hq);rw [hfst q hq] at h2;exact h2
theorem RcI.setOwn {t:Nat} {nv:Value} {c:Clk} (h:RcI w wr O B2 l n j m S vw ws vo vs os) (hv:OwnI wr w.heap.size 3 .i64 nv (tabI c n)) (hn1:nv.oneCell'=true) (ht:t<n) :
  RcI w (wr.setCell ⟨O,t,none⟩ nv) O B2 l n j m ⟨updN S.own t c,S.words⟩ vw ws vo vs (os.set t nv):=by
 have hw0:=h.bw.size;have hg:=grownBy_setCell wr ⟨O,t,none⟩ nv;have hob:(Value.slice (some ⟨O,0,none⟩) n n).ownBlock=some O:=rfl;have hol:=h.olen;have hI:∀{v:Value} {x:List Int},OwnI wr w.heap.size 3 .i64 v x→OwnI (wr.setCell ⟨O,t,none⟩ nv) w.heap.size 3 .i64 v x:=fun h2=>RcI.lists (w:=w) h2 hg (ownI_apart h2 h.row (by decide));refine ⟨h.bw.grown hg hw0 (fun b hb=>(h.row.lt b (hob.trans hb)).1),h.oge,h.olt,Nat.le_trans h.b2 hg.size,?_,by rw [List.length_set]; exact hol,fun u hu=>?_,h.wrow.kept hg (h.wrow.apart h.row (by decide)),fun q hq=>hI (h.wdv q hq),h.wdu,h.wdz,h.wl,h.orow.kept hg h.oapart,h.vlen,fun q hq=>hI (h.outv q hq)⟩
 ·have h2:=h.row.setCell t (by rw [List.length_map,hol]; exact ht) [] [] (os.getD t (.slice none 0 0)) nv (by
   rw [List.getElem_map,List.getD_eq_getElem?_getD,List.getElem?_eq_getElem (by rw [hol]; exact ht)];rfl) hn1
  rw [List.map_set];simpa using h2
 ·show OwnI _ _ _ _ _ (tabI (updN S.own t c u) n)
  unfold updN;rw [List.getD_eq_getElem?_getD,List.getElem?_set];by_cases e:t=u
  ·subst e
   rw [if_pos rfl,if_pos rfl,if_pos (by rw [hol]; exact ht)];exact hI hv
  ·rw [if_neg e,if_neg (fun e2=>e e2.symm),← List.getD_eq_getElem?_getD]
   exact hI (h.ownv u hu)
theorem RcI.addOut {vo2 nv:Value} (h:RcI w wr O B2 l n j m S vw ws vo vs os) (hv:OwnI wr w.heap.size 3 .i64 nv (clkI l j n)) (ho:OwnS w2 B2 36 1 vo2 (vs.map (fun v=>[v]) ++ [[nv]])) (hg:wr.grownBy w2 vo.ownBlock) :
  RcI w w2 O B2 l n (j+1) m S vw ws vo2 (vs ++ [nv]) os:=by
 have hw0:=h.bw.size;have hI:∀{v:Value} {x:List Int},OwnI wr w.heap.size 3 .i64 v x→OwnI w2 w.heap.size 3 .i64 v x:=fun h2=>RcI.lists (w:=w) h2 hg (ownI_apart h2 h.orow (by decide));have hne:(Value.slice (some ⟨O,0,none⟩) n n).ownBlock=none∨(Value.slice (some ⟨O,0,none⟩) n n).ownBlock≠vo.ownBlock:=by
  rcases h.oapart with h2 | h2
  ·exact .inr (by rw [h2]; simp [Value.ownBlock])
  ·exact .inr fun e=>h2 e.symm
 refine ⟨h.bw.grown hg hw0 (fun k hk=>Nat.le_trans h.oge (Nat.le_of_lt (Nat.lt_of_lt_of_le h.olt (h.orow.lt k hk).1))),h.oge,h.olt,Nat.le_trans h.b2 hg.size,h.row.kept hg hne,h.olen,fun t ht=>hI (h.ownv t ht),h.wrow.kept hg (h.wrow.apart h.orow (by decide)),fun q hq=>hI (h.wdv q hq),h.wdu,h.wdz,h.wl,by rw [List.map_append]; exact ho,by rw [List.length_append,h.vlen]; rfl,fun q hq=>?_⟩;rcases Nat.lt_succ_iff_lt_or_eq.1 hq with hq | rfl
 ·have e:(vs ++ [nv]).getD q (.slice none 0 0)=vs.getD q (.slice none 0 0):=by
   rw [List.getD_eq_getElem?_getD,List.getElem?_append_left (by rw [h.vlen]; exact hq),← List.getD_eq_getElem?_getD]
  rw [e];exact hI (h.outv q hq)
 ·have e:(vs ++ [nv]).getD q (.slice none 0 0)=nv:=by
   rw [List.getD_eq_getElem?_getD,List.getElem?_append_right (by rw [h.vlen]; exact Nat.le_refl _),h.vlen];simp
  rw [e];exact hI hv
end
theorem Try.info_ck2:(Try.prog.info? 60).map (fun i=>(i.zero,i.size,i.bytes))=some (some (.agg #[.int .i64 0,.slice none 0 0]),2,32):=by kernel_rfl
theorem wp_make_liK (w:World) {ops:Array Oper} {rest:List Oper} {o:Oper} {a:Act} {Q:Exit→Act→World→Prop}
  (hg:o.guard=none) (l c:Operand) (hop:o.op=Op.makeSlice 33 l c) (n:Nat) (L C:Int) (hl:a.eval l=.int .i64 L) (hc:a.eval c=.int .i64 C) (hL:L=n) (hC:C=n) (hn:n≤1000000)
  (hK:∀w',OwnS w' w.heap.size 36 1 (.slice (some ⟨w.heap.size,0,none⟩) n n) ((List.replicate n (Value.slice none 0 0)).map fun v=>[v])→Below w.heap.size w w'→wpList Try.prog ops Q rest (a.put o.dst (.slice (some ⟨w.heap.size,0,none⟩) n n)) w') :
  wpList Try.prog ops Q (o :: rest) a w:=by
 obtain ⟨i0,hi,hz0,hz1,hz2⟩:=info_parts Try.info_li;refine wpList_make_full w hg l c _ hop w.heap.size 36 i0 (Value.slice none 0 0) 1 Try.underlying33 hi hz0 hz1 _ _ _ _ n hl hc hL hC (by rw [hz2]; omega) (by unfold maxLen; omega) (Nat.le_refl _) fun w' h1 h2=>?_;refine hK w' ⟨fun r hr=>?_,?_⟩ ((Below.refl _ _).grown h2 (Nat.le_refl _) (fun k hk=>by cases hk))
 ·obtain ⟨v,hv,rfl⟩:=List.mem_map.1 hr
  rw [(List.mem_replicate.1 hv).2];exact ⟨rfl,fun u hu=>by rw [List.mem_singleton.1 hu]; rfl⟩
 ·rw [show (Value.slice none 0 0).cells=#[.slice none 0 0] from rfl,toList_madeCells_one',Nat.mul_one] at h1
  rw [List.length_map,List.length_replicate];have e:((List.replicate n (Value.slice none 0 0)).map fun v=>[v]).flatten=List.replicate n (Value.slice none 0 0):=by
   induction n with
   | zero=>rfl
   | succ n ih=>simp [List.replicate_succ]
  rw [e];exact h1
theorem tab_zero (n:Nat):tabI (fun _=>0) n=List.replicate n 0:=by
 unfold tabI;refine List.ext_getElem (by simp) fun i h1 h2=>?_;simp
structure RcA (w wr:World) (O n i:Nat) (os:List Value):Prop where
 bw:Below w.heap.size w wr
 olt:O<wr.heap.size
 row:OwnS wr w.heap.size 36 1 (.slice (some ⟨O,0,none⟩) n n) (os.map fun v=>[v])
 olen:os.length=n
 ownv:∀t,t<i→OwnI wr w.heap.size 3 .i64 (os.getD t (Value.slice none 0 0)) (tabI (fun _=>0) n)
theorem RcA.next {w wr w2:World} {O n i:Nat} {os:List Value} {nv:Value} (h:RcA w wr O n i os) (hb:Below wr.heap.size wr w2) (hv:OwnI w2 wr.heap.size 3 .i64 nv (List.replicate n 0)) (h1:nv.oneCell'=true) (hi:i<n):RcA w (w2.setCell ⟨O,i,none⟩ nv) O n (i+1) (os.set i nv):=by
 have hrow2:=h.row.below hb;have hw0:=(below_then h.bw hb).size;have hg:=grownBy_setCell w2 ⟨O,i,none⟩ nv;have hol:=h.olen;have hob:(Value.slice (some ⟨O,0,none⟩) n n).ownBlock=some O:=rfl;have hI:∀{v:Value} {x:List Int},OwnI w2 w.heap.size 3 .i64 v x→OwnI (w2.setCell ⟨O,i,none⟩ nv) w.heap.size 3 .i64 v x:=fun h2=>RcI.lists (w:=w) h2 hg (ownI_apart h2 hrow2 (by decide));refine ⟨(below_then h.bw hb).grown hg hw0 (fun b hb=>(hrow2.lt b (hob.trans hb)).1),Nat.lt_of_lt_of_le h.olt (Nat.le_trans hb.size hg.size),?_,by rw [List.length_set]; exact hol,fun t ht=>?_⟩
 ·have h2:=hrow2.setCell i (by rw [List.length_map,hol]; exact hi) [] [] (os.getD i (Value.slice none 0 0)) nv (by
   rw [List.getElem_map,List.getD_eq_getElem?_getD,List.getElem?_eq_getElem (by rw [hol]; exact hi)];rfl) h1
  rw [List.map_set];simpa using h2
 ·rw [List.getD_eq_getElem?_getD,List.getElem?_set]
  by_cases e:i=t
  ·subst e
   rw [if_pos rfl,if_pos (by rw [hol]; exact hi)];rw [tab_zero];exact hI (OwnI.baseK hv h.bw.size)
  ·rw [if_neg e,← List.getD_eq_getElem?_getD]
   exact hI (OwnI.belowK (h.ownv t (by omega)) hb)
theorem RcA.start {w wr:World} {O n:Nat} {os:List Value} {l:List ItemM} (h:RcA w wr O n n os) (ho:w.heap.size≤O):RcI w wr O wr.heap.size l n 0 0 (hbAll (l.take 0)) (Value.slice none 0 0) [] (Value.slice none 0 0) [] os:=
 ⟨h.bw,ho,h.olt,Nat.le_refl _,h.row,h.olen,fun t ht=>h.ownv t ht,OwnS.nil _ _ _ _,fun q hq=>absurd hq (Nat.not_lt_zero _),fun p q _ hq=>absurd hq (Nat.not_lt_zero _),fun a _ i=>rfl,Nat.le_refl _,OwnS.nil _ _ _ _,rfl,fun q hq=>absurd hq (Nat.not_lt_zero _)⟩
theorem RcI.done {w wr:World} {O B2 n m:Nat} {l:List ItemM} {S:HbS} {vw:Value} {ws:List (Int × Value)} {vo:Value} {vs os:List Value} (h:RcI w wr O B2 l n l.length m S vw ws vo vs os):ClkI w wr l n l.length vo vs:=
 ⟨h.bw,h.vlen,h.orow.base (Nat.le_trans h.oge (Nat.le_of_lt h.olt)),h.outv⟩
theorem now_miss {S:HbS} {x:ItemM} (h:∀i,S.words x.acc.addr i=0) (h0:∀t i,0≤S.own t i):nowE S x=incC (S.own x.thr.toNat) x.thr.toNat:=by
 unfold nowE;split
 ·funext i
  unfold maxC;rw [h i];have:=h0 x.thr.toNat i;unfold incC;split <;> omega
 ·rfl
theorem now_rd {S:HbS} {x:ItemM} (h:rdB x=true):nowE S x=maxC (incC (S.own x.thr.toNat) x.thr.toNat) (S.words x.acc.addr):=by
 unfold nowE;rw [if_pos h]
theorem now_no {S:HbS} {x:ItemM} (h:rdB x=false):nowE S x=incC (S.own x.thr.toNat) x.thr.toNat:=by
 unfold nowE;rw [h];rfl
theorem tab_wrap {c:Clk} {n:Nat} {N:Int} (h:∀i,0≤c i∧c i≤N) (hN:N≤1000000):∀x∈tabI c n,x=IntKind.i64.wrap x:=fun x hx=>by
 unfold tabI at hx;obtain ⟨t,-,rfl⟩:=List.mem_map.1 hx;have:=h t;rw [IntKind.wrap_i64];omega
theorem row_getK (os:List Value) {t:Nat} (h:t<os.length) {h':t<(os.map fun v=>[v]).length}:(os.map fun v=>[v])[t]=[os.getD t (Value.slice none 0 0)]:=by
 rw [List.getElem_map,List.getD_eq_getElem?_getD,List.getElem?_eq_getElem h];rfl
theorem RcI.own_at {w wr:World} {O B2 n j m t:Nat} {l:List ItemM} {S:HbS} {vw:Value} {ws:List (Int × Value)} {vo:Value} {vs os:List Value} (h:RcI w wr O B2 l n j m S vw ws vo vs os) (ht:t<n):wr.cell? ⟨O,t,none⟩=some (os.getD t (Value.slice none 0 0)):=by
 have h2:=h.row.row t (by rw [List.length_map,h.olen]; exact ht);rw [row_getK os (by rw [h.olen]; exact ht)] at h2;have h3:=h2.1 0 (os.getD t (Value.slice none 0 0)) rfl;rw [Nat.mul_one,Nat.add_zero] at h3;exact h3
theorem tab_inc (c:Clk) (n t:Nat):(tabI c n).set t (c t+1)=tabI (incC c t) n:=by
 rw [tabI_set];congr 1;funext i
 unfold incC;split
 ·next h=>rw [h]
 ·rfl
theorem RcI.own_fr {w wr:World} {O B2 n j m t:Nat} {l:List ItemM} {S:HbS} {vw:Value} {ws:List (Int × Value)} {vo:Value} {vs os:List Value} (h:RcI w wr O B2 l n j m S vw ws vo vs os):wr.frozen? ⟨O,t,none⟩=false:=by
 rcases h.row.2.2 with ⟨h1,_⟩ | ⟨g,c2,cur,h1,_,h2,_⟩
 ·simp at h1
 ·simp only [Value.slice.injEq,Option.some.injEq,Addr.mk.injEq] at h1
  obtain ⟨⟨rfl,-,-⟩,-⟩:=h1;exact frozen_of_row _ _ t _ _ h2
theorem RcI.word_at {w wr:World} {O B2 n j m k g cap:Nat} {l:List ItemM} {S:HbS} {ws:List (Int × Value)} {vo:Value} {vs os:List Value} (h:RcI w wr O B2 l n j m S (.slice (some ⟨g,0,none⟩) ws.length cap) ws vo vs os) (hk:k<ws.length):wr.cell? ⟨g,k * 2+1,none⟩=some (ws.getD k noW).2∧wr.frozen? ⟨g,k * 2+1,none⟩=false:=by
 refine ⟨?_,?_⟩
 ·have h2:=h.wrow.row k (by rw [wRows_len]; exact hk)
  have e:=wRows_get ws hk;rw [List.getD_eq_getElem?_getD,List.getElem?_eq_getElem (by rw [wRows_len]; exact hk)] at e;have e2:(wRows ws)[k]'(by rw [wRows_len]; exact hk)=[.int .i64 (ws.getD k noW).1,(ws.getD k noW).2]:=e;rw [e2] at h2;exact h2.1 1 _ rfl
 ·rcases h.wrow.2.2 with ⟨h1,_⟩ | ⟨g',c2,cur,h1,_,h2,_⟩
  ·simp at h1
  ·simp only [Value.slice.injEq,Option.some.injEq,Addr.mk.injEq] at h1
   obtain ⟨⟨rfl,-,-⟩,-⟩:=h1;exact frozen_of_row _ _ (k * 2+1) _ _ h2
set_option maxRecDepth 100000 in
set_option maxHeartbeats 16000000 in
theorem rclocks_any (l:List ItemM) (n:Nat) (v:Value) (w:World) (hv:SlT w v l) (hn:1≤n∧n≤8) (hth:∀x∈l,0≤x.thr∧x.thr<(n:Int)) (hl:l.length≤1000):Calls Try.prog 13 #[v,.int .i64 (n:Int)] w fun e w'=>∃r,e=.returned r∧∃vs,ClkI w w' l n l.length r vs:=by
 have HV:=Lib.hid hv;have HTH:=Lib.hid hth;obtain ⟨va,cap,rfl,hcap⟩:=hv.len;obtain ⟨m,hm⟩:∃m,l.length=m:=⟨_,rfl⟩;have HM:=Lib.hid hm;rw [hm] at HV hl hcap ⊢;obtain ⟨hn1,hn8⟩:=hn;clear hv hth hm;go_enter Try.func13,Try.ntmps13;go_wp2_with (at_make; refine wp_make_liK w rfl _ _ rfl n _ _ rfl rfl rfl rfl (by omega) ?_; intro w1 ho1 hb1);have HA0:Hid (RcA w w1 w.heap.size n 0 (List.replicate n (Value.slice none 0 0))):=⟨hb1,(ho1.lt _ rfl).2,ho1,by simp,fun t ht=>absurd ht (Nat.not_lt_zero _)⟩;clear ho1 hb1;obtain ⟨O,hO⟩:∃O,w.heap.size=O:=⟨_,rfl⟩;rw [hO] at HA0 ⊢;have HO:=Lib.hid hO;clear hO;go_wp2_with fail;go_loopw [6] (fun u6 wr=>∃(i:Nat) (os:List Value),u6=.int .i64 (i:Int)∧i≤n∧Hid (RcA w wr O n i os)) (fun u6 _=>n - (intOf u6).toNat)
 case atStart=>exact ⟨0,_,rfl,by omega,HA0⟩
 case round=>
  clear HA0;obtain ⟨i,os,rfl,hi,HA⟩:=hrel;obtain ⟨wi,rfl⟩:∃wi:World,wi=wr:=⟨_,rfl⟩;by_cases hlt:i<n
  ·have hltI:(i:Int)<(n:Int):=by omega
   have f1:∀w',Below wi.heap.size wi w'→w'.cell? ⟨O,i,none⟩=some (os.getD i (Value.slice none 0 0))∧w'.frozen? ⟨O,i,none⟩=false:=fun w' hb=>by
    have hr2:=HA.out.row.below hb;refine ⟨?_,?_⟩
    ·have h2:=hr2.row i (by rw [List.length_map,HA.out.olen]; exact hlt)
     rw [row_getK os (by rw [HA.out.olen]; exact hlt)] at h2;have h3:=h2.1 0 (os.getD i (Value.slice none 0 0)) rfl;rw [Nat.mul_one,Nat.add_zero] at h3;exact h3
    ·rcases hr2.2.2 with ⟨h1,_⟩ | ⟨g,c2,cur,h1,_,h2,_⟩
     ·simp at h1
     ·simp only [Value.slice.injEq,Option.some.injEq,Addr.mk.injEq] at h1
      obtain ⟨⟨rfl,-,-⟩,-⟩:=h1;exact frozen_of_row _ _ i _ _ h2
   have HF:=Lib.hid f1;clear f1;go_wp2_with (at_make; refine wp_make_i64 wi rfl _ _ rfl n _ _ rfl rfl rfl rfl (by omega) ?_; intro w2 ho2 hb2; obtain ⟨c1,f1⟩:=HF.out w2 hb2; have HA2:=Lib.hid (HA.out.next hb2 ho2 rfl hlt); clear ho2 hb2);go_roundw
   case rel=>exact ⟨i+1,_,by go_num,by omega,HA2⟩
   case measure=>simp [intOf]; omega
  ·have e:i=n:=by omega
   subst e;have HR0:=Lib.hid (HA.out.start (l:=l) (HO.out▸Nat.le_refl _));have HZ0:Hid (wi.heap.size≤wi.heap.size):=Nat.le_refl _;obtain ⟨B2,hB2⟩:∃B2,wi.heap.size=B2:=⟨_,rfl⟩;rw [hB2] at HR0;have hn:i=i:=rfl;clear HA HZ0 hB2 hlt hi hn;go_wp2_with fail;go_loopw [7,8,9] (fun u7 u8 u9 wr=>∃(j:Nat) (ws:List (Int × Value)) (vs os:List Value),u9=.int .i64 (j:Int)∧j≤m∧Hid (RcI w wr O B2 l i j j (hbAll (l.take j)) u7 ws u8 vs os)) (fun _ _ u9 _=>m - (intOf u9).toNat)
   case atStart=>exact ⟨0,_,_,_,rfl,by omega,HR0⟩
   case round=>
    clear HR0;obtain ⟨j,ws,vs,os,rfl,hj,RI⟩:=hrel;obtain ⟨vw,rfl⟩:∃z,z=u7:=⟨_,rfl⟩;obtain ⟨vo,rfl⟩:∃z,z=u8:=⟨_,rfl⟩;obtain ⟨wo,rfl⟩:∃wo:World,wo=wr:=⟨_,rfl⟩;by_cases hlt:j<m
    ·have hltI:(j:Int)<(m:Int):=by omega
     have HLT:Hid (j<l.length):=HM.out.symm▸hlt;obtain ⟨bl,ol,cl,hve,hcl,hbl,kl⟩:=(HV.out.below RI.out.bw).atK (by have:=HLT.out; omega);rw [HM.out] at hve;simp only [Value.slice.injEq] at hve;obtain ⟨hv1,-,hv3⟩:=hve;subst hv1;subst hv3;obtain ⟨x,hx⟩:∃x,l.getD j noItem=x:=⟨_,rfl⟩;have hx3:=HTH.out x (by
      rw [← hx,List.getD_eq_getElem?_getD,List.getElem?_eq_getElem HLT.out];exact List.getElem_mem HLT.out)
     have KS0:=fun w' hb=>kl j w' HLT.out hb x hx;have HX:=Lib.hid hx;obtain ⟨xt,⟨k,a,od,nw,ti⟩,vl,ok⟩:=x;dsimp only at hx3 KS0;obtain ⟨th,rfl⟩:∃th:Nat,xt=th:=⟨xt.toNat,by omega⟩;have htn:th<i:=by omega
     have htI:(th:Int)<(i:Int):=by omega
     have KS:Hid (∀w',Below wo.heap.size wo w'→(fun w':World=>w'.cell? ⟨bl,ol+j * 8,none⟩=some (.int .i64 (th:Int))∧w'.cell? ⟨bl,ol+j * 8+1,none⟩=some (.int .i64 k)∧w'.cell? ⟨bl,ol+j * 8+2,none⟩=some (.int .i64 a)∧w'.cell? ⟨bl,ol+j * 8+3,none⟩=some (.int .u64 od)∧w'.cell? ⟨bl,ol+j * 8+4,none⟩=some (.int .u64 nw)∧w'.cell? ⟨bl,ol+j * 8+5,none⟩=some (.int .i64 ti)) w'):=fun w' hb=>by
      obtain ⟨d0,d1,d2,d3,d4,d5,d6,d7⟩:=KS0 w' hb;exact ⟨d0,d1,d2,d3,d4,d5⟩
     have KO:=Lib.hid fun w' hb=>(KS0 w' hb).2.2.2.2.2.2.2;have HBL:=Lib.hid hbl;have hbk:=Lib.hid (hbAll_ok (l.take j));obtain ⟨S,hS⟩:∃S,hbAll (l.take j)=S:=⟨_,rfl⟩;have HS:=Lib.hid hS;rw [hS] at RI hbk;have hln:(l.take j).length≤1000:=by rw [List.length_take]; omega
     have HBO:Hid ((∀t i,0≤S.own t i∧S.own t i≤1000)∧∀a i,0≤S.words a i∧S.words a i≤1000):=⟨fun t i=>by have:=hbk.out.1 t i; omega,fun a i=>by have:=hbk.out.2 a i; omega⟩;clear KS0 hbl kl hx hS hbk hln hx3;go_upto_region 11 with fail
     go_cut [10,11] (fun s10 s11 wx=>∃bx:Nat,s10=.int .i64 (th:Int)∧s11=.pointer (some ⟨bx,0,none⟩)∧Hid (Below wo.heap.size wo wx)∧Hid (wx.heap[bx]?=some (.cells #[.int .i64 k,.int .i64 a,.int .u64 od,.int .u64 nw,.int .i64 ti] 28 (0,0))))
     case first=>
      refine wp_region_until (fun w':World=>w'.cell? ⟨bl,ol+j * 8,none⟩=some (.int .i64 (th:Int))∧w'.cell? ⟨bl,ol+j * 8+1,none⟩=some (.int .i64 k)∧w'.cell? ⟨bl,ol+j * 8+2,none⟩=some (.int .i64 a)∧w'.cell? ⟨bl,ol+j * 8+3,none⟩=some (.int .u64 od)∧w'.cell? ⟨bl,ol+j * 8+4,none⟩=some (.int .u64 nw)∧w'.cell? ⟨bl,ol+j * 8+5,none⟩=some (.int .i64 ti)) 12 13 (by kernel_rfl) rfl ?_;obtain ⟨u0,hu0,hU0⟩:=drew_pack wo;rw [hu0];clear hu0;have hSU0:=KS.out _ hU0.out;apply tkV 0 hSU0 rfl (by kernel_rfl) (fun _ _ _ h=>h) rfl;intro w hSw;(go_simp<;>with_reducible rfl);simp only [J0,J1,J2,J3,J4];apply tkV 1 hSU0 rfl (by kernel_rfl) (fun _ _ _ h=>h) rfl;intro w hSw;(go_simp<;>with_reducible rfl);simp only [J0,J1,J2,J3,J4];apply tkV 2 hSU0 rfl (by kernel_rfl) (fun _ _ _ h=>h) rfl;intro w hSw;(go_simp<;>with_reducible rfl);simp only [J0,J1,J2,J3,J4];apply tkV 3 hSU0 rfl (by kernel_rfl) (fun _ _ _ h=>h) rfl;intro w hSw;(go_simp<;>with_reducible rfl);simp only [J0,J1,J2,J3,J4];apply tkV 4 hSU0 rfl (by kernel_rfl) (fun _ _ _ h=>h) rfl;intro w hSw;(go_simp<;>with_reducible rfl);simp only [J0,J1,J2,J3,J4];apply tkV 5 hSU0 rfl (by kernel_rfl) (fun _ _ _ h=>h) rfl;intro w hSw;(go_simp<;>with_reducible rfl);simp only [J0,J1,J2,J3,J4];apply tkV 6 hSU0 rfl (by kernel_rfl) (fun _ _ _ h=>h) rfl;intro w hSw;(go_simp<;>with_reducible rfl);simp only [J0,J1,J2,J3,J4];apply tkV 7 hSU0 rfl (by kernel_rfl) (fun _ _ _ h=>h) rfl;intro w hSw;(go_simp<;>with_reducible rfl);simp only [J0,J1,J2,J3,J4];apply tkV 8 hSU0 rfl (by kernel_rfl) (fun _ _ _ h=>h) rfl;intro w hSw;(go_simp<;>with_reducible rfl);simp only [J0,J1,J2,J3,J4];apply tkV 9 hSU0 rfl (by kernel_rfl) (fun _ _ _ h=>h) rfl;intro w hSw;(go_simp<;>with_reducible rfl);simp only [J0,J1,J2,J3,J4];refine consU 10 rfl (by kernel_rfl) rfl fun K hK=>?_;go_simp;obtain ⟨v1,bx,hv,hXe,RX,hbX,ltX⟩:=alloc_pack u0 (.cells #[.int .i64 0,.int .i64 0,.int .u64 0,.int .u64 0,.int .i64 0] 28);rw [hv,hXe];have hbx:Hid (wo.heap.size≤bx):=by have h2:=hU0.out.size; show _≤_; rw [← hXe]; exact h2
      have HBX:=Lib.hid (below_then hU0.out hbX.out);clear hv hXe hbX;refine hK.out _ _ ?_ fun hSU1=>?_;exact KS.out _ HBX.out;clear hK K hSU0;(try simp only [J0,J1,J2,J3,J4]);apply tkV 11 hSU1 rfl (by kernel_rfl) (fun _ _ _ h=>h) rfl;intro w hSw;(go_simp<;>with_reducible rfl);simp only [J0,J1,J2,J3,J4];refine freeU 12 rfl (by kernel_rfl) rfl (by kernel_rfl) fun K hK=>?_;refine step_store_row (by rfl) 28 _ _ (by rfl) bx #[.int .i64 k,.int .i64 a,.int .u64 od,.int .u64 nw,.int .i64 ti] (by rfl) (by rfl) 28 _ RX.out (by kernel_rfl) rfl (by simp [Value.oneCell']) ?_;obtain ⟨v2,hv2⟩:∃z,v1.setRow bx #[.int .i64 k,.int .i64 a,.int .u64 od,.int .u64 nw,.int .i64 ti]=z:=⟨_,rfl⟩;have RX2:Hid (v2.heap[bx]?=some (.cells #[.int .i64 k,.int .i64 a,.int .u64 od,.int .u64 nw,.int .i64 ti] 28 (0,0))):=hv2▸setRow_heap _ _ _ _ _ (0,0) RX.out;have HB2:Hid (Below wo.heap.size wo v2):=hv2▸row_below HBX.out hbx.out _;rw [hv2];clear hv2;refine hK.out _ _ ?_;clear hK K hSU1;(try simp only [J0,J1,J2,J3,J4]);refine wpAnyU_done (by kernel_rfl) ?_ _;go_wp2_with fail;go_meet;exact ⟨bx,rfl,rfl,HB2,RX2⟩
     obtain ⟨bx,rfl,rfl,HB2,RX⟩:=hcut;obtain ⟨wx,rfl⟩:∃wx:World,wx=wc:=⟨_,rfl⟩;have RI:=Lib.hid (RI.out.below HB2.out);have HWX:Hid (w.heap.size≤wx.heap.size):=RI.out.bw.size;have c0:=RI.out.own_at htn;obtain ⟨ov,hov⟩:∃z,os.getD th (Value.slice none 0 0)=z:=⟨_,rfl⟩;have HOV:Hid (SlI wx .i64 ov (tabI (S.own th) i)):=hov▸(RI.out.ownv th htn).read (by rw [tabI_len]; omega) (tab_wrap (HBO.out.1 th) (by decide));rw [hov] at c0;clear hov;go_upto_region 13 with (at_builtin; refine wp_copy_i64_any _ rfl _ _ rfl ov (tabI (S.own th) i) rfl rfl HOV.out (by rw [tabI_len]; omega) wx.heap.size (Nat.le_refl _) ?_; intro v3 w3 ho3 hb3)
     obtain ⟨g3,hv3,hg3⟩:∃g3,(∃c3,v3=.slice (some ⟨g3,0,none⟩) i c3)∧Hid (wx.heap.size≤g3):=by
      rcases ho3.shape with ⟨-,h2⟩ | ⟨g,cap,h1,h2,-⟩
      ·exact absurd (congrArg List.length h2) (by rw [tabI_len]; simp; omega)
      ·rw [tabI_len] at h1
       exact ⟨g,⟨cap,h1⟩,h2⟩
     obtain ⟨c3,rfl⟩:=hv3;obtain ⟨k3,f3⟩:=ho3.cell th (by rw [tabI_len]; exact htn);rw [tabI_get _ htn] at k3;obtain ⟨y,hy⟩:∃y,S.own th th=y:=⟨_,rfl⟩;have hyb:=HBO.out.1 th th;rw [hy] at k3 hyb;have q1:IntKind.i64.wrap (y+1)=y+1:=by rw [IntKind.wrap_i64]; omega
     obtain ⟨w4,hw4⟩:∃w4,w3.setCell ⟨g3,th,none⟩ (.int .i64 (y+1))=w4:=⟨_,rfl⟩;have HNV0:Hid (OwnI w4 wx.heap.size 3 .i64 (.slice (some ⟨g3,0,none⟩) i c3) (tabI (incC (S.own th) th) i)):=by
      have h2:=OwnI.store ho3 th (y+1) (by rw [tabI_len]);rw [← hy,tab_inc,hy,hw4] at h2;exact h2
     have HB4:Hid (Below wx.heap.size wx w4):=hw4▸hb3.setCell (p:=⟨g3,th,none⟩) hg3.out _;have HW4:=Lib.hid hw4;clear hw4 ho3 hb3 hyb hy HOV;go_upto_region 14 with fail
     rw [HW4.out];have RI:=Lib.hid (RI.out.below HB4.out);have RX:=Lib.hid (row_below3k HB4.out RX.out);have HNV:Hid (OwnI w4 w.heap.size 3 .i64 (.slice (some ⟨g3,0,none⟩) i c3) (tabI (incC (S.own th) th) i)):=OwnI.baseK HNV0.out HWX.out;have HBW:=Lib.hid (below_then HB2.out HB4.out);have HSZ4:Hid (wx.heap.size≤w4.heap.size):=HB4.out.size;clear HNV0 HW4 k3 f3 q1 c0 HB4;obtain ⟨b0,b1,b2,b3,b4⟩:=rowc5 RX.out;have TF:=Lib.hid (rfind_any vw ws a w4 (RI.out.wrow.sls (by rw [wRows_len]; have:=RI.out.wl; omega)) (by have:=RI.out.wl; omega));go_wp2_with fail;refine TF.out.mono ?_; rintro e w5 ⟨r,rfl,hr,hb5⟩;have RI:=Lib.hid (RI.out.below hb5);have RX:=Lib.hid (row_below3k hb5 RX.out);have HNV:=Lib.hid (OwnI.belowK HNV.out hb5);have HBW:=Lib.hid (below_then HBW.out hb5);have HSZ:Hid (wx.heap.size≤w5.heap.size):=Nat.le_trans HSZ4.out hb5.size;clear hb5 TF b0 b1 b2 b3 b4;obtain ⟨b0,b1,b2,b3,b4⟩:=rowc5 RX.out;have o7:=KO.out w5 HBW.out;have HC:Hid (clkI l j i=tabI (nowE S ⟨(th:Int),⟨k,a,od,nw,ti⟩,vl,ok⟩) i):=by
      show tabI (nowE (hbAll (l.take j)) (l.getD j noItem)) i=_;rw [HS.out,HX.out]
     have HN1:Hid (hbAll (l.take (j+1))=hbStep S ⟨(th:Int),⟨k,a,od,nw,ti⟩,vl,ok⟩):=by
      show _=_;rw [hbAll_succ HLT.out,HS.out,HX.out]
     clear HX HS HLT KS;rcases hr with ⟨rfl,hno⟩ | ⟨kf,rfl,hkf,hka⟩
     ·rcases (show k=1∨k=4∨k=2∨k=3∨(k≠1∧k≠2∧k≠3∧k≠4) by omega) with rfl | rfl | rfl | rfl | ⟨h1,h2,h3,h4⟩
      ·have HEQ:Hid (nowE S (⟨(th:Int),⟨1,a,od,nw,ti⟩,vl,ok⟩:ItemM)=incC (S.own th) th):=now_miss (x:=(⟨(th:Int),⟨1,a,od,nw,ti⟩,vl,ok⟩:ItemM)) (RI.out.wdz a hno) (fun t q=>(HBO.out.1 t q).1)
       have HNC:Hid (OwnI w5 w.heap.size 3 .i64 (.slice (some ⟨g3,0,none⟩) i c3) (tabI (nowE S (⟨(th:Int),⟨1,a,od,nw,ti⟩,vl,ok⟩:ItemM)) i)):=by rw [HEQ.out]; exact HNV.out
       clear HNV HEQ;have RI7:=Lib.hid (RI.out.more (Nat.le_succ j));have HNC7:=HNC;obtain ⟨w7,rfl⟩:∃w7:World,w7=w5:=⟨_,rfl⟩;clear RI HNC;go_upto_region 21 with fail
       have e8:=RI7.out.own_at htn;have f8:=RI7.out.own_fr (t:=th);obtain ⟨w8,hw8⟩:∃w8,w7.setCell ⟨O,th,none⟩ (.slice (some ⟨g3,0,none⟩) i c3)=w8:=⟨_,rfl⟩;have RI8:=RI7.out.setOwn HNC7.out rfl htn;rw [hw8] at RI8;have HNC8:Hid (OwnI w8 w.heap.size 3 .i64 (.slice (some ⟨g3,0,none⟩) i c3) (clkI l j i)):=by rw [HC.out]; exact hw8▸RcI.lists (w:=w) HNC7.out (grownBy_setCell _ _ _) (ownI_apart HNC7.out RI7.out.row (by decide))
       have HW8:=Lib.hid hw8;have RI8:=Lib.hid RI8;clear hw8 RI7 HNC7;go_upto_region 22 with fail
       rw [HW8.out];obtain ⟨Wm,hWm⟩:∃Wm,w8.alloc (.cells #[(.slice (some ⟨g3,0,none⟩) i c3)] 36)=Wm:=⟨_,rfl⟩;have HBm:Hid (Below w8.heap.size w8 Wm):=hWm▸below_new (Below.refl _ _) _;have Rm:Hid (Wm.heap[w8.heap.size]?=some (.cells #[(.slice (some ⟨g3,0,none⟩) i c3)] 36 (0,0))):=hWm▸heap_alloc_new _ _;have HWm:=Lib.hid hWm;have RIm:=Lib.hid (RI8.out.below HBm.out);have HNm:=Lib.hid (OwnI.belowK HNC8.out HBm.out);clear hWm RI8 HNC8 e8 f8 HW8 b0 b1 b2 b3 b4 o7;go_wp2_with (first | (rw [HWm.out]) | refine wp_append_ss 33 (by kernel_rfl) Try.info_li rfl (by decide) (by decide) rfl _ _ rfl (by rfl) RIm.out.orow [[(.slice (some ⟨g3,0,none⟩) i c3)]] (fun r hr=>by rw [List.mem_singleton.1 hr]; exact ⟨rfl,fun u hu=>by rw [List.mem_singleton.1 hu]; rfl⟩) w8.heap.size 1 rfl (by rfl) Rm.out (by rw [List.length_map,RIm.out.vlen]; simp; omega) RIm.out.b2 ?_);intro vo9 w9 ho9 hg9;have RI9:=Lib.hid (RIm.out.addOut HNm.out ho9 hg9);have HSN:Hid (hbAll (l.take (j+1))=⟨updN S.own th (nowE S (⟨(th:Int),⟨1,a,od,nw,ti⟩,vl,ok⟩:ItemM)),S.words⟩):=by
        show _=_;rw [HN1.out];unfold hbStep;rw [show wrB (⟨(th:Int),⟨1,a,od,nw,ti⟩,vl,ok⟩:ItemM)=false by simp [wrB]];rfl
       clear ho9 hg9 RIm HNm Rm HWm HBm;go_wp2_with fail;go_roundw
       case rel=>exact ⟨j+1,_,_,_,by go_num,by omega,by rw [HSN.out]; exact RI9⟩
       case measure=>simp [intOf]; omega
      ·have HEQ:Hid (nowE S (⟨(th:Int),⟨4,a,od,nw,ti⟩,vl,ok⟩:ItemM)=incC (S.own th) th):=now_miss (x:=(⟨(th:Int),⟨4,a,od,nw,ti⟩,vl,ok⟩:ItemM)) (RI.out.wdz a hno) (fun t q=>(HBO.out.1 t q).1)
       have HNC:Hid (OwnI w5 w.heap.size 3 .i64 (.slice (some ⟨g3,0,none⟩) i c3) (tabI (nowE S (⟨(th:Int),⟨4,a,od,nw,ti⟩,vl,ok⟩:ItemM)) i)):=by rw [HEQ.out]; exact HNV.out
       clear HNV HEQ;have RI7:=Lib.hid (RI.out.more (Nat.le_succ j));have HNC7:=HNC;obtain ⟨w7,rfl⟩:∃w7:World,w7=w5:=⟨_,rfl⟩;clear RI HNC;go_upto_region 21 with fail
       have e8:=RI7.out.own_at htn;have f8:=RI7.out.own_fr (t:=th);obtain ⟨w8,hw8⟩:∃w8,w7.setCell ⟨O,th,none⟩ (.slice (some ⟨g3,0,none⟩) i c3)=w8:=⟨_,rfl⟩;have RI8:=RI7.out.setOwn HNC7.out rfl htn;rw [hw8] at RI8;have HNC8:Hid (OwnI w8 w.heap.size 3 .i64 (.slice (some ⟨g3,0,none⟩) i c3) (clkI l j i)):=by rw [HC.out]; exact hw8▸RcI.lists (w:=w) HNC7.out (grownBy_setCell _ _ _) (ownI_apart HNC7.out RI7.out.row (by decide))
       have HW8:=Lib.hid hw8;have RI8:=Lib.hid RI8;clear hw8 RI7 HNC7;go_upto_region 22 with fail
       rw [HW8.out];obtain ⟨Wm,hWm⟩:∃Wm,w8.alloc (.cells #[(.slice (some ⟨g3,0,none⟩) i c3)] 36)=Wm:=⟨_,rfl⟩;have HBm:Hid (Below w8.heap.size w8 Wm):=hWm▸below_new (Below.refl _ _) _;have Rm:Hid (Wm.heap[w8.heap.size]?=some (.cells #[(.slice (some ⟨g3,0,none⟩) i c3)] 36 (0,0))):=hWm▸heap_alloc_new _ _;have HWm:=Lib.hid hWm;have RIm:=Lib.hid (RI8.out.below HBm.out);have HNm:=Lib.hid (OwnI.belowK HNC8.out HBm.out);clear hWm RI8 HNC8 e8 f8 HW8 b0 b1 b2 b3 b4 o7;go_wp2_with (first | (rw [HWm.out]) | refine wp_append_ss 33 (by kernel_rfl) Try.info_li rfl (by decide) (by decide) rfl _ _ rfl (by rfl) RIm.out.orow [[(.slice (some ⟨g3,0,none⟩) i c3)]] (fun r hr=>by rw [List.mem_singleton.1 hr]; exact ⟨rfl,fun u hu=>by rw [List.mem_singleton.1 hu]; rfl⟩) w8.heap.size 1 rfl (by rfl) Rm.out (by rw [List.length_map,RIm.out.vlen]; simp; omega) RIm.out.b2 ?_);intro vo9 w9 ho9 hg9;have RI9:=Lib.hid (RIm.out.addOut HNm.out ho9 hg9);have HSN:Hid (hbAll (l.take (j+1))=⟨updN S.own th (nowE S (⟨(th:Int),⟨4,a,od,nw,ti⟩,vl,ok⟩:ItemM)),S.words⟩):=by
        show _=_;rw [HN1.out];unfold hbStep;rw [show wrB (⟨(th:Int),⟨4,a,od,nw,ti⟩,vl,ok⟩:ItemM)=false by simp [wrB]];rfl
       clear ho9 hg9 RIm HNm Rm HWm HBm;go_wp2_with fail;go_roundw
       case rel=>exact ⟨j+1,_,_,_,by go_num,by omega,by rw [HSN.out]; exact RI9⟩
       case measure=>simp [intOf]; omega
      ·have HEQ:Hid (nowE S (⟨(th:Int),⟨2,a,od,nw,ti⟩,vl,ok⟩:ItemM)=incC (S.own th) th):=now_no (x:=(⟨(th:Int),⟨2,a,od,nw,ti⟩,vl,ok⟩:ItemM)) (by simp [rdB])
       have HNC:Hid (OwnI w5 w.heap.size 3 .i64 (.slice (some ⟨g3,0,none⟩) i c3) (tabI (nowE S (⟨(th:Int),⟨2,a,od,nw,ti⟩,vl,ok⟩:ItemM)) i)):=by rw [HEQ.out]; exact HNV.out
       clear HNV HEQ;go_upto_region 19 with fail
       obtain ⟨Wl,hWl⟩:∃Wl,w5.alloc (.cells #[.int .i64 a,(.slice (some ⟨g3,0,none⟩) i c3)] 60)=Wl:=⟨_,rfl⟩;have HBl:Hid (Below w5.heap.size w5 Wl):=hWl▸below_new (Below.refl _ _) _;have Rl:Hid (Wl.heap[w5.heap.size]?=some (.cells #[.int .i64 a,(.slice (some ⟨g3,0,none⟩) i c3)] 60 (0,0))):=hWl▸heap_alloc_new _ _;have HWl:=Lib.hid hWl;have RIl:=Lib.hid (RI.out.below HBl.out);have HNl:=Lib.hid (OwnI.belowK HNC.out HBl.out);clear hWl RI HNC;go_wp2_with (first | (rw [HWl.out]) | refine wp_append_ss 56 (by kernel_rfl) Try.info_ck2 rfl (by decide) (by decide) rfl _ _ rfl (by rfl) RIl.out.wrow [[.int .i64 a,(.slice (some ⟨g3,0,none⟩) i c3)]] (fun r hr=>by rw [List.mem_singleton.1 hr]; exact ⟨rfl,fun u hu=>by simp only [List.mem_cons,List.not_mem_nil,or_false] at hu; rcases hu with rfl | rfl <;> rfl⟩) w5.heap.size 1 rfl (by rfl) Rl.out (by rw [wRows_len]; have:=RIl.out.wl; simp; omega) RIl.out.bw.size ?_);intro vw7 w7 ho7 hg7;have RI7:=Lib.hid (RIl.out.addWord HNl.out hno ho7 hg7);have HNC7:Hid (OwnI w7 w.heap.size 3 .i64 (.slice (some ⟨g3,0,none⟩) i c3) (tabI (nowE S (⟨(th:Int),⟨2,a,od,nw,ti⟩,vl,ok⟩:ItemM)) i)):=RcI.lists (w:=w) HNl.out hg7 (ownI_apart HNl.out RIl.out.wrow (by decide));clear ho7 hg7 RIl HNl Rl HWl HBl;go_upto_region 21 with fail
       have e8:=RI7.out.own_at htn;have f8:=RI7.out.own_fr (t:=th);obtain ⟨w8,hw8⟩:∃w8,w7.setCell ⟨O,th,none⟩ (.slice (some ⟨g3,0,none⟩) i c3)=w8:=⟨_,rfl⟩;have RI8:=RI7.out.setOwn HNC7.out rfl htn;rw [hw8] at RI8;have HNC8:Hid (OwnI w8 w.heap.size 3 .i64 (.slice (some ⟨g3,0,none⟩) i c3) (clkI l j i)):=by rw [HC.out]; exact hw8▸RcI.lists (w:=w) HNC7.out (grownBy_setCell _ _ _) (ownI_apart HNC7.out RI7.out.row (by decide))
       have HW8:=Lib.hid hw8;have RI8:=Lib.hid RI8;clear hw8 RI7 HNC7;go_upto_region 22 with fail
       rw [HW8.out];obtain ⟨Wm,hWm⟩:∃Wm,w8.alloc (.cells #[(.slice (some ⟨g3,0,none⟩) i c3)] 36)=Wm:=⟨_,rfl⟩;have HBm:Hid (Below w8.heap.size w8 Wm):=hWm▸below_new (Below.refl _ _) _;have Rm:Hid (Wm.heap[w8.heap.size]?=some (.cells #[(.slice (some ⟨g3,0,none⟩) i c3)] 36 (0,0))):=hWm▸heap_alloc_new _ _;have HWm:=Lib.hid hWm;have RIm:=Lib.hid (RI8.out.below HBm.out);have HNm:=Lib.hid (OwnI.belowK HNC8.out HBm.out);clear hWm RI8 HNC8 e8 f8 HW8 b0 b1 b2 b3 b4 o7;go_wp2_with (first | (rw [HWm.out]) | refine wp_append_ss 33 (by kernel_rfl) Try.info_li rfl (by decide) (by decide) rfl _ _ rfl (by rfl) RIm.out.orow [[(.slice (some ⟨g3,0,none⟩) i c3)]] (fun r hr=>by rw [List.mem_singleton.1 hr]; exact ⟨rfl,fun u hu=>by rw [List.mem_singleton.1 hu]; rfl⟩) w8.heap.size 1 rfl (by rfl) Rm.out (by rw [List.length_map,RIm.out.vlen]; simp; omega) RIm.out.b2 ?_);intro vo9 w9 ho9 hg9;have RI9:=Lib.hid (RIm.out.addOut HNm.out ho9 hg9);have HSN:Hid (hbAll (l.take (j+1))=⟨updN S.own th (nowE S (⟨(th:Int),⟨2,a,od,nw,ti⟩,vl,ok⟩:ItemM)),updI S.words a (nowE S (⟨(th:Int),⟨2,a,od,nw,ti⟩,vl,ok⟩:ItemM))⟩):=by
        show _=_;rw [HN1.out];unfold hbStep;rw [show wrB (⟨(th:Int),⟨2,a,od,nw,ti⟩,vl,ok⟩:ItemM)=true by simp [wrB]];rfl
       clear ho9 hg9 RIm HNm Rm HWm HBm;go_wp2_with fail;go_roundw
       case rel=>exact ⟨j+1,_,_,_,by go_num,by omega,by rw [HSN.out]; exact RI9⟩
       case measure=>simp [intOf]; omega
      ·cases ok with
       | true=>
        have HEQ:Hid (nowE S (⟨(th:Int),⟨3,a,od,nw,ti⟩,vl,true⟩:ItemM)=incC (S.own th) th):=now_miss (x:=(⟨(th:Int),⟨3,a,od,nw,ti⟩,vl,true⟩:ItemM)) (RI.out.wdz a hno) (fun t q=>(HBO.out.1 t q).1);have HNC:Hid (OwnI w5 w.heap.size 3 .i64 (.slice (some ⟨g3,0,none⟩) i c3) (tabI (nowE S (⟨(th:Int),⟨3,a,od,nw,ti⟩,vl,true⟩:ItemM)) i)):=by rw [HEQ.out]; exact HNV.out
        clear HNV HEQ;go_upto_region 19 with fail
        obtain ⟨Wl,hWl⟩:∃Wl,w5.alloc (.cells #[.int .i64 a,(.slice (some ⟨g3,0,none⟩) i c3)] 60)=Wl:=⟨_,rfl⟩;have HBl:Hid (Below w5.heap.size w5 Wl):=hWl▸below_new (Below.refl _ _) _;have Rl:Hid (Wl.heap[w5.heap.size]?=some (.cells #[.int .i64 a,(.slice (some ⟨g3,0,none⟩) i c3)] 60 (0,0))):=hWl▸heap_alloc_new _ _;have HWl:=Lib.hid hWl;have RIl:=Lib.hid (RI.out.below HBl.out);have HNl:=Lib.hid (OwnI.belowK HNC.out HBl.out);clear hWl RI HNC;go_wp2_with (first | (rw [HWl.out]) | refine wp_append_ss 56 (by kernel_rfl) Try.info_ck2 rfl (by decide) (by decide) rfl _ _ rfl (by rfl) RIl.out.wrow [[.int .i64 a,(.slice (some ⟨g3,0,none⟩) i c3)]] (fun r hr=>by rw [List.mem_singleton.1 hr]; exact ⟨rfl,fun u hu=>by simp only [List.mem_cons,List.not_mem_nil,or_false] at hu; rcases hu with rfl | rfl <;> rfl⟩) w5.heap.size 1 rfl (by rfl) Rl.out (by rw [wRows_len]; have:=RIl.out.wl; simp; omega) RIl.out.bw.size ?_);intro vw7 w7 ho7 hg7;have RI7:=Lib.hid (RIl.out.addWord HNl.out hno ho7 hg7);have HNC7:Hid (OwnI w7 w.heap.size 3 .i64 (.slice (some ⟨g3,0,none⟩) i c3) (tabI (nowE S (⟨(th:Int),⟨3,a,od,nw,ti⟩,vl,true⟩:ItemM)) i)):=RcI.lists (w:=w) HNl.out hg7 (ownI_apart HNl.out RIl.out.wrow (by decide));clear ho7 hg7 RIl HNl Rl HWl HBl;go_upto_region 21 with fail
        have e8:=RI7.out.own_at htn;have f8:=RI7.out.own_fr (t:=th);obtain ⟨w8,hw8⟩:∃w8,w7.setCell ⟨O,th,none⟩ (.slice (some ⟨g3,0,none⟩) i c3)=w8:=⟨_,rfl⟩;have RI8:=RI7.out.setOwn HNC7.out rfl htn;rw [hw8] at RI8;have HNC8:Hid (OwnI w8 w.heap.size 3 .i64 (.slice (some ⟨g3,0,none⟩) i c3) (clkI l j i)):=by rw [HC.out]; exact hw8▸RcI.lists (w:=w) HNC7.out (grownBy_setCell _ _ _) (ownI_apart HNC7.out RI7.out.row (by decide))
        have HW8:=Lib.hid hw8;have RI8:=Lib.hid RI8;clear hw8 RI7 HNC7;go_upto_region 22 with fail
        rw [HW8.out];obtain ⟨Wm,hWm⟩:∃Wm,w8.alloc (.cells #[(.slice (some ⟨g3,0,none⟩) i c3)] 36)=Wm:=⟨_,rfl⟩;have HBm:Hid (Below w8.heap.size w8 Wm):=hWm▸below_new (Below.refl _ _) _;have Rm:Hid (Wm.heap[w8.heap.size]?=some (.cells #[(.slice (some ⟨g3,0,none⟩) i c3)] 36 (0,0))):=hWm▸heap_alloc_new _ _;have HWm:=Lib.hid hWm;have RIm:=Lib.hid (RI8.out.below HBm.out);have HNm:=Lib.hid (OwnI.belowK HNC8.out HBm.out);clear hWm RI8 HNC8 e8 f8 HW8 b0 b1 b2 b3 b4 o7;go_wp2_with (first | (rw [HWm.out]) | refine wp_append_ss 33 (by kernel_rfl) Try.info_li rfl (by decide) (by decide) rfl _ _ rfl (by rfl) RIm.out.orow [[(.slice (some ⟨g3,0,none⟩) i c3)]] (fun r hr=>by rw [List.mem_singleton.1 hr]; exact ⟨rfl,fun u hu=>by rw [List.mem_singleton.1 hu]; rfl⟩) w8.heap.size 1 rfl (by rfl) Rm.out (by rw [List.length_map,RIm.out.vlen]; simp; omega) RIm.out.b2 ?_);intro vo9 w9 ho9 hg9;have RI9:=Lib.hid (RIm.out.addOut HNm.out ho9 hg9);have HSN:Hid (hbAll (l.take (j+1))=⟨updN S.own th (nowE S (⟨(th:Int),⟨3,a,od,nw,ti⟩,vl,true⟩:ItemM)),updI S.words a (nowE S (⟨(th:Int),⟨3,a,od,nw,ti⟩,vl,true⟩:ItemM))⟩):=by
         show _=_;rw [HN1.out];unfold hbStep;rw [show wrB (⟨(th:Int),⟨3,a,od,nw,ti⟩,vl,true⟩:ItemM)=true by simp [wrB]];rfl
        clear ho9 hg9 RIm HNm Rm HWm HBm;go_wp2_with fail;go_roundw
        case rel=>exact ⟨j+1,_,_,_,by go_num,by omega,by rw [HSN.out]; exact RI9⟩
        case measure=>simp [intOf]; omega
       | false=>
        have HEQ:Hid (nowE S (⟨(th:Int),⟨3,a,od,nw,ti⟩,vl,false⟩:ItemM)=incC (S.own th) th):=now_miss (x:=(⟨(th:Int),⟨3,a,od,nw,ti⟩,vl,false⟩:ItemM)) (RI.out.wdz a hno) (fun t q=>(HBO.out.1 t q).1);have HNC:Hid (OwnI w5 w.heap.size 3 .i64 (.slice (some ⟨g3,0,none⟩) i c3) (tabI (nowE S (⟨(th:Int),⟨3,a,od,nw,ti⟩,vl,false⟩:ItemM)) i)):=by rw [HEQ.out]; exact HNV.out
        clear HNV HEQ;have RI7:=Lib.hid (RI.out.more (Nat.le_succ j));have HNC7:=HNC;obtain ⟨w7,rfl⟩:∃w7:World,w7=w5:=⟨_,rfl⟩;clear RI HNC;go_upto_region 21 with fail
        have e8:=RI7.out.own_at htn;have f8:=RI7.out.own_fr (t:=th);obtain ⟨w8,hw8⟩:∃w8,w7.setCell ⟨O,th,none⟩ (.slice (some ⟨g3,0,none⟩) i c3)=w8:=⟨_,rfl⟩;have RI8:=RI7.out.setOwn HNC7.out rfl htn;rw [hw8] at RI8;have HNC8:Hid (OwnI w8 w.heap.size 3 .i64 (.slice (some ⟨g3,0,none⟩) i c3) (clkI l j i)):=by rw [HC.out]; exact hw8▸RcI.lists (w:=w) HNC7.out (grownBy_setCell _ _ _) (ownI_apart HNC7.out RI7.out.row (by decide))
        have HW8:=Lib.hid hw8;have RI8:=Lib.hid RI8;clear hw8 RI7 HNC7;go_upto_region 22 with fail
        rw [HW8.out];obtain ⟨Wm,hWm⟩:∃Wm,w8.alloc (.cells #[(.slice (some ⟨g3,0,none⟩) i c3)] 36)=Wm:=⟨_,rfl⟩;have HBm:Hid (Below w8.heap.size w8 Wm):=hWm▸below_new (Below.refl _ _) _;have Rm:Hid (Wm.heap[w8.heap.size]?=some (.cells #[(.slice (some ⟨g3,0,none⟩) i c3)] 36 (0,0))):=hWm▸heap_alloc_new _ _;have HWm:=Lib.hid hWm;have RIm:=Lib.hid (RI8.out.below HBm.out);have HNm:=Lib.hid (OwnI.belowK HNC8.out HBm.out);clear hWm RI8 HNC8 e8 f8 HW8 b0 b1 b2 b3 b4 o7;go_wp2_with (first | (rw [HWm.out]) | refine wp_append_ss 33 (by kernel_rfl) Try.info_li rfl (by decide) (by decide) rfl _ _ rfl (by rfl) RIm.out.orow [[(.slice (some ⟨g3,0,none⟩) i c3)]] (fun r hr=>by rw [List.mem_singleton.1 hr]; exact ⟨rfl,fun u hu=>by rw [List.mem_singleton.1 hu]; rfl⟩) w8.heap.size 1 rfl (by rfl) Rm.out (by rw [List.length_map,RIm.out.vlen]; simp; omega) RIm.out.b2 ?_);intro vo9 w9 ho9 hg9;have RI9:=Lib.hid (RIm.out.addOut HNm.out ho9 hg9);have HSN:Hid (hbAll (l.take (j+1))=⟨updN S.own th (nowE S (⟨(th:Int),⟨3,a,od,nw,ti⟩,vl,false⟩:ItemM)),S.words⟩):=by
         show _=_;rw [HN1.out];unfold hbStep;rw [show wrB (⟨(th:Int),⟨3,a,od,nw,ti⟩,vl,false⟩:ItemM)=false by simp [wrB]];rfl
        clear ho9 hg9 RIm HNm Rm HWm HBm;go_wp2_with fail;go_roundw
        case rel=>exact ⟨j+1,_,_,_,by go_num,by omega,by rw [HSN.out]; exact RI9⟩
        case measure=>simp [intOf]; omega
      ·have k1:=ne_beq h1
       have k2:=ne_beq h2;have k3:=ne_beq h3;have k4:=ne_beq h4;clear h1 h2 h3 h4;have HEQ:Hid (nowE S (⟨(th:Int),⟨k,a,od,nw,ti⟩,vl,ok⟩:ItemM)=incC (S.own th) th):=now_no (x:=(⟨(th:Int),⟨k,a,od,nw,ti⟩,vl,ok⟩:ItemM)) (by simp [rdB,k1,k3,k4]);have HNC:Hid (OwnI w5 w.heap.size 3 .i64 (.slice (some ⟨g3,0,none⟩) i c3) (tabI (nowE S (⟨(th:Int),⟨k,a,od,nw,ti⟩,vl,ok⟩:ItemM)) i)):=by rw [HEQ.out]; exact HNV.out
       clear HNV HEQ;have RI7:=Lib.hid (RI.out.more (Nat.le_succ j));have HNC7:=HNC;obtain ⟨w7,rfl⟩:∃w7:World,w7=w5:=⟨_,rfl⟩;clear RI HNC;go_upto_region 21 with fail
       have e8:=RI7.out.own_at htn;have f8:=RI7.out.own_fr (t:=th);obtain ⟨w8,hw8⟩:∃w8,w7.setCell ⟨O,th,none⟩ (.slice (some ⟨g3,0,none⟩) i c3)=w8:=⟨_,rfl⟩;have RI8:=RI7.out.setOwn HNC7.out rfl htn;rw [hw8] at RI8;have HNC8:Hid (OwnI w8 w.heap.size 3 .i64 (.slice (some ⟨g3,0,none⟩) i c3) (clkI l j i)):=by rw [HC.out]; exact hw8▸RcI.lists (w:=w) HNC7.out (grownBy_setCell _ _ _) (ownI_apart HNC7.out RI7.out.row (by decide))
       have HW8:=Lib.hid hw8;have RI8:=Lib.hid RI8;clear hw8 RI7 HNC7;go_upto_region 22 with fail
       rw [HW8.out];obtain ⟨Wm,hWm⟩:∃Wm,w8.alloc (.cells #[(.slice (some ⟨g3,0,none⟩) i c3)] 36)=Wm:=⟨_,rfl⟩;have HBm:Hid (Below w8.heap.size w8 Wm):=hWm▸below_new (Below.refl _ _) _;have Rm:Hid (Wm.heap[w8.heap.size]?=some (.cells #[(.slice (some ⟨g3,0,none⟩) i c3)] 36 (0,0))):=hWm▸heap_alloc_new _ _;have HWm:=Lib.hid hWm;have RIm:=Lib.hid (RI8.out.below HBm.out);have HNm:=Lib.hid (OwnI.belowK HNC8.out HBm.out);clear hWm RI8 HNC8 e8 f8 HW8 b0 b1 b2 b3 b4 o7;go_wp2_with (first | (rw [HWm.out]) | refine wp_append_ss 33 (by kernel_rfl) Try.info_li rfl (by decide) (by decide) rfl _ _ rfl (by rfl) RIm.out.orow [[(.slice (some ⟨g3,0,none⟩) i c3)]] (fun r hr=>by rw [List.mem_singleton.1 hr]; exact ⟨rfl,fun u hu=>by rw [List.mem_singleton.1 hu]; rfl⟩) w8.heap.size 1 rfl (by rfl) Rm.out (by rw [List.length_map,RIm.out.vlen]; simp; omega) RIm.out.b2 ?_);intro vo9 w9 ho9 hg9;have RI9:=Lib.hid (RIm.out.addOut HNm.out ho9 hg9);have HSN:Hid (hbAll (l.take (j+1))=⟨updN S.own th (nowE S (⟨(th:Int),⟨k,a,od,nw,ti⟩,vl,ok⟩:ItemM)),S.words⟩):=by
        show _=_;rw [HN1.out];unfold hbStep;rw [show wrB (⟨(th:Int),⟨k,a,od,nw,ti⟩,vl,ok⟩:ItemM)=false by simp [wrB,k2,k3]];rfl
       clear ho9 hg9 RIm HNm Rm HWm HBm;go_wp2_with fail;go_roundw
       case rel=>exact ⟨j+1,_,_,_,by go_num,by omega,by rw [HSN.out]; exact RI9⟩
       case measure=>simp [intOf]; omega
     ·rcases (show k=1∨k=4∨k=2∨k=3∨(k≠1∧k≠2∧k≠3∧k≠4) by omega) with rfl | rfl | rfl | rfl | ⟨h1,h2,h3,h4⟩
      ·obtain ⟨gw,cw,hvw,hgw⟩:∃gw cw,vw=.slice (some ⟨gw,0,none⟩) ws.length cw∧Hid (w.heap.size≤gw):=by
        rcases RI.out.wrow.shape with ⟨-,h2⟩ | ⟨g,cap,h1,h2,-⟩
        ·have h3:=congrArg List.length h2
         rw [wRows_len,List.length_nil] at h3;omega
        ·rw [wRows_len] at h1; exact ⟨g,cap,h1,h2⟩
       subst hvw;have hkI:(kf:Int)<(ws.length:Int):=by omega
       obtain ⟨e2,-⟩:=RI.out.word_at hkf;have hwv:=RI.out.wdv kf hkf;rw [hka] at hwv;obtain ⟨av,hav⟩:∃z,(ws.getD kf noW).2=z:=⟨_,rfl⟩;rw [hav] at hwv e2;have TJ:=Lib.hid (rjoin_any (.slice (some ⟨g3,0,none⟩) i c3) av i _ _ w5 (HNV.out.read (by rw [tabI_len]; omega) (tab_wrap (N:=1001) (fun q=>by have h1:=HBO.out.1 th q; unfold incC; split <;> omega) (by decide))) (hwv.read (by rw [tabI_len]; omega) (tab_wrap (HBO.out.2 a) (by decide))) (by omega));clear hav hwv;go_wp2_with fail;refine TJ.out.mono ?_; rintro e w6 ⟨nv,rfl,ho6,hb6⟩;have RI:=Lib.hid (RI.out.below hb6);have RX:=Lib.hid (row_below3k hb6 RX.out);have HBW:=Lib.hid (below_then HBW.out hb6);have HEQ:Hid (nowE S (⟨(th:Int),⟨1,a,od,nw,ti⟩,vl,ok⟩:ItemM)=maxC (incC (S.own th) th) (S.words a)):=now_rd (x:=(⟨(th:Int),⟨1,a,od,nw,ti⟩,vl,ok⟩:ItemM)) (by simp [rdB]);have HNC:Hid (OwnI w6 w.heap.size 3 .i64 nv (tabI (nowE S (⟨(th:Int),⟨1,a,od,nw,ti⟩,vl,ok⟩:ItemM)) i)):=by rw [HEQ.out]; exact OwnI.baseK ho6 (Nat.le_trans HWX.out HSZ.out)
       obtain ⟨p6,c6,hnv⟩:=HNC.out.lenK;rw [tabI_len] at hnv;subst hnv;clear ho6 hb6 TJ e2 b0 b1 b2 b3 b4 o7;obtain ⟨b0,b1,b2,b3,b4⟩:=rowc5 RX.out;have o7:=KO.out w6 HBW.out;clear HNV HEQ;have RI7:=Lib.hid (RI.out.more (Nat.le_succ j));have HNC7:=HNC;obtain ⟨w7,rfl⟩:∃w7:World,w7=w6:=⟨_,rfl⟩;clear RI HNC;go_upto_region 21 with fail
       have e8:=RI7.out.own_at htn;have f8:=RI7.out.own_fr (t:=th);obtain ⟨w8,hw8⟩:∃w8,w7.setCell ⟨O,th,none⟩ (.slice p6 i c6)=w8:=⟨_,rfl⟩;have RI8:=RI7.out.setOwn HNC7.out rfl htn;rw [hw8] at RI8;have HNC8:Hid (OwnI w8 w.heap.size 3 .i64 (.slice p6 i c6) (clkI l j i)):=by rw [HC.out]; exact hw8▸RcI.lists (w:=w) HNC7.out (grownBy_setCell _ _ _) (ownI_apart HNC7.out RI7.out.row (by decide))
       have HW8:=Lib.hid hw8;have RI8:=Lib.hid RI8;clear hw8 RI7 HNC7;go_upto_region 22 with fail
       rw [HW8.out];obtain ⟨Wm,hWm⟩:∃Wm,w8.alloc (.cells #[(.slice p6 i c6)] 36)=Wm:=⟨_,rfl⟩;have HBm:Hid (Below w8.heap.size w8 Wm):=hWm▸below_new (Below.refl _ _) _;have Rm:Hid (Wm.heap[w8.heap.size]?=some (.cells #[(.slice p6 i c6)] 36 (0,0))):=hWm▸heap_alloc_new _ _;have HWm:=Lib.hid hWm;have RIm:=Lib.hid (RI8.out.below HBm.out);have HNm:=Lib.hid (OwnI.belowK HNC8.out HBm.out);clear hWm RI8 HNC8 e8 f8 HW8 b0 b1 b2 b3 b4 o7;go_wp2_with (first | (rw [HWm.out]) | refine wp_append_ss 33 (by kernel_rfl) Try.info_li rfl (by decide) (by decide) rfl _ _ rfl (by rfl) RIm.out.orow [[(.slice p6 i c6)]] (fun r hr=>by rw [List.mem_singleton.1 hr]; exact ⟨rfl,fun u hu=>by rw [List.mem_singleton.1 hu]; rfl⟩) w8.heap.size 1 rfl (by rfl) Rm.out (by rw [List.length_map,RIm.out.vlen]; simp; omega) RIm.out.b2 ?_);intro vo9 w9 ho9 hg9;have RI9:=Lib.hid (RIm.out.addOut HNm.out ho9 hg9);have HSN:Hid (hbAll (l.take (j+1))=⟨updN S.own th (nowE S (⟨(th:Int),⟨1,a,od,nw,ti⟩,vl,ok⟩:ItemM)),S.words⟩):=by
        show _=_;rw [HN1.out];unfold hbStep;rw [show wrB (⟨(th:Int),⟨1,a,od,nw,ti⟩,vl,ok⟩:ItemM)=false by simp [wrB]];rfl
       clear ho9 hg9 RIm HNm Rm HWm HBm;go_wp2_with fail;go_roundw
       case rel=>exact ⟨j+1,_,_,_,by go_num,by omega,by rw [HSN.out]; exact RI9⟩
       case measure=>simp [intOf]; omega
      ·obtain ⟨gw,cw,hvw,hgw⟩:∃gw cw,vw=.slice (some ⟨gw,0,none⟩) ws.length cw∧Hid (w.heap.size≤gw):=by
        rcases RI.out.wrow.shape with ⟨-,h2⟩ | ⟨g,cap,h1,h2,-⟩
        ·have h3:=congrArg List.length h2
         rw [wRows_len,List.length_nil] at h3;omega
        ·rw [wRows_len] at h1; exact ⟨g,cap,h1,h2⟩
       subst hvw;have hkI:(kf:Int)<(ws.length:Int):=by omega
       obtain ⟨e2,-⟩:=RI.out.word_at hkf;have hwv:=RI.out.wdv kf hkf;rw [hka] at hwv;obtain ⟨av,hav⟩:∃z,(ws.getD kf noW).2=z:=⟨_,rfl⟩;rw [hav] at hwv e2;have TJ:=Lib.hid (rjoin_any (.slice (some ⟨g3,0,none⟩) i c3) av i _ _ w5 (HNV.out.read (by rw [tabI_len]; omega) (tab_wrap (N:=1001) (fun q=>by have h1:=HBO.out.1 th q; unfold incC; split <;> omega) (by decide))) (hwv.read (by rw [tabI_len]; omega) (tab_wrap (HBO.out.2 a) (by decide))) (by omega));clear hav hwv;go_wp2_with fail;refine TJ.out.mono ?_; rintro e w6 ⟨nv,rfl,ho6,hb6⟩;have RI:=Lib.hid (RI.out.below hb6);have RX:=Lib.hid (row_below3k hb6 RX.out);have HBW:=Lib.hid (below_then HBW.out hb6);have HEQ:Hid (nowE S (⟨(th:Int),⟨4,a,od,nw,ti⟩,vl,ok⟩:ItemM)=maxC (incC (S.own th) th) (S.words a)):=now_rd (x:=(⟨(th:Int),⟨4,a,od,nw,ti⟩,vl,ok⟩:ItemM)) (by simp [rdB]);have HNC:Hid (OwnI w6 w.heap.size 3 .i64 nv (tabI (nowE S (⟨(th:Int),⟨4,a,od,nw,ti⟩,vl,ok⟩:ItemM)) i)):=by rw [HEQ.out]; exact OwnI.baseK ho6 (Nat.le_trans HWX.out HSZ.out)
       obtain ⟨p6,c6,hnv⟩:=HNC.out.lenK;rw [tabI_len] at hnv;subst hnv;clear ho6 hb6 TJ e2 b0 b1 b2 b3 b4 o7;obtain ⟨b0,b1,b2,b3,b4⟩:=rowc5 RX.out;have o7:=KO.out w6 HBW.out;clear HNV HEQ;have RI7:=Lib.hid (RI.out.more (Nat.le_succ j));have HNC7:=HNC;obtain ⟨w7,rfl⟩:∃w7:World,w7=w6:=⟨_,rfl⟩;clear RI HNC;go_upto_region 21 with fail
       have e8:=RI7.out.own_at htn;have f8:=RI7.out.own_fr (t:=th);obtain ⟨w8,hw8⟩:∃w8,w7.setCell ⟨O,th,none⟩ (.slice p6 i c6)=w8:=⟨_,rfl⟩;have RI8:=RI7.out.setOwn HNC7.out rfl htn;rw [hw8] at RI8;have HNC8:Hid (OwnI w8 w.heap.size 3 .i64 (.slice p6 i c6) (clkI l j i)):=by rw [HC.out]; exact hw8▸RcI.lists (w:=w) HNC7.out (grownBy_setCell _ _ _) (ownI_apart HNC7.out RI7.out.row (by decide))
       have HW8:=Lib.hid hw8;have RI8:=Lib.hid RI8;clear hw8 RI7 HNC7;go_upto_region 22 with fail
       rw [HW8.out];obtain ⟨Wm,hWm⟩:∃Wm,w8.alloc (.cells #[(.slice p6 i c6)] 36)=Wm:=⟨_,rfl⟩;have HBm:Hid (Below w8.heap.size w8 Wm):=hWm▸below_new (Below.refl _ _) _;have Rm:Hid (Wm.heap[w8.heap.size]?=some (.cells #[(.slice p6 i c6)] 36 (0,0))):=hWm▸heap_alloc_new _ _;have HWm:=Lib.hid hWm;have RIm:=Lib.hid (RI8.out.below HBm.out);have HNm:=Lib.hid (OwnI.belowK HNC8.out HBm.out);clear hWm RI8 HNC8 e8 f8 HW8 b0 b1 b2 b3 b4 o7;go_wp2_with (first | (rw [HWm.out]) | refine wp_append_ss 33 (by kernel_rfl) Try.info_li rfl (by decide) (by decide) rfl _ _ rfl (by rfl) RIm.out.orow [[(.slice p6 i c6)]] (fun r hr=>by rw [List.mem_singleton.1 hr]; exact ⟨rfl,fun u hu=>by rw [List.mem_singleton.1 hu]; rfl⟩) w8.heap.size 1 rfl (by rfl) Rm.out (by rw [List.length_map,RIm.out.vlen]; simp; omega) RIm.out.b2 ?_);intro vo9 w9 ho9 hg9;have RI9:=Lib.hid (RIm.out.addOut HNm.out ho9 hg9);have HSN:Hid (hbAll (l.take (j+1))=⟨updN S.own th (nowE S (⟨(th:Int),⟨4,a,od,nw,ti⟩,vl,ok⟩:ItemM)),S.words⟩):=by
        show _=_;rw [HN1.out];unfold hbStep;rw [show wrB (⟨(th:Int),⟨4,a,od,nw,ti⟩,vl,ok⟩:ItemM)=false by simp [wrB]];rfl
       clear ho9 hg9 RIm HNm Rm HWm HBm;go_wp2_with fail;go_roundw
       case rel=>exact ⟨j+1,_,_,_,by go_num,by omega,by rw [HSN.out]; exact RI9⟩
       case measure=>simp [intOf]; omega
      ·obtain ⟨gw,cw,hvw,hgw⟩:∃gw cw,vw=.slice (some ⟨gw,0,none⟩) ws.length cw∧Hid (w.heap.size≤gw):=by
        rcases RI.out.wrow.shape with ⟨-,h2⟩ | ⟨g,cap,h1,h2,-⟩
        ·have h3:=congrArg List.length h2
         rw [wRows_len,List.length_nil] at h3;omega
        ·rw [wRows_len] at h1; exact ⟨g,cap,h1,h2⟩
       subst hvw;have hkI:(kf:Int)<(ws.length:Int):=by omega
       have HEQ:Hid (nowE S (⟨(th:Int),⟨2,a,od,nw,ti⟩,vl,ok⟩:ItemM)=incC (S.own th) th):=now_no (x:=(⟨(th:Int),⟨2,a,od,nw,ti⟩,vl,ok⟩:ItemM)) (by simp [rdB]);have HNC:Hid (OwnI w5 w.heap.size 3 .i64 (.slice (some ⟨g3,0,none⟩) i c3) (tabI (nowE S (⟨(th:Int),⟨2,a,od,nw,ti⟩,vl,ok⟩:ItemM)) i)):=by rw [HEQ.out]; exact HNV.out
       clear HNV HEQ;obtain ⟨e5,f5⟩:=RI.out.word_at hkf;go_upto_region 20 with fail
       obtain ⟨w7,hw7⟩:∃w7,w5.setCell ⟨gw,kf * 2+1,none⟩ (.slice (some ⟨g3,0,none⟩) i c3)=w7:=⟨_,rfl⟩;have RI7:=RI.out.setWord HNC.out rfl hkf hka;rw [hw7] at RI7;have HNC7:Hid (OwnI w7 w.heap.size 3 .i64 (.slice (some ⟨g3,0,none⟩) i c3) (tabI (nowE S (⟨(th:Int),⟨2,a,od,nw,ti⟩,vl,ok⟩:ItemM)) i)):=hw7▸RcI.lists (w:=w) HNC.out (grownBy_setCell _ _ _) (ownI_apart HNC.out RI.out.wrow (by decide));have HW7:=Lib.hid hw7;have RI7:=Lib.hid (RI7.more (Nat.le_succ j));clear hw7;go_upto_region 21 with fail
       rw [HW7.out];clear HW7 e5 f5 RI HNC;have e8:=RI7.out.own_at htn;have f8:=RI7.out.own_fr (t:=th);obtain ⟨w8,hw8⟩:∃w8,w7.setCell ⟨O,th,none⟩ (.slice (some ⟨g3,0,none⟩) i c3)=w8:=⟨_,rfl⟩;have RI8:=RI7.out.setOwn HNC7.out rfl htn;rw [hw8] at RI8;have HNC8:Hid (OwnI w8 w.heap.size 3 .i64 (.slice (some ⟨g3,0,none⟩) i c3) (clkI l j i)):=by rw [HC.out]; exact hw8▸RcI.lists (w:=w) HNC7.out (grownBy_setCell _ _ _) (ownI_apart HNC7.out RI7.out.row (by decide))
       have HW8:=Lib.hid hw8;have RI8:=Lib.hid RI8;clear hw8 RI7 HNC7;go_upto_region 22 with fail
       rw [HW8.out];obtain ⟨Wm,hWm⟩:∃Wm,w8.alloc (.cells #[(.slice (some ⟨g3,0,none⟩) i c3)] 36)=Wm:=⟨_,rfl⟩;have HBm:Hid (Below w8.heap.size w8 Wm):=hWm▸below_new (Below.refl _ _) _;have Rm:Hid (Wm.heap[w8.heap.size]?=some (.cells #[(.slice (some ⟨g3,0,none⟩) i c3)] 36 (0,0))):=hWm▸heap_alloc_new _ _;have HWm:=Lib.hid hWm;have RIm:=Lib.hid (RI8.out.below HBm.out);have HNm:=Lib.hid (OwnI.belowK HNC8.out HBm.out);clear hWm RI8 HNC8 e8 f8 HW8 b0 b1 b2 b3 b4 o7;go_wp2_with (first | (rw [HWm.out]) | refine wp_append_ss 33 (by kernel_rfl) Try.info_li rfl (by decide) (by decide) rfl _ _ rfl (by rfl) RIm.out.orow [[(.slice (some ⟨g3,0,none⟩) i c3)]] (fun r hr=>by rw [List.mem_singleton.1 hr]; exact ⟨rfl,fun u hu=>by rw [List.mem_singleton.1 hu]; rfl⟩) w8.heap.size 1 rfl (by rfl) Rm.out (by rw [List.length_map,RIm.out.vlen]; simp; omega) RIm.out.b2 ?_);intro vo9 w9 ho9 hg9;have RI9:=Lib.hid (RIm.out.addOut HNm.out ho9 hg9);have HSN:Hid (hbAll (l.take (j+1))=⟨updN S.own th (nowE S (⟨(th:Int),⟨2,a,od,nw,ti⟩,vl,ok⟩:ItemM)),updI S.words a (nowE S (⟨(th:Int),⟨2,a,od,nw,ti⟩,vl,ok⟩:ItemM))⟩):=by
        show _=_;rw [HN1.out];unfold hbStep;rw [show wrB (⟨(th:Int),⟨2,a,od,nw,ti⟩,vl,ok⟩:ItemM)=true by simp [wrB]];rfl
       clear ho9 hg9 RIm HNm Rm HWm HBm;go_wp2_with fail;go_roundw
       case rel=>exact ⟨j+1,_,_,_,by go_num,by omega,by rw [HSN.out]; exact RI9⟩
       case measure=>simp [intOf]; omega
      ·cases ok with
       | true=>
        obtain ⟨gw,cw,hvw,hgw⟩:∃gw cw,vw=.slice (some ⟨gw,0,none⟩) ws.length cw∧Hid (w.heap.size≤gw):=by
         rcases RI.out.wrow.shape with ⟨-,h2⟩ | ⟨g,cap,h1,h2,-⟩
         ·have h3:=congrArg List.length h2
          rw [wRows_len,List.length_nil] at h3;omega
         ·rw [wRows_len] at h1; exact ⟨g,cap,h1,h2⟩
        subst hvw;have hkI:(kf:Int)<(ws.length:Int):=by omega
        obtain ⟨e2,-⟩:=RI.out.word_at hkf;have hwv:=RI.out.wdv kf hkf;rw [hka] at hwv;obtain ⟨av,hav⟩:∃z,(ws.getD kf noW).2=z:=⟨_,rfl⟩;rw [hav] at hwv e2;have TJ:=Lib.hid (rjoin_any (.slice (some ⟨g3,0,none⟩) i c3) av i _ _ w5 (HNV.out.read (by rw [tabI_len]; omega) (tab_wrap (N:=1001) (fun q=>by have h1:=HBO.out.1 th q; unfold incC; split <;> omega) (by decide))) (hwv.read (by rw [tabI_len]; omega) (tab_wrap (HBO.out.2 a) (by decide))) (by omega));clear hav hwv;go_wp2_with fail;refine TJ.out.mono ?_; rintro e w6 ⟨nv,rfl,ho6,hb6⟩;have RI:=Lib.hid (RI.out.below hb6);have RX:=Lib.hid (row_below3k hb6 RX.out);have HBW:=Lib.hid (below_then HBW.out hb6);have HEQ:Hid (nowE S (⟨(th:Int),⟨3,a,od,nw,ti⟩,vl,true⟩:ItemM)=maxC (incC (S.own th) th) (S.words a)):=now_rd (x:=(⟨(th:Int),⟨3,a,od,nw,ti⟩,vl,true⟩:ItemM)) (by simp [rdB]);have HNC:Hid (OwnI w6 w.heap.size 3 .i64 nv (tabI (nowE S (⟨(th:Int),⟨3,a,od,nw,ti⟩,vl,true⟩:ItemM)) i)):=by rw [HEQ.out]; exact OwnI.baseK ho6 (Nat.le_trans HWX.out HSZ.out)
        obtain ⟨p6,c6,hnv⟩:=HNC.out.lenK;rw [tabI_len] at hnv;subst hnv;clear ho6 hb6 TJ e2 b0 b1 b2 b3 b4 o7;obtain ⟨b0,b1,b2,b3,b4⟩:=rowc5 RX.out;have o7:=KO.out w6 HBW.out;clear HNV HEQ;obtain ⟨e5,f5⟩:=RI.out.word_at hkf;go_upto_region 20 with fail
        obtain ⟨w7,hw7⟩:∃w7,w6.setCell ⟨gw,kf * 2+1,none⟩ (.slice p6 i c6)=w7:=⟨_,rfl⟩;have RI7:=RI.out.setWord HNC.out rfl hkf hka;rw [hw7] at RI7;have HNC7:Hid (OwnI w7 w.heap.size 3 .i64 (.slice p6 i c6) (tabI (nowE S (⟨(th:Int),⟨3,a,od,nw,ti⟩,vl,true⟩:ItemM)) i)):=hw7▸RcI.lists (w:=w) HNC.out (grownBy_setCell _ _ _) (ownI_apart HNC.out RI.out.wrow (by decide));have HW7:=Lib.hid hw7;have RI7:=Lib.hid (RI7.more (Nat.le_succ j));clear hw7;go_upto_region 21 with fail
        rw [HW7.out];clear HW7 e5 f5 RI HNC;have e8:=RI7.out.own_at htn;have f8:=RI7.out.own_fr (t:=th);obtain ⟨w8,hw8⟩:∃w8,w7.setCell ⟨O,th,none⟩ (.slice p6 i c6)=w8:=⟨_,rfl⟩;have RI8:=RI7.out.setOwn HNC7.out rfl htn;rw [hw8] at RI8;have HNC8:Hid (OwnI w8 w.heap.size 3 .i64 (.slice p6 i c6) (clkI l j i)):=by rw [HC.out]; exact hw8▸RcI.lists (w:=w) HNC7.out (grownBy_setCell _ _ _) (ownI_apart HNC7.out RI7.out.row (by decide))
        have HW8:=Lib.hid hw8;have RI8:=Lib.hid RI8;clear hw8 RI7 HNC7;go_upto_region 22 with fail
        rw [HW8.out];obtain ⟨Wm,hWm⟩:∃Wm,w8.alloc (.cells #[(.slice p6 i c6)] 36)=Wm:=⟨_,rfl⟩;have HBm:Hid (Below w8.heap.size w8 Wm):=hWm▸below_new (Below.refl _ _) _;have Rm:Hid (Wm.heap[w8.heap.size]?=some (.cells #[(.slice p6 i c6)] 36 (0,0))):=hWm▸heap_alloc_new _ _;have HWm:=Lib.hid hWm;have RIm:=Lib.hid (RI8.out.below HBm.out);have HNm:=Lib.hid (OwnI.belowK HNC8.out HBm.out);clear hWm RI8 HNC8 e8 f8 HW8 b0 b1 b2 b3 b4 o7;go_wp2_with (first | (rw [HWm.out]) | refine wp_append_ss 33 (by kernel_rfl) Try.info_li rfl (by decide) (by decide) rfl _ _ rfl (by rfl) RIm.out.orow [[(.slice p6 i c6)]] (fun r hr=>by rw [List.mem_singleton.1 hr]; exact ⟨rfl,fun u hu=>by rw [List.mem_singleton.1 hu]; rfl⟩) w8.heap.size 1 rfl (by rfl) Rm.out (by rw [List.length_map,RIm.out.vlen]; simp; omega) RIm.out.b2 ?_);intro vo9 w9 ho9 hg9;have RI9:=Lib.hid (RIm.out.addOut HNm.out ho9 hg9);have HSN:Hid (hbAll (l.take (j+1))=⟨updN S.own th (nowE S (⟨(th:Int),⟨3,a,od,nw,ti⟩,vl,true⟩:ItemM)),updI S.words a (nowE S (⟨(th:Int),⟨3,a,od,nw,ti⟩,vl,true⟩:ItemM))⟩):=by
         show _=_;rw [HN1.out];unfold hbStep;rw [show wrB (⟨(th:Int),⟨3,a,od,nw,ti⟩,vl,true⟩:ItemM)=true by simp [wrB]];rfl
        clear ho9 hg9 RIm HNm Rm HWm HBm;go_wp2_with fail;go_roundw
        case rel=>exact ⟨j+1,_,_,_,by go_num,by omega,by rw [HSN.out]; exact RI9⟩
        case measure=>simp [intOf]; omega
       | false=>
        obtain ⟨gw,cw,hvw,hgw⟩:∃gw cw,vw=.slice (some ⟨gw,0,none⟩) ws.length cw∧Hid (w.heap.size≤gw):=by
         rcases RI.out.wrow.shape with ⟨-,h2⟩ | ⟨g,cap,h1,h2,-⟩
         ·have h3:=congrArg List.length h2
          rw [wRows_len,List.length_nil] at h3;omega
         ·rw [wRows_len] at h1; exact ⟨g,cap,h1,h2⟩
        subst hvw;have hkI:(kf:Int)<(ws.length:Int):=by omega
        obtain ⟨e2,-⟩:=RI.out.word_at hkf;have hwv:=RI.out.wdv kf hkf;rw [hka] at hwv;obtain ⟨av,hav⟩:∃z,(ws.getD kf noW).2=z:=⟨_,rfl⟩;rw [hav] at hwv e2;have TJ:=Lib.hid (rjoin_any (.slice (some ⟨g3,0,none⟩) i c3) av i _ _ w5 (HNV.out.read (by rw [tabI_len]; omega) (tab_wrap (N:=1001) (fun q=>by have h1:=HBO.out.1 th q; unfold incC; split <;> omega) (by decide))) (hwv.read (by rw [tabI_len]; omega) (tab_wrap (HBO.out.2 a) (by decide))) (by omega));clear hav hwv;go_wp2_with fail;refine TJ.out.mono ?_; rintro e w6 ⟨nv,rfl,ho6,hb6⟩;have RI:=Lib.hid (RI.out.below hb6);have RX:=Lib.hid (row_below3k hb6 RX.out);have HBW:=Lib.hid (below_then HBW.out hb6);have HEQ:Hid (nowE S (⟨(th:Int),⟨3,a,od,nw,ti⟩,vl,false⟩:ItemM)=maxC (incC (S.own th) th) (S.words a)):=now_rd (x:=(⟨(th:Int),⟨3,a,od,nw,ti⟩,vl,false⟩:ItemM)) (by simp [rdB]);have HNC:Hid (OwnI w6 w.heap.size 3 .i64 nv (tabI (nowE S (⟨(th:Int),⟨3,a,od,nw,ti⟩,vl,false⟩:ItemM)) i)):=by rw [HEQ.out]; exact OwnI.baseK ho6 (Nat.le_trans HWX.out HSZ.out)
        obtain ⟨p6,c6,hnv⟩:=HNC.out.lenK;rw [tabI_len] at hnv;subst hnv;clear ho6 hb6 TJ e2 b0 b1 b2 b3 b4 o7;obtain ⟨b0,b1,b2,b3,b4⟩:=rowc5 RX.out;have o7:=KO.out w6 HBW.out;clear HNV HEQ;have RI7:=Lib.hid (RI.out.more (Nat.le_succ j));have HNC7:=HNC;obtain ⟨w7,rfl⟩:∃w7:World,w7=w6:=⟨_,rfl⟩;clear RI HNC;go_upto_region 21 with fail
        have e8:=RI7.out.own_at htn;have f8:=RI7.out.own_fr (t:=th);obtain ⟨w8,hw8⟩:∃w8,w7.setCell ⟨O,th,none⟩ (.slice p6 i c6)=w8:=⟨_,rfl⟩;have RI8:=RI7.out.setOwn HNC7.out rfl htn;rw [hw8] at RI8;have HNC8:Hid (OwnI w8 w.heap.size 3 .i64 (.slice p6 i c6) (clkI l j i)):=by rw [HC.out]; exact hw8▸RcI.lists (w:=w) HNC7.out (grownBy_setCell _ _ _) (ownI_apart HNC7.out RI7.out.row (by decide))
        have HW8:=Lib.hid hw8;have RI8:=Lib.hid RI8;clear hw8 RI7 HNC7;go_upto_region 22 with fail
        rw [HW8.out];obtain ⟨Wm,hWm⟩:∃Wm,w8.alloc (.cells #[(.slice p6 i c6)] 36)=Wm:=⟨_,rfl⟩;have HBm:Hid (Below w8.heap.size w8 Wm):=hWm▸below_new (Below.refl _ _) _;have Rm:Hid (Wm.heap[w8.heap.size]?=some (.cells #[(.slice p6 i c6)] 36 (0,0))):=hWm▸heap_alloc_new _ _;have HWm:=Lib.hid hWm;have RIm:=Lib.hid (RI8.out.below HBm.out);have HNm:=Lib.hid (OwnI.belowK HNC8.out HBm.out);clear hWm RI8 HNC8 e8 f8 HW8 b0 b1 b2 b3 b4 o7;go_wp2_with (first | (rw [HWm.out]) | refine wp_append_ss 33 (by kernel_rfl) Try.info_li rfl (by decide) (by decide) rfl _ _ rfl (by rfl) RIm.out.orow [[(.slice p6 i c6)]] (fun r hr=>by rw [List.mem_singleton.1 hr]; exact ⟨rfl,fun u hu=>by rw [List.mem_singleton.1 hu]; rfl⟩) w8.heap.size 1 rfl (by rfl) Rm.out (by rw [List.length_map,RIm.out.vlen]; simp; omega) RIm.out.b2 ?_);intro vo9 w9 ho9 hg9;have RI9:=Lib.hid (RIm.out.addOut HNm.out ho9 hg9);have HSN:Hid (hbAll (l.take (j+1))=⟨updN S.own th (nowE S (⟨(th:Int),⟨3,a,od,nw,ti⟩,vl,false⟩:ItemM)),S.words⟩):=by
         show _=_;rw [HN1.out];unfold hbStep;rw [show wrB (⟨(th:Int),⟨3,a,od,nw,ti⟩,vl,false⟩:ItemM)=false by simp [wrB]];rfl
        clear ho9 hg9 RIm HNm Rm HWm HBm;go_wp2_with fail;go_roundw
        case rel=>exact ⟨j+1,_,_,_,by go_num,by omega,by rw [HSN.out]; exact RI9⟩
        case measure=>simp [intOf]; omega
      ·have k1:=ne_beq h1
       have k2:=ne_beq h2;have k3:=ne_beq h3;have k4:=ne_beq h4;clear h1 h2 h3 h4;obtain ⟨gw,cw,hvw,hgw⟩:∃gw cw,vw=.slice (some ⟨gw,0,none⟩) ws.length cw∧Hid (w.heap.size≤gw):=by
        rcases RI.out.wrow.shape with ⟨-,h2⟩ | ⟨g,cap,h1,h2,-⟩
        ·have h3:=congrArg List.length h2
         rw [wRows_len,List.length_nil] at h3;omega
        ·rw [wRows_len] at h1; exact ⟨g,cap,h1,h2⟩
       subst hvw;have hkI:(kf:Int)<(ws.length:Int):=by omega
       have HEQ:Hid (nowE S (⟨(th:Int),⟨k,a,od,nw,ti⟩,vl,ok⟩:ItemM)=incC (S.own th) th):=now_no (x:=(⟨(th:Int),⟨k,a,od,nw,ti⟩,vl,ok⟩:ItemM)) (by simp [rdB,k1,k3,k4]);have HNC:Hid (OwnI w5 w.heap.size 3 .i64 (.slice (some ⟨g3,0,none⟩) i c3) (tabI (nowE S (⟨(th:Int),⟨k,a,od,nw,ti⟩,vl,ok⟩:ItemM)) i)):=by rw [HEQ.out]; exact HNV.out
       clear HNV HEQ;have RI7:=Lib.hid (RI.out.more (Nat.le_succ j));have HNC7:=HNC;obtain ⟨w7,rfl⟩:∃w7:World,w7=w5:=⟨_,rfl⟩;clear RI HNC;go_upto_region 21 with fail
       have e8:=RI7.out.own_at htn;have f8:=RI7.out.own_fr (t:=th);obtain ⟨w8,hw8⟩:∃w8,w7.setCell ⟨O,th,none⟩ (.slice (some ⟨g3,0,none⟩) i c3)=w8:=⟨_,rfl⟩;have RI8:=RI7.out.setOwn HNC7.out rfl htn;rw [hw8] at RI8;have HNC8:Hid (OwnI w8 w.heap.size 3 .i64 (.slice (some ⟨g3,0,none⟩) i c3) (clkI l j i)):=by rw [HC.out]; exact hw8▸RcI.lists (w:=w) HNC7.out (grownBy_setCell _ _ _) (ownI_apart HNC7.out RI7.out.row (by decide))
       have HW8:=Lib.hid hw8;have RI8:=Lib.hid RI8;clear hw8 RI7 HNC7;go_upto_region 22 with fail
       rw [HW8.out];obtain ⟨Wm,hWm⟩:∃Wm,w8.alloc (.cells #[(.slice (some ⟨g3,0,none⟩) i c3)] 36)=Wm:=⟨_,rfl⟩;have HBm:Hid (Below w8.heap.size w8 Wm):=hWm▸below_new (Below.refl _ _) _;have Rm:Hid (Wm.heap[w8.heap.size]?=some (.cells #[(.slice (some ⟨g3,0,none⟩) i c3)] 36 (0,0))):=hWm▸heap_alloc_new _ _;have HWm:=Lib.hid hWm;have RIm:=Lib.hid (RI8.out.below HBm.out);have HNm:=Lib.hid (OwnI.belowK HNC8.out HBm.out);clear hWm RI8 HNC8 e8 f8 HW8 b0 b1 b2 b3 b4 o7;go_wp2_with (first | (rw [HWm.out]) | refine wp_append_ss 33 (by kernel_rfl) Try.info_li rfl (by decide) (by decide) rfl _ _ rfl (by rfl) RIm.out.orow [[(.slice (some ⟨g3,0,none⟩) i c3)]] (fun r hr=>by rw [List.mem_singleton.1 hr]; exact ⟨rfl,fun u hu=>by rw [List.mem_singleton.1 hu]; rfl⟩) w8.heap.size 1 rfl (by rfl) Rm.out (by rw [List.length_map,RIm.out.vlen]; simp; omega) RIm.out.b2 ?_);intro vo9 w9 ho9 hg9;have RI9:=Lib.hid (RIm.out.addOut HNm.out ho9 hg9);have HSN:Hid (hbAll (l.take (j+1))=⟨updN S.own th (nowE S (⟨(th:Int),⟨k,a,od,nw,ti⟩,vl,ok⟩:ItemM)),S.words⟩):=by
        show _=_;rw [HN1.out];unfold hbStep;rw [show wrB (⟨(th:Int),⟨k,a,od,nw,ti⟩,vl,ok⟩:ItemM)=false by simp [wrB,k2,k3]];rfl
       clear ho9 hg9 RIm HNm Rm HWm HBm;go_wp2_with fail;go_roundw
       case rel=>exact ⟨j+1,_,_,_,by go_num,by omega,by rw [HSN.out]; exact RI9⟩
       case measure=>simp [intOf]; omega
    ·have e:j=m:=by omega
     subst e;have HD:Hid (ClkI w wo l i j vo vs):=by
      have h2:=RI.out;rw [← HM.out] at h2;exact HM.out▸h2.done
     go_wp2;go_ret;exact ⟨_,rfl,vs,HD.out⟩
def LoK (w:World) (r:Value) (vs:List Value) (l:List ItemM) (n m:Nat):Prop:=SlS w 1 r (vs.map fun v=>[v])∧vs.length=m∧∀q,q<m→SlI w .i64 (vs.getD q (.slice none 0 0)) (clkI l q n)
theorem LoK.below {w w':World} {r:Value} {vs:List Value} {l:List ItemM} {n m:Nat} (h:LoK w r vs l n m) (hb:Below w.heap.size w w'):LoK w' r vs l n m:=⟨h.1.below hb,h.2.1,fun q hq=>(h.2.2 q hq).below hb⟩
theorem clkI_wrapK (l:List ItemM) {j:Nat} (n:Nat) (hj:j≤1000000):∀x∈clkI l j n,x=IntKind.i64.wrap x:=fun x hx=>by
 unfold clkI at hx;obtain ⟨t,-,rfl⟩:=List.mem_map.1 hx;have:=clkAt_ok l j t;rw [IntKind.wrap_i64];omega
theorem clk_readK {w wr:World} {l:List ItemM} {n j:Nat} {r:Value} {vs:List Value} (h:ClkI w wr l n j r vs) (hj:j≤100000) (hn:n≤8):LoK wr r vs l n j:=
 ⟨h.own.sls (by rw [List.length_map,h.len]; omega),h.len,fun q hq=>OwnI.read (h.ins q hq) (by rw [clkI_len]; omega) (clkI_wrapK l n (by omega))⟩
theorem LoK.at {w:World} {r:Value} {vs:List Value} {l:List ItemM} {n m:Nat} (h:LoK w r vs l n m) (h0:0<m):∃b off cap,r=.slice (some ⟨b,off,none⟩) m cap∧b<w.heap.size∧∀i w',i<m→Below w.heap.size w w'→w'.cell? ⟨b,off+i,none⟩=some (vs.getD i (.slice none 0 0)):=by
 have hl:(vs.map fun v=>[v]).length=m:=by rw [List.length_map,h.2.1]
 obtain ⟨b,off,cap,rfl,hb,hr⟩:=h.1.open (by rw [hl]; exact h0);refine ⟨b,off,cap,by rw [hl],hb,fun i w' hi hw=>?_⟩;have h5:=hr i (by rw [hl]; exact hi);have e:(vs.map fun v=>[v]).getD i []=[vs.getD i (.slice none 0 0)]:=by
  rw [List.getD_eq_getElem?_getD,List.getElem?_map,List.getD_eq_getElem?_getD,List.getElem?_eq_getElem (by rw [h.2.1]; exact hi)];rfl
 rw [e] at h5;have h6:=h5 0 _ rfl;rw [Nat.mul_one,Nat.add_zero] at h6;exact (hw.cell (p:=⟨b,off+i,none⟩) hb).trans h6
theorem LoK.len {w:World} {r:Value} {vs:List Value} {l:List ItemM} {n m:Nat} (h:LoK w r vs l n m):∃a c,r=.slice a m c:=by
 obtain ⟨a,c,rfl,-⟩:=h.1.len;exact ⟨a,c,by rw [List.length_map,h.2.1]⟩
theorem SlI.empty (w:World) (k:IntKind) (A:Option Addr) (c:Nat):SlI w k (.slice A 0 c) []:=⟨by simp,by simp,A,c,rfl,Nat.zero_le _,fun t ht=>by simp at ht⟩
theorem SlI.take {w:World} {k:IntKind} {b off n cap:Nat} {l:List Int} (h:SlI w k (.slice (some ⟨b,off,none⟩) n cap) l) (i:Nat) (hi:i≤l.length):SlI w k (.slice (some ⟨b,off,none⟩) i cap) (l.take i):=by
 obtain ⟨h1,h2,a,cap',e,h4,h5⟩:=h;simp only [Value.slice.injEq] at e;obtain ⟨rfl,rfl,rfl⟩:=e;have hl:(l.take i).length=i:=by simp; omega
 refine ⟨by omega,fun x hx=>h2 x (List.mem_of_mem_take hx),_,cap,by rw [hl],by omega,fun t ht=>?_⟩;obtain ⟨b',off',e,h6,h7⟩:=h5 t (by omega);refine ⟨b',off',e,h6,?_⟩;rw [h7];simp [List.getD_eq_getElem?_getD,show t<i by omega]
theorem SlI.drop {w:World} {k:IntKind} {b off n cap:Nat} {l:List Int} (h:SlI w k (.slice (some ⟨b,off,none⟩) n cap) l) (i:Nat) (hi:i≤l.length):SlI w k (.slice (some ⟨b,off+i,none⟩) (l.length - i) (cap - i)) (l.drop i):=by
 obtain ⟨h1,h2,a,cap',e,h4,h5⟩:=h;simp only [Value.slice.injEq] at e;obtain ⟨rfl,rfl,rfl⟩:=e;refine ⟨by simp; omega,fun x hx=>h2 x (List.mem_of_mem_drop hx),_,cap - i,by rw [List.length_drop],by rw [List.length_drop]; omega,fun t ht=>?_⟩;rw [List.length_drop] at ht;obtain ⟨b',off',e,h6,h7⟩:=h5 (i+t) (by omega);simp only [Option.some.injEq,Addr.mk.injEq,and_true] at e;obtain ⟨rfl,rfl⟩:=e;refine ⟨b,off+i,rfl,h6,?_⟩;rw [Nat.add_assoc,h7];simp [List.getD_eq_getElem?_getD]
theorem StM.shape {G:World→Prop} {v:Value} {m:MemM} (h:StM G v m) (w:World) (hG:G w):∃A n c A2 n2 c2 t,v=.agg #[.slice A n c,.slice A2 n2 c2,.int .i64 t]:=by
 obtain ⟨a,cap,a2,cap2,rfl⟩:=h.open w hG;exact ⟨_,_,_,_,_,_,_,rfl⟩
theorem StA.shape {G:World→Prop} {v:Value} {b:AnsM} (h:StA G v b) (w:World) (hG:G w):∃x p q A n c,v=.agg #[.int .u64 x,.bool p,.bool q,.slice A n c]:=by
 obtain ⟨vl,rfl,hl⟩:=h;obtain ⟨A,c,rfl,-⟩:=(hl w hG).len;exact ⟨_,_,_,_,_,_,rfl⟩
def wrP (k:Int):Prop:=k=2∨k=3∨k=6∨k=8∨k=9
inductive OneM (m:MemM) (a:AccM):Prop
 | none (h:(applyE m a).1=m)
 | word (x:Int) (hk:a.kind<7) (hw:wrP a.kind) (hc:a.kind=3→(applyE m a).2.1.ok=true) (h0:0≤a.addr) (h1:a.addr<m.words.length) (h:(applyE m a).1=⟨m.words.set a.addr.toNat x,m.lists,m.tick⟩)
 | list (l:List Int) (hk:7≤a.kind) (hw:wrP a.kind) (h0:0≤a.addr) (h1:a.addr<m.lists.length) (h:(applyE m a).1=⟨m.words,m.lists.set a.addr.toNat l,m.tick⟩)
theorem OneM.word_at {m:MemM} {a:AccM} (h:OneM m a) (i:Nat) (hi:(applyE m a).1.words.getD i 0≠m.words.getD i 0):(i:Int)=a.addr∧a.kind<7∧wrP a.kind∧(a.kind=3→(applyE m a).2.1.ok=true):=by
 cases h with
 | none h=>rw [h] at hi; exact absurd rfl hi
 | word x hk hw hc h0 h1 h=>
  refine ⟨?_,hk,hw,hc⟩;rw [h] at hi;have hi:(m.words.set a.addr.toNat x).getD i 0≠m.words.getD i 0:=hi;rw [getD_setL] at hi;split at hi
  ·omega
  ·exact absurd rfl hi
 | list l hk hw h0 h1 h=>rw [h] at hi; exact absurd rfl hi
theorem SlI.heapEq {w w2:World} (h:w2.heap=w.heap) {k:IntKind} {v:Value} {l:List Int} (hs:SlI w k v l):SlI w2 k v l:=by
 obtain ⟨h1,h2,a,cap,h3,h4,h5⟩:=hs;refine ⟨h1,h2,a,cap,h3,h4,fun t ht=>?_⟩;obtain ⟨b,off,e,hb,hc⟩:=h5 t ht;refine ⟨b,off,e,by rw [h]; exact hb,?_⟩;unfold World.cell? at hc ⊢;rw [h];exact hc
theorem SlL.heapEq {w w2:World} (h:w2.heap=w.heap) {v:Value} {us:List Value} {ll:List (List Int)} (hs:SlL w v us ll):SlL w2 v us ll:=by
 obtain ⟨h1,h2,a,cap,h3,h4,h5⟩:=hs;refine ⟨h1,h2,a,cap,h3,h4,fun t ht=>?_⟩;obtain ⟨b,off,e,hb,hc,hu⟩:=h5 t ht;refine ⟨b,off,e,by rw [h]; exact hb,?_,hu.heapEq h⟩;unfold World.cell? at hc ⊢;rw [h];exact hc
theorem StM.off {w0 w:World} {g M:Nat} {v:Value} {m:MemM} (h:StM (fun w2=>w0.grownBy w2 (some g)) v m) (hb:Below w0.heap.size w0 w) (hM:w0.heap.size≤M):StM (Off g M w) v m:=by
 obtain ⟨vw,vl,us,e,hall⟩:=h;refine ⟨vw,vl,us,e,fun w2 h2=>?_⟩;have hg:w0.grownBy { w0 with heap:=w2.heap } (some g):=⟨rfl,rfl,rfl,Nat.le_trans hb.size h2.1,fun j hj hne=>(h2.2 j (Nat.lt_of_lt_of_le hj hb.size) (by simpa using fun e=>hne (by rw [e])) (by omega)).trans (hb.block j hj)⟩;obtain ⟨h3,h4⟩:=hall _ hg;exact ⟨h3.heapEq (w:={ w0 with heap:=w2.heap }) rfl,h4.heapEq (w:={ w0 with heap:=w2.heap }) rfl⟩
def ofE (l:List ItemM) (t:Int):List ItemM:=l.filter (fun x=>x.thr == t)
def OfR (l:List ItemM) (t:Int) (w:World) (e:Ending) (w':World):Prop:=∃v',e=.returned v'∧OwnT w' w.heap.size v' (ofE l t)∧Below w.heap.size w w'
theorem OfR.start {w:World} {l:List ItemM} {t:Int}:OwnT w w.heap.size (.slice none 0 0) (ofE (l.take 0) t):=OwnT.nil _ _
def sizeI (k:Int):Int:=if k<1 then 1 else if k=1 then 2 else if 1073741824<k then 0 else 2 * 2 ^ Nat.log2 (k.toNat - 1)
theorem sizeI_16 (x:Int) (h0:0≤x) (h1:x≤16):1≤sizeI x∧sizeI x≤16:=by
 rcases (show x=0∨x=1∨x=2∨x=3∨x=4∨x=5∨x=6∨x=7∨x=8∨x=9∨x=10∨x=11∨x=12∨x=13∨x=14∨x=15∨x=16 by omega) with rfl | rfl | rfl | rfl | rfl | rfl | rfl | rfl | rfl | rfl | rfl | rfl | rfl | rfl | rfl | rfl | rfl <;> decide +kernel
structure ConfM.good (c:ConfM):Prop where
 len:c.caps.length≤8
 same:c.starts.length=c.caps.length
 caps:∀x∈c.caps,0≤x∧x≤16
 starts:∀x∈c.starts,0≤x∧x<9223372036854775808
 thr:1≤c.threads∧c.threads≤8
theorem ConfM.good.cap {c:ConfM} (h:c.good) (k:Nat) (hk:k<c.caps.length):0≤c.caps.getD k 0∧c.caps.getD k 0≤16:=by
 rw [List.getD_eq_getElem?_getD,List.getElem?_eq_getElem hk];exact h.caps _ (List.getElem_mem hk)
def ConfM.size (c:ConfM) (k:Nat):Int:=sizeI (c.caps.getD k 0)
theorem ConfM.good.size {c:ConfM} (h:c.good) (k:Nat) (hk:k<c.caps.length):1≤c.size k∧c.size k≤16:=sizeI_16 _ (h.cap k hk).1 (h.cap k hk).2
def ConfM.base (c:ConfM):Nat→Int
 | 0=>0
 | k+1=>c.base k+(5+c.size k * 2)
theorem ConfM.good.base {c:ConfM} (h:c.good) (k:Nat) (hk:k≤c.caps.length):0≤c.base k∧c.base k≤37 * k:=by
 induction k with
 | zero=>exact ⟨Int.le_refl _,Int.le_refl _⟩
 | succ k ih=>
  have h1:=ih (by omega);have h2:=h.size k (by omega);show 0≤c.base k+(5+c.size k * 2)∧c.base k+(5+c.size k * 2)≤_;omega
end Go.Proofs.Ytfbdehcibgdagaa
