import Derived.Deep.DeepCutAuto
import Derived.Deep.CutBlock
import Derived.ChangeKeysEq
import Derived.Test.YtoneandjbdlbeaaB04
import Derived.Test.YtoneandjbdlbeaaB01
import Derived.Test.YtoneandjbdlbeaaB03
set_option linter.unusedVariables false
set_option linter.unusedSimpArgs false
namespace Go.Proofs.Ytoneandjbdlbeaa
open Go.ChangeShapes Go.WideShapes Go.ChangeAt Go.RowKit
set_option maxRecDepth 100000
theorem Try.info_ck2:(Try.prog.info? 60).map (fun i=>(i.zero,i.size,i.bytes))=some (some (.agg #[.int .i64 0,.slice none 0 0]),2,32):=by kernel_rfl
theorem wp_make_liK (w:World) {ops:Array Oper} {rest:List Oper} {o:Oper} {a:Act} {Q:Exit→Act→World→Prop}
  (hg:o.guard=none) (l c:Operand) (hop:o.op=Op.makeSlice 33 l c) (n:Nat) (L C:Int) (hl:a.eval l=.int .i64 L) (hc:a.eval c=.int .i64 C) (hL:L=n) (hC:C=n) (hn:n≤1000000)
  (hK:∀w',OwnS w' w.heap.size 36 1 (.slice (some ⟨w.heap.size,0,none⟩) n n) ((List.replicate n (Value.slice none 0 0)).map fun v=>[v])→Below w.heap.size w w'→wpList Try.prog ops Q rest (a.put o.dst (.slice (some ⟨w.heap.size,0,none⟩) n n)) w') :
  wpList Try.prog ops Q (o :: rest) a w:=by
 obtain ⟨i0,hi,hz0,hz1,hz2⟩:=info_parts Try.info_li;refine wpList_make_full w hg l c _ hop w.heap.size 36 i0 (Value.slice none 0 0) 1 Try.underlying33 hi hz0 hz1 _ _ _ _ n hl hc hL hC (by rw [hz2]; omega) (by unfold maxLen; omega) (Nat.le_refl _) fun w' h1 h2=>?_;refine hK w' ⟨fun r hr=>?_,?_⟩ ((Below.refl _ _).grown h2 (Nat.le_refl _) (fun k hk=>by cases hk))
 ·obtain ⟨v,hv,rfl⟩:=List.mem_map.1 hr
  rw [(List.mem_replicate.1 hv).2];exact ⟨rfl,fun u hu=>by rw [List.mem_singleton.1 hu]; rfl⟩
 ·rw [show (Value.slice none 0 0).cells=#[.slice none 0 0] from rfl,toList_madeCells_one',Nat.mul_one] at h1
  rw [List.length_map,List.length_replicate];have e:((List.replicate n (Value.slice none 0 0)).map fun v=>[v]).flatten=List.replicate n (Value.slice none 0 0):=by
   induction n with
   | zero=>rfl
   | succ n ih=>simp [List.replicate_succ]
  rw [e];exact h1
theorem tab_zero (n:Nat):tabI (fun _=>0) n=List.replicate n 0:=by
 unfold tabI;refine List.ext_getElem (by simp) fun i h1 h2=>?_;simp
structure RcA (w wr:World) (O n i:Nat) (os:List Value):Prop where
 bw:Below w.heap.size w wr
 olt:O<wr.heap.size
 row:OwnS wr w.heap.size 36 1 (.slice (some ⟨O,0,none⟩) n n) (os.map fun v=>[v])
 olen:os.length=n
 ownv:∀t,t<i→OwnI wr w.heap.size 3 .i64 (os.getD t (Value.slice none 0 0)) (tabI (fun _=>0) n)
theorem RcA.next {w wr w2:World} {O n i:Nat} {os:List Value} {nv:Value} (h:RcA w wr O n i os) (hb:Below wr.heap.size wr w2) (hv:OwnI w2 wr.heap.size 3 .i64 nv (List.replicate n 0)) (h1:nv.oneCell'=true) (hi:i<n):RcA w (w2.setCell ⟨O,i,none⟩ nv) O n (i+1) (os.set i nv):=by
 have hrow2:=h.row.below hb;have hw0:=(below_then h.bw hb).size;have hg:=grownBy_setCell w2 ⟨O,i,none⟩ nv;have hol:=h.olen;have hob:(Value.slice (some ⟨O,0,none⟩) n n).ownBlock=some O:=rfl;have hI:∀{v:Value} {x:List Int},OwnI w2 w.heap.size 3 .i64 v x→OwnI (w2.setCell ⟨O,i,none⟩ nv) w.heap.size 3 .i64 v x:=fun h2=>RcI.lists (w:=w) h2 hg (ownI_apart h2 hrow2 (by decide));refine ⟨(below_then h.bw hb).grown hg hw0 (fun b hb=>(hrow2.lt b (hob.trans hb)).1),Nat.lt_of_lt_of_le h.olt (Nat.le_trans hb.size hg.size),?_,by rw [List.length_set]; exact hol,fun t ht=>?_⟩
 ·have h2:=hrow2.setCell i (by rw [List.length_map,hol]; exact hi) [] [] (os.getD i (Value.slice none 0 0)) nv (by
   rw [List.getElem_map,List.getD_eq_getElem?_getD,List.getElem?_eq_getElem (by rw [hol]; exact hi)];rfl) h1
  rw [List.map_set];simpa using h2
 ·rw [List.getD_eq_getElem?_getD,List.getElem?_set]
  by_cases e:i=t
  ·subst e
   rw [if_pos rfl,if_pos (by rw [hol]; exact hi)];rw [tab_zero];exact hI (OwnI.baseK hv h.bw.size)
  ·rw [if_neg e,← List.getD_eq_getElem?_getD]
   exact hI (OwnI.belowK (h.ownv t (by omega)) hb)
theorem RcA.start {w wr:World} {O n:Nat} {os:List Value} {l:List ItemM} (h:RcA w wr O n n os) (ho:w.heap.size≤O):RcI w wr O wr.heap.size l n 0 0 (hbAll (l.take 0)) (Value.slice none 0 0) [] (Value.slice none 0 0) [] os:=
 ⟨h.bw,ho,h.olt,Nat.le_refl _,h.row,h.olen,fun t ht=>h.ownv t ht,OwnS.nil _ _ _ _,fun q hq=>absurd hq (Nat.not_lt_zero _),fun p q _ hq=>absurd hq (Nat.not_lt_zero _),fun a _ i=>rfl,Nat.le_refl _,OwnS.nil _ _ _ _,rfl,fun q hq=>absurd hq (Nat.not_lt_zero _)⟩
theorem RcI.done {w wr:World} {O B2 n m:Nat} {l:List ItemM} {S:HbS} {vw:Value} {ws:List (Int × Value)} {vo:Value} {vs os:List Value} (h:RcI w wr O B2 l n l.length m S vw ws vo vs os):ClkI w wr l n l.length vo vs:=
 ⟨h.bw,h.vlen,h.orow.base (Nat.le_trans h.oge (Nat.le_of_lt h.olt)),h.outv⟩
theorem now_miss {S:HbS} {x:ItemM} (h:∀i,S.words x.acc.addr i=0) (h0:∀t i,0≤S.own t i):nowE S x=incC (S.own x.thr.toNat) x.thr.toNat:=by
 unfold nowE;split
 ·funext i
  unfold maxC;rw [h i];have:=h0 x.thr.toNat i;unfold incC;split <;> omega
 ·rfl
theorem now_rd {S:HbS} {x:ItemM} (h:rdB x=true):nowE S x=maxC (incC (S.own x.thr.toNat) x.thr.toNat) (S.words x.acc.addr):=by
 unfold nowE;rw [if_pos h]
theorem now_no {S:HbS} {x:ItemM} (h:rdB x=false):nowE S x=incC (S.own x.thr.toNat) x.thr.toNat:=by
 unfold nowE;rw [h];rfl
theorem tab_wrap {c:Clk} {n:Nat} {N:Int} (h:∀i,0≤c i∧c i≤N) (hN:N≤1000000):∀x∈tabI c n,x=IntKind.i64.wrap x:=fun x hx=>by
 unfold tabI at hx;obtain ⟨t,-,rfl⟩:=List.mem_map.1 hx;have:=h t;rw [IntKind.wrap_i64];omega
theorem row_getK (os:List Value) {t:Nat} (h:t<os.length) {h':t<(os.map fun v=>[v]).length}:(os.map fun v=>[v])[t]=[os.getD t (Value.slice none 0 0)]:=by
 rw [List.getElem_map,List.getD_eq_getElem?_getD,List.getElem?_eq_getElem h];rfl
theorem RcI.own_at {w wr:World} {O B2 n j m t:Nat} {l:List ItemM} {S:HbS} {vw:Value} {ws:List (Int × Value)} {vo:Value} {vs os:List Value} (h:RcI w wr O B2 l n j m S vw ws vo vs os) (ht:t<n):wr.cell? ⟨O,t,none⟩=some (os.getD t (Value.slice none 0 0)):=by
 have h2:=h.row.row t (by rw [List.length_map,h.olen]; exact ht);rw [row_getK os (by rw [h.olen]; exact ht)] at h2;have h3:=h2.1 0 (os.getD t (Value.slice none 0 0)) rfl;rw [Nat.mul_one,Nat.add_zero] at h3;exact h3
theorem tab_inc (c:Clk) (n t:Nat):(tabI c n).set t (c t+1)=tabI (incC c t) n:=by
 rw [tabI_set];congr 1;funext i
 unfold incC;split
 ·next h=>rw [h]
 ·rfl
theorem RcI.own_fr {w wr:World} {O B2 n j m t:Nat} {l:List ItemM} {S:HbS} {vw:Value} {ws:List (Int × Value)} {vo:Value} {vs os:List Value} (h:RcI w wr O B2 l n j m S vw ws vo vs os):wr.frozen? ⟨O,t,none⟩=false:=by
 rcases h.row.2.2 with ⟨h1,_⟩ | ⟨g,c2,cur,h1,_,h2,_⟩
 ·simp at h1
 ·simp only [Value.slice.injEq,Option.some.injEq,Addr.mk.injEq] at h1
  obtain ⟨⟨rfl,-,-⟩,-⟩:=h1;exact frozen_of_row _ _ t _ _ h2
theorem RcI.word_at {w wr:World} {O B2 n j m k g cap:Nat} {l:List ItemM} {S:HbS} {ws:List (Int × Value)} {vo:Value} {vs os:List Value} (h:RcI w wr O B2 l n j m S (.slice (some ⟨g,0,none⟩) ws.length cap) ws vo vs os) (hk:k<ws.length):wr.cell? ⟨g,k * 2+1,none⟩=some (ws.getD k noW).2∧wr.frozen? ⟨g,k * 2+1,none⟩=false:=by
 refine ⟨?_,?_⟩
 ·have h2:=h.wrow.row k (by rw [wRows_len]; exact hk)
  have e:=wRows_get ws hk;rw [List.getD_eq_getElem?_getD,List.getElem?_eq_getElem (by rw [wRows_len]; exact hk)] at e;have e2:(wRows ws)[k]'(by rw [wRows_len]; exact hk)=[.int .i64 (ws.getD k noW).1,(ws.getD k noW).2]:=e;rw [e2] at h2;exact h2.1 1 _ rfl
 ·rcases h.wrow.2.2 with ⟨h1,_⟩ | ⟨g',c2,cur,h1,_,h2,_⟩
  ·simp at h1
  ·simp only [Value.slice.injEq,Option.some.injEq,Addr.mk.injEq] at h1
   obtain ⟨⟨rfl,-,-⟩,-⟩:=h1;exact frozen_of_row _ _ (k * 2+1) _ _ h2
set_option maxRecDepth 100000 in
set_option maxHeartbeats 16000000 in
theorem rclocks_any (l:List ItemM) (n:Nat) (v:Value) (w:World) (hv:SlT w v l) (hn:1≤n∧n≤8) (hth:∀x∈l,0≤x.thr∧x.thr<(n:Int)) (hl:l.length≤1000):Calls Try.prog 13 #[v,.int .i64 (n:Int)] w fun e w'=>∃r,e=.returned r∧∃vs,ClkI w w' l n l.length r vs:=by
 have HV:=Lib.hid hv;have HTH:=Lib.hid hth;obtain ⟨va,cap,rfl,hcap⟩:=hv.len;obtain ⟨m,hm⟩:∃m,l.length=m:=⟨_,rfl⟩;have HM:=Lib.hid hm;rw [hm] at HV hl hcap ⊢;obtain ⟨hn1,hn8⟩:=hn;clear hv hth hm;go_enter Try.func13,Try.ntmps13;go_wp2_with (at_make; refine wp_make_liK w rfl _ _ rfl n _ _ rfl rfl rfl rfl (by omega) ?_; intro w1 ho1 hb1);have HA0:Hid (RcA w w1 w.heap.size n 0 (List.replicate n (Value.slice none 0 0))):=⟨hb1,(ho1.lt _ rfl).2,ho1,by simp,fun t ht=>absurd ht (Nat.not_lt_zero _)⟩;clear ho1 hb1;obtain ⟨O,hO⟩:∃O,w.heap.size=O:=⟨_,rfl⟩;rw [hO] at HA0 ⊢;have HO:=Lib.hid hO;clear hO;go_wp2_with fail;go_loopw [6] (fun u6 wr=>∃(i:Nat) (os:List Value),u6=.int .i64 (i:Int)∧i≤n∧Hid (RcA w wr O n i os)) (fun u6 _=>n - (intOf u6).toNat)
 case atStart=>exact ⟨0,_,rfl,by omega,HA0⟩
 case round=>
  clear HA0;obtain ⟨i,os,rfl,hi,HA⟩:=hrel;obtain ⟨wi,rfl⟩:∃wi:World,wi=wr:=⟨_,rfl⟩;by_cases hlt:i<n
  ·have hltI:(i:Int)<(n:Int):=by omega
   have f1:∀w',Below wi.heap.size wi w'→w'.cell? ⟨O,i,none⟩=some (os.getD i (Value.slice none 0 0))∧w'.frozen? ⟨O,i,none⟩=false:=fun w' hb=>by
    have hr2:=HA.out.row.below hb;refine ⟨?_,?_⟩
    ·have h2:=hr2.row i (by rw [List.length_map,HA.out.olen]; exact hlt)
     rw [row_getK os (by rw [HA.out.olen]; exact hlt)] at h2;have h3:=h2.1 0 (os.getD i (Value.slice none 0 0)) rfl;rw [Nat.mul_one,Nat.add_zero] at h3;exact h3
    ·rcases hr2.2.2 with ⟨h1,_⟩ | ⟨g,c2,cur,h1,_,h2,_⟩
     ·simp at h1
     ·simp only [Value.slice.injEq,Option.some.injEq,Addr.mk.injEq] at h1
      obtain ⟨⟨rfl,-,-⟩,-⟩:=h1;exact frozen_of_row _ _ i _ _ h2
   have HF:=Lib.hid f1;clear f1;go_wp2_with (at_make; refine wp_make_i64 wi rfl _ _ rfl n _ _ rfl rfl rfl rfl (by omega) ?_; intro w2 ho2 hb2; obtain ⟨c1,f1⟩:=HF.out w2 hb2; have HA2:=Lib.hid (HA.out.next hb2 ho2 rfl hlt); clear ho2 hb2);go_roundw
   case rel=>exact ⟨i+1,_,by go_num,by omega,HA2⟩
   case measure=>simp [intOf]; omega
  ·have e:i=n:=by omega
   subst e;have HR0:=Lib.hid (HA.out.start (l:=l) (HO.out▸Nat.le_refl _));have HZ0:Hid (wi.heap.size≤wi.heap.size):=Nat.le_refl _;obtain ⟨B2,hB2⟩:∃B2,wi.heap.size=B2:=⟨_,rfl⟩;rw [hB2] at HR0;have hn:i=i:=rfl;clear HA HZ0 hB2 hlt hi hn;go_wp2_with fail;go_loopw [7,8,9] (fun u7 u8 u9 wr=>∃(j:Nat) (ws:List (Int × Value)) (vs os:List Value),u9=.int .i64 (j:Int)∧j≤m∧Hid (RcI w wr O B2 l i j j (hbAll (l.take j)) u7 ws u8 vs os)) (fun _ _ u9 _=>m - (intOf u9).toNat)
   case atStart=>exact ⟨0,_,_,_,rfl,by omega,HR0⟩
   case round=>
    clear HR0;obtain ⟨j,ws,vs,os,rfl,hj,RI⟩:=hrel;obtain ⟨vw,rfl⟩:∃z,z=u7:=⟨_,rfl⟩;obtain ⟨vo,rfl⟩:∃z,z=u8:=⟨_,rfl⟩;obtain ⟨wo,rfl⟩:∃wo:World,wo=wr:=⟨_,rfl⟩;by_cases hlt:j<m
    ·have hltI:(j:Int)<(m:Int):=by omega
     have HLT:Hid (j<l.length):=HM.out.symm▸hlt;obtain ⟨bl,ol,cl,hve,hcl,hbl,kl⟩:=(HV.out.below RI.out.bw).atK (by have:=HLT.out; omega);rw [HM.out] at hve;simp only [Value.slice.injEq] at hve;obtain ⟨hv1,-,hv3⟩:=hve;subst hv1;subst hv3;obtain ⟨x,hx⟩:∃x,l.getD j noItem=x:=⟨_,rfl⟩;have hx3:=HTH.out x (by
      rw [← hx,List.getD_eq_getElem?_getD,List.getElem?_eq_getElem HLT.out];exact List.getElem_mem HLT.out)
     have KS0:=fun w' hb=>kl j w' HLT.out hb x hx;have HX:=Lib.hid hx;obtain ⟨xt,⟨k,a,od,nw,ti⟩,vl,ok⟩:=x;dsimp only at hx3 KS0;obtain ⟨th,rfl⟩:∃th:Nat,xt=th:=⟨xt.toNat,by omega⟩;have htn:th<i:=by omega
     have htI:(th:Int)<(i:Int):=by omega
     have KS:Hid (∀w',Below wo.heap.size wo w'→(fun w':World=>w'.cell? ⟨bl,ol+j * 8,none⟩=some (.int .i64 (th:Int))∧w'.cell? ⟨bl,ol+j * 8+1,none⟩=some (.int .i64 k)∧w'.cell? ⟨bl,ol+j * 8+2,none⟩=some (.int .i64 a)∧w'.cell? ⟨bl,ol+j * 8+3,none⟩=some (.int .u64 od)∧w'.cell? ⟨bl,ol+j * 8+4,none⟩=some (.int .u64 nw)∧w'.cell? ⟨bl,ol+j * 8+5,none⟩=some (.int .i64 ti)) w'):=fun w' hb=>by
      obtain ⟨d0,d1,d2,d3,d4,d5,d6,d7⟩:=KS0 w' hb;exact ⟨d0,d1,d2,d3,d4,d5⟩
     have KO:=Lib.hid fun w' hb=>(KS0 w' hb).2.2.2.2.2.2.2;have HBL:=Lib.hid hbl;have hbk:=Lib.hid (hbAll_ok (l.take j));obtain ⟨S,hS⟩:∃S,hbAll (l.take j)=S:=⟨_,rfl⟩;have HS:=Lib.hid hS;rw [hS] at RI hbk;have hln:(l.take j).length≤1000:=by rw [List.length_take]; omega
     have HBO:Hid ((∀t i,0≤S.own t i∧S.own t i≤1000)∧∀a i,0≤S.words a i∧S.words a i≤1000):=⟨fun t i=>by have:=hbk.out.1 t i; omega,fun a i=>by have:=hbk.out.2 a i; omega⟩;clear KS0 hbl kl hx hS hbk hln hx3;go_upto_region 11 with fail
     go_cut [10,11] (fun s10 s11 wx=>∃bx:Nat,s10=.int .i64 (th:Int)∧s11=.pointer (some ⟨bx,0,none⟩)∧Hid (Below wo.heap.size wo wx)∧Hid (wx.heap[bx]?=some (.cells #[.int .i64 k,.int .i64 a,.int .u64 od,.int .u64 nw,.int .i64 ti] 28 (0,0))))
     case first=>
      refine wp_region_until (fun w':World=>w'.cell? ⟨bl,ol+j * 8,none⟩=some (.int .i64 (th:Int))∧w'.cell? ⟨bl,ol+j * 8+1,none⟩=some (.int .i64 k)∧w'.cell? ⟨bl,ol+j * 8+2,none⟩=some (.int .i64 a)∧w'.cell? ⟨bl,ol+j * 8+3,none⟩=some (.int .u64 od)∧w'.cell? ⟨bl,ol+j * 8+4,none⟩=some (.int .u64 nw)∧w'.cell? ⟨bl,ol+j * 8+5,none⟩=some (.int .i64 ti)) 12 13 (by kernel_rfl) rfl ?_;obtain ⟨u0,hu0,hU0⟩:=drew_pack wo;rw [hu0];clear hu0;have hSU0:=KS.out _ hU0.out;apply tkV 0 hSU0 rfl (by kernel_rfl) (fun _ _ _ h=>h) rfl;intro w hSw;(go_simp<;>with_reducible rfl);simp only [J0,J1,J2,J3,J4];apply tkV 1 hSU0 rfl (by kernel_rfl) (fun _ _ _ h=>h) rfl;intro w hSw;(go_simp<;>with_reducible rfl);simp only [J0,J1,J2,J3,J4];apply tkV 2 hSU0 rfl (by kernel_rfl) (fun _ _ _ h=>h) rfl;intro w hSw;(go_simp<;>with_reducible rfl);simp only [J0,J1,J2,J3,J4];apply tkV 3 hSU0 rfl (by kernel_rfl) (fun _ _ _ h=>h) rfl;intro w hSw;(go_simp<;>with_reducible rfl);simp only [J0,J1,J2,J3,J4];apply tkV 4 hSU0 rfl (by kernel_rfl) (fun _ _ _ h=>h) rfl;intro w hSw;(go_simp<;>with_reducible rfl);simp only [J0,J1,J2,J3,J4];apply tkV 5 hSU0 rfl (by kernel_rfl) (fun _ _ _ h=>h) rfl;intro w hSw;(go_simp<;>with_reducible rfl);simp only [J0,J1,J2,J3,J4];apply tkV 6 hSU0 rfl (by kernel_rfl) (fun _ _ _ h=>h) rfl;intro w hSw;(go_simp<;>with_reducible rfl);simp only [J0,J1,J2,J3,J4];apply tkV 7 hSU0 rfl (by kernel_rfl) (fun _ _ _ h=>h) rfl;intro w hSw;(go_simp<;>with_reducible rfl);simp only [J0,J1,J2,J3,J4];apply tkV 8 hSU0 rfl (by kernel_rfl) (fun _ _ _ h=>h) rfl;intro w hSw;(go_simp<;>with_reducible rfl);simp only [J0,J1,J2,J3,J4];apply tkV 9 hSU0 rfl (by kernel_rfl) (fun _ _ _ h=>h) rfl;intro w hSw;(go_simp<;>with_reducible rfl);simp only [J0,J1,J2,J3,J4];refine consU 10 rfl (by kernel_rfl) rfl fun K hK=>?_;go_simp;obtain ⟨v1,bx,hv,hXe,RX,hbX,ltX⟩:=alloc_pack u0 (.cells #[.int .i64 0,.int .i64 0,.int .u64 0,.int .u64 0,.int .i64 0] 28);rw [hv,hXe];have hbx:Hid (wo.heap.size≤bx):=by have h2:=hU0.out.size; show _≤_; rw [← hXe]; exact h2
      have HBX:=Lib.hid (below_then hU0.out hbX.out);clear hv hXe hbX;refine hK.out _ _ ?_ fun hSU1=>?_;exact KS.out _ HBX.out;clear hK K hSU0;(try simp only [J0,J1,J2,J3,J4]);apply tkV 11 hSU1 rfl (by kernel_rfl) (fun _ _ _ h=>h) rfl;intro w hSw;(go_simp<;>with_reducible rfl);simp only [J0,J1,J2,J3,J4];refine freeU 12 rfl (by kernel_rfl) rfl (by kernel_rfl) fun K hK=>?_;refine step_store_row (by rfl) 28 _ _ (by rfl) bx #[.int .i64 k,.int .i64 a,.int .u64 od,.int .u64 nw,.int .i64 ti] (by rfl) (by rfl) 28 _ RX.out (by kernel_rfl) rfl (by simp [Value.oneCell']) ?_;obtain ⟨v2,hv2⟩:∃z,v1.setRow bx #[.int .i64 k,.int .i64 a,.int .u64 od,.int .u64 nw,.int .i64 ti]=z:=⟨_,rfl⟩;have RX2:Hid (v2.heap[bx]?=some (.cells #[.int .i64 k,.int .i64 a,.int .u64 od,.int .u64 nw,.int .i64 ti] 28 (0,0))):=hv2▸setRow_heap _ _ _ _ _ (0,0) RX.out;have HB2:Hid (Below wo.heap.size wo v2):=hv2▸row_below HBX.out hbx.out _;rw [hv2];clear hv2;refine hK.out _ _ ?_;clear hK K hSU1;(try simp only [J0,J1,J2,J3,J4]);refine wpAnyU_done (by kernel_rfl) ?_ _;go_wp2_with fail;go_meet;exact ⟨bx,rfl,rfl,HB2,RX2⟩
     obtain ⟨bx,rfl,rfl,HB2,RX⟩:=hcut;obtain ⟨wx,rfl⟩:∃wx:World,wx=wc:=⟨_,rfl⟩;have RI:=Lib.hid (RI.out.below HB2.out);have HWX:Hid (w.heap.size≤wx.heap.size):=RI.out.bw.size;have c0:=RI.out.own_at htn;obtain ⟨ov,hov⟩:∃z,os.getD th (Value.slice none 0 0)=z:=⟨_,rfl⟩;have HOV:Hid (SlI wx .i64 ov (tabI (S.own th) i)):=hov▸(RI.out.ownv th htn).read (by rw [tabI_len]; omega) (tab_wrap (HBO.out.1 th) (by decide));rw [hov] at c0;clear hov;go_upto_region 13 with (at_builtin; refine wp_copy_i64_any _ rfl _ _ rfl ov (tabI (S.own th) i) rfl rfl HOV.out (by rw [tabI_len]; omega) wx.heap.size (Nat.le_refl _) ?_; intro v3 w3 ho3 hb3)
     obtain ⟨g3,hv3,hg3⟩:∃g3,(∃c3,v3=.slice (some ⟨g3,0,none⟩) i c3)∧Hid (wx.heap.size≤g3):=by
      rcases ho3.shape with ⟨-,h2⟩ | ⟨g,cap,h1,h2,-⟩
      ·exact absurd (congrArg List.length h2) (by rw [tabI_len]; simp; omega)
      ·rw [tabI_len] at h1
       exact ⟨g,⟨cap,h1⟩,h2⟩
     obtain ⟨c3,rfl⟩:=hv3;obtain ⟨k3,f3⟩:=ho3.cell th (by rw [tabI_len]; exact htn);rw [tabI_get _ htn] at k3;obtain ⟨y,hy⟩:∃y,S.own th th=y:=⟨_,rfl⟩;have hyb:=HBO.out.1 th th;rw [hy] at k3 hyb;have q1:IntKind.i64.wrap (y+1)=y+1:=by rw [IntKind.wrap_i64]; omega
     obtain ⟨w4,hw4⟩:∃w4,w3.setCell ⟨g3,th,none⟩ (.int .i64 (y+1))=w4:=⟨_,rfl⟩;have HNV0:Hid (OwnI w4 wx.heap.size 3 .i64 (.slice (some ⟨g3,0,none⟩) i c3) (tabI (incC (S.own th) th) i)):=by
      have h2:=OwnI.store ho3 th (y+1) (by rw [tabI_len]);rw [← hy,tab_inc,hy,hw4] at h2;exact h2
     have HB4:Hid (Below wx.heap.size wx w4):=hw4▸hb3.setCell (p:=⟨g3,th,none⟩) hg3.out _;have HW4:=Lib.hid hw4;clear hw4 ho3 hb3 hyb hy HOV;go_upto_region 14 with fail
     rw [HW4.out];have RI:=Lib.hid (RI.out.below HB4.out);have RX:=Lib.hid (row_below3k HB4.out RX.out);have HNV:Hid (OwnI w4 w.heap.size 3 .i64 (.slice (some ⟨g3,0,none⟩) i c3) (tabI (incC (S.own th) th) i)):=OwnI.baseK HNV0.out HWX.out;have HBW:=Lib.hid (below_then HB2.out HB4.out);have HSZ4:Hid (wx.heap.size≤w4.heap.size):=HB4.out.size;clear HNV0 HW4 k3 f3 q1 c0 HB4;obtain ⟨b0,b1,b2,b3,b4⟩:=rowc5 RX.out;have TF:=Lib.hid (rfind_any vw ws a w4 (RI.out.wrow.sls (by rw [wRows_len]; have:=RI.out.wl; omega)) (by have:=RI.out.wl; omega));go_wp2_with fail;refine TF.out.mono ?_; rintro e w5 ⟨r,rfl,hr,hb5⟩;have RI:=Lib.hid (RI.out.below hb5);have RX:=Lib.hid (row_below3k hb5 RX.out);have HNV:=Lib.hid (OwnI.belowK HNV.out hb5);have HBW:=Lib.hid (below_then HBW.out hb5);have HSZ:Hid (wx.heap.size≤w5.heap.size):=Nat.le_trans HSZ4.out hb5.size;clear hb5 TF b0 b1 b2 b3 b4;obtain ⟨b0,b1,b2,b3,b4⟩:=rowc5 RX.out;have o7:=KO.out w5 HBW.out;have HC:Hid (clkI l j i=tabI (nowE S ⟨(th:Int),⟨k,a,od,nw,ti⟩,vl,ok⟩) i):=by
      show tabI (nowE (hbAll (l.take j)) (l.getD j noItem)) i=_;rw [HS.out,HX.out]
     have HN1:Hid (hbAll (l.take (j+1))=hbStep S ⟨(th:Int),⟨k,a,od,nw,ti⟩,vl,ok⟩):=by
      show _=_;rw [hbAll_succ HLT.out,HS.out,HX.out]
     clear HX HS HLT KS;rcases hr with ⟨rfl,hno⟩ | ⟨kf,rfl,hkf,hka⟩
     ·rcases (show k=1∨k=4∨k=2∨k=3∨(k≠1∧k≠2∧k≠3∧k≠4) by omega) with rfl | rfl | rfl | rfl | ⟨h1,h2,h3,h4⟩
      ·have HEQ:Hid (nowE S (⟨(th:Int),⟨1,a,od,nw,ti⟩,vl,ok⟩:ItemM)=incC (S.own th) th):=now_miss (x:=(⟨(th:Int),⟨1,a,od,nw,ti⟩,vl,ok⟩:ItemM)) (RI.out.wdz a hno) (fun t q=>(HBO.out.1 t q).1)
       have HNC:Hid (OwnI w5 w.heap.size 3 .i64 (.slice (some ⟨g3,0,none⟩) i c3) (tabI (nowE S (⟨(th:Int),⟨1,a,od,nw,ti⟩,vl,ok⟩:ItemM)) i)):=by rw [HEQ.out]; exact HNV.out
       clear HNV HEQ;have RI7:=Lib.hid (RI.out.more (Nat.le_succ j));have HNC7:=HNC;obtain ⟨w7,rfl⟩:∃w7:World,w7=w5:=⟨_,rfl⟩;clear RI HNC;go_upto_region 21 with fail
       have e8:=RI7.out.own_at htn;have f8:=RI7.out.own_fr (t:=th);obtain ⟨w8,hw8⟩:∃w8,w7.setCell ⟨O,th,none⟩ (.slice (some ⟨g3,0,none⟩) i c3)=w8:=⟨_,rfl⟩;have RI8:=RI7.out.setOwn HNC7.out rfl htn;rw [hw8] at RI8;have HNC8:Hid (OwnI w8 w.heap.size 3 .i64 (.slice (some ⟨g3,0,none⟩) i c3) (clkI l j i)):=by rw [HC.out]; exact hw8▸RcI.lists (w:=w) HNC7.out (grownBy_setCell _ _ _) (ownI_apart HNC7.out RI7.out.row (by decide))
       have HW8:=Lib.hid hw8;have RI8:=Lib.hid RI8;clear hw8 RI7 HNC7;go_upto_region 22 with fail
       rw [HW8.out];obtain ⟨Wm,hWm⟩:∃Wm,w8.alloc (.cells #[(.slice (some ⟨g3,0,none⟩) i c3)] 36)=Wm:=⟨_,rfl⟩;have HBm:Hid (Below w8.heap.size w8 Wm):=hWm▸below_new (Below.refl _ _) _;have Rm:Hid (Wm.heap[w8.heap.size]?=some (.cells #[(.slice (some ⟨g3,0,none⟩) i c3)] 36 (0,0))):=hWm▸heap_alloc_new _ _;have HWm:=Lib.hid hWm;have RIm:=Lib.hid (RI8.out.below HBm.out);have HNm:=Lib.hid (OwnI.belowK HNC8.out HBm.out);clear hWm RI8 HNC8 e8 f8 HW8 b0 b1 b2 b3 b4 o7;go_wp2_with (first | (rw [HWm.out]) | refine wp_append_ss 33 (by kernel_rfl) Try.info_li rfl (by decide) (by decide) rfl _ _ rfl (by rfl) RIm.out.orow [[(.slice (some ⟨g3,0,none⟩) i c3)]] (fun r hr=>by rw [List.mem_singleton.1 hr]; exact ⟨rfl,fun u hu=>by rw [List.mem_singleton.1 hu]; rfl⟩) w8.heap.size 1 rfl (by rfl) Rm.out (by rw [List.length_map,RIm.out.vlen]; simp; omega) RIm.out.b2 ?_);intro vo9 w9 ho9 hg9;have RI9:=Lib.hid (RIm.out.addOut HNm.out ho9 hg9);have HSN:Hid (hbAll (l.take (j+1))=⟨updN S.own th (nowE S (⟨(th:Int),⟨1,a,od,nw,ti⟩,vl,ok⟩:ItemM)),S.words⟩):=by
        show _=_;rw [HN1.out];unfold hbStep;rw [show wrB (⟨(th:Int),⟨1,a,od,nw,ti⟩,vl,ok⟩:ItemM)=false by simp [wrB]];rfl
       clear ho9 hg9 RIm HNm Rm HWm HBm;go_wp2_with fail;go_roundw
       case rel=>exact ⟨j+1,_,_,_,by go_num,by omega,by rw [HSN.out]; exact RI9⟩
       case measure=>simp [intOf]; omega
      ·have HEQ:Hid (nowE S (⟨(th:Int),⟨4,a,od,nw,ti⟩,vl,ok⟩:ItemM)=incC (S.own th) th):=now_miss (x:=(⟨(th:Int),⟨4,a,od,nw,ti⟩,vl,ok⟩:ItemM)) (RI.out.wdz a hno) (fun t q=>(HBO.out.1 t q).1)
       have HNC:Hid (OwnI w5 w.heap.size 3 .i64 (.slice (some ⟨g3,0,none⟩) i c3) (tabI (nowE S (⟨(th:Int),⟨4,a,od,nw,ti⟩,vl,ok⟩:ItemM)) i)):=by rw [HEQ.out]; exact HNV.out
       clear HNV HEQ;have RI7:=Lib.hid (RI.out.more (Nat.le_succ j));have HNC7:=HNC;obtain ⟨w7,rfl⟩:∃w7:World,w7=w5:=⟨_,rfl⟩;clear RI HNC;go_upto_region 21 with fail
       have e8:=RI7.out.own_at htn;have f8:=RI7.out.own_fr (t:=th);obtain ⟨w8,hw8⟩:∃w8,w7.setCell ⟨O,th,none⟩ (.slice (some ⟨g3,0,none⟩) i c3)=w8:=⟨_,rfl⟩;have RI8:=RI7.out.setOwn HNC7.out rfl htn;rw [hw8] at RI8;have HNC8:Hid (OwnI w8 w.heap.size 3 .i64 (.slice (some ⟨g3,0,none⟩) i c3) (clkI l j i)):=by rw [HC.out]; exact hw8▸RcI.lists (w:=w) HNC7.out (grownBy_setCell _ _ _) (ownI_apart HNC7.out RI7.out.row (by decide))
       have HW8:=Lib.hid hw8;have RI8:=Lib.hid RI8;clear hw8 RI7 HNC7;go_upto_region 22 with fail
       rw [HW8.out];obtain ⟨Wm,hWm⟩:∃Wm,w8.alloc (.cells #[(.slice (some ⟨g3,0,none⟩) i c3)] 36)=Wm:=⟨_,rfl⟩;have HBm:Hid (Below w8.heap.size w8 Wm):=hWm▸below_new (Below.refl _ _) _;have Rm:Hid (Wm.heap[w8.heap.size]?=some (.cells #[(.slice (some ⟨g3,0,none⟩) i c3)] 36 (0,0))):=hWm▸heap_alloc_new _ _;have HWm:=Lib.hid hWm;have RIm:=Lib.hid (RI8.out.below HBm.out);have HNm:=Lib.hid (OwnI.belowK HNC8.out HBm.out);clear hWm RI8 HNC8 e8 f8 HW8 b0 b1 b2 b3 b4 o7;go_wp2_with (first | (rw [HWm.out]) | refine wp_append_ss 33 (by kernel_rfl) Try.info_li rfl (by decide) (by decide) rfl _ _ rfl (by rfl) RIm.out.orow [[(.slice (some ⟨g3,0,none⟩) i c3)]] (fun r hr=>by rw [List.mem_singleton.1 hr]; exact ⟨rfl,fun u hu=>by rw [List.mem_singleton.1 hu]; rfl⟩) w8.heap.size 1 rfl (by rfl) Rm.out (by rw [List.length_map,RIm.out.vlen]; simp; omega) RIm.out.b2 ?_);intro vo9 w9 ho9 hg9;have RI9:=Lib.hid (RIm.out.addOut HNm.out ho9 hg9);have HSN:Hid (hbAll (l.take (j+1))=⟨updN S.own th (nowE S (⟨(th:Int),⟨4,a,od,nw,ti⟩,vl,ok⟩:ItemM)),S.words⟩):=by
        show _=_;rw [HN1.out];unfold hbStep;rw [show wrB (⟨(th:Int),⟨4,a,od,nw,ti⟩,vl,ok⟩:ItemM)=false by simp [wrB]];rfl
       clear ho9 hg9 RIm HNm Rm HWm HBm;go_wp2_with fail;go_roundw
       case rel=>exact ⟨j+1,_,_,_,by go_num,by omega,by rw [HSN.out]; exact RI9⟩
       case measure=>simp [intOf]; omega
      ·have HEQ:Hid (nowE S (⟨(th:Int),⟨2,a,od,nw,ti⟩,vl,ok⟩:ItemM)=incC (S.own th) th):=now_no (x:=(⟨(th:Int),⟨2,a,od,nw,ti⟩,vl,ok⟩:ItemM)) (by simp [rdB])
       have HNC:Hid (OwnI w5 w.heap.size 3 .i64 (.slice (some ⟨g3,0,none⟩) i c3) (tabI (nowE S (⟨(th:Int),⟨2,a,od,nw,ti⟩,vl,ok⟩:ItemM)) i)):=by rw [HEQ.out]; exact HNV.out
       clear HNV HEQ;go_upto_region 19 with fail
       obtain ⟨Wl,hWl⟩:∃Wl,w5.alloc (.cells #[.int .i64 a,(.slice (some ⟨g3,0,none⟩) i c3)] 60)=Wl:=⟨_,rfl⟩;have HBl:Hid (Below w5.heap.size w5 Wl):=hWl▸below_new (Below.refl _ _) _;have Rl:Hid (Wl.heap[w5.heap.size]?=some (.cells #[.int .i64 a,(.slice (some ⟨g3,0,none⟩) i c3)] 60 (0,0))):=hWl▸heap_alloc_new _ _;have HWl:=Lib.hid hWl;have RIl:=Lib.hid (RI.out.below HBl.out);have HNl:=Lib.hid (OwnI.belowK HNC.out HBl.out);clear hWl RI HNC;go_wp2_with (first | (rw [HWl.out]) | refine wp_append_ss 56 (by kernel_rfl) Try.info_ck2 rfl (by decide) (by decide) rfl _ _ rfl (by rfl) RIl.out.wrow [[.int .i64 a,(.slice (some ⟨g3,0,none⟩) i c3)]] (fun r hr=>by rw [List.mem_singleton.1 hr]; exact ⟨rfl,fun u hu=>by simp only [List.mem_cons,List.not_mem_nil,or_false] at hu; rcases hu with rfl | rfl <;> rfl⟩) w5.heap.size 1 rfl (by rfl) Rl.out (by rw [wRows_len]; have:=RIl.out.wl; simp; omega) RIl.out.bw.size ?_);intro vw7 w7 ho7 hg7;have RI7:=Lib.hid (RIl.out.addWord HNl.out hno ho7 hg7);have HNC7:Hid (OwnI w7 w.heap.size 3 .i64 (.slice (some ⟨g3,0,none⟩) i c3) (tabI (nowE S (⟨(th:Int),⟨2,a,od,nw,ti⟩,vl,ok⟩:ItemM)) i)):=RcI.lists (w:=w) HNl.out hg7 (ownI_apart HNl.out RIl.out.wrow (by decide));clear ho7 hg7 RIl HNl Rl HWl HBl;go_upto_region 21 with fail
       have e8:=RI7.out.own_at htn;have f8:=RI7.out.own_fr (t:=th);obtain ⟨w8,hw8⟩:∃w8,w7.setCell ⟨O,th,none⟩ (.slice (some ⟨g3,0,none⟩) i c3)=w8:=⟨_,rfl⟩;have RI8:=RI7.out.setOwn HNC7.out rfl htn;rw [hw8] at RI8;have HNC8:Hid (OwnI w8 w.heap.size 3 .i64 (.slice (some ⟨g3,0,none⟩) i c3) (clkI l j i)):=by rw [HC.out]; exact hw8▸RcI.lists (w:=w) HNC7.out (grownBy_setCell _ _ _) (ownI_apart HNC7.out RI7.out.row (by decide))
       have HW8:=Lib.hid hw8;have RI8:=Lib.hid RI8;clear hw8 RI7 HNC7;go_upto_region 22 with fail
       rw [HW8.out];obtain ⟨Wm,hWm⟩:∃Wm,w8.alloc (.cells #[(.slice (some ⟨g3,0,none⟩) i c3)] 36)=Wm:=⟨_,rfl⟩;have HBm:Hid (Below w8.heap.size w8 Wm):=hWm▸below_new (Below.refl _ _) _;have Rm:Hid (Wm.heap[w8.heap.size]?=some (.cells #[(.slice (some ⟨g3,0,none⟩) i c3)] 36 (0,0))):=hWm▸heap_alloc_new _ _;have HWm:=Lib.hid hWm;have RIm:=Lib.hid (RI8.out.below HBm.out);have HNm:=Lib.hid (OwnI.belowK HNC8.out HBm.out);clear hWm RI8 HNC8 e8 f8 HW8 b0 b1 b2 b3 b4 o7;go_wp2_with (first | (rw [HWm.out]) | refine wp_append_ss 33 (by kernel_rfl) Try.info_li rfl (by decide) (by decide) rfl _ _ rfl (by rfl) RIm.out.orow [[(.slice (some ⟨g3,0,none⟩) i c3)]] (fun r hr=>by rw [List.mem_singleton.1 hr]; exact ⟨rfl,fun u hu=>by rw [List.mem_singleton.1 hu]; rfl⟩) w8.heap.size 1 rfl (by rfl) Rm.out (by rw [List.length_map,RIm.out.vlen]; simp; omega) RIm.out.b2 ?_);intro vo9 w9 ho9 hg9;have RI9:=Lib.hid (RIm.out.addOut HNm.out ho9 hg9);have HSN:Hid (hbAll (l.take (j+1))=⟨updN S.own th (nowE S (⟨(th:Int),⟨2,a,od,nw,ti⟩,vl,ok⟩:ItemM)),updI S.words a (nowE S (⟨(th:Int),⟨2,a,od,nw,ti⟩,vl,ok⟩:ItemM))⟩):=by
        show _=_;rw [HN1.out];unfold hbStep;rw [show wrB (⟨(th:Int),⟨2,a,od,nw,ti⟩,vl,ok⟩:ItemM)=true by simp [wrB]];rfl
       clear ho9 hg9 RIm HNm Rm HWm HBm;go_wp2_with fail;go_roundw
       case rel=>exact ⟨j+1,_,_,_,by go_num,by omega,by rw [HSN.out]; exact RI9⟩
       case measure=>simp [intOf]; omega
      ·cases ok with
       | true=>
        have HEQ:Hid (nowE S (⟨(th:Int),⟨3,a,od,nw,ti⟩,vl,true⟩:ItemM)=incC (S.own th) th):=now_miss (x:=(⟨(th:Int),⟨3,a,od,nw,ti⟩,vl,true⟩:ItemM)) (RI.out.wdz a hno) (fun t q=>(HBO.out.1 t q).1);have HNC:Hid (OwnI w5 w.heap.size 3 .i64 (.slice (some ⟨g3,0,none⟩) i c3) (tabI (nowE S (⟨(th:Int),⟨3,a,od,nw,ti⟩,vl,true⟩:ItemM)) i)):=by rw [HEQ.out]; exact HNV.out
        clear HNV HEQ;go_upto_region 19 with fail
        obtain ⟨Wl,hWl⟩:∃Wl,w5.alloc (.cells #[.int .i64 a,(.slice (some ⟨g3,0,none⟩) i c3)] 60)=Wl:=⟨_,rfl⟩;have HBl:Hid (Below w5.heap.size w5 Wl):=hWl▸below_new (Below.refl _ _) _;have Rl:Hid (Wl.heap[w5.heap.size]?=some (.cells #[.int .i64 a,(.slice (some ⟨g3,0,none⟩) i c3)] 60 (0,0))):=hWl▸heap_alloc_new _ _;have HWl:=Lib.hid hWl;have RIl:=Lib.hid (RI.out.below HBl.out);have HNl:=Lib.hid (OwnI.belowK HNC.out HBl.out);clear hWl RI HNC;go_wp2_with (first | (rw [HWl.out]) | refine wp_append_ss 56 (by kernel_rfl) Try.info_ck2 rfl (by decide) (by decide) rfl _ _ rfl (by rfl) RIl.out.wrow [[.int .i64 a,(.slice (some ⟨g3,0,none⟩) i c3)]] (fun r hr=>by rw [List.mem_singleton.1 hr]; exact ⟨rfl,fun u hu=>by simp only [List.mem_cons,List.not_mem_nil,or_false] at hu; rcases hu with rfl | rfl <;> rfl⟩) w5.heap.size 1 rfl (by rfl) Rl.out (by rw [wRows_len]; have:=RIl.out.wl; simp; omega) RIl.out.bw.size ?_);intro vw7 w7 ho7 hg7;have RI7:=Lib.hid (RIl.out.addWord HNl.out hno ho7 hg7);have HNC7:Hid (OwnI w7 w.heap.size 3 .i64 (.slice (some ⟨g3,0,none⟩) i c3) (tabI (nowE S (⟨(th:Int),⟨3,a,od,nw,ti⟩,vl,true⟩:ItemM)) i)):=RcI.lists (w:=w) HNl.out hg7 (ownI_apart HNl.out RIl.out.wrow (by decide));clear ho7 hg7 RIl HNl Rl HWl HBl;go_upto_region 21 with fail
        have e8:=RI7.out.own_at htn;have f8:=RI7.out.own_fr (t:=th);obtain ⟨w8,hw8⟩:∃w8,w7.setCell ⟨O,th,none⟩ (.slice (some ⟨g3,0,none⟩) i c3)=w8:=⟨_,rfl⟩;have RI8:=RI7.out.setOwn HNC7.out rfl htn;rw [hw8] at RI8;have HNC8:Hid (OwnI w8 w.heap.size 3 .i64 (.slice (some ⟨g3,0,none⟩) i c3) (clkI l j i)):=by rw [HC.out]; exact hw8▸RcI.lists (w:=w) HNC7.out (grownBy_setCell _ _ _) (ownI_apart HNC7.out RI7.out.row (by decide))
        have HW8:=Lib.hid hw8;have RI8:=Lib.hid RI8;clear hw8 RI7 HNC7;go_upto_region 22 with fail
        rw [HW8.out];obtain ⟨Wm,hWm⟩:∃Wm,w8.alloc (.cells #[(.slice (some ⟨g3,0,none⟩) i c3)] 36)=Wm:=⟨_,rfl⟩;have HBm:Hid (Below w8.heap.size w8 Wm):=hWm▸below_new (Below.refl _ _) _;have Rm:Hid (Wm.heap[w8.heap.size]?=some (.cells #[(.slice (some ⟨g3,0,none⟩) i c3)] 36 (0,0))):=hWm▸heap_alloc_new _ _;have HWm:=Lib.hid hWm;have RIm:=Lib.hid (RI8.out.below HBm.out);have HNm:=Lib.hid (OwnI.belowK HNC8.out HBm.out);clear hWm RI8 HNC8 e8 f8 HW8 b0 b1 b2 b3 b4 o7;go_wp2_with (first | (rw [HWm.out]) | refine wp_append_ss 33 (by kernel_rfl) Try.info_li rfl (by decide) (by decide) rfl _ _ rfl (by rfl) RIm.out.orow [[(.slice (some ⟨g3,0,none⟩) i c3)]] (fun r hr=>by rw [List.mem_singleton.1 hr]; exact ⟨rfl,fun u hu=>by rw [List.mem_singleton.1 hu]; rfl⟩) w8.heap.size 1 rfl (by rfl) Rm.out (by rw [List.length_map,RIm.out.vlen]; simp; omega) RIm.out.b2 ?_);intro vo9 w9 ho9 hg9;have RI9:=Lib.hid (RIm.out.addOut HNm.out ho9 hg9);have HSN:Hid (hbAll (l.take (j+1))=⟨updN S.own th (nowE S (⟨(th:Int),⟨3,a,od,nw,ti⟩,vl,true⟩:ItemM)),updI S.words a (nowE S (⟨(th:Int),⟨3,a,od,nw,ti⟩,vl,true⟩:ItemM))⟩):=by
         show _=_;rw [HN1.out];unfold hbStep;rw [show wrB (⟨(th:Int),⟨3,a,od,nw,ti⟩,vl,true⟩:ItemM)=true by simp [wrB]];rfl
        clear ho9 hg9 RIm HNm Rm HWm HBm;go_wp2_with fail;go_roundw
        case rel=>exact ⟨j+1,_,_,_,by go_num,by omega,by rw [HSN.out]; exact RI9⟩
        case measure=>simp [intOf]; omega
       | false=>
        have HEQ:Hid (nowE S (⟨(th:Int),⟨3,a,od,nw,ti⟩,vl,false⟩:ItemM)=incC (S.own th) th):=now_miss (x:=(⟨(th:Int),⟨3,a,od,nw,ti⟩,vl,false⟩:ItemM)) (RI.out.wdz a hno) (fun t q=>(HBO.out.1 t q).1);have HNC:Hid (OwnI w5 w.heap.size 3 .i64 (.slice (some ⟨g3,0,none⟩) i c3) (tabI (nowE S (⟨(th:Int),⟨3,a,od,nw,ti⟩,vl,false⟩:ItemM)) i)):=by rw [HEQ.out]; exact HNV.out
        clear HNV HEQ;have RI7:=Lib.hid (RI.out.more (Nat.le_succ j));have HNC7:=HNC;obtain ⟨w7,rfl⟩:∃w7:World,w7=w5:=⟨_,rfl⟩;clear RI HNC;go_upto_region 21 with fail
        have e8:=RI7.out.own_at htn;have f8:=RI7.out.own_fr (t:=th);obtain ⟨w8,hw8⟩:∃w8,w7.setCell ⟨O,th,none⟩ (.slice (some ⟨g3,0,none⟩) i c3)=w8:=⟨_,rfl⟩;have RI8:=RI7.out.setOwn HNC7.out rfl htn;rw [hw8] at RI8;have HNC8:Hid (OwnI w8 w.heap.size 3 .i64 (.slice (some ⟨g3,0,none⟩) i c3) (clkI l j i)):=by rw [HC.out]; exact hw8▸RcI.lists (w:=w) HNC7.out (grownBy_setCell _ _ _) (ownI_apart HNC7.out RI7.out.row (by decide))
        have HW8:=Lib.hid hw8;have RI8:=Lib.hid RI8;clear hw8 RI7 HNC7;go_upto_region 22 with fail
        rw [HW8.out];obtain ⟨Wm,hWm⟩:∃Wm,w8.alloc (.cells #[(.slice (some ⟨g3,0,none⟩) i c3)] 36)=Wm:=⟨_,rfl⟩;have HBm:Hid (Below w8.heap.size w8 Wm):=hWm▸below_new (Below.refl _ _) _;have Rm:Hid (Wm.heap[w8.heap.size]?=some (.cells #[(.slice (some ⟨g3,0,none⟩) i c3)] 36 (0,0))):=hWm▸heap_alloc_new _ _;have HWm:=Lib.hid hWm;have RIm:=Lib.hid (RI8.out.below HBm.out);have HNm:=Lib.hid (OwnI.belowK HNC8.out HBm.out);clear hWm RI8 HNC8 e8 f8 HW8 b0 b1 b2 b3 b4 o7;go_wp2_with (first | (rw [HWm.out]) | refine wp_append_ss 33 (by kernel_rfl) Try.info_li rfl (by decide) (by decide) rfl _ _ rfl (by rfl) RIm.out.orow [[(.slice (some ⟨g3,0,none⟩) i c3)]] (fun r hr=>by rw [List.mem_singleton.1 hr]; exact ⟨rfl,fun u hu=>by rw [List.mem_singleton.1 hu]; rfl⟩) w8.heap.size 1 rfl (by rfl) Rm.out (by rw [List.length_map,RIm.out.vlen]; simp; omega) RIm.out.b2 ?_);intro vo9 w9 ho9 hg9;have RI9:=Lib.hid (RIm.out.addOut HNm.out ho9 hg9);have HSN:Hid (hbAll (l.take (j+1))=⟨updN S.own th (nowE S (⟨(th:Int),⟨3,a,od,nw,ti⟩,vl,false⟩:ItemM)),S.words⟩):=by
         show _=_;rw [HN1.out];unfold hbStep;rw [show wrB (⟨(th:Int),⟨3,a,od,nw,ti⟩,vl,false⟩:ItemM)=false by simp [wrB]];rfl
        clear ho9 hg9 RIm HNm Rm HWm HBm;go_wp2_with fail;go_roundw
        case rel=>exact ⟨j+1,_,_,_,by go_num,by omega,by rw [HSN.out]; exact RI9⟩
        case measure=>simp [intOf]; omega
      ·have k1:=ne_beq h1
       have k2:=ne_beq h2;have k3:=ne_beq h3;have k4:=ne_beq h4;clear h1 h2 h3 h4;have HEQ:Hid (nowE S (⟨(th:Int),⟨k,a,od,nw,ti⟩,vl,ok⟩:ItemM)=incC (S.own th) th):=now_no (x:=(⟨(th:Int),⟨k,a,od,nw,ti⟩,vl,ok⟩:ItemM)) (by simp [rdB,k1,k3,k4]);have HNC:Hid (OwnI w5 w.heap.size 3 .i64 (.slice (some ⟨g3,0,none⟩) i c3) (tabI (nowE S (⟨(th:Int),⟨k,a,od,nw,ti⟩,vl,ok⟩:ItemM)) i)):=by rw [HEQ.out]; exact HNV.out
       clear HNV HEQ;have RI7:=Lib.hid (RI.out.more (Nat.le_succ j));have HNC7:=HNC;obtain ⟨w7,rfl⟩:∃w7:World,w7=w5:=⟨_,rfl⟩;clear RI HNC;go_upto_region 21 with fail
       have e8:=RI7.out.own_at htn;have f8:=RI7.out.own_fr (t:=th);obtain ⟨w8,hw8⟩:∃w8,w7.setCell ⟨O,th,none⟩ (.slice (some ⟨g3,0,none⟩) i c3)=w8:=⟨_,rfl⟩;have RI8:=RI7.out.setOwn HNC7.out rfl htn;rw [hw8] at RI8;have HNC8:Hid (OwnI w8 w.heap.size 3 .i64 (.slice (some ⟨g3,0,none⟩) i c3) (clkI l j i)):=by rw [HC.out]; exact hw8▸RcI.lists (w:=w) HNC7.out (grownBy_setCell _ _ _) (ownI_apart HNC7.out RI7.out.row (by decide))
       have HW8:=Lib.hid hw8;have RI8:=Lib.hid RI8;clear hw8 RI7 HNC7;go_upto_region 22 with fail
       rw [HW8.out];obtain ⟨Wm,hWm⟩:∃Wm,w8.alloc (.cells #[(.slice (some ⟨g3,0,none⟩) i c3)] 36)=Wm:=⟨_,rfl⟩;have HBm:Hid (Below w8.heap.size w8 Wm):=hWm▸below_new (Below.refl _ _) _;have Rm:Hid (Wm.heap[w8.heap.size]?=some (.cells #[(.slice (some ⟨g3,0,none⟩) i c3)] 36 (0,0))):=hWm▸heap_alloc_new _ _;have HWm:=Lib.hid hWm;have RIm:=Lib.hid (RI8.out.below HBm.out);have HNm:=Lib.hid (OwnI.belowK HNC8.out HBm.out);clear hWm RI8 HNC8 e8 f8 HW8 b0 b1 b2 b3 b4 o7;go_wp2_with (first | (rw [HWm.out]) | refine wp_append_ss 33 (by kernel_rfl) Try.info_li rfl (by decide) (by decide) rfl _ _ rfl (by rfl) RIm.out.orow [[(.slice (some ⟨g3,0,none⟩) i c3)]] (fun r hr=>by rw [List.mem_singleton.1 hr]; exact ⟨rfl,fun u hu=>by rw [List.mem_singleton.1 hu]; rfl⟩) w8.heap.size 1 rfl (by rfl) Rm.out (by rw [List.length_map,RIm.out.vlen]; simp; omega) RIm.out.b2 ?_);intro vo9 w9 ho9 hg9;have RI9:=Lib.hid (RIm.out.addOut HNm.out ho9 hg9);have HSN:Hid (hbAll (l.take (j+1))=⟨updN S.own th (nowE S (⟨(th:Int),⟨k,a,od,nw,ti⟩,vl,ok⟩:ItemM)),S.words⟩):=by
        show _=_;rw [HN1.out];unfold hbStep;rw [show wrB (⟨(th:Int),⟨k,a,od,nw,ti⟩,vl,ok⟩:ItemM)=false by simp [wrB,k2,k3]];rfl
       clear ho9 hg9 RIm HNm Rm HWm HBm;go_wp2_with fail;go_roundw
       case rel=>exact ⟨j+1,_,_,_,by go_num,by omega,by rw [HSN.out]; exact RI9⟩
       case measure=>simp [intOf]; omega
     ·rcases (show k=1∨k=4∨k=2∨k=3∨(k≠1∧k≠2∧k≠3∧k≠4) by omega) with rfl | rfl | rfl | rfl | ⟨h1,h2,h3,h4⟩
      ·obtain ⟨gw,cw,hvw,hgw⟩:∃gw cw,vw=.slice (some ⟨gw,0,none⟩) ws.length cw∧Hid (w.heap.size≤gw):=by
        rcases RI.out.wrow.shape with ⟨-,h2⟩ | ⟨g,cap,h1,h2,-⟩
        ·have h3:=congrArg List.length h2
         rw [wRows_len,List.length_nil] at h3;omega
        ·rw [wRows_len] at h1; exact ⟨g,cap,h1,h2⟩
       subst hvw;have hkI:(kf:Int)<(ws.length:Int):=by omega
       obtain ⟨e2,-⟩:=RI.out.word_at hkf;have hwv:=RI.out.wdv kf hkf;rw [hka] at hwv;obtain ⟨av,hav⟩:∃z,(ws.getD kf noW).2=z:=⟨_,rfl⟩;rw [hav] at hwv e2;have TJ:=Lib.hid (rjoin_any (.slice (some ⟨g3,0,none⟩) i c3) av i _ _ w5 (HNV.out.read (by rw [tabI_len]; omega) (tab_wrap (N:=1001) (fun q=>by have h1:=HBO.out.1 th q; unfold incC; split <;> omega) (by decide))) (hwv.read (by rw [tabI_len]; omega) (tab_wrap (HBO.out.2 a) (by decide))) (by omega));clear hav hwv;go_wp2_with fail;refine TJ.out.mono ?_; rintro e w6 ⟨nv,rfl,ho6,hb6⟩;have RI:=Lib.hid (RI.out.below hb6);have RX:=Lib.hid (row_below3k hb6 RX.out);have HBW:=Lib.hid (below_then HBW.out hb6);have HEQ:Hid (nowE S (⟨(th:Int),⟨1,a,od,nw,ti⟩,vl,ok⟩:ItemM)=maxC (incC (S.own th) th) (S.words a)):=now_rd (x:=(⟨(th:Int),⟨1,a,od,nw,ti⟩,vl,ok⟩:ItemM)) (by simp [rdB]);have HNC:Hid (OwnI w6 w.heap.size 3 .i64 nv (tabI (nowE S (⟨(th:Int),⟨1,a,od,nw,ti⟩,vl,ok⟩:ItemM)) i)):=by rw [HEQ.out]; exact OwnI.baseK ho6 (Nat.le_trans HWX.out HSZ.out)
       obtain ⟨p6,c6,hnv⟩:=HNC.out.lenK;rw [tabI_len] at hnv;subst hnv;clear ho6 hb6 TJ e2 b0 b1 b2 b3 b4 o7;obtain ⟨b0,b1,b2,b3,b4⟩:=rowc5 RX.out;have o7:=KO.out w6 HBW.out;clear HNV HEQ;have RI7:=Lib.hid (RI.out.more (Nat.le_succ j));have HNC7:=HNC;obtain ⟨w7,rfl⟩:∃w7:World,w7=w6:=⟨_,rfl⟩;clear RI HNC;go_upto_region 21 with fail
       have e8:=RI7.out.own_at htn;have f8:=RI7.out.own_fr (t:=th);obtain ⟨w8,hw8⟩:∃w8,w7.setCell ⟨O,th,none⟩ (.slice p6 i c6)=w8:=⟨_,rfl⟩;have RI8:=RI7.out.setOwn HNC7.out rfl htn;rw [hw8] at RI8;have HNC8:Hid (OwnI w8 w.heap.size 3 .i64 (.slice p6 i c6) (clkI l j i)):=by rw [HC.out]; exact hw8▸RcI.lists (w:=w) HNC7.out (grownBy_setCell _ _ _) (ownI_apart HNC7.out RI7.out.row (by decide))
       have HW8:=Lib.hid hw8;have RI8:=Lib.hid RI8;clear hw8 RI7 HNC7;go_upto_region 22 with fail
       rw [HW8.out];obtain ⟨Wm,hWm⟩:∃Wm,w8.alloc (.cells #[(.slice p6 i c6)] 36)=Wm:=⟨_,rfl⟩;have HBm:Hid (Below w8.heap.size w8 Wm):=hWm▸below_new (Below.refl _ _) _;have Rm:Hid (Wm.heap[w8.heap.size]?=some (.cells #[(.slice p6 i c6)] 36 (0,0))):=hWm▸heap_alloc_new _ _;have HWm:=Lib.hid hWm;have RIm:=Lib.hid (RI8.out.below HBm.out);have HNm:=Lib.hid (OwnI.belowK HNC8.out HBm.out);clear hWm RI8 HNC8 e8 f8 HW8 b0 b1 b2 b3 b4 o7;go_wp2_with (first | (rw [HWm.out]) | refine wp_append_ss 33 (by kernel_rfl) Try.info_li rfl (by decide) (by decide) rfl _ _ rfl (by rfl) RIm.out.orow [[(.slice p6 i c6)]] (fun r hr=>by rw [List.mem_singleton.1 hr]; exact ⟨rfl,fun u hu=>by rw [List.mem_singleton.1 hu]; rfl⟩) w8.heap.size 1 rfl (by rfl) Rm.out (by rw [List.length_map,RIm.out.vlen]; simp; omega) RIm.out.b2 ?_);intro vo9 w9 ho9 hg9;have RI9:=Lib.hid (RIm.out.addOut HNm.out ho9 hg9);have HSN:Hid (hbAll (l.take (j+1))=⟨updN S.own th (nowE S (⟨(th:Int),⟨1,a,od,nw,ti⟩,vl,ok⟩:ItemM)),S.words⟩):=by
        show _=_;rw [HN1.out];unfold hbStep;rw [show wrB (⟨(th:Int),⟨1,a,od,nw,ti⟩,vl,ok⟩:ItemM)=false by simp [wrB]];rfl
       clear ho9 hg9 RIm HNm Rm HWm HBm;go_wp2_with fail;go_roundw
       case rel=>exact ⟨j+1,_,_,_,by go_num,by omega,by rw [HSN.out]; exact RI9⟩
       case measure=>simp [intOf]; omega
      ·obtain ⟨gw,cw,hvw,hgw⟩:∃gw cw,vw=.slice (some ⟨gw,0,none⟩) ws.length cw∧Hid (w.heap.size≤gw):=by
        rcases RI.out.wrow.shape with ⟨-,h2⟩ | ⟨g,cap,h1,h2,-⟩
        ·have h3:=congrArg List.length h2
         rw [wRows_len,List.length_nil] at h3;omega
        ·rw [wRows_len] at h1; exact ⟨g,cap,h1,h2⟩
       subst hvw;have hkI:(kf:Int)<(ws.length:Int):=by omega
       obtain ⟨e2,-⟩:=RI.out.word_at hkf;have hwv:=RI.out.wdv kf hkf;rw [hka] at hwv;obtain ⟨av,hav⟩:∃z,(ws.getD kf noW).2=z:=⟨_,rfl⟩;rw [hav] at hwv e2;have TJ:=Lib.hid (rjoin_any (.slice (some ⟨g3,0,none⟩) i c3) av i _ _ w5 (HNV.out.read (by rw [tabI_len]; omega) (tab_wrap (N:=1001) (fun q=>by have h1:=HBO.out.1 th q; unfold incC; split <;> omega) (by decide))) (hwv.read (by rw [tabI_len]; omega) (tab_wrap (HBO.out.2 a) (by decide))) (by omega));clear hav hwv;go_wp2_with fail;refine TJ.out.mono ?_; rintro e w6 ⟨nv,rfl,ho6,hb6⟩;have RI:=Lib.hid (RI.out.below hb6);have RX:=Lib.hid (row_below3k hb6 RX.out);have HBW:=Lib.hid (below_then HBW.out hb6);have HEQ:Hid (nowE S (⟨(th:Int),⟨4,a,od,nw,ti⟩,vl,ok⟩:ItemM)=maxC (incC (S.own th) th) (S.words a)):=now_rd (x:=(⟨(th:Int),⟨4,a,od,nw,ti⟩,vl,ok⟩:ItemM)) (by simp [rdB]);have HNC:Hid (OwnI w6 w.heap.size 3 .i64 nv (tabI (nowE S (⟨(th:Int),⟨4,a,od,nw,ti⟩,vl,ok⟩:ItemM)) i)):=by rw [HEQ.out]; exact OwnI.baseK ho6 (Nat.le_trans HWX.out HSZ.out)
       obtain ⟨p6,c6,hnv⟩:=HNC.out.lenK;rw [tabI_len] at hnv;subst hnv;clear ho6 hb6 TJ e2 b0 b1 b2 b3 b4 o7;obtain ⟨b0,b1,b2,b3,b4⟩:=rowc5 RX.out;have o7:=KO.out w6 HBW.out;clear HNV HEQ;have RI7:=Lib.hid (RI.out.more (Nat.le_succ j));have HNC7:=HNC;obtain ⟨w7,rfl⟩:∃w7:World,w7=w6:=⟨_,rfl⟩;clear RI HNC;go_upto_region 21 with fail
       have e8:=RI7.out.own_at htn;have f8:=RI7.out.own_fr (t:=th);obtain ⟨w8,hw8⟩:∃w8,w7.setCell ⟨O,th,none⟩ (.slice p6 i c6)=w8:=⟨_,rfl⟩;have RI8:=RI7.out.setOwn HNC7.out rfl htn;rw [hw8] at RI8;have HNC8:Hid (OwnI w8 w.heap.size 3 .i64 (.slice p6 i c6) (clkI l j i)):=by rw [HC.out]; exact hw8▸RcI.lists (w:=w) HNC7.out (grownBy_setCell _ _ _) (ownI_apart HNC7.out RI7.out.row (by decide))
       have HW8:=Lib.hid hw8;have RI8:=Lib.hid RI8;clear hw8 RI7 HNC7;go_upto_region 22 with fail
       rw [HW8.out];obtain ⟨Wm,hWm⟩:∃Wm,w8.alloc (.cells #[(.slice p6 i c6)] 36)=Wm:=⟨_,rfl⟩;have HBm:Hid (Below w8.heap.size w8 Wm):=hWm▸below_new (Below.refl _ _) _;have Rm:Hid (Wm.heap[w8.heap.size]?=some (.cells #[(.slice p6 i c6)] 36 (0,0))):=hWm▸heap_alloc_new _ _;have HWm:=Lib.hid hWm;have RIm:=Lib.hid (RI8.out.below HBm.out);have HNm:=Lib.hid (OwnI.belowK HNC8.out HBm.out);clear hWm RI8 HNC8 e8 f8 HW8 b0 b1 b2 b3 b4 o7;go_wp2_with (first | (rw [HWm.out]) | refine wp_append_ss 33 (by kernel_rfl) Try.info_li rfl (by decide) (by decide) rfl _ _ rfl (by rfl) RIm.out.orow [[(.slice p6 i c6)]] (fun r hr=>by rw [List.mem_singleton.1 hr]; exact ⟨rfl,fun u hu=>by rw [List.mem_singleton.1 hu]; rfl⟩) w8.heap.size 1 rfl (by rfl) Rm.out (by rw [List.length_map,RIm.out.vlen]; simp; omega) RIm.out.b2 ?_);intro vo9 w9 ho9 hg9;have RI9:=Lib.hid (RIm.out.addOut HNm.out ho9 hg9);have HSN:Hid (hbAll (l.take (j+1))=⟨updN S.own th (nowE S (⟨(th:Int),⟨4,a,od,nw,ti⟩,vl,ok⟩:ItemM)),S.words⟩):=by
        show _=_;rw [HN1.out];unfold hbStep;rw [show wrB (⟨(th:Int),⟨4,a,od,nw,ti⟩,vl,ok⟩:ItemM)=false by simp [wrB]];rfl
       clear ho9 hg9 RIm HNm Rm HWm HBm;go_wp2_with fail;go_roundw
       case rel=>exact ⟨j+1,_,_,_,by go_num,by omega,by rw [HSN.out]; exact RI9⟩
       case measure=>simp [intOf]; omega
      ·obtain ⟨gw,cw,hvw,hgw⟩:∃gw cw,vw=.slice (some ⟨gw,0,none⟩) ws.length cw∧Hid (w.heap.size≤gw):=by
        rcases RI.out.wrow.shape with ⟨-,h2⟩ | ⟨g,cap,h1,h2,-⟩
        ·have h3:=congrArg List.length h2
         rw [wRows_len,List.length_nil] at h3;omega
        ·rw [wRows_len] at h1; exact ⟨g,cap,h1,h2⟩
       subst hvw;have hkI:(kf:Int)<(ws.length:Int):=by omega
       have HEQ:Hid (nowE S (⟨(th:Int),⟨2,a,od,nw,ti⟩,vl,ok⟩:ItemM)=incC (S.own th) th):=now_no (x:=(⟨(th:Int),⟨2,a,od,nw,ti⟩,vl,ok⟩:ItemM)) (by simp [rdB]);have HNC:Hid (OwnI w5 w.heap.size 3 .i64 (.slice (some ⟨g3,0,none⟩) i c3) (tabI (nowE S (⟨(th:Int),⟨2,a,od,nw,ti⟩,vl,ok⟩:ItemM)) i)):=by rw [HEQ.out]; exact HNV.out
       clear HNV HEQ;obtain ⟨e5,f5⟩:=RI.out.word_at hkf;go_upto_region 20 with fail
       obtain ⟨w7,hw7⟩:∃w7,w5.setCell ⟨gw,kf * 2+1,none⟩ (.slice (some ⟨g3,0,none⟩) i c3)=w7:=⟨_,rfl⟩;have RI7:=RI.out.setWord HNC.out rfl hkf hka;rw [hw7] at RI7;have HNC7:Hid (OwnI w7 w.heap.size 3 .i64 (.slice (some ⟨g3,0,none⟩) i c3) (tabI (nowE S (⟨(th:Int),⟨2,a,od,nw,ti⟩,vl,ok⟩:ItemM)) i)):=hw7▸RcI.lists (w:=w) HNC.out (grownBy_setCell _ _ _) (ownI_apart HNC.out RI.out.wrow (by decide));have HW7:=Lib.hid hw7;have RI7:=Lib.hid (RI7.more (Nat.le_succ j));clear hw7;go_upto_region 21 with fail
       rw [HW7.out];clear HW7 e5 f5 RI HNC;have e8:=RI7.out.own_at htn;have f8:=RI7.out.own_fr (t:=th);obtain ⟨w8,hw8⟩:∃w8,w7.setCell ⟨O,th,none⟩ (.slice (some ⟨g3,0,none⟩) i c3)=w8:=⟨_,rfl⟩;have RI8:=RI7.out.setOwn HNC7.out rfl htn;rw [hw8] at RI8;have HNC8:Hid (OwnI w8 w.heap.size 3 .i64 (.slice (some ⟨g3,0,none⟩) i c3) (clkI l j i)):=by rw [HC.out]; exact hw8▸RcI.lists (w:=w) HNC7.out (grownBy_setCell _ _ _) (ownI_apart HNC7.out RI7.out.row (by decide))
       have HW8:=Lib.hid hw8;have RI8:=Lib.hid RI8;clear hw8 RI7 HNC7;go_upto_region 22 with fail
       rw [HW8.out];obtain ⟨Wm,hWm⟩:∃Wm,w8.alloc (.cells #[(.slice (some ⟨g3,0,none⟩) i c3)] 36)=Wm:=⟨_,rfl⟩;have HBm:Hid (Below w8.heap.size w8 Wm):=hWm▸below_new (Below.refl _ _) _;have Rm:Hid (Wm.heap[w8.heap.size]?=some (.cells #[(.slice (some ⟨g3,0,none⟩) i c3)] 36 (0,0))):=hWm▸heap_alloc_new _ _;have HWm:=Lib.hid hWm;have RIm:=Lib.hid (RI8.out.below HBm.out);have HNm:=Lib.hid (OwnI.belowK HNC8.out HBm.out);clear hWm RI8 HNC8 e8 f8 HW8 b0 b1 b2 b3 b4 o7;go_wp2_with (first | (rw [HWm.out]) | refine wp_append_ss 33 (by kernel_rfl) Try.info_li rfl (by decide) (by decide) rfl _ _ rfl (by rfl) RIm.out.orow [[(.slice (some ⟨g3,0,none⟩) i c3)]] (fun r hr=>by rw [List.mem_singleton.1 hr]; exact ⟨rfl,fun u hu=>by rw [List.mem_singleton.1 hu]; rfl⟩) w8.heap.size 1 rfl (by rfl) Rm.out (by rw [List.length_map,RIm.out.vlen]; simp; omega) RIm.out.b2 ?_);intro vo9 w9 ho9 hg9;have RI9:=Lib.hid (RIm.out.addOut HNm.out ho9 hg9);have HSN:Hid (hbAll (l.take (j+1))=⟨updN S.own th (nowE S (⟨(th:Int),⟨2,a,od,nw,ti⟩,vl,ok⟩:ItemM)),updI S.words a (nowE S (⟨(th:Int),⟨2,a,od,nw,ti⟩,vl,ok⟩:ItemM))⟩):=by
        show _=_;rw [HN1.out];unfold hbStep;rw [show wrB (⟨(th:Int),⟨2,a,od,nw,ti⟩,vl,ok⟩:ItemM)=true by simp [wrB]];rfl
       clear ho9 hg9 RIm HNm Rm HWm HBm;go_wp2_with fail;go_roundw
       case rel=>exact ⟨j+1,_,_,_,by go_num,by omega,by rw [HSN.out]; exact RI9⟩
       case measure=>simp [intOf]; omega
      ·cases ok with
       | true=>
        obtain ⟨gw,cw,hvw,hgw⟩:∃gw cw,vw=.slice (some ⟨gw,0,none⟩) ws.length cw∧Hid (w.heap.size≤gw):=by
         rcases RI.out.wrow.shape with ⟨-,h2⟩ | ⟨g,cap,h1,h2,-⟩
         ·have h3:=congrArg List.length h2
          rw [wRows_len,List.length_nil] at h3;omega
         ·rw [wRows_len] at h1; exact ⟨g,cap,h1,h2⟩
        subst hvw;have hkI:(kf:Int)<(ws.length:Int):=by omega
        obtain ⟨e2,-⟩:=RI.out.word_at hkf;have hwv:=RI.out.wdv kf hkf;rw [hka] at hwv;obtain ⟨av,hav⟩:∃z,(ws.getD kf noW).2=z:=⟨_,rfl⟩;rw [hav] at hwv e2;have TJ:=Lib.hid (rjoin_any (.slice (some ⟨g3,0,none⟩) i c3) av i _ _ w5 (HNV.out.read (by rw [tabI_len]; omega) (tab_wrap (N:=1001) (fun q=>by have h1:=HBO.out.1 th q; unfold incC; split <;> omega) (by decide))) (hwv.read (by rw [tabI_len]; omega) (tab_wrap (HBO.out.2 a) (by decide))) (by omega));clear hav hwv;go_wp2_with fail;refine TJ.out.mono ?_; rintro e w6 ⟨nv,rfl,ho6,hb6⟩;have RI:=Lib.hid (RI.out.below hb6);have RX:=Lib.hid (row_below3k hb6 RX.out);have HBW:=Lib.hid (below_then HBW.out hb6);have HEQ:Hid (nowE S (⟨(th:Int),⟨3,a,od,nw,ti⟩,vl,true⟩:ItemM)=maxC (incC (S.own th) th) (S.words a)):=now_rd (x:=(⟨(th:Int),⟨3,a,od,nw,ti⟩,vl,true⟩:ItemM)) (by simp [rdB]);have HNC:Hid (OwnI w6 w.heap.size 3 .i64 nv (tabI (nowE S (⟨(th:Int),⟨3,a,od,nw,ti⟩,vl,true⟩:ItemM)) i)):=by rw [HEQ.out]; exact OwnI.baseK ho6 (Nat.le_trans HWX.out HSZ.out)
        obtain ⟨p6,c6,hnv⟩:=HNC.out.lenK;rw [tabI_len] at hnv;subst hnv;clear ho6 hb6 TJ e2 b0 b1 b2 b3 b4 o7;obtain ⟨b0,b1,b2,b3,b4⟩:=rowc5 RX.out;have o7:=KO.out w6 HBW.out;clear HNV HEQ;obtain ⟨e5,f5⟩:=RI.out.word_at hkf;go_upto_region 20 with fail
        obtain ⟨w7,hw7⟩:∃w7,w6.setCell ⟨gw,kf * 2+1,none⟩ (.slice p6 i c6)=w7:=⟨_,rfl⟩;have RI7:=RI.out.setWord HNC.out rfl hkf hka;rw [hw7] at RI7;have HNC7:Hid (OwnI w7 w.heap.size 3 .i64 (.slice p6 i c6) (tabI (nowE S (⟨(th:Int),⟨3,a,od,nw,ti⟩,vl,true⟩:ItemM)) i)):=hw7▸RcI.lists (w:=w) HNC.out (grownBy_setCell _ _ _) (ownI_apart HNC.out RI.out.wrow (by decide));have HW7:=Lib.hid hw7;have RI7:=Lib.hid (RI7.more (Nat.le_succ j));clear hw7;go_upto_region 21 with fail
        rw [HW7.out];clear HW7 e5 f5 RI HNC;have e8:=RI7.out.own_at htn;have f8:=RI7.out.own_fr (t:=th);obtain ⟨w8,hw8⟩:∃w8,w7.setCell ⟨O,th,none⟩ (.slice p6 i c6)=w8:=⟨_,rfl⟩;have RI8:=RI7.out.setOwn HNC7.out rfl htn;rw [hw8] at RI8;have HNC8:Hid (OwnI w8 w.heap.size 3 .i64 (.slice p6 i c6) (clkI l j i)):=by rw [HC.out]; exact hw8▸RcI.lists (w:=w) HNC7.out (grownBy_setCell _ _ _) (ownI_apart HNC7.out RI7.out.row (by decide))
        have HW8:=Lib.hid hw8;have RI8:=Lib.hid RI8;clear hw8 RI7 HNC7;go_upto_region 22 with fail
        rw [HW8.out];obtain ⟨Wm,hWm⟩:∃Wm,w8.alloc (.cells #[(.slice p6 i c6)] 36)=Wm:=⟨_,rfl⟩;have HBm:Hid (Below w8.heap.size w8 Wm):=hWm▸below_new (Below.refl _ _) _;have Rm:Hid (Wm.heap[w8.heap.size]?=some (.cells #[(.slice p6 i c6)] 36 (0,0))):=hWm▸heap_alloc_new _ _;have HWm:=Lib.hid hWm;have RIm:=Lib.hid (RI8.out.below HBm.out);have HNm:=Lib.hid (OwnI.belowK HNC8.out HBm.out);clear hWm RI8 HNC8 e8 f8 HW8 b0 b1 b2 b3 b4 o7;go_wp2_with (first | (rw [HWm.out]) | refine wp_append_ss 33 (by kernel_rfl) Try.info_li rfl (by decide) (by decide) rfl _ _ rfl (by rfl) RIm.out.orow [[(.slice p6 i c6)]] (fun r hr=>by rw [List.mem_singleton.1 hr]; exact ⟨rfl,fun u hu=>by rw [List.mem_singleton.1 hu]; rfl⟩) w8.heap.size 1 rfl (by rfl) Rm.out (by rw [List.length_map,RIm.out.vlen]; simp; omega) RIm.out.b2 ?_);intro vo9 w9 ho9 hg9;have RI9:=Lib.hid (RIm.out.addOut HNm.out ho9 hg9);have HSN:Hid (hbAll (l.take (j+1))=⟨updN S.own th (nowE S (⟨(th:Int),⟨3,a,od,nw,ti⟩,vl,true⟩:ItemM)),updI S.words a (nowE S (⟨(th:Int),⟨3,a,od,nw,ti⟩,vl,true⟩:ItemM))⟩):=by
         show _=_;rw [HN1.out];unfold hbStep;rw [show wrB (⟨(th:Int),⟨3,a,od,nw,ti⟩,vl,true⟩:ItemM)=true by simp [wrB]];rfl
        clear ho9 hg9 RIm HNm Rm HWm HBm;go_wp2_with fail;go_roundw
        case rel=>exact ⟨j+1,_,_,_,by go_num,by omega,by rw [HSN.out]; exact RI9⟩
        case measure=>simp [intOf]; omega
       | false=>
        obtain ⟨gw,cw,hvw,hgw⟩:∃gw cw,vw=.slice (some ⟨gw,0,none⟩) ws.length cw∧Hid (w.heap.size≤gw):=by
         rcases RI.out.wrow.shape with ⟨-,h2⟩ | ⟨g,cap,h1,h2,-⟩
         ·have h3:=congrArg List.length h2
          rw [wRows_len,List.length_nil] at h3;omega
         ·rw [wRows_len] at h1; exact ⟨g,cap,h1,h2⟩
        subst hvw;have hkI:(kf:Int)<(ws.length:Int):=by omega
        obtain ⟨e2,-⟩:=RI.out.word_at hkf;have hwv:=RI.out.wdv kf hkf;rw [hka] at hwv;obtain ⟨av,hav⟩:∃z,(ws.getD kf noW).2=z:=⟨_,rfl⟩;rw [hav] at hwv e2;have TJ:=Lib.hid (rjoin_any (.slice (some ⟨g3,0,none⟩) i c3) av i _ _ w5 (HNV.out.read (by rw [tabI_len]; omega) (tab_wrap (N:=1001) (fun q=>by have h1:=HBO.out.1 th q; unfold incC; split <;> omega) (by decide))) (hwv.read (by rw [tabI_len]; omega) (tab_wrap (HBO.out.2 a) (by decide))) (by omega));clear hav hwv;go_wp2_with fail;refine TJ.out.mono ?_; rintro e w6 ⟨nv,rfl,ho6,hb6⟩;have RI:=Lib.hid (RI.out.below hb6);have RX:=Lib.hid (row_below3k hb6 RX.out);have HBW:=Lib.hid (below_then HBW.out hb6);have HEQ:Hid (nowE S (⟨(th:Int),⟨3,a,od,nw,ti⟩,vl,false⟩:ItemM)=maxC (incC (S.own th) th) (S.words a)):=now_rd (x:=(⟨(th:Int),⟨3,a,od,nw,ti⟩,vl,false⟩:ItemM)) (by simp [rdB]);have HNC:Hid (OwnI w6 w.heap.size 3 .i64 nv (tabI (nowE S (⟨(th:Int),⟨3,a,od,nw,ti⟩,vl,false⟩:ItemM)) i)):=by rw [HEQ.out]; exact OwnI.baseK ho6 (Nat.le_trans HWX.out HSZ.out)
        obtain ⟨p6,c6,hnv⟩:=HNC.out.lenK;rw [tabI_len] at hnv;subst hnv;clear ho6 hb6 TJ e2 b0 b1 b2 b3 b4 o7;obtain ⟨b0,b1,b2,b3,b4⟩:=rowc5 RX.out;have o7:=KO.out w6 HBW.out;clear HNV HEQ;have RI7:=Lib.hid (RI.out.more (Nat.le_succ j));have HNC7:=HNC;obtain ⟨w7,rfl⟩:∃w7:World,w7=w6:=⟨_,rfl⟩;clear RI HNC;go_upto_region 21 with fail
        have e8:=RI7.out.own_at htn;have f8:=RI7.out.own_fr (t:=th);obtain ⟨w8,hw8⟩:∃w8,w7.setCell ⟨O,th,none⟩ (.slice p6 i c6)=w8:=⟨_,rfl⟩;have RI8:=RI7.out.setOwn HNC7.out rfl htn;rw [hw8] at RI8;have HNC8:Hid (OwnI w8 w.heap.size 3 .i64 (.slice p6 i c6) (clkI l j i)):=by rw [HC.out]; exact hw8▸RcI.lists (w:=w) HNC7.out (grownBy_setCell _ _ _) (ownI_apart HNC7.out RI7.out.row (by decide))
        have HW8:=Lib.hid hw8;have RI8:=Lib.hid RI8;clear hw8 RI7 HNC7;go_upto_region 22 with fail
        rw [HW8.out];obtain ⟨Wm,hWm⟩:∃Wm,w8.alloc (.cells #[(.slice p6 i c6)] 36)=Wm:=⟨_,rfl⟩;have HBm:Hid (Below w8.heap.size w8 Wm):=hWm▸below_new (Below.refl _ _) _;have Rm:Hid (Wm.heap[w8.heap.size]?=some (.cells #[(.slice p6 i c6)] 36 (0,0))):=hWm▸heap_alloc_new _ _;have HWm:=Lib.hid hWm;have RIm:=Lib.hid (RI8.out.below HBm.out);have HNm:=Lib.hid (OwnI.belowK HNC8.out HBm.out);clear hWm RI8 HNC8 e8 f8 HW8 b0 b1 b2 b3 b4 o7;go_wp2_with (first | (rw [HWm.out]) | refine wp_append_ss 33 (by kernel_rfl) Try.info_li rfl (by decide) (by decide) rfl _ _ rfl (by rfl) RIm.out.orow [[(.slice p6 i c6)]] (fun r hr=>by rw [List.mem_singleton.1 hr]; exact ⟨rfl,fun u hu=>by rw [List.mem_singleton.1 hu]; rfl⟩) w8.heap.size 1 rfl (by rfl) Rm.out (by rw [List.length_map,RIm.out.vlen]; simp; omega) RIm.out.b2 ?_);intro vo9 w9 ho9 hg9;have RI9:=Lib.hid (RIm.out.addOut HNm.out ho9 hg9);have HSN:Hid (hbAll (l.take (j+1))=⟨updN S.own th (nowE S (⟨(th:Int),⟨3,a,od,nw,ti⟩,vl,false⟩:ItemM)),S.words⟩):=by
         show _=_;rw [HN1.out];unfold hbStep;rw [show wrB (⟨(th:Int),⟨3,a,od,nw,ti⟩,vl,false⟩:ItemM)=false by simp [wrB]];rfl
        clear ho9 hg9 RIm HNm Rm HWm HBm;go_wp2_with fail;go_roundw
        case rel=>exact ⟨j+1,_,_,_,by go_num,by omega,by rw [HSN.out]; exact RI9⟩
        case measure=>simp [intOf]; omega
      ·have k1:=ne_beq h1
       have k2:=ne_beq h2;have k3:=ne_beq h3;have k4:=ne_beq h4;clear h1 h2 h3 h4;obtain ⟨gw,cw,hvw,hgw⟩:∃gw cw,vw=.slice (some ⟨gw,0,none⟩) ws.length cw∧Hid (w.heap.size≤gw):=by
        rcases RI.out.wrow.shape with ⟨-,h2⟩ | ⟨g,cap,h1,h2,-⟩
        ·have h3:=congrArg List.length h2
         rw [wRows_len,List.length_nil] at h3;omega
        ·rw [wRows_len] at h1; exact ⟨g,cap,h1,h2⟩
       subst hvw;have hkI:(kf:Int)<(ws.length:Int):=by omega
       have HEQ:Hid (nowE S (⟨(th:Int),⟨k,a,od,nw,ti⟩,vl,ok⟩:ItemM)=incC (S.own th) th):=now_no (x:=(⟨(th:Int),⟨k,a,od,nw,ti⟩,vl,ok⟩:ItemM)) (by simp [rdB,k1,k3,k4]);have HNC:Hid (OwnI w5 w.heap.size 3 .i64 (.slice (some ⟨g3,0,none⟩) i c3) (tabI (nowE S (⟨(th:Int),⟨k,a,od,nw,ti⟩,vl,ok⟩:ItemM)) i)):=by rw [HEQ.out]; exact HNV.out
       clear HNV HEQ;have RI7:=Lib.hid (RI.out.more (Nat.le_succ j));have HNC7:=HNC;obtain ⟨w7,rfl⟩:∃w7:World,w7=w5:=⟨_,rfl⟩;clear RI HNC;go_upto_region 21 with fail
       have e8:=RI7.out.own_at htn;have f8:=RI7.out.own_fr (t:=th);obtain ⟨w8,hw8⟩:∃w8,w7.setCell ⟨O,th,none⟩ (.slice (some ⟨g3,0,none⟩) i c3)=w8:=⟨_,rfl⟩;have RI8:=RI7.out.setOwn HNC7.out rfl htn;rw [hw8] at RI8;have HNC8:Hid (OwnI w8 w.heap.size 3 .i64 (.slice (some ⟨g3,0,none⟩) i c3) (clkI l j i)):=by rw [HC.out]; exact hw8▸RcI.lists (w:=w) HNC7.out (grownBy_setCell _ _ _) (ownI_apart HNC7.out RI7.out.row (by decide))
       have HW8:=Lib.hid hw8;have RI8:=Lib.hid RI8;clear hw8 RI7 HNC7;go_upto_region 22 with fail
       rw [HW8.out];obtain ⟨Wm,hWm⟩:∃Wm,w8.alloc (.cells #[(.slice (some ⟨g3,0,none⟩) i c3)] 36)=Wm:=⟨_,rfl⟩;have HBm:Hid (Below w8.heap.size w8 Wm):=hWm▸below_new (Below.refl _ _) _;have Rm:Hid (Wm.heap[w8.heap.size]?=some (.cells #[(.slice (some ⟨g3,0,none⟩) i c3)] 36 (0,0))):=hWm▸heap_alloc_new _ _;have HWm:=Lib.hid hWm;have RIm:=Lib.hid (RI8.out.below HBm.out);have HNm:=Lib.hid (OwnI.belowK HNC8.out HBm.out);clear hWm RI8 HNC8 e8 f8 HW8 b0 b1 b2 b3 b4 o7;go_wp2_with (first | (rw [HWm.out]) | refine wp_append_ss 33 (by kernel_rfl) Try.info_li rfl (by decide) (by decide) rfl _ _ rfl (by rfl) RIm.out.orow [[(.slice (some ⟨g3,0,none⟩) i c3)]] (fun r hr=>by rw [List.mem_singleton.1 hr]; exact ⟨rfl,fun u hu=>by rw [List.mem_singleton.1 hu]; rfl⟩) w8.heap.size 1 rfl (by rfl) Rm.out (by rw [List.length_map,RIm.out.vlen]; simp; omega) RIm.out.b2 ?_);intro vo9 w9 ho9 hg9;have RI9:=Lib.hid (RIm.out.addOut HNm.out ho9 hg9);have HSN:Hid (hbAll (l.take (j+1))=⟨updN S.own th (nowE S (⟨(th:Int),⟨k,a,od,nw,ti⟩,vl,ok⟩:ItemM)),S.words⟩):=by
        show _=_;rw [HN1.out];unfold hbStep;rw [show wrB (⟨(th:Int),⟨k,a,od,nw,ti⟩,vl,ok⟩:ItemM)=false by simp [wrB,k2,k3]];rfl
       clear ho9 hg9 RIm HNm Rm HWm HBm;go_wp2_with fail;go_roundw
       case rel=>exact ⟨j+1,_,_,_,by go_num,by omega,by rw [HSN.out]; exact RI9⟩
       case measure=>simp [intOf]; omega
    ·have e:j=m:=by omega
     subst e;have HD:Hid (ClkI w wo l i j vo vs):=by
      have h2:=RI.out;rw [← HM.out] at h2;exact HM.out▸h2.done
     go_wp2;go_ret;exact ⟨_,rfl,vs,HD.out⟩
def LoK (w:World) (r:Value) (vs:List Value) (l:List ItemM) (n m:Nat):Prop:=SlS w 1 r (vs.map fun v=>[v])∧vs.length=m∧∀q,q<m→SlI w .i64 (vs.getD q (.slice none 0 0)) (clkI l q n)
theorem LoK.below {w w':World} {r:Value} {vs:List Value} {l:List ItemM} {n m:Nat} (h:LoK w r vs l n m) (hb:Below w.heap.size w w'):LoK w' r vs l n m:=⟨h.1.below hb,h.2.1,fun q hq=>(h.2.2 q hq).below hb⟩
theorem clkI_wrapK (l:List ItemM) {j:Nat} (n:Nat) (hj:j≤1000000):∀x∈clkI l j n,x=IntKind.i64.wrap x:=fun x hx=>by
 unfold clkI at hx;obtain ⟨t,-,rfl⟩:=List.mem_map.1 hx;have:=clkAt_ok l j t;rw [IntKind.wrap_i64];omega
theorem clk_readK {w wr:World} {l:List ItemM} {n j:Nat} {r:Value} {vs:List Value} (h:ClkI w wr l n j r vs) (hj:j≤100000) (hn:n≤8):LoK wr r vs l n j:=
 ⟨h.own.sls (by rw [List.length_map,h.len]; omega),h.len,fun q hq=>OwnI.read (h.ins q hq) (by rw [clkI_len]; omega) (clkI_wrapK l n (by omega))⟩
theorem LoK.at {w:World} {r:Value} {vs:List Value} {l:List ItemM} {n m:Nat} (h:LoK w r vs l n m) (h0:0<m):∃b off cap,r=.slice (some ⟨b,off,none⟩) m cap∧b<w.heap.size∧∀i w',i<m→Below w.heap.size w w'→w'.cell? ⟨b,off+i,none⟩=some (vs.getD i (.slice none 0 0)):=by
 have hl:(vs.map fun v=>[v]).length=m:=by rw [List.length_map,h.2.1]
 obtain ⟨b,off,cap,rfl,hb,hr⟩:=h.1.open (by rw [hl]; exact h0);refine ⟨b,off,cap,by rw [hl],hb,fun i w' hi hw=>?_⟩;have h5:=hr i (by rw [hl]; exact hi);have e:(vs.map fun v=>[v]).getD i []=[vs.getD i (.slice none 0 0)]:=by
  rw [List.getD_eq_getElem?_getD,List.getElem?_map,List.getD_eq_getElem?_getD,List.getElem?_eq_getElem (by rw [h.2.1]; exact hi)];rfl
 rw [e] at h5;have h6:=h5 0 _ rfl;rw [Nat.mul_one,Nat.add_zero] at h6;exact (hw.cell (p:=⟨b,off+i,none⟩) hb).trans h6
theorem LoK.len {w:World} {r:Value} {vs:List Value} {l:List ItemM} {n m:Nat} (h:LoK w r vs l n m):∃a c,r=.slice a m c:=by
 obtain ⟨a,c,rfl,-⟩:=h.1.len;exact ⟨a,c,by rw [List.length_map,h.2.1]⟩
set_option maxRecDepth 100000 in
set_option maxHeartbeats 16000000 in
theorem rbefore_any (l:List ItemM) (n:Nat) (v c:Value) (vs:List Value) (a b:Int) (w:World) (hv:SlT w v l) (hc:LoK w c vs l n l.length) (hth:∀x∈l,0≤x.thr∧x.thr<(n:Int)) (hl:l.length≤1000):Calls Try.prog 30 #[v,c,.int .i64 a,.int .i64 b] w fun e w'=>e=.returned (.bool (befB l a b))∧Below w.heap.size w w':=by
 have HV:=Lib.hid hv;have HC:=Lib.hid hc;have HTH:=Lib.hid hth;obtain ⟨pv,cap,rfl,-⟩:=hv.len;obtain ⟨pc,cc,rfl⟩:=hc.len;obtain ⟨q,hq⟩:∃q,befB l a b=q:=⟨_,rfl⟩;rw [hq];have HQ:=Lib.hid hq;obtain ⟨m,hm⟩:∃m,l.length=m:=⟨_,rfl⟩;have HM:=Lib.hid hm;rw [hm] at HV HC hl ⊢;clear hv hc hth hq hm;go_enter Try.func30,Try.ntmps30;by_cases h0:a<0
 ·have hr:q=false:=by rw [← HQ.out]; unfold befB; rw [decide_eq_false (by omega)]; rfl
  subst hr;go_wp2;go_ret;exact ⟨rfl,Below.refl _ _⟩
 by_cases h1:b≤a
 ·have hr:q=false:=by rw [← HQ.out]; unfold befB; rw [decide_eq_false (p:=a<b) (by omega)]; simp
  subst hr;go_wp2;go_ret;exact ⟨rfl,Below.refl _ _⟩
 by_cases h2:(m:Int)≤b
 ·have hr:q=false:=by rw [← HQ.out]; unfold befB; rw [decide_eq_false (p:=b<(l.length:Int)) (by have:=HM.out; omega)]; simp
  subst hr;go_wp2;go_ret;exact ⟨rfl,Below.refl _ _⟩
 obtain ⟨an,rfl⟩:∃z:Nat,a=z:=⟨a.toNat,by omega⟩;obtain ⟨bn,rfl⟩:∃z:Nat,b=z:=⟨b.toNat,by omega⟩;have ham:an<m:=by omega
 have hbm:bn<m:=by omega
 have haI:(an:Int)<(m:Int):=by omega
 have hbI:(bn:Int)<(m:Int):=by omega
 obtain ⟨bl,ol,cl,hve,hcl,hbl,kl⟩:=HV.out.atK (by have:=HM.out; omega);rw [HM.out] at hve;simp only [Value.slice.injEq] at hve;obtain ⟨hv1,-,hv3⟩:=hve;subst hv1;subst hv3;obtain ⟨d0,-⟩:=kl an w (by rw [HM.out]; exact ham) (Below.refl _ _) _ rfl;have hx3:=HTH.out (l.getD an noItem) (by
  have hh:an<l.length:=by rw [HM.out]; exact ham
  rw [List.getD_eq_getElem?_getD,List.getElem?_eq_getElem hh];exact List.getElem_mem hh)
 obtain ⟨th,hthe⟩:∃th:Nat,(l.getD an noItem).thr=th:=⟨(l.getD an noItem).thr.toNat,by omega⟩;rw [hthe] at d0 hx3;have htn:th<n:=by omega
 have htI:(th:Int)<(n:Int):=by omega
 obtain ⟨bc,oc,cc2,hve,hbc,kc⟩:=HC.out.at (by omega);simp only [Value.slice.injEq] at hve;obtain ⟨hv1,-,hv3⟩:=hve;subst hv1;subst hv3;have e1:=kc an w ham (Below.refl _ _);have e2:=kc bn w hbm (Below.refl _ _);have s1:=HC.out.2.2 an ham;have s2:=HC.out.2.2 bn hbm;obtain ⟨x1,hx1⟩:∃z,vs.getD an (.slice none 0 0)=z:=⟨_,rfl⟩;obtain ⟨x2,hx2⟩:∃z,vs.getD bn (.slice none 0 0)=z:=⟨_,rfl⟩;rw [hx1] at e1 s1;rw [hx2] at e2 s2;obtain ⟨b1,o1,c1,hy1,-,-,k1⟩:=s1.open (by intro e; have:=congrArg List.length e; rw [clkI_len] at this; simp at this; omega);obtain ⟨b2,o2,c2,hy2,-,-,k2⟩:=s2.open (by intro e; have:=congrArg List.length e; rw [clkI_len] at this; simp at this; omega);rw [clkI_len] at hy1 hy2;subst hy1;subst hy2;have f1:=k1 th (by rw [clkI_len]; exact htn);have f2:=k2 th (by rw [clkI_len]; exact htn);rw [clkI_get _ _ htn] at f1 f2;obtain ⟨y1,hy1⟩:∃z,clkAt l an th=z:=⟨_,rfl⟩;obtain ⟨y2,hy2⟩:∃z,clkAt l bn th=z:=⟨_,rfl⟩;rw [hy1] at f1;rw [hy2] at f2;have HR:Hid (q=decide (y1≤y2)):=by
  show _=_;rw [← HQ.out];unfold befB;rw [decide_eq_true (p:=0≤(an:Int)) (by omega),decide_eq_true (p:=(an:Int)<(bn:Int)) (by omega),decide_eq_true (p:=(bn:Int)<(l.length:Int)) (by have:=HM.out; omega)];simp only [Int.toNat_natCast,Bool.true_and,hthe,hy1,hy2]
 clear s1 s2 k1 k2 hx1 hx2 hy1 hy2 kc kl hbc hbl hthe hx3 HQ;go_wp2;go_quiet (fail);go_wp2
 all_goals (go_ret; refine ⟨ret_bool ?_,below_drewN (Below.refl _ _) _⟩; first | (rw [HR.out]; done) | (rw [HR.out]; rfl) | (rw [HR.out]; simp; omega) | (rw [HR.out]; symm; simp; omega))
set_option maxRecDepth 100000 in
set_option maxHeartbeats 16000000 in
theorem rBefore_any (l:List ItemM) (n:Nat) (v:Value) (a b:Int) (w:World) (hv:SlT w v l) (hn:1≤n∧n≤8) (hth:∀x∈l,0≤x.thr∧x.thr<(n:Int)) (hl:l.length≤1000):Calls Try.prog 16 #[v,.int .i64 (n:Int),.int .i64 a,.int .i64 b] w fun e w'=>e=.returned (.bool (befB l a b))∧Below w.heap.size w w':=by
 have TC:=Lib.hid (rclocks_any l n v w hv hn hth hl);have TB:=Lib.hid fun c vs w' (hb:Below w.heap.size w w') (hc:LoK w' c vs l n l.length)=>rbefore_any l n v c vs a b w' (hv.below hb) hc hth hl;have HN:=Lib.hid hn;obtain ⟨va,cap,rfl,-⟩:=hv.len;clear hv hth;go_enter Try.func16,Try.ntmps16;go_wp2_with fail;refine TC.out.mono ?_; rintro e w2 ⟨r,rfl,vs,hk⟩;have HB2:=Lib.hid hk.bw;have HL:=Lib.hid (clk_readK hk (by omega) HN.out.2);clear hk TC;go_wp2_with fail;refine (TB.out r vs w2 HB2.out HL.out).mono ?_; rintro e w3 ⟨rfl,hb3⟩;have HB3:=Lib.hid (below_then HB2.out hb3);clear hb3 TB;go_wp2;go_ret;exact ⟨rfl,HB3.out⟩
def kaRow (c:Int × Int):List Value:=[.int .i64 c.1,.int .i64 c.2]
def kaRows (l:List (Int × Int)):List (List Value):=l.map kaRow
theorem kaRows_length (l:List (Int × Int)):(kaRows l).length=l.length:=List.length_map _
theorem kaRows_get (l:List (Int × Int)) (i:Nat) (hi:i<l.length):(kaRows l).getD i []=kaRow (l.getD i (0,0)):=by
 simp [kaRows,List.getD_eq_getElem?_getD,hi]
theorem SlS.ka {w:World} {v:Value} {l:List (Int × Int)} (h:SlS w 2 v (kaRows l)) (i:Nat) (hi:i<l.length) {c:Int × Int} (he:l.getD i (0,0)=c):∃b off cap,v=.slice (some ⟨b,off,none⟩) l.length cap∧b<w.heap.size∧w.cell? ⟨b,off+i * 2,none⟩=some (.int .i64 c.1)∧w.cell? ⟨b,off+i * 2+1,none⟩=some (.int .i64 c.2):=by
 have hl:=kaRows_length l;obtain ⟨b,off,cap,rfl,hb,hc⟩:=h.open (by omega);have h5:=hc i (by omega);rw [kaRows_get l i hi,he] at h5;exact ⟨b,off,cap,by rw [hl],hb,h5 0 _ rfl,h5 1 _ rfl⟩
theorem SlS.lenKa {w:World} {v:Value} {l:List (Int × Int)} (h:SlS w 2 v (kaRows l)):∃a cap,v=.slice a l.length cap∧l.length≤cap:=by
 obtain ⟨a,cap,rfl,h2⟩:=h.len;rw [kaRows_length] at h2 ⊢;exact ⟨a,cap,rfl,h2⟩
theorem OwnS.lenKa {w:World} {base:Nat} {e:TypeId} {v:Value} {l:List (Int × Int)} (h:OwnS w base e 2 v (kaRows l)):∃a cap,v=.slice a l.length cap:=by
 obtain ⟨a,cap,rfl⟩:=h.len;rw [kaRows_length];exact ⟨a,cap,rfl⟩
theorem run_eql_kaI (a b c d:Int) (w:World):(Op.equalIn 10000 63 (.agg #[.int .i64 a,.int .i64 b]) (.agg #[.int .i64 c,.int .i64 d])).run Try.prog w=.ok ((a == c) && (b == d)) w:=by
 have hu:=Try.underlying63;have hu3:=Try.underlying3;obtain ⟨i0,hi,hz0,hz1,hz2⟩:=info_parts Try.info_i64;have hC:Try.prog.cellsOf 3=1:=by kernel_rfl
 have hp:Try.prog.plainKey 3=true:=by kernel_rfl
 have p0:=run_part_plain (P:=Try.prog) (w:=w) hp (xs:=#[.int .i64 a,.int .i64 b]) (off:=0) (v:=.int .i64 a) rfl;have p1:=run_part_plain (P:=Try.prog) (w:=w) hp (xs:=#[.int .i64 a,.int .i64 b]) (off:=1) (v:=.int .i64 b) rfl;have p2:=run_part_plain (P:=Try.prog) (w:=w) hp (xs:=#[.int .i64 c,.int .i64 d]) (off:=0) (v:=.int .i64 c) rfl;have p3:=run_part_plain (P:=Try.prog) (w:=w) hp (xs:=#[.int .i64 c,.int .i64 d]) (off:=1) (v:=.int .i64 d) rfl;have q0:(Op.equalIn 9999 3 (.int .i64 a) (.int .i64 c)).run Try.prog w=.ok (a == c) w:=run_equalIn_int (P:=Try.prog) w 9998 3 .i64 .i64 a c hu3;have q1:(Op.equalIn 9999 3 (.int .i64 b) (.int .i64 d)).run Try.prog w=.ok (b == d) w:=run_equalIn_int (P:=Try.prog) w 9998 3 .i64 .i64 b d hu3;rw [run_equalIn_array (P:=Try.prog) (w:=w) 9999 _ _ hu hi,hC,show List.range 2=[0,1] from rfl];simp only [Op.eqItems,Sem.run_bind,Nat.zero_mul,Nat.one_mul,p0,p1,p2,p3,q0,q1,Result.andThen_ok];cases hac:(a == c) <;> cases hbd:(b == d) <;> simp [p1,p3,q1,hbd]
theorem run_neq_ka (x y:Int) (w:World):(binOp .neq 63 (.agg #[.int .i64 x,.int .i64 y]) (.agg #[.int .i64 x,.int .i64 y])).run Try.prog w=.ok (.bool false) w:=by
 have hu:=Try.underlying63;have h:=run_eql_kaI x y x y w;simp [go_sem,h]
set_option maxRecDepth 100000 in
set_option maxHeartbeats 16000000 in
theorem rsameC_any (v v2:Value) (l:List (Int × Int)) (w:World) (hv:SlS w 2 v (kaRows l)) (hv2:SlS w 2 v2 (kaRows l)):Calls Try.prog 17 #[v,v2] w fun e w'=>e=.returned (.bool true)∧Below w.heap.size w w':=by
 have HV:=Lib.hid hv;have HV2:=Lib.hid hv2;have hbd:=hv.1;rw [kaRows_length] at hbd;obtain ⟨a,cap,rfl,-⟩:=hv.lenKa;obtain ⟨a2,cap2,rfl,-⟩:=hv2.lenKa;clear hv hv2;go_enter Try.func17,Try.ntmps17;go_wp2_with fail;go_loopw [5] (fun u5 wr=>∃i:Nat,u5=.int .i64 i∧i≤l.length∧Hid (Below w.heap.size w wr)) (fun u5 _=>l.length - (intOf u5).toNat)
 case atStart=>exact ⟨0,rfl,by omega,Below.refl _ _⟩
 case round=>
  obtain ⟨i,rfl,hi,HB⟩:=hrel;obtain ⟨wo,rfl⟩:∃wo:World,wo=wr:=⟨_,rfl⟩;by_cases hlt:i<l.length
  ·have hltI:(i:Int)<(l.length:Int):=by omega
   obtain ⟨⟨x1,x2⟩,he⟩:∃e,l.getD i (0,0)=e:=⟨_,rfl⟩;have HE:=Lib.hid he;obtain ⟨b,off,cp,hve,hb,c0,c1⟩:=(HV.out.below HB.out).ka i hlt he;simp only [Value.slice.injEq] at hve;obtain ⟨rfl,-,rfl⟩:=hve;dsimp only at c0 c1;clear he;have he:=HE.out;have HE2:=Lib.hid he;obtain ⟨b2,off2,cp2,hve,hb2,d0,d1⟩:=(HV2.out.below HB.out).ka i hlt he;simp only [Value.slice.injEq] at hve;obtain ⟨rfl,-,rfl⟩:=hve;dsimp only at d0 d1;clear he;have hneq:=fun w=>run_neq_ka x1 x2 w;go_upto_region 6 with fail
   have Xc0:=ext_cell _ _ hb _ c0;have Xc1:=ext_cell _ _ hb _ c1;have Xd0:=ext_cell _ _ hb2 _ d0;have Xd1:=ext_cell _ _ hb2 _ d1;clear c0 c1 d0 d1;refine wp_region_ext wo (by kernel_rfl) (by kernel_rfl) (Below.refl _ _) ?_
   repeat (go_big_quiet_step (fail))
   refine wpQuiet_nil ?_;intro _ hw';obtain ⟨n9,rfl⟩:=hw';have HN9:=Lib.hid n9.below;generalize n9.wd=w9 at *;have HB9:=Lib.hid (below_then HB.out HN9.out);go_wp2_with fail;go_roundw
   case rel=>exact ⟨i+1,by go_num,by omega,HB9⟩
   case measure=>simp [intOf]; omega
  ·have hge:¬(i:Int)<(l.length:Int):=by omega
   go_wp2;go_ret;exact ⟨rfl,HB.out⟩
theorem pr_ka (l:List (Nat × Nat)):prRows l=kaRows (l.map fun c=>((c.1:Int),(c.2:Int))):=by
 simp [prRows,kaRows,prL,kaRow]
def tgtK (l:List ItemM) (a k:Nat):List Nat:=(List.range k).filter fun b=>decide (a<b) && hitB l a b
theorem tgtK_start (l:List ItemM) (a:Nat):tgtK l a (a+1)=[]:=by
 unfold tgtK;rw [List.filter_eq_nil_iff];intro b hb;rw [List.mem_range] at hb;rw [decide_eq_false (by omega)];simp
theorem tgtK_step (l:List ItemM) {a k:Nat} (h:a<k):tgtK l a (k+1)=tgtK l a k ++ if hitB l a k then [k] else []:=by
 unfold tgtK;rw [List.range_succ,List.filter_append];congr 1;rw [List.filter_cons,decide_eq_true h];simp
theorem tgtK_len (l:List ItemM) (a k:Nat):(tgtK l a k).length≤k:=by
 unfold tgtK;have:=List.length_filter_le (fun b=>decide (a<b) && hitB l a b) (List.range k);rwa [List.length_range] at this
set_option maxRecDepth 100000 in
set_option maxHeartbeats 16000000 in
theorem rraces_any (l:List ItemM) (n:Nat) (v:Value) (w:World) (hv:SlT w v l) (hn:1≤n∧n≤8) (hth:∀x∈l,0≤x.thr∧x.thr<(n:Int)) (hl:l.length≤900):Calls Try.prog 19 #[v,.int .i64 (n:Int)] w fun e w'=>∃r,e=.returned r∧OwnS w' w.heap.size 63 2 r (prRows (racesP l l.length))∧Below w.heap.size w w':=by
 have TC:=Lib.hid (rclocks_any l n v w hv hn hth (by omega));have TB0:=Lib.hid fun c vs a b w' (hb:Below w.heap.size w w') (hc:LoK w' c vs l n l.length)=>rbefore_any l n v c vs a b w' (hv.below hb) hc hth (by omega);have HN:=Lib.hid hn;have HV:=Lib.hid hv;obtain ⟨va,cap,rfl,-⟩:=hv.len;obtain ⟨m,hm⟩:∃m,l.length=m:=⟨_,rfl⟩;have HM:=Lib.hid hm;rw [hm] at TC TB0 HV hl ⊢;clear hv hth hn hm;go_enter Try.func19,Try.ntmps19;go_wp2_with fail;refine TC.out.mono ?_; rintro e w3 ⟨rc,rfl,vs,hk⟩;have HB3:=Lib.hid hk.bw;have HL:=Lib.hid (clk_readK hk (by omega) HN.out.2);obtain ⟨pc,cc,rfl⟩:=HL.out.len;have TB:=Lib.hid fun a b w' (hb:Below w3.heap.size w3 w')=>TB0.out _ vs a b w' (below_then HB3.out hb) (HL.out.below hb);clear hk TC TB0 HL;go_wp2_with fail;go_loopw [6,7] (fun u6 u7 wr=>∃(a:Nat) (p:Option Addr) (q r:Nat),u7=.int .i64 (a:Int)∧a≤m∧u6=.slice p q r∧Hid (Below w3.heap.size w3 wr)∧Hid (OwnS wr w3.heap.size 63 2 (.slice p q r) (prRows (racesP l a)))) (fun _ u7 _=>m - (intOf u7).toNat)
 case atStart=>exact ⟨0,none,0,0,rfl,by omega,rfl,Below.refl _ _,OwnS.nil _ _ _ _⟩
 case round=>
  obtain ⟨a,p,q,r,rfl,ha,rfl,HB,HO⟩:=hrel;obtain ⟨wo,rfl⟩:∃wo:World,wo=wr:=⟨_,rfl⟩;by_cases hlt:a<m
  ·have hltI:(a:Int)<(m:Int):=by omega
   have hw1:IntKind.i64.wrap ((a:Int)+1)=(a:Int)+1:=by rw [IntKind.wrap_i64]; omega
   go_wp2_with fail;go_loopw [6,8] (fun u6 u8 wr=>∃(k:Nat) (p:Option Addr) (q r:Nat),u8=.int .i64 (k:Int)∧a<k∧k≤m∧u6=.slice p q r∧Hid (Below w3.heap.size w3 wr)∧Hid (OwnS wr w3.heap.size 63 2 (.slice p q r) (prRows (racesP l a ++ (tgtK l a k).map fun b=>(a,b))))) (fun _ u8 _=>m - (intOf u8).toNat)
   case atStart=>exact ⟨a+1,p,q,r,by go_num,by omega,by omega,rfl,HB,by rw [tgtK_start]; simpa using HO⟩
   case round=>
    clear HB HO hw1;obtain ⟨k,p5,q5,r5,rfl,hak,hk,rfl,HBk,HOk⟩:=hrel;obtain ⟨wk,rfl⟩:∃wk:World,wk=wr:=⟨_,rfl⟩;by_cases hkl:k<m
    ·have hkI:(k:Int)<(m:Int):=by omega
     obtain ⟨bl,ol,cl,hve,hcl,hbl,kl⟩:=(HV.out.below (below_then HB3.out HBk.out)).atK (by have:=HM.out; omega);rw [HM.out] at hve;simp only [Value.slice.injEq] at hve;obtain ⟨hv1,-,hv3⟩:=hve;subst hv1;subst hv3;obtain ⟨x,hx⟩:∃x,l.getD a noItem=x:=⟨_,rfl⟩;obtain ⟨y,hy⟩:∃y,l.getD k noItem=y:=⟨_,rfl⟩;obtain ⟨c0,c1,c2,c3,c4,c5,c6,c7⟩:=kl a wk (by rw [HM.out]; exact hlt) (Below.refl _ _) x hx;obtain ⟨d0,d1,d2,d3,d4,d5,d6,d7⟩:=kl k wk (by rw [HM.out]; exact hkl) (Below.refl _ _) y hy;have hgx:x.good:=HV.out.2.1 x (by
      have hh:a<l.length:=by rw [HM.out]; exact hlt
      rw [← hx,List.getD_eq_getElem?_getD,List.getElem?_eq_getElem hh];exact List.getElem_mem hh)
     have hgy:y.good:=HV.out.2.1 y (by
      have hh:k<l.length:=by rw [HM.out]; exact hkl
      rw [← hy,List.getD_eq_getElem?_getD,List.getElem?_eq_getElem hh];exact List.getElem_mem hh)
     have TCF:=Lib.hid fun w'=>rconflict_any x y w' hgx hgy;have HT:Hid (tgtK l a (k+1)=tgtK l a k ++ if (conflictE x y && !befB l (a:Int) (k:Int)) then [k] else []):=by
      show _=_;rw [tgtK_step l hak,befB_nat hak (by rw [HM.out]; exact hkl)];unfold hitB;rw [hx,hy]
     have TBk:=Lib.hid fun w' hb=>TB.out (a:Int) (k:Int) w' hb;obtain ⟨q1,hq1⟩:∃z,conflictE x y=z:=⟨_,rfl⟩;obtain ⟨q2,hq2⟩:∃z,befB l (a:Int) (k:Int)=z:=⟨_,rfl⟩;rw [hq1] at TCF HT;rw [hq2] at TBk HT;unfold itemV at TCF;obtain ⟨RJ,hRJ⟩:∃z,prRows (racesP l a ++ (tgtK l a k).map fun b=>(a,b))=z:=⟨_,rfl⟩;have hlen:RJ.length+1≤1000001:=by
      rw [← hRJ,prRows_length,List.length_append,List.length_map];have h1:=racesP_len l a;have h3:=tgtK_len l a k;rw [HM.out] at h1;have h2:a * m≤900 * 900:=Nat.mul_le_mul (by omega) (by omega);omega
     have HRJ:=Lib.hid hRJ;rw [hRJ] at HOk;clear hRJ hx hy hgx hgy kl hq1 hq2;go_upto_region 9 with fail
     have Xc0:=ext_cell _ _ hbl _ c0;have Xc1:=ext_cell _ _ hbl _ c1;have Xc2:=ext_cell _ _ hbl _ c2;have Xc3:=ext_cell _ _ hbl _ c3;have Xc4:=ext_cell _ _ hbl _ c4;have Xc5:=ext_cell _ _ hbl _ c5;have Xc6:=ext_cell _ _ hbl _ c6;have Xc7:=ext_cell _ _ hbl _ c7;have Xd0:=ext_cell _ _ hbl _ d0;have Xd1:=ext_cell _ _ hbl _ d1;have Xd2:=ext_cell _ _ hbl _ d2;have Xd3:=ext_cell _ _ hbl _ d3;have Xd4:=ext_cell _ _ hbl _ d4;have Xd5:=ext_cell _ _ hbl _ d5;have Xd6:=ext_cell _ _ hbl _ d6;have Xd7:=ext_cell _ _ hbl _ d7;clear c0 c1 c2 c3 c4 c5 c6 c7 d0 d1 d2 d3 d4 d5 d6 d7;have TBx:Hid (∀w',Below wk.heap.size wk w'→Calls Try.prog 30 #[.slice (some ⟨bl,ol,none⟩) m cap,.slice pc m cc,.int .i64 (a:Int),.int .i64 (k:Int)] w' fun e w2=>e=.returned (.bool q2)∧Below w'.heap.size w' w2):=fun w' hb=>TBk.out w' (below_then HBk.out hb);clear TBk;cases q1 with
     | false=>
      refine wp_region_ext wk (by kernel_rfl) (by kernel_rfl) (Below.refl _ _) ?_
      repeat (go_big_quiet_step (first | (go_at_call 33; with_reducible exact calls_ext (TCF.out _))))
      refine wpQuiet_nil ?_;intro _ hw';obtain ⟨n9,rfl⟩:=hw';have HB9:=Lib.hid (below_then HBk.out n9.below);have HO9:=Lib.hid (HOk.out.below n9.below);generalize n9.wd=w9 at *;clear Xc0 Xc1 Xc2 Xc3 Xc4 Xc5 Xc6 Xc7 Xd0 Xd1 Xd2 Xd3 Xd4 Xd5 Xd6 Xd7 TBx TCF;go_wp2_with fail;go_roundw
      case rel=>exact ⟨k+1,p5,q5,r5,by go_num,by omega,by omega,rfl,HB9,by rw [HT.out]; simp only [Bool.false_and,Bool.false_eq_true,if_false,List.append_nil]; rw [HRJ.out]; exact HO9⟩
      case measure=>simp [intOf]; omega
     | true=>
      refine wp_region_ext wk (by kernel_rfl) (by kernel_rfl) (Below.refl _ _) ?_
      repeat (go_big_quiet_step (first | (go_at_call 33; with_reducible exact calls_ext (TCF.out _)) | (go_at_call 30; with_reducible exact calls_ext (TBx.out _ (Ext.below _)))))
      refine wpQuiet_nil ?_;intro _ hw';obtain ⟨n9,rfl⟩:=hw';have HB9:=Lib.hid (below_then HBk.out n9.below);have HO9:=Lib.hid (HOk.out.below n9.below);generalize n9.wd=w9 at *;clear Xc0 Xc1 Xc2 Xc3 Xc4 Xc5 Xc6 Xc7 Xd0 Xd1 Xd2 Xd3 Xd4 Xd5 Xd6 Xd7 TBx TCF;cases q2 with
      | true=>
       go_wp2_with fail;go_roundw
       case rel=>exact ⟨k+1,p5,q5,r5,by go_num,by omega,by omega,rfl,HB9,by rw [HT.out]; simp only [Bool.not_true,Bool.and_false,Bool.false_eq_true,if_false,List.append_nil]; rw [HRJ.out]; exact HO9⟩
       case measure=>simp [intOf]; omega
      | false=>
       obtain ⟨Wl,hWl⟩:∃Wl,w9.alloc (.cells #[.int .i64 (a:Int),.int .i64 (k:Int)] 63)=Wl:=⟨_,rfl⟩;have HBl:Hid (Below w9.heap.size w9 Wl):=hWl▸below_new (Below.refl _ _) _;have Rl:Hid (Wl.heap[w9.heap.size]?=some (.cells #[.int .i64 (a:Int),.int .i64 (k:Int)] 63 (0,0))):=hWl▸heap_alloc_new _ _;have HWl:=Lib.hid hWl;have HOl:=Lib.hid (HO9.out.below HBl.out);have HBl2:=Lib.hid (below_then HB9.out HBl.out);have hszl:w3.heap.size≤Wl.heap.size:=HBl2.out.size;clear hWl;go_wp2_with (first | (rw [HWl.out]) | refine wp_append_ss 40 (by kernel_rfl) Try.info_pr2 rfl (by decide) (by decide) rfl _ _ rfl (by rfl) HOl.out [prL (a,k)] (fun r hr=>by rw [List.mem_singleton.1 hr]; exact ⟨rfl,by simp [prL,Value.oneCell']⟩) w9.heap.size 1 rfl (by rfl) Rl.out hlen hszl ?_);intro v6 w6 ho6 hg6;have HO6:=Lib.hid ho6;have hlt6:∀k,(Value.slice p5 q5 r5).ownBlock=some k→w3.heap.size≤k:=fun k hk=>(HOl.out.lt k hk).1;have HB6:Hid (Below w3.heap.size w3 w6):=HBl2.out.grown hg6 hszl hlt6;obtain ⟨p6,q6,rfl⟩:=ho6.len;obtain ⟨m6,hm6⟩:∃z,(RJ ++ [prL (a,k)]).length=z:=⟨_,rfl⟩;rw [hm6] at HO6 ⊢;clear ho6 hg6 HOl HBl2 hlen hm6 HO9 HB9 HOk;go_wp2_with fail;go_roundw
       case rel=>
        refine ⟨k+1,p6,m6,q6,by go_num,by omega,by omega,rfl,HB6,?_⟩;rw [HT.out];simp only [Bool.not_false,Bool.and_true,if_true];have e:prRows (racesP l a ++ (tgtK l a k ++ [k]).map fun b=>(a,b))=prRows (racesP l a ++ (tgtK l a k).map fun b=>(a,b)) ++ [prL (a,k)]:=by simp [prRows]
        rw [e,HRJ.out];exact HO6
       case measure=>simp [intOf]; omega
    ·have hge:¬(k:Int)<(m:Int):=by omega
     have hkm:k=m:=by omega
     have HE:Hid (racesP l a ++ (tgtK l a k).map (fun b=>(a,b))=racesP l (a+1)):=by
      show _=_;rw [racesP_succ,hkm,← HM.out];rfl
     clear hkm;go_wp2_with fail;go_roundw
     case rel=>exact ⟨a+1,p5,q5,r5,by go_num,by omega,rfl,HBk,by rw [← HE.out]; exact HOk⟩
     case measure=>simp [intOf]; omega
  ·have hge:¬(a:Int)<(m:Int):=by omega
   have ham:a=m:=by omega
   have HF:Hid (OwnS wo w.heap.size 63 2 (.slice p q r) (prRows (racesP l m))):=ham▸HO.out.base HB3.out.size;have HBF:=Lib.hid (below_then HB3.out HB.out);clear ham;go_wp2;go_ret;exact ⟨_,rfl,HF.out,HBF.out⟩
end Go.Proofs.Ytoneandjbdlbeaa
