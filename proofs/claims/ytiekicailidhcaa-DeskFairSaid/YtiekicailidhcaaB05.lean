import Derived.Deep.DeepCutAuto
import Derived.Deep.CutBlock
import Derived.Deep.MidRow
import Derived.Test.YtiekicailidhcaaB04
import Derived.Test.YtiekicailidhcaaB03
import Derived.Test.YtiekicailidhcaaB02
set_option linter.unusedVariables false
set_option linter.unusedSimpArgs false
namespace Go.Proofs.Ytiekicailidhcaa
open Go.ChangeShapes Go.WideShapes Go.ChangeAt Go.RowKit
set_option maxRecDepth 100000
def waitsD (d:DeskM) (thr:Int):Bool:=d.wait.any fun x=>x.thr == thr
set_option maxRecDepth 100000 in
set_option maxHeartbeats 16000000 in
theorem waits_any (v:Value) (d:DeskM) (thr:Int) (w:World) (h:DeskV w v d):Calls Try.prog 20 #[v,.int .i64 thr] w fun e w'=>e=.returned (.bool (waitsD d thr))∧Below w.heap.size w w':=by
 obtain ⟨vc,vw,rfl,hch,hwt⟩:=h;obtain ⟨ac,kc,rfl,-⟩:=hch.len;obtain ⟨aw,kw,rfl,-⟩:=hwt.len;have HWT:=Lib.hid hwt;obtain ⟨q,hq⟩:∃z,waitsD d thr=z:=⟨_,rfl⟩;rw [hq];have HQ1:Hid (∀i,i<d.wait.length→(wat d.wait i).thr=thr→q=true):=fun i hi h=>by
  rw [← hq];unfold waitsD;rw [List.any_eq_true];refine ⟨wat d.wait i,?_,by simpa using h⟩;unfold wat;rw [getD_lt hi];exact List.getElem_mem hi
 have HQ2:Hid ((∀j,j<d.wait.length→(wat d.wait j).thr≠thr)→q=false):=fun h=>by
  rw [← hq];unfold waitsD;rw [List.any_eq_false];intro x hx;obtain ⟨j,hj,rfl⟩:=List.mem_iff_getElem.1 hx;have:=h j hj;unfold wat at this;rw [getD_lt hj] at this;simpa using this
 obtain ⟨cn,hcn⟩:∃z,d.chans.length=z:=⟨_,rfl⟩;obtain ⟨wl,hwl⟩:∃z,d.wait=z:=⟨_,rfl⟩;obtain ⟨tk,htk⟩:∃z,d.tick=z:=⟨_,rfl⟩;have hbd:=hwt.bound;rw [hwl] at HWT HQ1 HQ2 hbd ⊢;rw [hcn,htk];clear hch hwt hq hcn hwl htk;obtain ⟨W,hW,HB,R0,hz⟩:=one_new w (.cells #[.slice ac cn kc,.slice aw wl.length kw,.int .i64 tk] 34);have HW:=Lib.hid hW;clear hW;go_enter Try.func20,Try.ntmps20;go_upto_region 1 with fail
 rw [HW.out];clear HW;obtain ⟨x0_0,x0_1,x0_2⟩:=rowc3 R0.out;go_wp2_with fail;go_loopw [9] (fun u9 wr=>∃i:Nat,u9=.int .i64 i∧i≤wl.length∧Hid (wr=W)∧Hid (∀j,j<i→(wat wl j).thr≠thr)) (fun u9 _=>wl.length - (intOf u9).toNat)
 case atStart=>exact ⟨0,rfl,by omega,rfl,fun j hj=>by omega⟩
 case round=>
  obtain ⟨i,rfl,hi,HWr,HP⟩:=hrel;obtain ⟨wo,rfl⟩:∃wo:World,wo=wr:=⟨_,rfl⟩;have hw:=HWr.out;clear HWr;subst hw;by_cases hlt:i<wl.length
  ·have hltI:(i:Int)<(wl.length:Int):=by omega
   obtain ⟨b,off,cap,wc1,wd1,hve,hb,c0,-⟩:=(HWT.out.below HB.out).at i hlt;simp only [Value.slice.injEq] at hve;obtain ⟨rfl,-,rfl⟩:=hve;obtain ⟨tt,htt⟩:∃z,(wat wl i).thr=z:=⟨_,rfl⟩;have HQ:=Lib.hid (HQ1.out i hlt);rw [htt] at c0 HQ;have HT:=Lib.hid htt;clear htt;by_cases hz:tt=thr
   ·have HF:=Lib.hid (HQ.out hz)
    have hzb:(tt == thr)=true:=by simpa using hz
    clear HQ1 HQ2 HQ hz;go_wp2_with fail;go_ret;exact ⟨by rw [HF.out]; rfl,HB.out⟩
   ·have hzb:(tt == thr)=false:=by simpa using hz
    have HZ:=Lib.hid hz;clear HQ hz;go_wp2_with fail;go_roundw
    case rel=>exact ⟨i+1,by go_num,by omega,Lib.hid trivial,fun j hj=>by
     rcases Nat.lt_or_ge j i with h | h
     ·exact HP.out j h
     ·rw [show j=i by omega,HT.out]; exact HZ.out⟩
    case measure=>simp [intOf]; omega
  ·have hge:¬(i:Int)<(wl.length:Int):=by omega
   have HF:=Lib.hid (HQ2.out (fun j hj=>HP.out j (by omega)));clear HQ1 HQ2;go_wp2_with fail;go_ret;exact ⟨by rw [HF.out]; rfl,HB.out⟩
set_option maxRecDepth 100000 in
set_option maxHeartbeats 16000000 in
theorem rNewD_any (v:Value) (c:ConfM) (w:World) (h:ConfV w v c) (hg:c.good):Calls Try.prog 13 #[v] w fun e w'=>∃u,e=.returned u∧DeskX (fun b=>w.heap.size≤b) w' u ⟨nchE c.caps,[],0⟩∧Below w.heap.size w w':=by
 have TN:=Lib.hid fun w' (hb:Below w.heap.size w w')=>rNew_any v c w' (h.below hb) hg.len;obtain ⟨vc,vs,rfl,h1,h2⟩:=h;have HCW:Hid (∀x∈c.caps,x=IntKind.i64.wrap x):=fun x hx=>i64_small _ (by have:=(hg.caps x hx).1; omega) (by have:=(hg.caps x hx).2; omega);have hcl:=hg.len;obtain ⟨a1,cap1,rfl,-⟩:=h1.len;obtain ⟨a2,cap2,rfl,-⟩:=h2.len;obtain ⟨caps,starts,thr⟩:=c;dsimp only at *;clear h1 h2 hg;obtain ⟨W,hW,HB,R0,R1,hz⟩:=two_new w (.cells #[.slice a1 caps.length cap1,.slice a2 starts.length cap2,.int .i64 thr] 29) (.cells #[.slice none 0 0,.slice none 0 0,.int .i64 0] 34);have HW:=Lib.hid hW;clear hW;go_enter Try.func13,Try.ntmps13;go_upto_region 1 with fail
 rw [HW.out];clear HW;obtain ⟨x0_0,x0_1,x0_2⟩:=rowc3 R0.out;go_wp2_with fail;refine (TN.out _ HB.out).mono ?_; rintro e w1 ⟨u,rfl,ho,hb1⟩;have HB1:=Lib.hid (below_then HB.out hb1);have R11:=Lib.hid (row_below3 hb1 R1.out);obtain ⟨p,n,q,rfl⟩:=own_sh ho;have HO:=Lib.hid ho;clear x0_0 x0_1 x0_2 ho hb1 TN;go_wp2_with (refine wpList_store_row rfl 34 _ _ rfl (w.heap.size+1) _ rfl rfl 34 _ R11.out (by kernel_rfl) rfl (by simp [Value.oneCell']) ?_);refine bodyPost_ret (v:=.agg #[.slice p n q,.slice none 0 0,.int .i64 0]) (results_cell_row Try.results13 _ _ (w.heap.size+1) 34 _ (0,0) _ rfl (setRow_heap _ _ _ _ 34 (0,0) R11.out) Try.underlying34 rfl (by kernel_rfl)) rfl ?_;have hB4:=row_below HB1.out (show w.heap.size≤w.heap.size+1 by omega) #[.slice p n q,.slice none 0 0,.int .i64 0];refine ⟨_,rfl,⟨_,_,rfl,OwnS.slHX (HO.out.kept (row_grown w1 (w.heap.size+1) #[.slice p n q,.slice none 0 0,.int .i64 0]) (HO.out.ne (show w.heap.size+1<W.heap.size by omega))) (by rw [nchE_length]; simp [nils]) (by rw [nchE_length]; omega) (fun i hi=>?_) (fun c hc=>?_) (fun b hb=>by omega),⟨[],rfl,SlS.nil _ _,fun i hi=>by simp at hi,fun a n c e=>by simp at e⟩⟩,hB4⟩
 ·rw [nchE_length] at hi
  rw [nchE_get caps i hi,nils_get];exact ⟨SlU.nil _,fun a n c e=>by simp at e⟩
 ·obtain ⟨x,hx,rfl⟩:=List.mem_map.1 hc
  exact HCW.out x hx
def lateB (t:Int) (x:WaitM):Bool:=x.op.mode == 2 && decide (x.op.dl≤t)
def toR:ResM:=⟨4,-1,0,false,0⟩
def newT (t n:Int):Int:=if n > 1099511627776 - t then 1099511627776 else t+n
def stayL (t:Int) (l:List WaitM) (p:Nat):List WaitM:=(l.take p).filter fun x=>!lateB t x
def goneL (t:Int) (l:List WaitM) (p:Nat):List DoneM:=((l.take p).filter (lateB t)).foldl (fun o x=>addE o x.thr toR) []
def tickD (d:DeskM) (n:Int):DeskM × List DoneM:=if n<1 then (d,[]) else (⟨d.chans,d.wait.filter (fun x=>!lateB (newT d.tick n) x),newT d.tick n⟩,(d.wait.filter (lateB (newT d.tick n))).foldl (fun o x=>addE o x.thr toR) [])
theorem stay_end (t:Int) (l:List WaitM):stayL t l l.length=l.filter fun x=>!lateB t x:=by unfold stayL; rw [List.take_length]
theorem gone_end (t:Int) (l:List WaitM):goneL t l l.length=(l.filter (lateB t)).foldl (fun o x=>addE o x.thr toR) []:=by unfold goneL; rw [List.take_length]
theorem take_one {α:Type} {l:List α} {p:Nat} (hp:p<l.length):l.take (p+1)=l.take p ++ [l[p]]:=List.take_succ_eq_append_getElem hp
theorem stay_next {t:Int} {l:List WaitM} {p:Nat} (hp:p<l.length):stayL t l (p+1)=stayL t l p ++ (if lateB t (wat l p)=true then [] else [wat l p]):=by
 unfold stayL;rw [take_one hp,List.filter_append];unfold wat;rw [getD_lt hp];cases h:lateB t l[p] <;> simp [h]
theorem gone_next {t:Int} {l:List WaitM} {p:Nat} (hp:p<l.length):goneL t l (p+1)=if lateB t (wat l p)=true then addE (goneL t l p) (wat l p).thr toR else goneL t l p:=by
 unfold goneL;rw [take_one hp,List.filter_append];unfold wat;rw [getD_lt hp];cases h:lateB t l[p] <;> simp [h]
theorem gone_len (t:Int) (l:List WaitM):∀p,(goneL t l p).length≤p
 | 0=>by simp [goneL]
 | p+1=>by
  have ih:=gone_len t l p;by_cases hp:p<l.length
  ·rw [gone_next hp]
   split
   ·rw [addE_len]; omega
   ·omega
  ·have e:goneL t l (p+1)=goneL t l p:=by
    unfold goneL;rw [List.take_of_length_le (by omega),List.take_of_length_le (by omega)]
   rw [e]; omega
def nowL (t:Int) (l:List WaitM) (p:Nat):List WaitM:=stayL t l p ++ l.drop p
theorem now_at {t:Int} {l:List WaitM} {p:Nat} (hp:p<l.length):wat (nowL t l p) (stayL t l p).length=wat l p∧(stayL t l p).length<(nowL t l p).length:=by
 unfold nowL;refine ⟨?_,by simp; omega⟩;unfold wat;rw [List.getD_eq_getElem?_getD,List.getElem?_append_right (Nat.le_refl _),Nat.sub_self,List.getElem?_drop,Nat.add_zero,← List.getD_eq_getElem?_getD]
theorem now_stay {t:Int} {l:List WaitM} {p:Nat} (hp:p<l.length) (h:lateB t (wat l p)=false):nowL t l (p+1)=nowL t l p∧(stayL t l (p+1)).length=(stayL t l p).length+1:=by
 unfold nowL;rw [stay_next hp,if_neg (by rw [h]; decide)];refine ⟨?_,by simp⟩;rw [List.append_assoc];congr 1;unfold wat;rw [getD_lt hp];exact (List.drop_eq_getElem_cons hp).symm
theorem now_go {t:Int} {l:List WaitM} {p:Nat} (hp:p<l.length) (h:lateB t (wat l p)=true):nowL t l (p+1)=(nowL t l p).take (stayL t l p).length ++ (nowL t l p).drop ((stayL t l p).length+1)∧stayL t l (p+1)=stayL t l p:=by
 have e:stayL t l (p+1)=stayL t l p:=by rw [stay_next hp,if_pos h,List.append_nil]
 refine ⟨?_,e⟩;unfold nowL;rw [e,List.take_left,List.drop_append,show (stayL t l p).drop ((stayL t l p).length+1)=[] from List.drop_of_length_le (by omega),List.nil_append,show (stayL t l p).length+1 - (stayL t l p).length=1 by omega,List.drop_drop]
theorem now_end (t:Int) (l:List WaitM):nowL t l l.length=stayL t l l.length:=by unfold nowL; rw [List.drop_length,List.append_nil]
theorem now_mem {t:Int} {l:List WaitM} {p:Nat} {x:WaitM} (h:x∈nowL t l p):x∈l:=by
 unfold nowL at h;rcases List.mem_append.1 h with h | h
 ·exact List.mem_of_mem_take (List.mem_filter.1 h).1
 ·exact List.mem_of_mem_drop h
theorem now_len (t:Int) (l:List WaitM) (p:Nat):(nowL t l p).length≤l.length:=by
 unfold nowL stayL;rw [List.length_append,List.length_drop];have:=List.length_filter_le (fun x=>!lateB t x) (l.take p);rw [List.length_take] at this;omega
def lenC (o:Option Value):Nat:=match o with | some (.slice _ n _)=>n | _=>0
theorem SlS.inB {w:World} {s:Nat} {v:Value} {rows:List (List Value)} (h:SlS w s v rows):atP (fun b=>b<w.heap.size) v:=fun a n c e=>by
 obtain ⟨-,-,a',cap,e2,-,h4⟩:=h;rw [e2] at e;simp only [Value.slice.injEq] at e;obtain ⟨rfl,hn,-⟩:=e;rcases Nat.eq_zero_or_pos rows.length with h0 | h0
 ·exact .inl (by omega)
 ·obtain ⟨b,off,e3,hb,-⟩:=h4 0 h0
  simp only [Option.some.injEq] at e3;rw [e3];exact .inr hb
theorem SlC.inB {w:World} {v:Value} {l:List CaseM} (h:SlC w v l):atP (fun b=>b<w.heap.size) v:=fun a n c e=>by
 obtain ⟨-,-,a',cap,e2,-,h4⟩:=h;rw [e2] at e;simp only [Value.slice.injEq] at e;obtain ⟨rfl,hn,-⟩:=e;rcases Nat.eq_zero_or_pos l.length with h0 | h0
 ·exact .inl (by omega)
 ·obtain ⟨b,off,e3,hb,-⟩:=h4 0 h0
  simp only [Option.some.injEq] at e3;rw [e3];exact .inr hb
theorem SlI.inB {w:World} {k:IntKind} {v:Value} {l:List Int} (h:SlI w k v l):atP (fun b=>b<w.heap.size) v:=fun a n c e=>by
 obtain ⟨-,-,a',cap,e2,-,h4⟩:=h;rw [e2] at e;simp only [Value.slice.injEq] at e;obtain ⟨rfl,hn,-⟩:=e;rcases Nat.eq_zero_or_pos l.length with h0 | h0
 ·exact .inl (by omega)
 ·obtain ⟨b,off,e3,hb,-⟩:=h4 0 h0
  simp only [Option.some.injEq] at e3;rw [e3];exact .inr hb
theorem atP.and {P Q:Nat→Prop} {v:Value} (h:atP P v) (h2:atP Q v):atP (fun b=>P b∧Q b) v:=fun a n c e=>by
 rcases h a n c e with h1 | h1
 ·exact .inl h1
 ·rcases h2 a n c e with h3 | h3
  ·exact .inl h3
  ·exact .inr ⟨h1,h3⟩
theorem DeskX.tight {P:Nat→Prop} {w:World} {v:Value} {d:DeskM} (h:DeskX P w v d):DeskX (fun b=>P b∧b<w.heap.size) w v d:=by
 obtain ⟨vc,vw,e,⟨us,h1,h2,h3,h4,h5,h6⟩,⟨rows,k1,k2,k3,k4⟩⟩:=h;exact ⟨vc,vw,e,⟨us,h1,h2,fun i hi=>⟨(h3 i hi).1,(h3 i hi).2.and (h3 i hi).1.2.isP⟩,h4,h5,h6.and h5.isP⟩,⟨rows,k1,k2,fun i hi=>by
  obtain ⟨a,b,e,q1,q2,q3,q4⟩:=k3 i hi;exact ⟨a,b,e,q1,q2,q3.and q1.inB,q4.and q2.inB⟩,k4.and k2.inB⟩⟩
def nilOr (v:Value) (l:List DoneM):Prop:=v=.slice none 0 0∨l≠[]
def TikQ (P:Nat→Prop) (d:DeskM) (l:List DoneM) (w:World) (e:Ending) (w':World):Prop:=∃u v,e=.returned (.tuple #[u,v])∧DeskX P w' u d∧SlS w' 6 v (doneRows l)∧nilOr v l∧atP (fun b=>w.heap.size≤b) v∧Below w.heap.size w w'
theorem SlHX.sh {P:Nat→Prop} {w:World} {v:Value} {l:List ChanM} (h:SlHX P w v l):∃p n q,v=.slice p n q:=by
 obtain ⟨a,c,e,-⟩:=h.slH.len;exact ⟨_,_,_,e⟩
theorem DeskM.ok.now {d:DeskM} (h:d.ok) (t:Int) (p:Nat):DeskM.ok ⟨d.chans,nowL t d.wait p,t⟩:=
 ⟨h.cl,by have:=now_len t d.wait p; have:=h.wl; show (nowL t d.wait p).length≤1000; omega,h.bf,fun x hx=>h.wop x (now_mem hx)⟩
set_option maxRecDepth 100000 in
set_option maxHeartbeats 16000000 in
theorem rtick_any (P:Nat→Prop) (v:Value) (d:DeskM) (n:Int) (w:World) (h:DeskX P w v d) (hd:d.ok) (ht:0≤d.tick∧d.tick≤1099511627776) (hP:∀b,w.heap.size≤b→P b):Calls Try.prog 18 #[v,.int .i64 n] w (TikQ P (tickD d n).1 (tickD d n).2 w):=by
 have hX:=h.tight;obtain ⟨vc,vw,rfl,hch,hwt⟩:=h;have HD:=Lib.hid hd;have HP:=Lib.hid hP;obtain ⟨ac,kc,rfl,-⟩:=hch.slH.len;obtain ⟨aw,kw,rfl,-⟩:=hwt.slW.len;have HX:=Lib.hid hX;obtain ⟨td,htd⟩:∃z,(tickD d n).1=z:=⟨_,rfl⟩;obtain ⟨tl,htl⟩:∃z,(tickD d n).2=z:=⟨_,rfl⟩;have HE1:Hid (n<1→d=td∧tl=[]):=fun h=>by rw [← htd,← htl]; unfold tickD; rw [if_pos h]; exact ⟨rfl,rfl⟩
 have HE2:Hid (¬n<1→∀t,newT d.tick n=t→(⟨d.chans,nowL t d.wait d.wait.length,t⟩:DeskM)=td∧goneL t d.wait d.wait.length=tl):=fun h t e=>by
  rw [← htd,← htl,now_end,stay_end,gone_end,← e];unfold tickD;rw [if_neg h];exact ⟨rfl,rfl⟩
 rw [htd,htl];obtain ⟨TQ,hTQ⟩:∃z,TikQ P td tl w=z:=⟨_,rfl⟩;have HT:Hid (∀w' u v,DeskX P w' u td→SlS w' 6 v (doneRows tl)→nilOr v tl→atP (fun b=>w.heap.size≤b) v→Below w.heap.size w w'→TQ (.returned (.tuple #[u,v])) w'):=fun w' u v h1 h2 h3 h4 h5=>by rw [← hTQ]; exact ⟨u,v,rfl,h1,h2,h3,h4,h5⟩
 rw [hTQ];obtain ⟨t,htt⟩:∃z,d.tick=z:=⟨_,rfl⟩;have HTT:=Lib.hid htt;obtain ⟨cn,hcn⟩:∃z,d.chans.length=z:=⟨_,rfl⟩;obtain ⟨wn,hwn⟩:∃z,d.wait.length=z:=⟨_,rfl⟩;have HWN:=Lib.hid hwn;have hwl:=hd.wl;have HCN:=Lib.hid hcn;rw [hwn] at hwl;rw [htt] at ht;rw [hcn,hwn,htt] at HX ⊢;clear htd htl hTQ htt hcn hwn hch hwt hd hP hX;obtain ⟨W,hW,HB,R0,R1,hz⟩:=two_new w (.cells #[.slice ac cn kc,.slice aw wn kw,.int .i64 t] 34) (.cells #[.slice none 0 0,.slice none 0 0,.int .i64 0] 34);have HW:=Lib.hid hW;clear hW;go_enter Try.func18,Try.ntmps18;go_upto_region 1 with fail
 rw [HW.out];clear HW;obtain ⟨x0_0,x0_1,x0_2⟩:=rowc3 R0.out;by_cases hn:n<1
 ·obtain ⟨hd1,hd2⟩:=HE1.out hn
  subst hd1;subst hd2;have hR:=row_below HB.out (show w.heap.size≤w.heap.size+1 by omega) #[.slice ac cn kc,.slice aw wn kw,.int .i64 t];have HF:=Lib.hid (HT.out _ _ _ ((HX.out.below hR).mono fun b hb=>hb.1) (SlS.nil (W.setRow (w.heap.size+1) #[.slice ac cn kc,.slice aw wn kw,.int .i64 t]) 6) (.inl rfl) (fun a n c e=>by simp at e) hR);clear HE1 HE2 HT hR HX;go_wp2_with (refine wpList_store_row rfl 34 _ _ rfl (w.heap.size+1) _ rfl rfl 34 _ R1.out (by kernel_rfl) rfl (by simp [Value.oneCell']) ?_);refine bodyPost_ret (v:=.tuple #[(.agg #[.slice ac cn kc,.slice aw wn kw,.int .i64 t]),.slice none 0 0]) (results_cell_tmp Try.results18 _ _ (w.heap.size+1) 34 _ (0,0) _ rfl (setRow_heap _ _ _ _ 34 (0,0) R1.out) Try.underlying34 rfl (by kernel_rfl) _ rfl) rfl ?_;exact HF.out
 obtain ⟨t2,ht2⟩:∃z,newT t n=z:=⟨_,rfl⟩;obtain ⟨hf1,hf2⟩:=HE2.out hn t2 (by rw [HTT.out]; exact ht2);have HFD:=Lib.hid hf1;have HFL:=Lib.hid hf2;clear HE1 HE2 hf1 hf2;have hwm:IntKind.i64.wrap (1099511627776 - t)=1099511627776 - t:=(i64_small _ (by omega) (by omega)).symm;have HB2:=Lib.hid (HB.out.setCell (p:=⟨w.heap.size,2,none⟩) (Nat.le_refl _) (.int .i64 t2));have fz:=frozen_of_row W w.heap.size 2 _ _ R0.out;have r1:=heap_setCell_same W w.heap.size 2 _ _ (.int .i64 t2) R0.out;simp at r1;have R12:=Lib.hid ((heap_setCell_other W ⟨w.heap.size,2,none⟩ (w.heap.size+1) (.int .i64 t2) (by show w.heap.size+1≠w.heap.size; omega)).trans R1.out);obtain ⟨w2,hw2⟩:∃w2,W.setCell ⟨w.heap.size,2,none⟩ (.int .i64 t2)=w2:=⟨_,rfl⟩;rw [hw2] at r1 R12 HB2;have R02:=Lib.hid r1;have HW2:=Lib.hid hw2;clear r1 hw2;have HV2:Hid (∃vc vw,Value.agg #[.slice ac cn kc,.slice aw wn kw,.int .i64 t]=.agg #[vc,vw,.int .i64 t]∧vc=.slice ac cn kc∧vw=.slice aw wn kw):=⟨_,_,rfl,rfl,rfl⟩;obtain ⟨PP,hPP⟩:∃z:Nat→Prop,(fun b=>P b∧b≠w.heap.size∧b≠w.heap.size+1)=z:=⟨_,rfl⟩;have HPP:Hid ((∀b,PP b→P b)∧(∀b,PP b→b≠w.heap.size)∧(∀b,PP b→b≠w.heap.size+1)∧∀b,w.heap.size+2≤b→PP b):=by
  rw [← hPP];exact ⟨fun b hb=>hb.1,fun b hb=>hb.2.1,fun b hb=>hb.2.2,fun b hb=>⟨HP.out b (by omega),by omega,by omega⟩⟩
 have HX2:Hid (DeskX PP w2 (.agg #[.slice ac cn kc,.slice aw wn kw,.int .i64 t2]) ⟨d.chans,nowL t2 d.wait 0,t2⟩):=by
  have h1:=(HX.out.mono (Q:=PP) (fun b hb=>by rw [← hPP]; exact ⟨hb.1,by have:=hb.2; omega,by have:=hb.2; omega⟩)).below HB2.out;obtain ⟨vc,vw,e,h2,h3⟩:=h1;simp only [Value.agg.injEq,Array.mk.injEq,List.cons.injEq,and_true] at e;obtain ⟨rfl,rfl,-⟩:=e;exact ⟨_,_,rfl,h2,h3⟩
 have HOKN:=Lib.hid fun p=>HD.out.now t2 p;have HF:Hid (∀vc vw vl wr,DeskX PP wr (.agg #[vc,vw,.int .i64 t2]) ⟨d.chans,nowL t2 d.wait wn,t2⟩→SlS wr 6 vl (doneRows (goneL t2 d.wait wn))→nilOr vl (goneL t2 d.wait wn)→atP (fun b=>w.heap.size+2≤b) vl→Below w.heap.size w wr→TQ (.returned (.tuple #[.agg #[vc,vw,.int .i64 t2],vl])) (wr.setRow (w.heap.size+1) #[vc,vw,.int .i64 t2])):=fun vc vw vl wr h1 h2 h3 h5 h4=>by
  have hg:=row_grown wr (w.heap.size+1) #[vc,vw,.int .i64 t2];have hb:=row_below h4 (show w.heap.size≤w.heap.size+1 by omega) #[vc,vw,.int .i64 t2];rw [← HWN.out] at h1 h2 h3;rw [HFD.out] at h1;rw [HFL.out] at h2 h3;refine HT.out _ _ _ ((h1.off hg HPP.out.2.2.1).mono HPP.out.1) (SlS.off h2 hg h5 (fun b hb=>by omega)) h3 (h5.mono fun b hb=>by omega) hb
 have HV0:Hid (SlS w2 6 (.slice none 0 0) (doneRows (goneL t2 d.wait 0))∧nilOr (.slice none 0 0) (goneL t2 d.wait 0)∧atP (fun b=>w.heap.size+2≤b) (.slice none 0 0)):=⟨SlS.nil _ _,.inl rfl,fun a n c e=>by simp at e⟩;by_cases hgt:n > 1099511627776 - t
 all_goals (
  have hnt:t2=if n > 1099511627776 - t then 1099511627776 else t+n:=ht2.symm
  first | (have htv:t2=1099511627776:=by rw [hnt,if_pos hgt]) | (have htv:t2=t+n:=by rw [hnt,if_neg hgt])
  try (have hwa:IntKind.i64.wrap (t+n)=t2:=by rw [htv]; exact (i64_small _ (by omega) (by omega)).symm)
  have HTV:=Lib.hid htv;clear hnt ht2 htv;go_upto_region 6 with fail
  try rw [← HTV.out]
  rw [HW2.out];try simp only [Act.put]
  clear x0_0 x0_1 x0_2 fz HW2 HTV hwm;try clear hwa
  go_wp2_with fail;go_loopw [6,7] (fun u6 u7 wr=>∃(p:Nat) (vc vw vl:Value),vl=u6∧u7=.int .i64 ((stayL t2 d.wait p).length:Nat)∧p≤wn∧Hid (wr.heap[w.heap.size]?=some (.cells #[vc,vw,.int .i64 t2] 34 (0,0)))∧Hid (wr.heap[w.heap.size+1]?=some (.cells #[.slice none 0 0,.slice none 0 0,.int .i64 0] 34 (0,0)))∧Hid (DeskX PP wr (.agg #[vc,vw,.int .i64 t2]) ⟨d.chans,nowL t2 d.wait p,t2⟩)∧Hid (SlS wr 6 vl (doneRows (goneL t2 d.wait p))∧nilOr vl (goneL t2 d.wait p)∧atP (fun b=>w.heap.size+2≤b) vl)∧Hid (Below w.heap.size w wr)) (fun _ u7 wr=>lenC (wr.cell? ⟨w.heap.size,1,none⟩) - (intOf u7).toNat)
  case atStart=>exact ⟨0,_,_,_,rfl,by simp [stayL],by omega,R02,R12,HX2,HV0,HB2⟩
  case round=>
   clear HV0 HX2 R02 R12 HB2 HX HB R0 R1 hz;obtain ⟨p,vc,vw,vl,rfl,rfl,hp,RD,RZ,HXr,HVr,HBr⟩:=hrel;obtain ⟨wo,rfl⟩:∃wo:World,wo=wr:=⟨_,rfl⟩;obtain ⟨vc2,vw2,he,hch,hwt⟩:=HXr.out;simp only [Value.agg.injEq,Array.mk.injEq,List.cons.injEq,and_true] at he;obtain ⟨rfl,rfl⟩:=he;have hnl:=now_len t2 d.wait p;dsimp only at hch hwt;obtain ⟨pc2,nc2,kc2,rfl⟩:=SlHX.sh hch;obtain ⟨aw2,kw2,hve,-⟩:=hwt.slW.len;subst hve;have HWT:=Lib.hid hwt.slW;have hwo:w.heap.size+1<wo.heap.size:=(ltR RZ);obtain ⟨x0,x1,x2⟩:=rowc3 RD.out;have HLN:=Lib.hid HWN.out;by_cases hpn:p<wn
   ·have hpd:p<d.wait.length:=by rw [HWN.out]; exact hpn
    obtain ⟨hna,hnb⟩:=now_at (t:=t2) hpd;obtain ⟨i,hi⟩:∃z,(stayL t2 d.wait p).length=z:=⟨_,rfl⟩;obtain ⟨m,hm⟩:∃z,(nowL t2 d.wait p).length=z:=⟨_,rfl⟩;have HI:=Lib.hid hi;have HM:=Lib.hid hm;rw [hi] at hna hnb;rw [hm] at hnb hnl x1 RD HXr HWT;rw [hi];rw [HWN.out] at hnl;have himI:(i:Int)<(m:Int):=by omega
    obtain ⟨b,off,cap,wc1,wd1,hve,hb,c0,c1,c2,c3,c4,c5,c6,c7,hsc,hsd⟩:=HWT.out.at i (by rw [HM.out]; exact hnb);rw [HM.out] at hve;simp only [Value.slice.injEq] at hve;obtain ⟨rfl,-,rfl⟩:=hve;rw [hna] at c0 c1 c2 c3 c4 c5 hsc hsd;obtain ⟨⟨tt,⟨kd,md,oc,ov,odl,cs,ds⟩⟩,hx⟩:∃x,wat d.wait p=x:=⟨_,rfl⟩;rw [hx] at c0 c1 c2 c3 c4 c5 hsc hsd;dsimp only at c0 c1 c2 c3 c4 c5 hsc hsd;obtain ⟨a5,k5,rfl⟩:=hsc.len;obtain ⟨a6,k6,rfl,-⟩:=hsd.len;have HXX:=Lib.hid hx;have HST:=Lib.hid (now_stay (t:=t2) hpd);have HGO:=Lib.hid (now_go (t:=t2) hpd);have HGN:=Lib.hid (gone_next (t:=t2) hpd);rw [hx] at HST HGO HGN;obtain ⟨lb,hlb⟩:∃z,lateB t2 ⟨tt,⟨kd,md,oc,ov,odl,cs,ds⟩⟩=z:=⟨_,rfl⟩;rw [hlb] at HST HGO HGN;obtain ⟨q1,hq1⟩:∃z,(md != 2)=z:=⟨_,rfl⟩;obtain ⟨q2,hq2⟩:∃z,decide (odl > t2)=z:=⟨_,rfl⟩;have HLB:Hid (lb=(!q1 && !q2)):=by
     show _=_;rw [← hlb,← hq1,← hq2];unfold lateB;dsimp only;rw [show (!(md != 2))=(md == 2) by simp [bne],show (!decide (odl > t2))=decide (odl≤t2) by rw [← decide_not]; exact decide_eq_decide.2 (by omega)]
    clear hsc hsd hx hlb hna hch hwt hi hm;obtain ⟨Wy,hWy⟩:∃Wy,(wo.alloc (.cells #[.int .i64 0,.int .i64 0,.int .i64 0,.int .i64 0,.int .u64 0,.int .i64 0,.slice none 0 0,.slice none 0 0] 66)).setRow wo.heap.size #[.int .i64 tt,.int .i64 kd,.int .i64 md,.int .i64 oc,.int .u64 ov,.int .i64 odl,.slice a5 cs.length k5,.slice a6 ds.length k6]=Wy:=⟨_,rfl⟩;have Ny:Hid ((wo.alloc (.cells #[.int .i64 0,.int .i64 0,.int .i64 0,.int .i64 0,.int .u64 0,.int .i64 0,.slice none 0 0,.slice none 0 0] 66)).heap[wo.heap.size]?=some (.cells #[.int .i64 0,.int .i64 0,.int .i64 0,.int .i64 0,.int .u64 0,.int .i64 0,.slice none 0 0,.slice none 0 0] 66 (0,0))):=heap_alloc_new _ _;have HBy:Hid (Below wo.heap.size wo Wy):=hWy▸row_below (below_new (Below.refl _ _) _) (Nat.le_refl _) _;have Ry:Hid (Wy.heap[wo.heap.size]?=some (.cells #[.int .i64 tt,.int .i64 kd,.int .i64 md,.int .i64 oc,.int .u64 ov,.int .i64 odl,.slice a5 cs.length k5,.slice a6 ds.length k6] 66 (0,0))):=hWy▸setRow_heap _ _ _ _ _ (0,0) Ny.out;have HWy:=Lib.hid hWy;clear hWy;go_upto_region 10 with (refine wpList_store_row rfl 66 _ _ rfl (wo.heap.size) _ rfl rfl 66 _ Ny.out (by kernel_rfl) rfl (by simp [Value.oneCell']) ?_)
    rw [HWy.out];try simp only [Act.put]
    clear HWy Ny;obtain ⟨Y,hY⟩:∃Y,wo.heap.size=Y:=⟨_,rfl⟩;rw [hY] at Ry;rw [hY];have hYp:wo.heap.size≤Y:=by omega
    clear hY;have RDy:=Lib.hid (row_below3 HBy.out RD.out);have RZy:=Lib.hid (row_below3 HBy.out RZ.out);have HXy:=Lib.hid (HXr.out.below HBy.out);have HBy2:=Lib.hid (below_then HBr.out HBy.out);have hVy:=HVr.out;have HVy:Hid (SlS Wy 6 vl (doneRows (goneL t2 d.wait p))∧nilOr vl (goneL t2 d.wait p)∧atP (fun b=>w.heap.size+2≤b) vl):=⟨hVy.1.below HBy.out,hVy.2⟩;obtain ⟨y0,y1,y2,y3,y4,y5,y6,y7⟩:=rowc8 Ry.out;obtain ⟨z0,z1,z2⟩:=rowc3 RDy.out;have hYw:Y<Wy.heap.size:=(ltR Ry);clear c0 c1 c2 c3 c4 c5 c6 c7 x0 x1 x2 hVy;have hstay:q1=true∨q2=true∨(q1=false∧q2=false):=by cases q1 <;> cases q2 <;> simp
    rcases hstay with rfl | rfl | ⟨rfl,rfl⟩
    ·have hl:lb=false:=by rw [HLB.out]; rfl
     obtain ⟨hs1,hs2⟩:=HST.out hl;have HG:Hid (goneL t2 d.wait (p+1)=goneL t2 d.wait p):=by show _=_; rw [HGN.out,hl]; rfl
     have HS1:=Lib.hid hs1;have HS2:=Lib.hid hs2;clear hs1 hs2 hl;go_wp2_with fail;go_roundw
     case rel=>exact ⟨p+1,_,_,vl,rfl,by rw [HS2.out,HI.out]; go_num,by omega,RDy,RZy,by rw [HS1.out]; exact HXy.out,by rw [HG.out]; exact HVy.out,HBy2⟩
     case measure=>(rw [(rowc3 RDy.out).2.1,(rowc3 RD.out).2.1]; simp [lenC,intOf]; omega)
    ·have hl:lb=false:=by rw [HLB.out]; cases q1 <;> rfl
     obtain ⟨hs1,hs2⟩:=HST.out hl;have HG:Hid (goneL t2 d.wait (p+1)=goneL t2 d.wait p):=by show _=_; rw [HGN.out,hl]; rfl
     have HS1:=Lib.hid hs1;have HS2:=Lib.hid hs2;clear hs1 hs2 hl;cases q1
     all_goals (
      go_wp2_with fail;go_roundw
      case rel=>exact ⟨p+1,_,_,vl,rfl,by rw [HS2.out,HI.out]; go_num,by omega,RDy,RZy,by rw [HS1.out]; exact HXy.out,by rw [HG.out]; exact HVy.out,HBy2⟩
      case measure=>(rw [(rowc3 RDy.out).2.1,(rowc3 RD.out).2.1]; simp [lenC,intOf]; omega))
    ·have hl:lb=true:=by rw [HLB.out]; rfl
     obtain ⟨hg1,hg2⟩:=HGO.out hl;rw [HI.out] at hg1;have HN1:Hid (leaveD ⟨d.chans,nowL t2 d.wait p,t2⟩ i=⟨d.chans,nowL t2 d.wait (p+1),t2⟩):=by show _=_; unfold leaveD; dsimp only; rw [hg1]
     have HG1:Hid (goneL t2 d.wait (p+1)=addE (goneL t2 d.wait p) tt toR):=by show _=_; rw [HGN.out,hl]; rfl
     have HSL:Hid ((stayL t2 d.wait (p+1)).length=i):=by show _=_; rw [hg2]; exact HI.out
     have HM1:Hid ((nowL t2 d.wait (p+1)).length=m - 1):=by
      have:=HM.out;show _=_;rw [hg1];simp;omega
     have hszy:=HBy.out.size;have TL:=Lib.hid (rleave_any PP _ ⟨d.chans,nowL t2 d.wait p,t2⟩ i Wy HXy.out (HOKN.out p) (by show i<(nowL t2 d.wait p).length; rw [HM.out]; exact hnb) (fun b hb=>HPP.out.2.2.2 b (by omega)));clear hg1 hg2 hl HST HGO HGN;go_wp2_with fail;refine TL.out.mono ?_; rintro e w5 ⟨u5,rfl,hx5,hb5⟩;rw [HN1.out] at hx5;obtain ⟨vc5,vw5,rfl,hc5,hw5⟩:=hx5;dsimp only at hc5 hw5 ⊢;obtain ⟨pc5,nc5,kc5,rfl⟩:=SlHX.sh hc5;obtain ⟨aw5,kw5,hve5,-⟩:=hw5.slW.len;rw [HM1.out] at hve5;subst hve5;have HX5:Hid (DeskX PP w5 (.agg #[.slice pc5 nc5 kc5,.slice aw5 (m - 1) kw5,.int .i64 t2]) ⟨d.chans,nowL t2 d.wait (p+1),t2⟩):=⟨_,_,rfl,hc5,hw5⟩;have RD5:=Lib.hid (row_below3 hb5 RDy.out);have RZ5:=Lib.hid (row_below3 hb5 RZy.out);have Ry5:=Lib.hid (row_below3 hb5 Ry.out);have HB5:=Lib.hid (below_then HBy2.out hb5);have hg6:=row_grown w5 w.heap.size #[.slice pc5 nc5 kc5,.slice aw5 (m - 1) kw5,.int .i64 t2];have RD6:Hid ((w5.setRow w.heap.size #[.slice pc5 nc5 kc5,.slice aw5 (m - 1) kw5,.int .i64 t2]).heap[w.heap.size]?=some (.cells #[.slice pc5 nc5 kc5,.slice aw5 (m - 1) kw5,.int .i64 t2] 34 (0,0))):=setRow_heap _ _ _ _ _ (0,0) RD5.out;have RZ6:=Lib.hid ((setRow_other w5 w.heap.size (w.heap.size+1) #[.slice pc5 nc5 kc5,.slice aw5 (m - 1) kw5,.int .i64 t2] (by omega)).trans RZ5.out);have Ry6:=Lib.hid ((setRow_other w5 w.heap.size Y #[.slice pc5 nc5 kc5,.slice aw5 (m - 1) kw5,.int .i64 t2] (by omega)).trans Ry5.out);have HX6:=Lib.hid (HX5.out.off hg6 HPP.out.2.1);have HB6:=Lib.hid (row_below HB5.out (Nat.le_refl _) #[.slice pc5 nc5 kc5,.slice aw5 (m - 1) kw5,.int .i64 t2]);have HS6:=Lib.hid (SlS.off (HVy.out.1.below hb5) hg6 HVy.out.2.2 (fun b hb=>by omega));obtain ⟨w6,hw6⟩:∃w6,w5.setRow w.heap.size #[.slice pc5 nc5 kc5,.slice aw5 (m - 1) kw5,.int .i64 t2]=w6:=⟨_,rfl⟩;rw [hw6] at RD6 RZ6 Ry6 HX6 HB6 HS6;have HW6:=Lib.hid hw6;clear hw6 hg6 hc5 hw5 hb5 z0 z1 z2 y0 y1 y2 y3 y4 y5 y6 y7 TL;go_upto_region 13 with (refine wpList_store_row rfl 34 _ _ rfl (w.heap.size) _ rfl rfl 34 _ RD5.out (by kernel_rfl) rfl (by simp [Value.oneCell']) ?_)
     rw [HW6.out];try simp only [Act.put]
     clear HW6;have hw6z:w.heap.size+2≤w6.heap.size:=by have:=(ltR RZ6); omega
     have TA:=Lib.hid (radd_any vl (goneL t2 d.wait p) tt toR w6 HS6.out (by have:=gone_len t2 d.wait p; omega) HVy.out.2.1);unfold resW toR at TA;dsimp only at TA;obtain ⟨y0,y1,y2,y3,y4,y5,y6,y7⟩:=rowc8 Ry6.out;go_wp2_with fail;refine TA.out.mono ?_; rintro e w7 ⟨u7,rfl,hs7,hat7,hb7⟩;have RD7:=Lib.hid (row_below3 hb7 RD6.out);have RZ7:=Lib.hid (row_below3 hb7 RZ6.out);have HX7:=Lib.hid (HX6.out.below hb7);have HB7:=Lib.hid (below_then HB6.out hb7);have HV7:Hid (SlS w7 6 u7 (doneRows (goneL t2 d.wait (p+1)))∧nilOr u7 (goneL t2 d.wait (p+1))∧atP (fun b=>w.heap.size+2≤b) u7):=by
      rw [HG1.out];exact ⟨hs7,.inr (addE_ne _ _ _),hat7.mono fun b hb=>by omega⟩
     clear y0 y1 y2 y3 y4 y5 y6 y7 hs7 hat7 hb7 TA;go_wp2_with fail;go_roundw
     case rel=>exact ⟨p+1,_,_,u7,rfl,by rw [HSL.out],by omega,RD7,RZ7,HX7,HV7,HB7⟩
     case measure=>(rw [(rowc3 RD7.out).2.1,(rowc3 RD.out).2.1]; simp [lenC,intOf]; omega)
   ·have hpe:p=wn:=by omega
    subst hpe;have hie:(nowL t2 d.wait p).length=(stayL t2 d.wait p).length:=by rw [← HWN.out,now_end]
    obtain ⟨i,hi⟩:∃z,(stayL t2 d.wait p).length=z:=⟨_,rfl⟩;rw [hi] at hie ⊢;rw [hie] at x1 RD HXr;have HFF:=Lib.hid (HF.out _ _ _ _ HXr.out HVr.out.1 HVr.out.2.1 HVr.out.2.2 HBr.out);clear hie hi HF HFD HFL hch hwt;go_wp2_with (refine wpList_store_row rfl 34 _ _ rfl (w.heap.size+1) _ rfl rfl 34 _ RZ.out (by kernel_rfl) rfl (by simp [Value.oneCell']) ?_);refine bodyPost_ret (v:=.tuple #[(.agg #[.slice pc2 nc2 kc2,.slice aw2 i kw2,.int .i64 t2]),vl]) (results_cell_tmp Try.results18 _ _ (w.heap.size+1) 34 _ (0,0) _ rfl (setRow_heap _ _ _ _ 34 (0,0) RZ.out) Try.underlying34 rfl (by kernel_rfl) _ rfl) rfl ?_;exact HFF.out)
def putD (d:DeskM) (n:Nat) (c:ChanM):DeskM:={ d with chans:=d.chans.set n c }
theorem SlHX.put {P:Nat→Prop} {w W:World} {v' uv:Value} {l:List ChanM} {us:List Value} {n base:Nat} {c:ChanM} (h1:us.length=l.length) (h3:∀i,i<l.length→SlU w (us.getD i (.slice none 0 0)) (l.getD i noChan).buf∧atP P (us.getD i (.slice none 0 0))) (h4:∀c∈l,c.cap=IntKind.i64.wrap c.cap) (hl:l.length≤1000000) (hb:Below w.heap.size w W) (ho:OwnS W base 63 3 v' ((chRows l us).set n (chRow c uv))) (hn:n<l.length) (hu:SlU w uv c.buf) (hau:atP P uv) (hc:c.cap=IntKind.i64.wrap c.cap) (hp:∀b,base≤b→P b):SlHX P W v' (l.set n c):=by
 rw [chRows_set l us n _ _ h1] at ho;refine ho.slHX (by rw [List.length_set,List.length_set]; exact h1) (by rw [List.length_set]; exact hl) (fun j hj=>?_) (fun d hd=>?_) hp
 ·rw [List.length_set] at hj
  rw [getD_setL,getD_setL];by_cases hji:n=j
  ·rw [if_pos ⟨hji,by rw [h1]; exact hj⟩,if_pos ⟨hji,hj⟩]
   exact ⟨hu.below hb,hau⟩
  ·rw [if_neg (fun h=>hji h.1),if_neg (fun h=>hji h.1)]
   exact ⟨(h3 j hj).1.below hb,(h3 j hj).2⟩
 ·rcases List.mem_or_eq_of_mem_set hd with hd | rfl
  ·exact h4 d hd
  ·exact hc
set_option maxRecDepth 100000 in
set_option maxHeartbeats 16000000 in
theorem rput_any (P:Nat→Prop) (v uv:Value) (d:DeskM) (n:Nat) (c:ChanM) (w:World) (h:DeskX P w v d) (hd:d.ok) (hn:n<d.chans.length) (hu:SlU w uv c.buf) (hau:atP P uv) (hcw:c.cap=IntKind.i64.wrap c.cap) (hP:∀b,w.heap.size≤b→P b):Calls Try.prog 80 #[v,.int .i64 (n:Int),.agg #[.int .i64 c.cap,uv,.bool c.closed]] w fun e w'=>∃u,e=.returned u∧DeskX P w' u (putD d n c)∧Below w.heap.size w w':=by
 obtain ⟨vc,vw,rfl,hch,hwt⟩:=h;obtain ⟨us,h1,hss,h3,h4,h5,h6⟩:=hch;obtain ⟨aw,kw,rfl,-⟩:=hwt.slW.len;have hcl:=hd.cl;have hrl:=chRows_length d.chans us h1;have HFIN:Hid (∀W v' tk base,Below w.heap.size w W→OwnS W base 63 3 v' ((chRows d.chans us).set n (chRow c uv))→w.heap.size≤base→tk=d.tick→DeskX P W (.agg #[v',.slice aw d.wait.length kw,.int .i64 tk]) (putD d n c)):=fun W v' tk base hb ho hbs ht=>⟨v',.slice aw d.wait.length kw,by rw [ht]; rfl,SlHX.put h1 h3 h4 (by omega) hb ho hn hu hau hcw (fun b hb=>hP b (by omega)),hwt.below hb⟩;obtain ⟨ac,kc,rfl,-⟩:=hss.len;rw [hrl];rw [hrl] at hss;obtain ⟨rows,hrows⟩:∃z,chRows d.chans us=z:=⟨_,rfl⟩;rw [hrows] at HFIN hss hrl;have HSS:=Lib.hid hss;obtain ⟨cn,hcn⟩:∃z,d.chans.length=z:=⟨_,rfl⟩;rw [hcn] at HSS hrl hn hcl ⊢;obtain ⟨wn,hwn⟩:∃z,d.wait.length=z:=⟨_,rfl⟩;rw [hwn] at HFIN ⊢;obtain ⟨tk,htk⟩:∃z,d.tick=z:=⟨_,rfl⟩;have HF2:=Lib.hid fun W v' base h1 h2 h3=>HFIN.out W v' tk base h1 h2 h3 htk.symm;rw [htk];have HRL:Hid (rows.length=cn):=hrl;obtain ⟨up,un,uc,rfl⟩:∃p n q,uv=.slice p n q:=by
  obtain ⟨a,c,e,-⟩:=hu.1.len;exact ⟨_,_,_,e⟩
 obtain ⟨cc,bf,cl⟩:=c;dsimp only at HF2 ⊢;clear HFIN h1 h3 h4 h5 h6 hu hau hcw hP hd hwt hss hrl hrows hcn hwn htk;obtain ⟨W,hW,HB,R0,R1,R2,hz⟩:=three_new w (.cells #[.slice ac cn kc,.slice aw wn kw,.int .i64 tk] 34) (.cells #[.int .i64 cc,.slice up un uc,.bool cl] 63) (.cells #[.slice none 0 0,.slice none 0 0,.int .i64 0] 34);have HW:=Lib.hid hW;clear hW;go_enter Try.func80,Try.ntmps80;go_upto_region 1 with fail
 rw [HW.out];clear HW;obtain ⟨x0_0,x0_1,x0_2⟩:=rowc3 R0.out;obtain ⟨x1_0,x1_1,x1_2⟩:=rowc3 R1.out;clear x0_0 x0_1 x0_2 x1_0 x1_1 x1_2;obtain ⟨v1,w1,hrun,ho1,hg1,-⟩:=run_app_ss W 31 31 (by kernel_rfl) Try.info_chan rfl (by decide) (by decide) (OwnS.nil W W.heap.size 63 3) (HSS.out.below HB.out) (by rw [HRL.out]; simp; omega) (Nat.le_refl _);rw [List.nil_append] at ho1;have hB1:Below W.heap.size W w1:=(Below.refl W.heap.size W).grown hg1 (Nat.le_refl _) (fun k hk=>by cases hk);have R01:=Lib.hid (row_below3 hB1 R0.out);have R11:=Lib.hid (row_below3 hB1 R1.out);have R21:=Lib.hid (row_below3 hB1 R2.out);obtain ⟨g,c1,rfl,hgb,hgl,-⟩:=ho1.open (by rw [HRL.out]; omega);rw [HRL.out] at ho1 hrun;have HRUN:=Lib.hid hrun;have fz:=frozen_of_row w1 w.heap.size 0 _ _ R01.out;have r1:=heap_setCell_same w1 w.heap.size 0 _ _ (.slice (some ⟨g,0,none⟩) cn c1) R01.out;simp at r1;have R12:=Lib.hid ((heap_setCell_other w1 ⟨w.heap.size,0,none⟩ (w.heap.size+1) (.slice (some ⟨g,0,none⟩) cn c1) (by show w.heap.size+1≠w.heap.size; omega)).trans R11.out);have R22:=Lib.hid ((heap_setCell_other w1 ⟨w.heap.size,0,none⟩ (w.heap.size+2) (.slice (some ⟨g,0,none⟩) cn c1) (by show w.heap.size+2≠w.heap.size; omega)).trans R21.out);have HB2:=Lib.hid ((below_then HB.out hB1).setCell (p:=⟨w.heap.size,0,none⟩) (Nat.le_refl _) (.slice (some ⟨g,0,none⟩) cn c1));have hO2:=ho1.kept (grownBy_setCell w1 ⟨w.heap.size,0,none⟩ (.slice (some ⟨g,0,none⟩) cn c1)) (ho1.ne (show w.heap.size<W.heap.size by omega));obtain ⟨w2,hw2⟩:∃w2,w1.setCell ⟨w.heap.size,0,none⟩ (.slice (some ⟨g,0,none⟩) cn c1)=w2:=⟨_,rfl⟩;rw [hw2] at r1 R12 R22 HB2 hO2;have R02:=Lib.hid r1;have HW2:=Lib.hid hw2;have hth:=(hO2.row n (by rw [HRL.out]; exact hn)).2;have HTH:=Lib.hid hth;have hN:=hO2.setRow n (by rw [HRL.out]; exact hn) (r:=[.int .i64 cc,.slice up un uc,.bool cl]) rfl (by intro u hu; simp only [List.mem_cons,List.not_mem_nil,or_false] at hu; rcases hu with rfl | rfl | rfl <;> rfl);have hgW:w.heap.size+2<g:=by have:=(ltR R2); omega
 have hB3:=below_grown HB2.out (setCells_grown g [.int .i64 cc,.slice up un uc,.bool cl] (n * 3) w2) (by omega);have R03:=Lib.hid ((setCells_other g [.int .i64 cc,.slice up un uc,.bool cl] (n * 3) w2 w.heap.size (by omega)).trans R02.out);have R23:=Lib.hid ((setCells_other g [.int .i64 cc,.slice up un uc,.bool cl] (n * 3) w2 (w.heap.size+2) (by omega)).trans R22.out);obtain ⟨w3,hw3⟩:∃w3,w2.setCells g (n * 3) [.int .i64 cc,.slice up un uc,.bool cl]=w3:=⟨_,rfl⟩;rw [hw3] at hN hB3 R03 R23;have HW3:=Lib.hid hw3;have HN:=Lib.hid (And.intro hN hB3);have hnI:(n:Int)<(cn:Int):=by omega
 obtain ⟨x0,x1,x2⟩:=rowc3 R0.out;clear hrun hg1 hB1 ho1 r1 hw2 hth hN hB3 hw3 hO2;have z1:w1.cell? ⟨w.heap.size,0,none⟩=some (.slice ac cn kc):=(rowc3 R01.out).1;go_upto_region 2 with (at_builtin; refine Lib.wpList_append_run _ rfl _ _ _ _ rfl _ _ rfl rfl _ _ HRUN.out ?_)
 rw [HW2.out];try simp only [Act.put]
 clear x0 x1 x2 z1 fz HW2 HRUN;obtain ⟨x0,x1,x2⟩:=rowc3 R02.out;obtain ⟨y0,y1,y2⟩:=rowc3 R12.out;go_upto_region 3 with (refine wpList_store_mid rfl 63 _ _ rfl g (n * 3) _ rfl rfl HTH.out (by kernel_rfl) (by simp [Value.oneCell']) ?_)
 rw [HW3.out];try simp only [Act.put]
 clear x0 x1 x2 y0 y1 y2 HW3 HTH;obtain ⟨x0,x1,x2⟩:=rowc3 R03.out;go_wp2_with (refine wpList_store_row rfl 34 _ _ rfl (w.heap.size+2) _ rfl rfl 34 _ R23.out (by kernel_rfl) rfl (by simp [Value.oneCell']) ?_);refine bodyPost_ret (v:=.agg #[.slice (some ⟨g,0,none⟩) cn c1,.slice aw wn kw,.int .i64 tk]) (results_cell_row Try.results80 _ _ (w.heap.size+2) 34 _ (0,0) _ rfl (setRow_heap _ _ _ _ 34 (0,0) R23.out) Try.underlying34 rfl (by kernel_rfl)) rfl ?_;have hB4:=row_below HN.out.2 (show w.heap.size≤w.heap.size+2 by omega) #[.slice (some ⟨g,0,none⟩) cn c1,.slice aw wn kw,.int .i64 tk];exact ⟨_,rfl,HF2.out _ _ W.heap.size hB4 (HN.out.1.kept (row_grown w3 (w.heap.size+2) #[.slice (some ⟨g,0,none⟩) cn c1,.slice aw wn kw,.int .i64 tk]) (HN.out.1.ne (by omega))) (by omega),hB4⟩
def stayP (p:WaitM→Bool) (l:List WaitM) (k:Nat):List WaitM:=(l.take k).filter fun x=>!p x
def goneP (p:WaitM→Bool) (r:WaitM→ResM) (o:List DoneM) (l:List WaitM) (k:Nat):List DoneM:=((l.take k).filter p).foldl (fun o x=>addE o x.thr (r x)) o
theorem stayP_end (p:WaitM→Bool) (l:List WaitM):stayP p l l.length=l.filter fun x=>!p x:=by unfold stayP; rw [List.take_length]
theorem goneP_end (p:WaitM→Bool) (r:WaitM→ResM) (o:List DoneM) (l:List WaitM):goneP p r o l l.length=(l.filter p).foldl (fun o x=>addE o x.thr (r x)) o:=by unfold goneP; rw [List.take_length]
theorem stayP_next {p:WaitM→Bool} {l:List WaitM} {k:Nat} (hk:k<l.length):stayP p l (k+1)=stayP p l k ++ (if p (wat l k)=true then [] else [wat l k]):=by
 unfold stayP;rw [take_one hk,List.filter_append];unfold wat;rw [getD_lt hk];cases h:p l[k] <;> simp [h]
theorem goneP_next {p:WaitM→Bool} {r:WaitM→ResM} {o:List DoneM} {l:List WaitM} {k:Nat} (hk:k<l.length):goneP p r o l (k+1)=if p (wat l k)=true then addE (goneP p r o l k) (wat l k).thr (r (wat l k)) else goneP p r o l k:=by
 unfold goneP;rw [take_one hk,List.filter_append];unfold wat;rw [getD_lt hk];cases h:p l[k] <;> simp [h]
theorem goneP_len (p:WaitM→Bool) (r:WaitM→ResM) (o:List DoneM) (l:List WaitM):∀k,(goneP p r o l k).length≤o.length+k
 | 0=>by simp [goneP]
 | k+1=>by
  have ih:=goneP_len p r o l k;by_cases hk:k<l.length
  ·rw [goneP_next hk]
   split
   ·rw [addE_len]; omega
   ·omega
  ·have e:goneP p r o l (k+1)=goneP p r o l k:=by
    unfold goneP;rw [List.take_of_length_le (by omega),List.take_of_length_le (by omega)]
   rw [e]; omega
theorem goneP_ne {p:WaitM→Bool} {r:WaitM→ResM} {o:List DoneM} {l:List WaitM} (ho:o≠[]):∀k,goneP p r o l k≠[]
 | 0=>by simpa [goneP] using ho
 | k+1=>by
  by_cases hk:k<l.length
  ·rw [goneP_next hk]
   split
   ·exact addE_ne _ _ _
   ·exact goneP_ne ho k
  ·have e:goneP p r o l (k+1)=goneP p r o l k:=by
    unfold goneP;rw [List.take_of_length_le (by omega),List.take_of_length_le (by omega)]
   rw [e]; exact goneP_ne ho k
def nowP (p:WaitM→Bool) (l:List WaitM) (k:Nat):List WaitM:=stayP p l k ++ l.drop k
theorem nowP_at {p:WaitM→Bool} {l:List WaitM} {k:Nat} (hk:k<l.length):wat (nowP p l k) (stayP p l k).length=wat l k∧(stayP p l k).length<(nowP p l k).length:=by
 unfold nowP;refine ⟨?_,by simp; omega⟩;unfold wat;rw [List.getD_eq_getElem?_getD,List.getElem?_append_right (Nat.le_refl _),Nat.sub_self,List.getElem?_drop,Nat.add_zero,← List.getD_eq_getElem?_getD]
theorem nowP_stay {p:WaitM→Bool} {l:List WaitM} {k:Nat} (hk:k<l.length) (h:p (wat l k)=false):nowP p l (k+1)=nowP p l k∧(stayP p l (k+1)).length=(stayP p l k).length+1:=by
 unfold nowP;rw [stayP_next hk,if_neg (by rw [h]; decide)];refine ⟨?_,by simp⟩;rw [List.append_assoc];congr 1;unfold wat;rw [getD_lt hk];exact (List.drop_eq_getElem_cons hk).symm
theorem nowP_go {p:WaitM→Bool} {l:List WaitM} {k:Nat} (hk:k<l.length) (h:p (wat l k)=true):nowP p l (k+1)=(nowP p l k).take (stayP p l k).length ++ (nowP p l k).drop ((stayP p l k).length+1)∧stayP p l (k+1)=stayP p l k:=by
 have e:stayP p l (k+1)=stayP p l k:=by rw [stayP_next hk,if_pos h,List.append_nil]
 refine ⟨?_,e⟩;unfold nowP;rw [e,List.take_left,List.drop_append,show (stayP p l k).drop ((stayP p l k).length+1)=[] from List.drop_of_length_le (by omega),List.nil_append,show (stayP p l k).length+1 - (stayP p l k).length=1 by omega,List.drop_drop]
theorem nowP_end (p:WaitM→Bool) (l:List WaitM):nowP p l l.length=stayP p l l.length:=by unfold nowP; rw [List.drop_length,List.append_nil]
theorem nowP_mem {p:WaitM→Bool} {l:List WaitM} {k:Nat} {x:WaitM} (h:x∈nowP p l k):x∈l:=by
 unfold nowP at h;rcases List.mem_append.1 h with h | h
 ·exact List.mem_of_mem_take (List.mem_filter.1 h).1
 ·exact List.mem_of_mem_drop h
theorem nowP_len (p:WaitM→Bool) (l:List WaitM) (k:Nat):(nowP p l k).length≤l.length:=by
 unfold nowP stayP;rw [List.length_append,List.length_drop];have:=List.length_filter_le (fun x=>!p x) (l.take k);rw [List.length_take] at this;omega
theorem DeskM.ok.nowP {d:DeskM} (h:d.ok) (p:WaitM→Bool) (k:Nat):DeskM.ok ⟨d.chans,nowP p d.wait k,d.tick⟩:=
 ⟨h.cl,by have:=nowP_len p d.wait k; have:=h.wl; show (Go.Proofs.Ytiekicailidhcaa.nowP p d.wait k).length≤1000; omega,h.bf,fun x hx=>h.wop x (nowP_mem hx)⟩
def shutB (ch:Int) (pass:Bool) (x:WaitM):Bool:=decide (0≤sideI x.op ch pass)
def shutR (ch:Int) (pass:Bool) (x:WaitM):ResM:=⟨if pass then 5 else 2,namedI x.op (sideI x.op ch pass),0,false,0⟩
def passE (ch:Int) (pass:Bool) (q:DeskM × List DoneM):DeskM × List DoneM:=(⟨q.1.chans,q.1.wait.filter (fun x=>!shutB ch pass x),q.1.tick⟩,(q.1.wait.filter (shutB ch pass)).foldl (fun o x=>addE o x.thr (shutR ch pass x)) q.2)
def panD:ResM:=⟨5,-1,0,false,0⟩
def shutE (d:DeskM) (thr ch:Int):DeskM × List DoneM:=
 if exB d.chans ch=true∧(chE d.chans ch).closed=false then passE ch true (passE ch false (putD d ch.toNat { chE d.chans ch with closed:=true },[⟨thr,⟨6,-1,0,false,0⟩⟩]))
 else (d,[⟨thr,panD⟩])
theorem SlHX.at3 {P:Nat→Prop} {w:World} {v:Value} {l:List ChanM} (h:SlHX P w v l) (i:Nat) (hi:i<l.length):∃b off cap u,v=.slice (some ⟨b,off,none⟩) l.length cap∧b<w.heap.size∧w.cell? ⟨b,off+i * 3,none⟩=some (.int .i64 (l.getD i noChan).cap)∧w.cell? ⟨b,off+i * 3+1,none⟩=some u∧w.cell? ⟨b,off+i * 3+2,none⟩=some (.bool (l.getD i noChan).closed)∧SlU w u (l.getD i noChan).buf∧atP P u∧(l.getD i noChan).cap=IntKind.i64.wrap (l.getD i noChan).cap:=by
 obtain ⟨us,h1,h2,h3,h4,h5,h6⟩:=h;have hlen:=chRows_length l us h1;obtain ⟨b,off,cap,rfl,hb,hr⟩:=h2.open (by omega);have h7:=hr i (by omega);rw [chRows_get l us i h1 hi] at h7;exact ⟨b,off,cap,_,by rw [hlen],hb,h7 0 _ rfl,h7 1 _ rfl,h7 2 _ rfl,(h3 i hi).1,(h3 i hi).2,by rw [getD_lt hi]; exact h4 _ (List.getElem_mem hi)⟩
def shutQ (ch:Int) (q:DeskM × List DoneM):Nat→DeskM × List DoneM
 | 0=>q
 | p+1=>passE ch (decide (p=1)) (shutQ ch q p)
theorem passE_eq (ch:Int) (b:Bool) (q:DeskM × List DoneM):passE ch b q=(⟨q.1.chans,nowP (shutB ch b) q.1.wait q.1.wait.length,q.1.tick⟩,goneP (shutB ch b) (shutR ch b) q.2 q.1.wait q.1.wait.length):=by
 unfold passE;rw [nowP_end,stayP_end,goneP_end]
theorem shutE_good {d:DeskM} {thr ch:Int} (h1:exB d.chans ch=true) (h2:(chE d.chans ch).closed=false):shutE d thr ch=shutQ ch (putD d ch.toNat { chE d.chans ch with closed:=true },[⟨thr,⟨6,-1,0,false,0⟩⟩]) 2:=by
 unfold shutE;rw [if_pos ⟨h1,h2⟩];rfl
theorem DeskM.ok.put {d:DeskM} (h:d.ok) {n:Nat} {c:ChanM} (hc:c.buf.length≤1000):DeskM.ok (putD d n c):=
 ⟨by show (d.chans.set n c).length≤1000; rw [List.length_set]; exact h.cl,h.wl,fun x hx=>by
  rcases List.mem_or_eq_of_mem_set hx with hx | rfl
  ·exact h.bf x hx
  ·exact hc,h.wop⟩
theorem passE_ok {ch:Int} {b:Bool} {q:DeskM × List DoneM} (h:q.1.ok):(passE ch b q).1.ok:=by
 rw [passE_eq];exact h.nowP _ _
set_option maxRecDepth 100000 in
set_option maxHeartbeats 16000000 in
theorem rshut_any (P:Nat→Prop) (v vo:Value) (d:DeskM) (thr:Int) (op:OpM) (w:World) (h:DeskX P w v d) (hd:d.ok) (ho:OpV w vo op) (hP:∀b,w.heap.size≤b→P b):Calls Try.prog 52 #[v,.int .i64 thr,vo] w (TikQ P (shutE d thr op.chan).1 (shutE d thr op.chan).2 w):=by
 have hX:=h.tight;obtain ⟨vc,vw,rfl,hch,hwt⟩:=h;obtain ⟨vcs,vds,rfl,hcs,hds⟩:=ho;have HD:=Lib.hid hd;have HP:=Lib.hid hP;have HCH:=Lib.hid hch;obtain ⟨ac,kc,rfl,-⟩:=hch.slH.len;obtain ⟨aw,kw,rfl,-⟩:=hwt.slW.len;have HX:=Lib.hid hX;obtain ⟨kd,md,ch,ov,odl,cs,ds⟩:=op;dsimp only at *;obtain ⟨a3,cap3,rfl⟩:=hcs.len;obtain ⟨a4,cap4,rfl,-⟩:=hds.len;obtain ⟨td,htd⟩:∃z,(shutE d thr ch).1=z:=⟨_,rfl⟩;obtain ⟨tl,htl⟩:∃z,(shutE d thr ch).2=z:=⟨_,rfl⟩;have HE1:Hid (¬(exB d.chans ch=true∧(chE d.chans ch).closed=false)→d=td∧[⟨thr,panD⟩]=tl):=fun h=>by rw [← htd,← htl]; unfold shutE; rw [if_neg h]; exact ⟨rfl,rfl⟩
 have HE2:Hid (exB d.chans ch=true→(chE d.chans ch).closed=false→∀q,shutQ ch (putD d ch.toNat { chE d.chans ch with closed:=true },[⟨thr,⟨6,-1,0,false,0⟩⟩])=q→(q 2).1=td∧(q 2).2=tl):=fun h1 h2 q hq=>by
  rw [← htd,← htl,shutE_good h1 h2,hq];exact ⟨rfl,rfl⟩
 rw [htd,htl];obtain ⟨TQ,hTQ⟩:∃z,TikQ P td tl w=z:=⟨_,rfl⟩;have HT:Hid (∀w' u v,DeskX P w' u td→SlS w' 6 v (doneRows tl)→nilOr v tl→atP (fun b=>w.heap.size≤b) v→Below w.heap.size w w'→TQ (.returned (.tuple #[u,v])) w'):=fun w' u v h1 h2 h3 h4 h5=>by rw [← hTQ]; exact ⟨u,v,rfl,h1,h2,h3,h4,h5⟩
 rw [hTQ];obtain ⟨t,htt⟩:∃z,d.tick=z:=⟨_,rfl⟩;have HTT:=Lib.hid htt;obtain ⟨cn,hcn⟩:∃z,d.chans.length=z:=⟨_,rfl⟩;obtain ⟨wn,hwn⟩:∃z,d.wait.length=z:=⟨_,rfl⟩;have HWN:=Lib.hid hwn;have hwl:=hd.wl;have HCN:=Lib.hid hcn;have HEX:Hid (exB d.chans ch=(decide (0≤ch) && decide (ch<(cn:Int)))):=by show _=_; unfold exB; rw [hcn]
 rw [hwn] at hwl;rw [hcn] at HCH;rw [hcn,hwn,htt] at HX ⊢;clear htd htl hTQ htt hcn hwn hch hwt hd hP hX hcs hds;obtain ⟨W,hW,HB,R0,R1,R2,hz⟩:=three_new w (.cells #[.slice ac cn kc,.slice aw wn kw,.int .i64 t] 34) (.cells #[.int .i64 kd,.int .i64 md,.int .i64 ch,.int .u64 ov,.int .i64 odl,.slice a3 cs.length cap3,.slice a4 ds.length cap4] 44) (.cells #[.slice none 0 0,.slice none 0 0,.int .i64 0] 34);have HW:=Lib.hid hW;clear hW;go_enter Try.func52,Try.ntmps52;go_upto_region 1 with fail
 rw [HW.out];clear HW;obtain ⟨x0_0,x0_1,x0_2⟩:=rowc3 R0.out;obtain ⟨x1_0,x1_1,x1_2,x1_3,x1_4,x1_5,x1_6⟩:=rowc7 R1.out;by_cases h0:ch<0
 ·have hbad:exB d.chans ch=false:=by rw [HEX.out,decide_eq_false (by omega)]; rfl
  obtain ⟨hd1,hd2⟩:=HE1.out (by rw [hbad]; simp);subst hd1;subst hd2;clear HE1 hbad;have hbn:Below W.heap.size W (W.alloc (.cells #[.int .i64 thr,.int .i64 5,.int .i64 (-1),.int .u64 0,.bool false,.int .i64 0] 75)):=below_new (Below.refl _ _) _;have RZn:=Lib.hid (row_below3 hbn R2.out);have hRb:=row_below (below_then HB.out hbn) (show w.heap.size≤w.heap.size+2 by omega) #[.slice ac cn kc,.slice aw wn kw,.int .i64 t];have hSL:=SlS.lit1 W 75 [.int .i64 thr,.int .i64 5,.int .i64 (-1),.int .u64 0,.bool false,.int .i64 0] 6 rfl (by intro u hu; simp only [List.mem_cons,List.not_mem_nil,or_false] at hu; rcases hu with rfl | rfl | rfl | rfl | rfl | rfl <;> rfl);have hatn:atP (fun b=>W.heap.size≤b) (.slice (some ⟨W.heap.size,0,none⟩) 1 1):=fun a n c e=>by simp only [Value.slice.injEq,Option.some.injEq] at e; obtain ⟨rfl,-,-⟩:=e; exact .inr (Nat.le_refl _)
  have HF:=Lib.hid (HT.out _ _ _ ((HX.out.below hRb).mono fun b hb=>hb.1) (SlS.off hSL (row_grown _ (w.heap.size+2) #[.slice ac cn kc,.slice aw wn kw,.int .i64 t]) hatn (fun b hb=>by omega)) (.inr (by simp)) (hatn.mono fun b hb=>by omega) hRb);clear HE2 HT hbn hRb hSL hatn HX HEX HCH;go_wp2_with (refine wpList_store_row rfl 34 _ _ rfl (w.heap.size+2) _ rfl rfl 34 _ RZn.out (by kernel_rfl) rfl (by simp [Value.oneCell']) ?_);refine bodyPost_ret (v:=.tuple #[(.agg #[.slice ac cn kc,.slice aw wn kw,.int .i64 t]),.slice (some ⟨W.heap.size,0,none⟩) 1 1]) (results_cell_tmp Try.results52 _ _ (w.heap.size+2) 34 _ (0,0) _ rfl (setRow_heap _ _ _ _ 34 (0,0) RZn.out) Try.underlying34 rfl (by kernel_rfl) _ rfl) rfl ?_;exact HF.out
 by_cases h1:(cn:Int)≤ch
 ·have hbad:exB d.chans ch=false:=by rw [HEX.out,decide_eq_false (show ¬ch<(cn:Int) by omega),Bool.and_false]
  obtain ⟨hd1,hd2⟩:=HE1.out (by rw [hbad]; simp);subst hd1;subst hd2;have hge:ch ≥ (cn:Int):=h1;clear HE1 hbad;have hbn:Below W.heap.size W (W.alloc (.cells #[.int .i64 thr,.int .i64 5,.int .i64 (-1),.int .u64 0,.bool false,.int .i64 0] 75)):=below_new (Below.refl _ _) _;have RZn:=Lib.hid (row_below3 hbn R2.out);have hRb:=row_below (below_then HB.out hbn) (show w.heap.size≤w.heap.size+2 by omega) #[.slice ac cn kc,.slice aw wn kw,.int .i64 t];have hSL:=SlS.lit1 W 75 [.int .i64 thr,.int .i64 5,.int .i64 (-1),.int .u64 0,.bool false,.int .i64 0] 6 rfl (by intro u hu; simp only [List.mem_cons,List.not_mem_nil,or_false] at hu; rcases hu with rfl | rfl | rfl | rfl | rfl | rfl <;> rfl);have hatn:atP (fun b=>W.heap.size≤b) (.slice (some ⟨W.heap.size,0,none⟩) 1 1):=fun a n c e=>by simp only [Value.slice.injEq,Option.some.injEq] at e; obtain ⟨rfl,-,-⟩:=e; exact .inr (Nat.le_refl _)
  have HF:=Lib.hid (HT.out _ _ _ ((HX.out.below hRb).mono fun b hb=>hb.1) (SlS.off hSL (row_grown _ (w.heap.size+2) #[.slice ac cn kc,.slice aw wn kw,.int .i64 t]) hatn (fun b hb=>by omega)) (.inr (by simp)) (hatn.mono fun b hb=>by omega) hRb);clear HE2 HT hbn hRb hSL hatn HX HEX HCH;go_wp2_with (refine wpList_store_row rfl 34 _ _ rfl (w.heap.size+2) _ rfl rfl 34 _ RZn.out (by kernel_rfl) rfl (by simp [Value.oneCell']) ?_);refine bodyPost_ret (v:=.tuple #[(.agg #[.slice ac cn kc,.slice aw wn kw,.int .i64 t]),.slice (some ⟨W.heap.size,0,none⟩) 1 1]) (results_cell_tmp Try.results52 _ _ (w.heap.size+2) 34 _ (0,0) _ rfl (setRow_heap _ _ _ _ 34 (0,0) RZn.out) Try.underlying34 rfl (by kernel_rfl) _ rfl) rfl ?_;exact HF.out
 have hex:exB d.chans ch=true:=by rw [HEX.out,decide_eq_true (show 0≤ch by omega),decide_eq_true (show ch<(cn:Int) by omega)]; rfl
 have hch1:¬ch ≥ (cn:Int):=by omega
 obtain ⟨i,hi⟩:∃i:Nat,ch=(i:Int):=⟨ch.toNat,by omega⟩;have hic:i<d.chans.length:=by rw [HCN.out]; omega
 have hil:i<cn:=by omega
 have hiI:(i:Int)<(cn:Int):=by omega
 obtain ⟨b,off,cap,u,hve,hbl,c0,c1,c2,hsu,hau,hcw⟩:=HCH.out.at3 i hic;rw [HCN.out] at hve;simp only [Value.slice.injEq] at hve;obtain ⟨rfl,-,rfl⟩:=hve;have hce:chE d.chans ch=d.chans.getD i noChan:=by rw [hi]; rfl
 obtain ⟨⟨cc,bf,cl⟩,hc⟩:∃z,d.chans.getD i noChan=z:=⟨_,rfl⟩;have hbf:bf.length≤1000:=by
  have:=HD.out.bf _ (List.getElem_mem hic);rw [← getD_lt (d:=noChan) hic,hc] at this;exact this
 rw [hc] at c0 c2 hsu hcw hce;dsimp only at c0 c2 hsu hcw;obtain ⟨up,un,uc,rfl⟩:∃p n q,u=.slice p n q:=by
  obtain ⟨a,c,e,-⟩:=hsu.1.len;exact ⟨_,_,_,e⟩
 have C0:=(HB.out.cell (p:=⟨b,off+i * 3,none⟩) hbl).trans c0;have C1:=(HB.out.cell (p:=⟨b,off+i * 3+1,none⟩) hbl).trans c1;have C2:=(HB.out.cell (p:=⟨b,off+i * 3+2,none⟩) hbl).trans c2;have HSU:=Lib.hid hsu;have HAU:=Lib.hid hau;have HCW:=Lib.hid hcw;have HIE:=Lib.hid hi;cases cl with
 | true=>
  obtain ⟨hd1,hd2⟩:=HE1.out (by rw [hce]; simp);subst hd1;subst hd2;clear HE1 c0 c1 c2 hsu hau hcw hex hce hc h0 h1;subst hi;have hbn:Below W.heap.size W (W.alloc (.cells #[.int .i64 thr,.int .i64 5,.int .i64 (-1),.int .u64 0,.bool false,.int .i64 0] 75)):=below_new (Below.refl _ _) _;have RZn:=Lib.hid (row_below3 hbn R2.out);have hRb:=row_below (below_then HB.out hbn) (show w.heap.size≤w.heap.size+2 by omega) #[.slice (some ⟨b,off,none⟩) cn kc,.slice aw wn kw,.int .i64 t];have hSL:=SlS.lit1 W 75 [.int .i64 thr,.int .i64 5,.int .i64 (-1),.int .u64 0,.bool false,.int .i64 0] 6 rfl (by intro u hu; simp only [List.mem_cons,List.not_mem_nil,or_false] at hu; rcases hu with rfl | rfl | rfl | rfl | rfl | rfl <;> rfl);have hatn:atP (fun b=>W.heap.size≤b) (.slice (some ⟨W.heap.size,0,none⟩) 1 1):=fun a n c e=>by simp only [Value.slice.injEq,Option.some.injEq] at e; obtain ⟨rfl,-,-⟩:=e; exact .inr (Nat.le_refl _)
  have HF:=Lib.hid (HT.out _ _ _ ((HX.out.below hRb).mono fun b hb=>hb.1) (SlS.off hSL (row_grown _ (w.heap.size+2) #[.slice (some ⟨b,off,none⟩) cn kc,.slice aw wn kw,.int .i64 t]) hatn (fun b hb=>by omega)) (.inr (by simp)) (hatn.mono fun b hb=>by omega) hRb);clear HE2 HT hbn hRb hSL hatn HX HEX HCH;go_wp2_with (refine wpList_store_row rfl 34 _ _ rfl (w.heap.size+2) _ rfl rfl 34 _ RZn.out (by kernel_rfl) rfl (by simp [Value.oneCell']) ?_);refine bodyPost_ret (v:=.tuple #[(.agg #[.slice (some ⟨b,off,none⟩) cn kc,.slice aw wn kw,.int .i64 t]),.slice (some ⟨W.heap.size,0,none⟩) 1 1]) (results_cell_tmp Try.results52 _ _ (w.heap.size+2) 34 _ (0,0) _ rfl (setRow_heap _ _ _ _ 34 (0,0) RZn.out) Try.underlying34 rfl (by kernel_rfl) _ rfl) rfl ?_;exact HF.out
 | false=>
  clear HE1 c0 c1 c2 hsu hau hcw h0 h1;have HEQ:=Lib.hid (HE2.out hex (by rw [hce]));rw [hce,hi,Int.toNat_natCast] at HEQ;obtain ⟨qs,hqs⟩:∃z,shutQ (i:Int) (putD d i { (⟨cc,bf,false⟩:ChanM) with closed:=true },[⟨thr,⟨6,-1,0,false,0⟩⟩])=z:=⟨_,rfl⟩;obtain ⟨hqe1,hqe2⟩:=HEQ.out qs hqs;have HQE:=Lib.hid (And.intro hqe1 hqe2);have HQ0:Hid (qs 0=(putD d i ⟨cc,bf,true⟩,[⟨thr,⟨6,-1,0,false,0⟩⟩])):=by show _=_; rw [← hqs]; rfl
  have HQN:Hid (∀p,qs (p+1)=(⟨(qs p).1.chans,nowP (shutB (i:Int) (decide (p=1))) (qs p).1.wait (qs p).1.wait.length,(qs p).1.tick⟩,goneP (shutB (i:Int) (decide (p=1))) (shutR (i:Int) (decide (p=1))) (qs p).2 (qs p).1.wait (qs p).1.wait.length)):=fun p=>by rw [← passE_eq,← hqs]; rfl
  have HQK:Hid (∀p,(qs p).1.ok):=fun p=>by
   rw [← hqs];induction p with
   | zero=>exact HD.out.put hbf
   | succ p ih=>exact passE_ok ih
  have HQT:Hid (∀p,(qs p).1.tick=t∧(qs p).1.wait.length≤1000):=fun p=>by
   refine ⟨?_,(HQK.out p).wl⟩;rw [← hqs];induction p with
   | zero=>exact HTT.out
   | succ p ih=>exact ih
  have HQL:Hid (∀p,(qs p).2.length≤1+1000 * p∧(qs p).2≠[]):=fun p=>by
   induction p with
   | zero=>rw [HQ0.out]; simp
   | succ p ih=>
    rw [HQN.out p];have:=goneP_len (shutB (i:Int) (decide (p=1))) (shutR (i:Int) (decide (p=1))) (qs p).2 (qs p).1.wait (qs p).1.wait.length;have:=(HQT.out p).2;exact ⟨by dsimp only; omega,goneP_ne ih.2 _⟩
  clear HE2 hex hce hc HEQ hqs hqe1 hqe2;subst hi;obtain ⟨PP,hPP⟩:∃z:Nat→Prop,(fun b=>P b∧b≠w.heap.size∧b≠w.heap.size+1∧b≠w.heap.size+2)=z:=⟨_,rfl⟩;have HPP:Hid ((∀b,PP b→P b)∧(∀b,PP b→b≠w.heap.size)∧(∀b,PP b→b≠w.heap.size+2)∧∀b,w.heap.size+3≤b→PP b):=by
   rw [← hPP];exact ⟨fun b hb=>hb.1,fun b hb=>hb.2.1,fun b hb=>hb.2.2.2,fun b hb=>⟨HP.out b (by omega),by omega,by omega,by omega⟩⟩
  have HTP:Hid (∀v,atP P v→atP (fun b=>b<w.heap.size) v→atP PP v):=fun v h1 h2=>(h1.and h2).mono fun b hb=>by rw [← hPP]; exact ⟨hb.1,by have:=hb.2; omega,by have:=hb.2; omega,by have:=hb.2; omega⟩
  have HXP:Hid (DeskX PP w (.agg #[.slice (some ⟨b,off,none⟩) cn kc,.slice aw wn kw,.int .i64 t]) d):=HX.out.mono fun b hb=>by rw [← hPP]; exact ⟨hb.1,by have:=hb.2; omega,by have:=hb.2; omega,by have:=hb.2; omega⟩
  have HF:Hid (∀pc nc kc2 aw2 n2 kw2 vl wr,DeskX PP wr (.agg #[.slice pc nc kc2,.slice aw2 n2 kw2,.int .i64 t]) (qs 2).1→SlS wr 6 vl (doneRows (qs 2).2)→(qs 2).2≠[]→atP (fun b=>w.heap.size+3≤b) vl→Below w.heap.size w wr→TQ (.returned (.tuple #[.agg #[.slice pc nc kc2,.slice aw2 n2 kw2,.int .i64 t],vl])) (wr.setRow (w.heap.size+2) #[.slice pc nc kc2,.slice aw2 n2 kw2,.int .i64 t])):=fun pc nc kc2 aw2 n2 kw2 vl wr h1 h2 h3 h5 h4=>by
   have hg:=row_grown wr (w.heap.size+2) #[.slice pc nc kc2,.slice aw2 n2 kw2,.int .i64 t];have hb:=row_below h4 (show w.heap.size≤w.heap.size+2 by omega) #[.slice pc nc kc2,.slice aw2 n2 kw2,.int .i64 t];rw [HQE.out.1] at h1;rw [HQE.out.2] at h2 h3;exact HT.out _ _ _ ((h1.off hg HPP.out.2.2.1).mono HPP.out.1) (SlS.off h2 hg h5 (fun b hb=>by omega)) (.inr h3) (h5.mono fun b hb=>by omega) hb
  clear HX HCH HT hPP;obtain ⟨WC,hWC⟩:∃WC,(W.alloc (.cells #[.int .i64 0,.slice none 0 0,.bool false] 63)).setRow W.heap.size #[.int .i64 cc,.slice up un uc,.bool false]=WC:=⟨_,rfl⟩;have NC:Hid ((W.alloc (.cells #[.int .i64 0,.slice none 0 0,.bool false] 63)).heap[W.heap.size]?=some (.cells #[.int .i64 0,.slice none 0 0,.bool false] 63 (0,0))):=heap_alloc_new _ _;have HBC:Hid (Below W.heap.size W WC):=hWC▸row_below (below_new (Below.refl _ _) _) (Nat.le_refl _) _;have RC:Hid (WC.heap[W.heap.size]?=some (.cells #[.int .i64 cc,.slice up un uc,.bool false] 63 (0,0))):=hWC▸setRow_heap _ _ _ _ _ (0,0) NC.out;have HWC:=Lib.hid hWC;clear hWC;go_upto_region 4 with (refine wpList_store_row rfl 63 _ _ rfl (W.heap.size) _ rfl rfl 63 _ NC.out (by kernel_rfl) rfl (by simp [Value.oneCell']) ?_)
  rw [HWC.out];try simp only [Act.put]
  clear HWC NC;obtain ⟨C,hC⟩:∃C,W.heap.size=C:=⟨_,rfl⟩;rw [hC] at RC;rw [hC];have hCp:W.heap.size≤C:=by omega
  clear hC;have HBc:=Lib.hid (below_then HB.out HBC.out);have R0c:=Lib.hid (row_below3 HBC.out R0.out);have R1c:=Lib.hid (row_below3 HBC.out R1.out);have R2c:=Lib.hid (row_below3 HBC.out R2.out);have fz:=frozen_of_row WC C 2 _ _ RC.out;have r1:=heap_setCell_same WC C 2 _ _ (.bool true) RC.out;simp at r1;have RC3:=Lib.hid r1;have R03:=Lib.hid ((heap_setCell_other WC ⟨C,2,none⟩ w.heap.size (.bool true) (by show w.heap.size≠C; omega)).trans R0c.out);have R13:=Lib.hid ((heap_setCell_other WC ⟨C,2,none⟩ (w.heap.size+1) (.bool true) (by show w.heap.size+1≠C; omega)).trans R1c.out);have R23:=Lib.hid ((heap_setCell_other WC ⟨C,2,none⟩ (w.heap.size+2) (.bool true) (by show w.heap.size+2≠C; omega)).trans R2c.out);have HB3:=Lib.hid (HBc.out.setCell (p:=⟨C,2,none⟩) (by show w.heap.size≤C; omega) (.bool true));obtain ⟨w3,hw3⟩:∃w3,WC.setCell ⟨C,2,none⟩ (.bool true)=w3:=⟨_,rfl⟩;rw [hw3] at RC3 R03 R13 R23 HB3;have HW3:=Lib.hid hw3;obtain ⟨z0,z1,z2⟩:=rowc3 RC.out;clear r1 hw3 x0_0 x0_1 x0_2 x1_0 x1_1 x1_2 x1_3 x1_4 x1_5 x1_6 C0 C1 C2;go_upto_region 5 with fail
  rw [HW3.out];try simp only [Act.put]
  clear z0 z1 z2 fz HW3;have hw3z:w.heap.size+3≤w3.heap.size:=by have:=(ltR RC3); omega
  have TP:=Lib.hid (rput_any PP _ (.slice up un uc) d i ⟨cc,bf,true⟩ w3 (HXP.out.below HB3.out) HD.out (by rw [HCN.out]; exact hil) (HSU.out.below HB3.out) (HTP.out _ HAU.out HSU.out.2.isP) HCW.out (fun b hb=>HPP.out.2.2.2 b (by omega)));dsimp only at TP;obtain ⟨x0,x1,x2⟩:=rowc3 R03.out;obtain ⟨y0,y1,y2,y3,y4,y5,y6⟩:=rowc7 R13.out;obtain ⟨z0,z1,z2⟩:=rowc3 RC3.out;go_wp2_with fail;refine TP.out.mono ?_; rintro e w4 ⟨u4,rfl,hx4,hb4⟩;have HX4:=Lib.hid hx4;obtain ⟨vc4,vw4,rfl,hc4,hw4⟩:=hx4;rw [show (putD d i ⟨cc,bf,true⟩).tick=t from HTT.out] at HX4 ⊢;obtain ⟨pc4,nc4,kc4,rfl⟩:=SlHX.sh hc4;obtain ⟨aw4,kw4,hve4,-⟩:=hw4.slW.len;obtain ⟨n4,hn4⟩:∃z,(putD d i ⟨cc,bf,true⟩).wait.length=z:=⟨_,rfl⟩;rw [hn4] at hve4;subst hve4;have R04:=Lib.hid (row_below3 hb4 R03.out);have R14:=Lib.hid (row_below3 hb4 R13.out);have R24:=Lib.hid (row_below3 hb4 R23.out);have HB4:=Lib.hid (below_then HB3.out hb4);have hg5:=row_grown w4 w.heap.size #[.slice pc4 nc4 kc4,.slice aw4 n4 kw4,.int .i64 t];have R05:Hid ((w4.setRow w.heap.size #[.slice pc4 nc4 kc4,.slice aw4 n4 kw4,.int .i64 t]).heap[w.heap.size]?=some (.cells #[.slice pc4 nc4 kc4,.slice aw4 n4 kw4,.int .i64 t] 34 (0,0))):=setRow_heap _ _ _ _ _ (0,0) R04.out;have R15:=Lib.hid ((setRow_other w4 w.heap.size (w.heap.size+1) #[.slice pc4 nc4 kc4,.slice aw4 n4 kw4,.int .i64 t] (by omega)).trans R14.out);have R25:=Lib.hid ((setRow_other w4 w.heap.size (w.heap.size+2) #[.slice pc4 nc4 kc4,.slice aw4 n4 kw4,.int .i64 t] (by omega)).trans R24.out);have HX5:=Lib.hid (HX4.out.off hg5 HPP.out.2.1);have HB5:=Lib.hid (row_below HB4.out (Nat.le_refl _) #[.slice pc4 nc4 kc4,.slice aw4 n4 kw4,.int .i64 t]);obtain ⟨w5,hw5⟩:∃w5,w4.setRow w.heap.size #[.slice pc4 nc4 kc4,.slice aw4 n4 kw4,.int .i64 t]=w5:=⟨_,rfl⟩;rw [hw5] at R05 R15 R25 HX5 HB5;have HW5:=Lib.hid hw5;clear hw5 hg5 hc4 hw4 hb4 x0 x1 x2 y0 y1 y2 y3 y4 y5 y6 z0 z1 z2 TP hn4;go_upto_region 6 with (refine wpList_store_row rfl 34 _ _ rfl (w.heap.size) _ rfl rfl 34 _ R04.out (by kernel_rfl) rfl (by simp [Value.oneCell']) ?_)
  rw [HW5.out];try simp only [Act.put]
  clear HW5;obtain ⟨w6,b6,hw6,hb6,RL6,hbn6,ltn⟩:=alloc_pack w5 (.cells #[.int .i64 thr,.int .i64 6,.int .i64 (-1),.int .u64 0,.bool false,.int .i64 0] 75);have R06:=Lib.hid (row_below3 hbn6.out R05.out);have R16:=Lib.hid (row_below3 hbn6.out R15.out);have R26:=Lib.hid (row_below3 hbn6.out R25.out);have HX6:=Lib.hid (HX5.out.below hbn6.out);have HB6:=Lib.hid (below_then HB5.out hbn6.out);have hw5z:w.heap.size+3≤w5.heap.size:=by have:=(ltR R25); omega
  have HS6:Hid (SlS w6 6 (.slice (some ⟨b6,0,none⟩) 1 1) (doneRows (qs 0).2)∧atP (fun b=>w.heap.size+3≤b) (.slice (some ⟨b6,0,none⟩) 1 1)):=by
   rw [HQ0.out,← hw6,← hb6];exact ⟨SlS.lit1 w5 75 [.int .i64 thr,.int .i64 6,.int .i64 (-1),.int .u64 0,.bool false,.int .i64 0] 6 rfl (by intro u hu; simp only [List.mem_cons,List.not_mem_nil,or_false] at hu; rcases hu with rfl | rfl | rfl | rfl | rfl | rfl <;> rfl),fun a n c e=>by simp only [Value.slice.injEq,Option.some.injEq] at e; obtain ⟨rfl,-,-⟩:=e; exact .inr hw5z⟩
  have HX7:Hid (DeskX PP w6 (.agg #[.slice pc4 nc4 kc4,.slice aw4 n4 kw4,.int .i64 t]) (qs 0).1):=by rw [HQ0.out]; exact HX6.out
  have HW6:=Lib.hid hw6;have HB66:=Lib.hid hb6;clear hw6 hb6 hbn6 ltn RL6 HX6;go_upto_region 7 with fail
  rw [HW6.out,HB66.out];clear HW6 HB66;go_wp2_with fail;go_loopw [9,10] (fun u9 u10 wr=>∃(p:Nat) (pc nc kc2:_) (aw2:Option Addr) (n2 kw2:Nat) (vl:Value),vl=u9∧u10=.int .i64 (p:Nat)∧p≤2∧Hid (wr.heap[w.heap.size]?=some (.cells #[.slice pc nc kc2,.slice aw2 n2 kw2,.int .i64 t] 34 (0,0)))∧Hid (wr.heap[w.heap.size+1]?=some (.cells #[.int .i64 kd,.int .i64 md,.int .i64 (i:Int),.int .u64 ov,.int .i64 odl,.slice a3 cs.length cap3,.slice a4 ds.length cap4] 44 (0,0)))∧Hid (wr.heap[w.heap.size+2]?=some (.cells #[.slice none 0 0,.slice none 0 0,.int .i64 0] 34 (0,0)))∧Hid (DeskX PP wr (.agg #[.slice pc nc kc2,.slice aw2 n2 kw2,.int .i64 t]) (qs p).1)∧Hid (SlS wr 6 vl (doneRows (qs p).2)∧atP (fun b=>w.heap.size+3≤b) vl)∧Hid (Below w.heap.size w wr)) (fun _ u10 _=>2 - (intOf u10).toNat)
  case atStart=>exact ⟨0,_,_,_,_,_,_,_,rfl,rfl,by omega,R06,R16,R26,HX7,HS6,HB6⟩
  case round=>
   clear HX7 HS6 R06 R16 R26 HB6;obtain ⟨p,pc,nc,kc2,aw2,n2,kw2,vl,rfl,rfl,hp,RD,RO,RZ,HXr,HVr,HBr⟩:=hrel;obtain ⟨wo,rfl⟩:∃wo:World,wo=wr:=⟨_,rfl⟩;by_cases hp2:p<2
   ·have hp2I:(p:Int)<2:=by omega
    obtain ⟨pb,hpb⟩:∃z,((p:Int) == 1)=z:=⟨_,rfl⟩;have HPB:Hid (decide (p=1)=pb):=by
     show _=_;rw [← hpb];by_cases h:p=1
     ·subst h; rfl
     ·rw [decide_eq_false h]
      have h2:¬(p:Int)=1:=by omega
      simp [h2]
    have HN:=Lib.hid (HQN.out p);have HK:=Lib.hid (HQK.out p);have HTk:=Lib.hid (HQT.out p);have HLk:=Lib.hid (HQL.out p);rw [HPB.out] at HN;obtain ⟨q,hq⟩:∃z,qs p=z:=⟨_,rfl⟩;rw [hq] at HN HK HTk HLk HXr HVr;obtain ⟨⟨qc,ql,qt⟩,qo⟩:=q;dsimp only at HN HK HTk HLk HXr HVr;have hqt:=HTk.out.1;subst hqt;obtain ⟨wn2,hwn2⟩:∃z,ql.length=z:=⟨_,rfl⟩;have HWL:=Lib.hid hwn2;have hwn3:wn2≤1000:=by have:=HTk.out.2; omega
    have hp3:p≤1:=by omega
    rw [hwn2] at HN;obtain ⟨B,hB⟩:∃z,shutB (i:Int) pb=z:=⟨_,rfl⟩;obtain ⟨RR,hRR⟩:∃z,shutR (i:Int) pb=z:=⟨_,rfl⟩;have HBB:Hid (∀x,B x=decide (0≤sideI x.op (i:Int) pb)):=fun x=>by rw [← hB]; rfl
    have HRR:Hid (∀x,RR x=⟨if pb then 5 else 2,namedI x.op (sideI x.op (i:Int) pb),0,false,0⟩):=fun x=>by rw [← hRR]; rfl
    rw [hB,hRR] at HN;have HQ1:Hid (qs (p+1)=(⟨qc,nowP B ql wn2,qt⟩,goneP B RR qo ql wn2)):=HN.out;have HV0:Hid (SlS wo 6 vl (doneRows (goneP B RR qo ql 0))∧atP (fun b=>w.heap.size+3≤b) vl):=HVr.out;have HX0:Hid (DeskX PP wo (.agg #[.slice pc nc kc2,.slice aw2 n2 kw2,.int .i64 qt]) ⟨qc,nowP B ql 0,qt⟩):=HXr.out;clear hwn2 hB hRR HN hq HXr HVr;go_wp2_with fail;go_loopw [9,11] (fun u9 u11 wr=>∃(k:Nat) (pc:Option Addr) (nc kc2:Nat) (aw2:Option Addr) (n2 kw2:Nat) (vl:Value),vl=u9∧u11=.int .i64 ((stayP B ql k).length:Nat)∧k≤wn2∧Hid (wr.heap[w.heap.size]?=some (.cells #[.slice pc nc kc2,.slice aw2 n2 kw2,.int .i64 qt] 34 (0,0)))∧Hid (wr.heap[w.heap.size+1]?=some (.cells #[.int .i64 kd,.int .i64 md,.int .i64 (i:Int),.int .u64 ov,.int .i64 odl,.slice a3 cs.length cap3,.slice a4 ds.length cap4] 44 (0,0)))∧Hid (wr.heap[w.heap.size+2]?=some (.cells #[.slice none 0 0,.slice none 0 0,.int .i64 0] 34 (0,0)))∧Hid (DeskX PP wr (.agg #[.slice pc nc kc2,.slice aw2 n2 kw2,.int .i64 qt]) ⟨qc,nowP B ql k,qt⟩)∧Hid (SlS wr 6 vl (doneRows (goneP B RR qo ql k))∧atP (fun b=>w.heap.size+3≤b) vl)∧Hid (Below w.heap.size w wr)) (fun _ u11 wr=>lenC (wr.cell? ⟨w.heap.size,1,none⟩) - (intOf u11).toNat)
    case atStart=>exact ⟨0,_,_,_,_,_,_,_,rfl,by simp [stayP],by omega,RD,RO,RZ,HX0,HV0,HBr⟩
    case round=>
     clear HV0 HX0 RD RO RZ HBr;obtain ⟨k,pc,nc,kc2,aw2,n2,kw2,vl,rfl,rfl,hk,RD,RO,RZ,HXr,HVr,HBr⟩:=hrel;obtain ⟨wo,rfl⟩:∃wo:World,wo=wr:=⟨_,rfl⟩;obtain ⟨vc2,vw2,he,hch,hwt⟩:=HXr.out;simp only [Value.agg.injEq,Array.mk.injEq,List.cons.injEq,and_true] at he;obtain ⟨rfl,rfl⟩:=he;have hnl:=nowP_len B ql k;dsimp only at hch hwt;obtain ⟨aw3,kw3,hve,-⟩:=hwt.slW.len;simp only [Value.slice.injEq] at hve;obtain ⟨rfl,hn2,rfl⟩:=hve;subst hn2;have HWT:=Lib.hid hwt.slW;have hwo:w.heap.size+2<wo.heap.size:=(ltR RZ);obtain ⟨x0,x1,x2⟩:=rowc3 RD.out;by_cases hkn:k<wn2
     ·have hkd:k<ql.length:=by rw [HWL.out]; exact hkn
      obtain ⟨hna,hnb⟩:=nowP_at (p:=B) hkd;obtain ⟨j,hj⟩:∃z,(stayP B ql k).length=z:=⟨_,rfl⟩;obtain ⟨m,hm⟩:∃z,(nowP B ql k).length=z:=⟨_,rfl⟩;have HJ:=Lib.hid hj;have HM:=Lib.hid hm;rw [hj] at hna hnb;rw [hm] at hnb hnl x1 RD HXr HWT;rw [hj];rw [HWL.out] at hnl;have hjmI:(j:Int)<(m:Int):=by omega
      obtain ⟨b3,off3,cap3,wc1,wd1,hve,hb3,c0,c1,c2,c3,c4,c5,c6,c7,hsc,hsd⟩:=HWT.out.at j (by rw [HM.out]; exact hnb);rw [HM.out] at hve;simp only [Value.slice.injEq] at hve;obtain ⟨rfl,-,rfl⟩:=hve;rw [hna] at c0 c1 c2 c3 c4 c5 hsc hsd;have TSk:=Lib.hid fun (vo:Value) w' (hb:OpV w' vo (wat ql k).op)=>rside_any vo (wat ql k).op (i:Int) pb w' hb (HK.out.fine k hkd).ok (HK.out.fine k hkd).len;obtain ⟨⟨tt,⟨kd2,md2,oc2,ov2,odl2,cs2,ds2⟩⟩,hx⟩:∃x,wat ql k=x:=⟨_,rfl⟩;rw [hx] at c0 c1 c2 c3 c4 c5 hsc hsd TSk;dsimp only at c0 c1 c2 c3 c4 c5 hsc hsd TSk;obtain ⟨a5,k5,rfl⟩:=hsc.len;obtain ⟨a6,k6,rfl,-⟩:=hsd.len;have HSC:=Lib.hid hsc;have HSD:=Lib.hid hsd;have HXX:=Lib.hid hx;have HST:=Lib.hid (nowP_stay (p:=B) hkd);have HGO:=Lib.hid (nowP_go (p:=B) hkd);have HGN:=Lib.hid (goneP_next (p:=B) (r:=RR) (o:=qo) hkd);rw [hx] at HST HGO HGN;obtain ⟨r,hr⟩:∃z,sideI ⟨kd2,md2,oc2,ov2,odl2,cs2,ds2⟩ (i:Int) pb=z:=⟨_,rfl⟩;obtain ⟨nm,hnm⟩:∃z,namedI ⟨kd2,md2,oc2,ov2,odl2,cs2,ds2⟩ r=z:=⟨_,rfl⟩;have HBx:Hid (B ⟨tt,⟨kd2,md2,oc2,ov2,odl2,cs2,ds2⟩⟩=decide (0≤r)):=by show _=_; rw [HBB.out]; dsimp only; rw [hr]
      have HRx:Hid (RR ⟨tt,⟨kd2,md2,oc2,ov2,odl2,cs2,ds2⟩⟩=⟨if pb then 5 else 2,nm,0,false,0⟩):=by show _=_; rw [HRR.out]; dsimp only; rw [hr,hnm]
      have TT:=Lib.hid fun w' (hb:Below wo.heap.size wo w')=>TSk.out (.agg #[.int .i64 kd2,.int .i64 md2,.int .i64 oc2,.int .u64 ov2,.int .i64 odl2,.slice a5 cs2.length k5,.slice a6 ds2.length k6]) w' ⟨_,_,rfl,HSC.out.below hb,HSD.out.below hb⟩;have TNm:=Lib.hid fun w' (hb:Below wo.heap.size wo w')=>rnamed_any (.agg #[.int .i64 kd2,.int .i64 md2,.int .i64 oc2,.int .u64 ov2,.int .i64 odl2,.slice a5 cs2.length k5,.slice a6 ds2.length k6]) ⟨kd2,md2,oc2,ov2,odl2,cs2,ds2⟩ r w' ⟨_,_,rfl,HSC.out.below hb,HSD.out.below hb⟩;try dsimp only at TT
      rw [hr] at TT;rw [hnm] at TNm;clear hsc hsd hx hr hnm hna hch hwt hj hm TSk;obtain ⟨Wy,hWy⟩:∃Wy,(wo.alloc (.cells #[.int .i64 0,.int .i64 0,.int .i64 0,.int .i64 0,.int .u64 0,.int .i64 0,.slice none 0 0,.slice none 0 0] 66)).setRow wo.heap.size #[.int .i64 tt,.int .i64 kd2,.int .i64 md2,.int .i64 oc2,.int .u64 ov2,.int .i64 odl2,.slice a5 cs2.length k5,.slice a6 ds2.length k6]=Wy:=⟨_,rfl⟩;have Ny:Hid ((wo.alloc (.cells #[.int .i64 0,.int .i64 0,.int .i64 0,.int .i64 0,.int .u64 0,.int .i64 0,.slice none 0 0,.slice none 0 0] 66)).heap[wo.heap.size]?=some (.cells #[.int .i64 0,.int .i64 0,.int .i64 0,.int .i64 0,.int .u64 0,.int .i64 0,.slice none 0 0,.slice none 0 0] 66 (0,0))):=heap_alloc_new _ _;have HBy:Hid (Below wo.heap.size wo Wy):=hWy▸row_below (below_new (Below.refl _ _) _) (Nat.le_refl _) _;have Ry:Hid (Wy.heap[wo.heap.size]?=some (.cells #[.int .i64 tt,.int .i64 kd2,.int .i64 md2,.int .i64 oc2,.int .u64 ov2,.int .i64 odl2,.slice a5 cs2.length k5,.slice a6 ds2.length k6] 66 (0,0))):=hWy▸setRow_heap _ _ _ _ _ (0,0) Ny.out;have HWy:=Lib.hid hWy;clear hWy;go_upto_region 13 with (refine wpList_store_row rfl 66 _ _ rfl (wo.heap.size) _ rfl rfl 66 _ Ny.out (by kernel_rfl) rfl (by simp [Value.oneCell']) ?_)
      rw [HWy.out];try simp only [Act.put]
      clear HWy Ny;obtain ⟨Y,hY⟩:∃Y,wo.heap.size=Y:=⟨_,rfl⟩;rw [hY] at Ry;rw [hY];have hYp:wo.heap.size≤Y:=by omega
      clear hY;have RDy:=Lib.hid (row_below3 HBy.out RD.out);have ROy:=Lib.hid (row_below3 HBy.out RO.out);have RZy:=Lib.hid (row_below3 HBy.out RZ.out);have HXy:=Lib.hid (HXr.out.below HBy.out);have HBy2:=Lib.hid (below_then HBr.out HBy.out);have hVy:=HVr.out;have HVy:Hid (SlS Wy 6 vl (doneRows (goneP B RR qo ql k))∧atP (fun b=>w.heap.size+3≤b) vl):=⟨hVy.1.below HBy.out,hVy.2⟩;obtain ⟨y0,y1,y2,y3,y4,y5,y6,y7⟩:=rowc8 Ry.out;obtain ⟨o0,o1,o2,o3,o4,o5,o6⟩:=rowc7 ROy.out;clear c0 c1 c2 c3 c4 c5 c6 c7 x0 x1 x2 hVy;go_wp2_with fail;refine (TT.out _ HBy.out).mono ?_; rintro e w8 ⟨rfl,hb8⟩;have RD8:=Lib.hid (row_below3 hb8 RDy.out);have RO8:=Lib.hid (row_below3 hb8 ROy.out);have RZ8:=Lib.hid (row_below3 hb8 RZy.out);have Ry8:=Lib.hid (row_below3 hb8 Ry.out);have HX8:=Lib.hid (HXy.out.below hb8);have HB8:=Lib.hid (below_then HBy2.out hb8);have HW8:=Lib.hid (below_then HBy.out hb8);have HV8:Hid (SlS w8 6 vl (doneRows (goneP B RR qo ql k))∧atP (fun b=>w.heap.size+3≤b) vl):=⟨HVy.out.1.below hb8,HVy.out.2⟩;have hYw8:Y<w8.heap.size:=(ltR Ry8);clear y0 y1 y2 y3 y4 y5 y6 y7 o0 o1 o2 o3 o4 o5 o6 hb8 TT;by_cases hr0:r<0
      ·have hl:B ⟨tt,⟨kd2,md2,oc2,ov2,odl2,cs2,ds2⟩⟩=false:=by rw [HBx.out]; exact decide_eq_false (by omega)
       obtain ⟨hs1,hs2⟩:=HST.out hl;have HG:Hid (goneP B RR qo ql (k+1)=goneP B RR qo ql k):=by show _=_; rw [HGN.out,hl]; rfl
       have HS1:=Lib.hid hs1;have HS2:=Lib.hid hs2;clear hs1 hs2 hl;go_wp2_with fail;go_roundw
       case rel=>exact ⟨k+1,_,_,_,_,_,_,vl,rfl,by rw [HS2.out,HJ.out]; go_num,by omega,RD8,RO8,RZ8,by rw [HS1.out]; exact HX8.out,by rw [HG.out]; exact HV8.out,HB8⟩
       case measure=>(rw [(rowc3 RD8.out).2.1,(rowc3 RD.out).2.1]; simp [lenC,intOf]; omega)
      ·have hl:B ⟨tt,⟨kd2,md2,oc2,ov2,odl2,cs2,ds2⟩⟩=true:=by rw [HBx.out]; exact decide_eq_true (by omega)
       obtain ⟨hg1,hg2⟩:=HGO.out hl;rw [HJ.out] at hg1;have HN1:Hid (leaveD ⟨qc,nowP B ql k,qt⟩ j=⟨qc,nowP B ql (k+1),qt⟩):=by show _=_; unfold leaveD; dsimp only; rw [hg1]
       have HG1:Hid (goneP B RR qo ql (k+1)=addE (goneP B RR qo ql k) tt ⟨if pb then 5 else 2,nm,0,false,0⟩):=by show _=_; rw [HGN.out,hl,if_pos rfl,HRx.out]
       have HSL:Hid ((stayP B ql (k+1)).length=j):=by show _=_; rw [hg2]; exact HJ.out
       have HM1:Hid ((nowP B ql (k+1)).length=m - 1):=by
        have:=HM.out;show _=_;rw [hg1];simp;omega
       have HOKN:=Lib.hid (show DeskM.ok ⟨qc,nowP B ql k,qt⟩ from HK.out.nowP B k);obtain ⟨y0,y1,y2,y3,y4,y5,y6,y7⟩:=rowc8 Ry8.out;clear hg1 hg2 hl HST HGO HGN;go_wp2_with fail;refine (TNm.out _ HW8.out).mono ?_; rintro e w9 ⟨rfl,hb9⟩;have RD9:=Lib.hid (row_below3 hb9 RD8.out);have RO9:=Lib.hid (row_below3 hb9 RO8.out);have RZ9:=Lib.hid (row_below3 hb9 RZ8.out);have Ry9:=Lib.hid (row_below3 hb9 Ry8.out);have HX9:=Lib.hid (HX8.out.below hb9);have HB9:=Lib.hid (below_then HB8.out hb9);have HV9:Hid (SlS w9 6 vl (doneRows (goneP B RR qo ql k))∧atP (fun b=>w.heap.size+3≤b) vl):=⟨HV8.out.1.below hb9,HV8.out.2⟩;have hw9z:w.heap.size+3≤w9.heap.size:=by have:=(ltR RZ9); omega
       have hYw9:Y<w9.heap.size:=(ltR Ry9);clear y0 y1 y2 y3 y4 y5 y6 y7 hb9 TNm RD8 RO8 RZ8 Ry8 HX8 HB8 HV8;have HX99:=HX9;have HV99:=HV9;obtain ⟨Wr2,hWr2⟩:∃Wr2,(w9.alloc (.cells #[.int .i64 0,.int .i64 0,.int .u64 0,.bool false,.int .i64 0] 73)).setRow w9.heap.size #[.int .i64 2,.int .i64 nm,.int .u64 0,.bool false,.int .i64 0]=Wr2:=⟨_,rfl⟩;have Nr2:Hid ((w9.alloc (.cells #[.int .i64 0,.int .i64 0,.int .u64 0,.bool false,.int .i64 0] 73)).heap[w9.heap.size]?=some (.cells #[.int .i64 0,.int .i64 0,.int .u64 0,.bool false,.int .i64 0] 73 (0,0))):=heap_alloc_new _ _;have HBr2:Hid (Below w9.heap.size w9 Wr2):=hWr2▸row_below (below_new (Below.refl _ _) _) (Nat.le_refl _) _;have Rr2:Hid (Wr2.heap[w9.heap.size]?=some (.cells #[.int .i64 2,.int .i64 nm,.int .u64 0,.bool false,.int .i64 0] 73 (0,0))):=hWr2▸setRow_heap _ _ _ _ _ (0,0) Nr2.out;have HWr2:=Lib.hid hWr2;clear hWr2;go_upto_region 17 with (refine wpList_store_row rfl 73 _ _ rfl (w9.heap.size) _ rfl rfl 73 _ Nr2.out (by kernel_rfl) rfl (by simp [Value.oneCell']) ?_)
       rw [HWr2.out];try simp only [Act.put]
       clear HWr2 Nr2;obtain ⟨RX,hRX⟩:∃RX,w9.heap.size=RX:=⟨_,rfl⟩;rw [hRX] at Rr2;rw [hRX];have hRXp:w9.heap.size≤RX:=by omega
       clear hRX;have HBr9:=HBr2;have RDr:=Lib.hid (row_below3 HBr2.out RD9.out);have ROr:=Lib.hid (row_below3 HBr2.out RO9.out);have RZr:=Lib.hid (row_below3 HBr2.out RZ9.out);have Ryr:=Lib.hid (row_below3 HBr2.out Ry9.out);have HXr2:=Lib.hid (HX9.out.below HBr2.out);have HBr3:=Lib.hid (below_then HB9.out HBr2.out);have HVr3:Hid (SlS Wr2 6 vl (doneRows (goneP B RR qo ql k))∧atP (fun b=>w.heap.size+3≤b) vl):=⟨HV9.out.1.below HBr2.out,HV9.out.2⟩;clear RD9 RO9 RZ9 Ry9 HX9 HB9 HV9 HBr2;cases pb with
       | false=>
        have hwz:w.heap.size+3≤Wr2.heap.size:=by have:=(ltR RZr); omega
        have TL:=Lib.hid (rleave_any PP _ ⟨qc,nowP B ql k,qt⟩ j Wr2 HXr2.out HOKN.out (by show j<(nowP B ql k).length; rw [HM.out]; exact hnb) (fun b hb=>HPP.out.2.2.2 b (by omega)));obtain ⟨x0,x1,x2⟩:=rowc3 RDr.out;go_wp2_with fail;refine TL.out.mono ?_; rintro e wl1 ⟨u5,rfl,hx5,hb5⟩;rw [HN1.out] at hx5;obtain ⟨vc5,vw5,rfl,hc5,hw5⟩:=hx5;dsimp only at hc5 hw5 ⊢;obtain ⟨pc5,nc5,kc5,rfl⟩:=SlHX.sh hc5;obtain ⟨aw5,kw5,hve5,-⟩:=hw5.slW.len;rw [HM1.out] at hve5;subst hve5;have HX5:Hid (DeskX PP wl1 (.agg #[.slice pc5 nc5 kc5,.slice aw5 (m - 1) kw5,.int .i64 qt]) ⟨qc,nowP B ql (k+1),qt⟩):=⟨_,_,rfl,hc5,hw5⟩;have RD5:=Lib.hid (row_below3 hb5 RDr.out);have RO5:=Lib.hid (row_below3 hb5 ROr.out);have RZ5:=Lib.hid (row_below3 hb5 RZr.out);have Ry5:=Lib.hid (row_below3 hb5 Ryr.out);have RR5:=Lib.hid (row_below3 hb5 Rr2.out);have HB5:=Lib.hid (below_then HBr3.out hb5);have hg6:=row_grown wl1 w.heap.size #[.slice pc5 nc5 kc5,.slice aw5 (m - 1) kw5,.int .i64 qt];have RD6:Hid ((wl1.setRow w.heap.size #[.slice pc5 nc5 kc5,.slice aw5 (m - 1) kw5,.int .i64 qt]).heap[w.heap.size]?=some (.cells #[.slice pc5 nc5 kc5,.slice aw5 (m - 1) kw5,.int .i64 qt] 34 (0,0))):=setRow_heap _ _ _ _ _ (0,0) RD5.out;have RO6:=Lib.hid ((setRow_other wl1 w.heap.size (w.heap.size+1) #[.slice pc5 nc5 kc5,.slice aw5 (m - 1) kw5,.int .i64 qt] (by omega)).trans RO5.out);have RZ6:=Lib.hid ((setRow_other wl1 w.heap.size (w.heap.size+2) #[.slice pc5 nc5 kc5,.slice aw5 (m - 1) kw5,.int .i64 qt] (by omega)).trans RZ5.out);have Ry6:=Lib.hid ((setRow_other wl1 w.heap.size Y #[.slice pc5 nc5 kc5,.slice aw5 (m - 1) kw5,.int .i64 qt] (by omega)).trans Ry5.out);have RR6:=Lib.hid ((setRow_other wl1 w.heap.size RX #[.slice pc5 nc5 kc5,.slice aw5 (m - 1) kw5,.int .i64 qt] (by omega)).trans RR5.out);have HX6:=Lib.hid (HX5.out.off hg6 HPP.out.2.1);have HB6:=Lib.hid (row_below HB5.out (Nat.le_refl _) #[.slice pc5 nc5 kc5,.slice aw5 (m - 1) kw5,.int .i64 qt]);have HS6:=Lib.hid (SlS.off (HVr3.out.1.below hb5) hg6 HVr3.out.2 (fun b hb=>by omega))
        obtain ⟨w6,hw6⟩:∃w6,wl1.setRow w.heap.size #[.slice pc5 nc5 kc5,.slice aw5 (m - 1) kw5,.int .i64 qt]=w6:=⟨_,rfl⟩;rw [hw6] at RD6 RO6 RZ6 Ry6 RR6 HX6 HB6 HS6;have HW6:=Lib.hid hw6;clear hw6 hg6 hc5 hw5 hb5 x0 x1 x2 TL;go_upto_region 20 with (refine wpList_store_row rfl 34 _ _ rfl (w.heap.size) _ rfl rfl 34 _ RD5.out (by kernel_rfl) rfl (by simp [Value.oneCell']) ?_)
        rw [HW6.out];try simp only [Act.put]
        clear HW6;have hw6z:w.heap.size+3≤w6.heap.size:=by have:=(ltR RZ6); omega
        have TA:=Lib.hid (radd_any vl (goneP B RR qo ql k) tt ⟨2,nm,0,false,0⟩ w6 HS6.out (by have h9:=goneP_len B RR qo ql k; have:=HLk.out.1; omega) (.inr (goneP_ne HLk.out.2 k)));unfold resW at TA;dsimp only at TA;obtain ⟨y0,y1,y2,y3,y4,y5,y6,y7⟩:=rowc8 Ry6.out;obtain ⟨e0,e1,e2,e3,e4⟩:=rowc5 RR6.out;go_wp2_with fail;refine TA.out.mono ?_; rintro e w7 ⟨u7,rfl,hs7,hat7,hb7⟩;have RD7:=Lib.hid (row_below3 hb7 RD6.out);have RO7:=Lib.hid (row_below3 hb7 RO6.out);have RZ7:=Lib.hid (row_below3 hb7 RZ6.out);have HX7:=Lib.hid (HX6.out.below hb7);have HB7:=Lib.hid (below_then HB6.out hb7);have HV7:Hid (SlS w7 6 u7 (doneRows (goneP B RR qo ql (k+1)))∧atP (fun b=>w.heap.size+3≤b) u7):=by
         rw [HG1.out];exact ⟨hs7,hat7.mono fun b hb=>by omega⟩
        clear y0 y1 y2 y3 y4 y5 y6 y7 e0 e1 e2 e3 e4 hs7 hat7 hb7 TA;go_wp2_with fail;go_roundw
        case rel=>exact ⟨k+1,_,_,_,_,_,_,u7,rfl,by rw [HSL.out],by omega,RD7,RO7,RZ7,HX7,HV7,HB7⟩
        case measure=>(rw [(rowc3 RD7.out).2.1,(rowc3 RD.out).2.1]; simp [lenC,intOf]; omega)
       | true=>
        have fz:=frozen_of_row Wr2 RX 0 _ _ Rr2.out;have r1:=heap_setCell_same Wr2 RX 0 _ _ (.int .i64 5) Rr2.out;simp at r1;have Rs:=Lib.hid r1;have RDs:=Lib.hid ((heap_setCell_other Wr2 ⟨RX,0,none⟩ w.heap.size (.int .i64 5) (by show w.heap.size≠RX; omega)).trans RDr.out);have ROs:=Lib.hid ((heap_setCell_other Wr2 ⟨RX,0,none⟩ (w.heap.size+1) (.int .i64 5) (by show w.heap.size+1≠RX; omega)).trans ROr.out);have RZs:=Lib.hid ((heap_setCell_other Wr2 ⟨RX,0,none⟩ (w.heap.size+2) (.int .i64 5) (by show w.heap.size+2≠RX; omega)).trans RZr.out);have Rys:=Lib.hid ((heap_setCell_other Wr2 ⟨RX,0,none⟩ Y (.int .i64 5) (by show Y≠RX; omega)).trans Ryr.out);have hgs:=grownBy_setCell Wr2 ⟨RX,0,none⟩ (.int .i64 5);have hbs:Below w9.heap.size w9 (Wr2.setCell ⟨RX,0,none⟩ (.int .i64 5)):=HBr9.out.setCell (p:=⟨RX,0,none⟩) (by show w9.heap.size≤RX; omega) (.int .i64 5);have HXs:=Lib.hid (HX99.out.below hbs);have HBs:=Lib.hid (HBr3.out.setCell (p:=⟨RX,0,none⟩) (by show w.heap.size≤RX; omega) (.int .i64 5));have HVs:Hid (SlS (Wr2.setCell ⟨RX,0,none⟩ (.int .i64 5)) 6 vl (doneRows (goneP B RR qo ql k))∧atP (fun b=>w.heap.size+3≤b) vl):=⟨HV99.out.1.below hbs,HV99.out.2⟩;obtain ⟨wS,hwS⟩:∃wS,Wr2.setCell ⟨RX,0,none⟩ (.int .i64 5)=wS:=⟨_,rfl⟩;rw [hwS] at Rs RDs ROs RZs Rys HXs HBs HVs;have HWS:=Lib.hid hwS;obtain ⟨e0,e1,e2,e3,e4⟩:=rowc5 Rr2.out;clear r1 hgs hbs hwS;go_upto_region 19 with fail
        rw [HWS.out];try simp only [Act.put]
        clear e0 e1 e2 e3 e4 fz HWS;have hwz:w.heap.size+3≤wS.heap.size:=by have:=(ltR RZs); omega
        have TL:=Lib.hid (rleave_any PP _ ⟨qc,nowP B ql k,qt⟩ j wS HXs.out HOKN.out (by show j<(nowP B ql k).length; rw [HM.out]; exact hnb) (fun b hb=>HPP.out.2.2.2 b (by omega)));obtain ⟨x0,x1,x2⟩:=rowc3 RDs.out;go_wp2_with fail;refine TL.out.mono ?_; rintro e wl1 ⟨u5,rfl,hx5,hb5⟩;rw [HN1.out] at hx5;obtain ⟨vc5,vw5,rfl,hc5,hw5⟩:=hx5;dsimp only at hc5 hw5 ⊢;obtain ⟨pc5,nc5,kc5,rfl⟩:=SlHX.sh hc5;obtain ⟨aw5,kw5,hve5,-⟩:=hw5.slW.len;rw [HM1.out] at hve5;subst hve5;have HX5:Hid (DeskX PP wl1 (.agg #[.slice pc5 nc5 kc5,.slice aw5 (m - 1) kw5,.int .i64 qt]) ⟨qc,nowP B ql (k+1),qt⟩):=⟨_,_,rfl,hc5,hw5⟩;have RD5:=Lib.hid (row_below3 hb5 RDs.out);have RO5:=Lib.hid (row_below3 hb5 ROs.out);have RZ5:=Lib.hid (row_below3 hb5 RZs.out);have Ry5:=Lib.hid (row_below3 hb5 Rys.out);have RR5:=Lib.hid (row_below3 hb5 Rs.out);have HB5:=Lib.hid (below_then HBs.out hb5);have hg6:=row_grown wl1 w.heap.size #[.slice pc5 nc5 kc5,.slice aw5 (m - 1) kw5,.int .i64 qt];have RD6:Hid ((wl1.setRow w.heap.size #[.slice pc5 nc5 kc5,.slice aw5 (m - 1) kw5,.int .i64 qt]).heap[w.heap.size]?=some (.cells #[.slice pc5 nc5 kc5,.slice aw5 (m - 1) kw5,.int .i64 qt] 34 (0,0))):=setRow_heap _ _ _ _ _ (0,0) RD5.out;have RO6:=Lib.hid ((setRow_other wl1 w.heap.size (w.heap.size+1) #[.slice pc5 nc5 kc5,.slice aw5 (m - 1) kw5,.int .i64 qt] (by omega)).trans RO5.out);have RZ6:=Lib.hid ((setRow_other wl1 w.heap.size (w.heap.size+2) #[.slice pc5 nc5 kc5,.slice aw5 (m - 1) kw5,.int .i64 qt] (by omega)).trans RZ5.out);have Ry6:=Lib.hid ((setRow_other wl1 w.heap.size Y #[.slice pc5 nc5 kc5,.slice aw5 (m - 1) kw5,.int .i64 qt] (by omega)).trans Ry5.out);have RR6:=Lib.hid ((setRow_other wl1 w.heap.size RX #[.slice pc5 nc5 kc5,.slice aw5 (m - 1) kw5,.int .i64 qt] (by omega)).trans RR5.out);have HX6:=Lib.hid (HX5.out.off hg6 HPP.out.2.1);have HB6:=Lib.hid (row_below HB5.out (Nat.le_refl _) #[.slice pc5 nc5 kc5,.slice aw5 (m - 1) kw5,.int .i64 qt]);have HS6:=Lib.hid (SlS.off (HVs.out.1.below hb5) hg6 HVs.out.2 (fun b hb=>by omega))
        obtain ⟨w6,hw6⟩:∃w6,wl1.setRow w.heap.size #[.slice pc5 nc5 kc5,.slice aw5 (m - 1) kw5,.int .i64 qt]=w6:=⟨_,rfl⟩;rw [hw6] at RD6 RO6 RZ6 Ry6 RR6 HX6 HB6 HS6;have HW6:=Lib.hid hw6;clear hw6 hg6 hc5 hw5 hb5 x0 x1 x2 TL;go_upto_region 20 with (refine wpList_store_row rfl 34 _ _ rfl (w.heap.size) _ rfl rfl 34 _ RD5.out (by kernel_rfl) rfl (by simp [Value.oneCell']) ?_)
        rw [HW6.out];try simp only [Act.put]
        clear HW6;have hw6z:w.heap.size+3≤w6.heap.size:=by have:=(ltR RZ6); omega
        have TA:=Lib.hid (radd_any vl (goneP B RR qo ql k) tt ⟨5,nm,0,false,0⟩ w6 HS6.out (by have h9:=goneP_len B RR qo ql k; have:=HLk.out.1; omega) (.inr (goneP_ne HLk.out.2 k)));unfold resW at TA;dsimp only at TA;obtain ⟨y0,y1,y2,y3,y4,y5,y6,y7⟩:=rowc8 Ry6.out;obtain ⟨e0,e1,e2,e3,e4⟩:=rowc5 RR6.out;go_wp2_with fail;refine TA.out.mono ?_; rintro e w7 ⟨u7,rfl,hs7,hat7,hb7⟩;have RD7:=Lib.hid (row_below3 hb7 RD6.out);have RO7:=Lib.hid (row_below3 hb7 RO6.out);have RZ7:=Lib.hid (row_below3 hb7 RZ6.out);have HX7:=Lib.hid (HX6.out.below hb7);have HB7:=Lib.hid (below_then HB6.out hb7);have HV7:Hid (SlS w7 6 u7 (doneRows (goneP B RR qo ql (k+1)))∧atP (fun b=>w.heap.size+3≤b) u7):=by
         rw [HG1.out];exact ⟨hs7,hat7.mono fun b hb=>by omega⟩
        clear y0 y1 y2 y3 y4 y5 y6 y7 e0 e1 e2 e3 e4 hs7 hat7 hb7 TA;go_wp2_with fail;go_roundw
        case rel=>exact ⟨k+1,_,_,_,_,_,_,u7,rfl,by rw [HSL.out],by omega,RD7,RO7,RZ7,HX7,HV7,HB7⟩
        case measure=>(rw [(rowc3 RD7.out).2.1,(rowc3 RD.out).2.1]; simp [lenC,intOf]; omega)
     ·have hke:k=wn2:=by omega
      subst hke;have hie:(nowP B ql k).length=(stayP B ql k).length:=by rw [← HWL.out,nowP_end]
      obtain ⟨j,hj⟩:∃z,(stayP B ql k).length=z:=⟨_,rfl⟩;rw [hj] at hie ⊢;rw [hie] at x1 RD HXr;have HX9:Hid (DeskX PP wo (.agg #[.slice pc nc kc2,.slice aw2 j kw2,.int .i64 qt]) (qs (p+1)).1):=by rw [HQ1.out]; exact HXr.out
      have HV9:Hid (SlS wo 6 vl (doneRows (qs (p+1)).2)∧atP (fun b=>w.heap.size+3≤b) vl):=by rw [HQ1.out]; exact HVr.out
      clear hie hj hch hwt HQ1;go_wp2_with fail;go_roundw
      case rel=>exact ⟨p+1,_,_,_,_,_,_,vl,rfl,by go_num,by omega,RD,RO,RZ,HX9,HV9,HBr⟩
      case measure=>simp [intOf]; omega
   ·have hpe:p=2:=by omega
    subst hpe;have HFF:=Lib.hid (HF.out _ _ _ _ _ _ _ _ HXr.out HVr.out.1 (HQL.out 2).2 HVr.out.2 HBr.out);obtain ⟨x0,x1,x2⟩:=rowc3 RD.out;clear HF HQE HQ0 HQN HQK HQT HQL;go_wp2_with (refine wpList_store_row rfl 34 _ _ rfl (w.heap.size+2) _ rfl rfl 34 _ RZ.out (by kernel_rfl) rfl (by simp [Value.oneCell']) ?_);refine bodyPost_ret (v:=.tuple #[(.agg #[.slice pc nc kc2,.slice aw2 n2 kw2,.int .i64 t]),vl]) (results_cell_tmp Try.results52 _ _ (w.heap.size+2) 34 _ (0,0) _ rfl (setRow_heap _ _ _ _ 34 (0,0) RZ.out) Try.underlying34 rfl (by kernel_rfl) _ rfl) rfl ?_;exact HFF.out
def sendG (d:DeskM) (thr own:Int) (x:CaseM) (k:Int):DeskM × List DoneM:=
 if (chE d.chans x.chan).closed=true then (d,[⟨thr,⟨5,own,0,false,0⟩⟩])
 else if 0≤k then (leaveD d k.toNat,addE [⟨thr,⟨1,own,0,false,0⟩⟩] (wat d.wait k.toNat).thr ⟨2,namedI (wat d.wait k.toNat).op (sideI (wat d.wait k.toNat).op x.chan false),x.val,true,0⟩)
 else (putD d x.chan.toNat { chE d.chans x.chan with buf:=(chE d.chans x.chan).buf ++ [x.val] },[⟨thr,⟨1,own,0,false,0⟩⟩])
def partV (y:WaitM) (ch:Int):Int:=((casesE y.op).getD (sideI y.op ch true).toNat noCase).val
def recvG (d:DeskM) (thr own:Int) (x:CaseM) (k:Int):DeskM × List DoneM:=
 match (chE d.chans x.chan).buf with
 | []=>if 0≤k then (putD (leaveD d k.toNat) x.chan.toNat (chE d.chans x.chan),addE [⟨thr,⟨2,own,partV (wat d.wait k.toNat) x.chan,true,0⟩⟩] (wat d.wait k.toNat).thr ⟨1,namedI (wat d.wait k.toNat).op (sideI (wat d.wait k.toNat).op x.chan true),0,false,0⟩)
  else (d,[⟨thr,⟨2,own,0,false,0⟩⟩])
 | v :: l=>if 0≤k then (putD (leaveD d k.toNat) x.chan.toNat { chE d.chans x.chan with buf:=l ++ [partV (wat d.wait k.toNat) x.chan] },addE [⟨thr,⟨2,own,v,true,0⟩⟩] (wat d.wait k.toNat).thr ⟨1,namedI (wat d.wait k.toNat).op (sideI (wat d.wait k.toNat).op x.chan true),0,false,0⟩)
  else (putD d x.chan.toNat { chE d.chans x.chan with buf:=l },[⟨thr,⟨2,own,v,true,0⟩⟩])
def doG (d:DeskM) (thr:Int) (op:OpM) (i:Int) (x:CaseM):DeskM × List DoneM:=
 if x.send=true then sendG d thr (namedI op i) x (partI d thr x) else recvG d thr (namedI op i) x (partI d thr x)
def cntN (d:DeskM) (op:OpM):Int:=if exB d.chans op.chan=true then (if op.kind=6 then (chE d.chans op.chan).cap else ((chE d.chans op.chan).buf.length:Int)) else 0
def pickD (d:DeskM) (thr:Int) (op:OpM):Int:=
 if op.kind=4 then choiceD d thr op else if readyD d thr ((casesE op).getD 0 noCase)=true then 0 else -1
def doD (d:DeskM) (thr:Int) (op:OpM):DeskM × List DoneM × Bool:=
 if op.kind=3 then ((shutE d thr op.chan).1,(shutE d thr op.chan).2,false)
 else if op.kind=5∨op.kind=6 then (d,[⟨thr,⟨7,-1,0,false,cntN d op⟩⟩],false)
 else if 0≤pickD d thr op then ((doG d thr op (pickD d thr op) ((casesE op).getD (pickD d thr op).toNat noCase)).1,(doG d thr op (pickD d thr op) ((casesE op).getD (pickD d thr op).toNat noCase)).2,false)
 else if op.mode=1 then (d,[⟨thr,⟨3,-1,0,false,0⟩⟩],false)
 else if op.mode=2∧op.dl≤d.tick then (d,[⟨thr,toR⟩],false)
 else (⟨d.chans,d.wait ++ [⟨thr,op⟩],d.tick⟩,[],true)
theorem partI_side {d:DeskM} {thr:Int} {x:CaseM} (h:0≤partI d thr x):∃k:Nat,partI d thr x=k∧k<d.wait.length∧(wat d.wait k).thr≠thr∧0≤sideI (wat d.wait k).op x.chan (!x.send)∧sideI (wat d.wait k).op x.chan (!x.send)<((casesE (wat d.wait k).op).length:Int):=by
 unfold partI at h ⊢;split at h
 ·next he=>
  rw [if_pos he];rcases fstI_cases (isPart thr x.chan (!x.send)) d.wait watZ with ⟨h1,-⟩ | ⟨k,hk,h1,h2,-⟩
  ·rw [h1] at h; omega
  ·refine ⟨k,h1,hk,?_⟩
   have h3:isPart thr x.chan (!x.send) (wat d.wait k)=true:=h2;unfold isPart at h3;simp only [Bool.and_eq_true,bne_iff_ne,ne_eq,decide_eq_true_eq] at h3;exact ⟨h3.1,h3.2,(fstI_range _ _).2⟩
 ·omega
theorem DeskM.ok.leave {d:DeskM} (h:d.ok) (k:Nat):(leaveD d k).ok:=
 ⟨h.cl,by
  have:=h.wl;show (d.wait.take k ++ d.wait.drop (k+1)).length≤1000;rw [List.length_append,List.length_take,List.length_drop];omega,h.bf,fun x hx=>by
  have hx:x∈d.wait.take k ++ d.wait.drop (k+1):=hx;rcases List.mem_append.1 hx with hx | hx
  ·exact h.wop x (List.mem_of_mem_take hx)
  ·exact h.wop x (List.mem_of_mem_drop hx)⟩
end Go.Proofs.Ytiekicailidhcaa
