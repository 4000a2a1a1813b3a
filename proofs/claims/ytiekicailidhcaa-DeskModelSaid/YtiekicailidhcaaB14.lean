import Derived.RegionTactic
import Derived.Deep.DeepCutAuto
import Derived.BigRegion
import Derived.Deep.CutBlock
import Derived.Test.YtiekicailidhcaaB13
import Derived.Test.YtiekicailidhcaaB06
import Derived.Test.YtiekicailidhcaaB02
import Derived.Test.YtiekicailidhcaaB04
import Derived.Test.YtiekicailidhcaaB07
import Derived.Test.YtiekicailidhcaaB05
set_option linter.unusedVariables false
set_option linter.unusedSimpArgs false
namespace Go.Proofs.Ytiekicailidhcaa
open Go.ChangeShapes Go.WideShapes Go.ChangeAt Go.RowKit
set_option maxRecDepth 100000
def ordP (ops:Int→OpM) (tg:List ChanM):Nat→List ChanM→List DoneM→Bool
 | 0,fr,l=>l.length == 0 && sameB fr tg
 | n+1,fr,l=>
  if l.length=0 then sameB fr tg
  else if 5<l.length then true
  else (List.range l.length).any fun i=>
   (match modE fr (ops (l.getD i doneZ).thr) (l.getD i doneZ).res with
   | some nx=>ordP ops tg n nx (l.take i ++ l.drop (i+1))
   | none=>false) ||
   (List.range l.length).any fun k=>decide (i<k) && (pairB fr (ops (l.getD i doneZ).thr) (l.getD i doneZ).res (ops (l.getD k doneZ).thr) (l.getD k doneZ).res && ordP ops tg n fr (l.take i ++ (l.drop (i+1)).take (k - (i+1)) ++ l.drop (k+1)))
section
variable {ops:Int→OpM} {tg fr nx:List ChanM} {l:List DoneM}
theorem ordP_nil (h:sameB fr tg=true):∀n,ordP ops tg n fr []=true
 | 0=>by unfold ordP; simp [h]
 | n+1=>by unfold ordP; simp [h]
theorem ordP_one {n i:Nat} (hi:i<l.length) (h:modE fr (ops (l.getD i doneZ).thr) (l.getD i doneZ).res=some nx) (h2:ordP ops tg n nx (l.take i ++ l.drop (i+1))=true):ordP ops tg (n+1) fr l=true:=by
 unfold ordP;rw [if_neg (by omega)];split
 ·rfl
 ·rw [List.any_eq_true]
  refine ⟨i,List.mem_range.2 hi,?_⟩;rw [h];dsimp only;rw [h2,Bool.true_or]
theorem ordP_two {n i k:Nat} (hik:i<k) (hk:k<l.length) (h:pairB fr (ops (l.getD i doneZ).thr) (l.getD i doneZ).res (ops (l.getD k doneZ).thr) (l.getD k doneZ).res=true) (h2:ordP ops tg n fr (l.take i ++ (l.drop (i+1)).take (k - (i+1)) ++ l.drop (k+1))=true):ordP ops tg (n+1) fr l=true:=by
 unfold ordP;rw [if_neg (by omega)];split
 ·rfl
 ·rw [List.any_eq_true]
  refine ⟨i,List.mem_range.2 (by omega),?_⟩;rw [Bool.or_eq_true,List.any_eq_true];exact .inr ⟨k,List.mem_range.2 hk,by rw [h,h2]; simpa using hik⟩
theorem ordP_all {C:List ChanM}:∀(n:Nat) (l:List DoneM),l.length≤n→(∀y∈l,modE C (ops y.thr) y.res=some C)→ordP ops C n C l=true
 | n,[],_,_=>ordP_nil (sameB_refl C) n
 | 0,y :: l,h,_=>by simp at h
 | n+1,y :: l,h,h2=>ordP_one (i:=0) (by simp) (h2 y (List.mem_cons_self ..)) (ordP_all n l (by simpa using h) fun z hz=>h2 z (List.mem_cons_of_mem _ hz))
theorem ord_one {p:DoneM} {n:Nat} (h:modE fr (ops p.thr) p.res=some nx) (h2:sameB nx tg=true):ordP ops tg (n+1) fr [p]=true:=
 ordP_one (i:=0) (by simp) h (ordP_nil h2 n)
theorem ord_seq {p q:DoneM} {n:Nat} {ny:List ChanM} (hl:l=[p,q]∨l=[q,p]) (h:modE fr (ops p.thr) p.res=some nx) (h1:modE nx (ops q.thr) q.res=some ny) (h2:sameB ny tg=true):ordP ops tg (n+2) fr l=true:=by
 rcases hl with rfl | rfl
 ·exact ordP_one (i:=0) (by simp) h (ord_one h1 h2)
 ·exact ordP_one (i:=1) (by simp) h (ord_one h1 h2)
theorem pairB_comm (l:List ChanM) (a:OpM) (x:ResM) (b:OpM) (y:ResM):pairB l a x b y=pairB l b y a x:=by
 unfold pairB;rw [Bool.or_comm]
theorem ord_pair {p q:DoneM} {n:Nat} (hl:l=[p,q]∨l=[q,p]) (h:pairB fr (ops p.thr) p.res (ops q.thr) q.res=true) (h2:sameB fr tg=true):ordP ops tg (n+1) fr l=true:=by
 rcases hl with rfl | rfl
 ·exact ordP_two (i:=0) (k:=1) (by omega) (by simp) h (ordP_nil h2 n)
 ·exact ordP_two (i:=0) (k:=1) (by omega) (by simp) (by rw [pairB_comm]; exact h) (ordP_nil h2 n)
end
theorem addE_pair (a:DoneM) (t:Int) (r:ResM):addE [a] t r=[a,⟨t,r⟩]∨addE [a] t r=[⟨t,r⟩,a]:=by
 have h:=addK_le [a] t [a].length;unfold addE;have h2:addK [a] t [a].length=0∨addK [a] t [a].length=1:=by
  have:[a].length=1:=rfl;omega
 rcases h2 with h2 | h2
 ·rw [h2]; exact .inr rfl
 ·rw [h2]; exact .inl rfl
theorem chosen_at {op:OpM} {i:Int} {r:ResM} (h0:0≤i) (h1:i<((casesE op).length:Int)) (hr:r.case=namedI op i):chosenE op r=some ((casesE op).getD i.toNat noCase):=
 (chosen_iff op r _).2 ⟨i.toNat,by omega,rfl,by
  rw [hr];unfold numE namedI;split
  ·omega
  ·rfl⟩
theorem modE_at {l:List ChanM} {op:OpM} {i:Int} {r:ResM} (h0:0≤i) (h1:i<((casesE op).length:Int)) (hr:r.case=namedI op i) (hk:r.kind=1∨r.kind=2∨(r.kind=5∧op.kind≠3)):modE l op r=doE l ((casesE op).getD i.toNat noCase) r:=by
 unfold modE;rcases hk with h | h | ⟨h,h3⟩
 ·rw [if_pos (.inl h),chosen_at h0 h1 hr]; rfl
 ·rw [if_pos (.inr h),chosen_at h0 h1 hr]; rfl
 ·rw [if_neg (by omega),if_pos h,if_neg h3,chosen_at h0 h1 hr]; rfl
section
variable {l:List ChanM} {x:CaseM} {c:Int}
theorem doE_send (he:exB l x.chan=true) (hs:x.send=true) (hc:(chE l x.chan).closed=false) (hb:((chE l x.chan).buf.length:Int)<(chE l x.chan).cap):doE l x ⟨1,c,0,false,0⟩=some (l.set x.chan.toNat { chE l x.chan with buf:=(chE l x.chan).buf ++ [x.val] }):=by
 unfold doE;simp [he,hs,hc,hb,onlyB,setE]
theorem doE_panic (he:exB l x.chan=true) (hs:x.send=true) (hc:(chE l x.chan).closed=true):doE l x ⟨5,c,0,false,0⟩=some l:=by
 unfold doE;simp [he,hs,hc,onlyB]
theorem doE_recv {v:Int} {t:List Int} (he:exB l x.chan=true) (hs:x.send=false) (hb:(chE l x.chan).buf=v :: t):doE l x ⟨2,c,v,true,0⟩=some (l.set x.chan.toNat { chE l x.chan with buf:=t }):=by
 unfold doE;simp [he,hs,hb,onlyB,setE]
theorem doE_zero (he:exB l x.chan=true) (hs:x.send=false) (hc:(chE l x.chan).closed=true) (hb:(chE l x.chan).buf=[]):doE l x ⟨2,c,0,false,0⟩=some l:=by
 unfold doE;simp [he,hs,hc,hb,onlyB]
end
theorem sideI_pos {op:OpM} {ch:Int} {sd:Bool} (h:0≤sideI op ch sd):sideI op ch sd<((casesE op).length:Int)∧((casesE op).getD (sideI op ch sd).toNat noCase).chan=ch∧((casesE op).getD (sideI op ch sd).toNat noCase).send=sd∧(casesE op).getD (sideI op ch sd).toNat noCase∈casesE op:=by
 rcases fstI_cases (isSide ch sd) (casesE op) noCase with ⟨h1,-⟩ | ⟨i,hi,h1,h2,-⟩
 ·exact absurd h (by unfold sideI; rw [h1]; decide)
 ·have e:sideI op ch sd=i:=h1
  rw [e,Int.toNat_natCast];unfold isSide at h2;simp only [Bool.and_eq_true,beq_iff_eq] at h2;refine ⟨by omega,h2.1,h2.2,?_⟩;rw [getD_lt hi];exact List.getElem_mem hi
theorem pickD_lt {d:DeskM} {thr:Int} {op:OpM} (hg:op.good) (h3:op.kind≠3) (h56:¬(op.kind=5∨op.kind=6)):pickD d thr op<((casesE op).length:Int):=by
 have hk:=hg.kinds;unfold pickD;split
 ·next h4=>
  unfold casesE;rw [if_pos h4];unfold choiceD choiceL;split
  ·next i hi=>
   exact (ordL_mem _ _ _ (List.mem_of_find?_eq_some hi)).2
  ·omega
 ·next h4=>
  have ho:oneB op=true:=by
   unfold oneB;simp only [Bool.or_eq_true,beq_iff_eq];omega
  have e:(casesE op).length=1:=by
   unfold casesE;rw [if_neg h4,if_pos ho];rfl
  rw [e];split <;> decide
theorem wat_mem {l:List WaitM} {i:Nat} (hi:i<l.length):wat l i∈l:=by
 have e:wat l i=l[i]:=getD_lt hi;rw [e];exact List.getElem_mem hi
theorem set_back {l:List ChanM} {m:Int} (h:exB l m=true) (c:ChanM) (hc:c=chE l m):l.set m.toNat c=l:=by
 obtain ⟨-,h2⟩:=exB_lt h;have e:chE l m=l[m.toNat]:=getD_lt h2;rw [hc,e,List.set_getElem_self]
theorem fnd_ch {l:List ChanM} {m:Int} (h:exB l m=true):fndE l m=chE l m:=by
 unfold fndE;rw [if_pos h]
theorem num_named {op:OpM} {i:Int} (h0:0≤i):numE op i.toNat=namedI op i:=by
 unfold numE namedI;split
 ·omega
 ·rfl
theorem ord_send {caps:List Int} {d:DeskM} (h:Qt caps d) {ops:Int→OpM} {thr:Int} {op:OpM} {i:Int} (h0:0≤i) (h1:i<((casesE op).length:Int)) (h3:op.kind≠3) (ho:ops thr=op) (hw:∀y∈d.wait,ops y.thr=y.op) (hs:((casesE op).getD i.toNat noCase).send=true) (hr:readyD d thr ((casesE op).getD i.toNat noCase)=true) {n:Nat}:ordP ops (sendG d thr (namedI op i) ((casesE op).getD i.toNat noCase) (partI d thr ((casesE op).getD i.toNat noCase))).1.chans (n+2) d.chans (sendG d thr (namedI op i) ((casesE op).getD i.toNat noCase) (partI d thr ((casesE op).getD i.toNat noCase))).2=true:=by
 obtain ⟨x,hx⟩:∃x,(casesE op).getD i.toNat noCase=x:=⟨_,rfl⟩;have HM:=fun (r:ResM) (C:List ChanM) (e:r.case=namedI op i) (hk:r.kind=1∨r.kind=2∨(r.kind=5∧op.kind≠3))=>modE_at (l:=C) h0 h1 e hk;rw [hx] at hs hr ⊢;simp only [hx] at HM;have he:=readyD_exK hr;unfold sendG;split
 ·next hcl=>
  refine ord_one (nx:=d.chans) ?_ (sameB_refl _);rw [show ops (⟨thr,⟨5,namedI op i,0,false,0⟩⟩:DoneM).thr=op from ho,HM _ _ rfl (.inr (.inr ⟨rfl,h3⟩))];exact doE_panic he hs hcl
 ·next hcl=>
  have hcl:(chE d.chans x.chan).closed=false:=by simpa using hcl
  split
  ·next hp=>
   obtain ⟨k,hk,hkl,hkt,hk0,hk1⟩:=partI_side hp;rw [hk,Int.toNat_natCast];have hy:=wat_mem hkl;obtain ⟨y,hyy⟩:∃y,wat d.wait k=y:=⟨_,rfl⟩;rw [hyy] at hy hk0 hk1 ⊢;rw [hs] at hk0 hk1;obtain ⟨-,s1,s2,s3⟩:=sideI_pos hk0;have hyr:=h.rd y hy _ s3;rw [readyB_of (by rw [s1]; exact he),if_neg (by rw [s2]; decide),s1,hcl,Bool.false_or,decide_eq_false_iff_not] at hyr;have hbe:(chE d.chans x.chan).buf=[]:=List.eq_nil_of_length_eq_zero (by omega);by_cases hcap:(chE d.chans x.chan).cap≤0
   ·refine ord_pair (p:=⟨thr,⟨1,namedI op i,0,false,0⟩⟩) (q:=⟨y.thr,⟨2,namedI y.op (sideI y.op x.chan (!true)),x.val,true,0⟩⟩) (addE_pair _ _ _) ?_ (sameB_refl _)
    dsimp only;rw [ho,hw y hy];have hm:=pairB_meetPQ (l:=d.chans) (a:=op) (b:=y.op) (i:=i.toNat) (k:=(sideI y.op x.chan (!true)).toNat) (by omega) (by omega);unfold meetPQ at hm;rw [hx,if_pos hs,num_named h0,num_named hk0] at hm;rw [hm];unfold rdvB;rw [he,s1,s2,hs,fnd_ch he,hcl];simpa using hcap
   ·refine ord_seq (p:=⟨thr,⟨1,namedI op i,0,false,0⟩⟩) (q:=⟨y.thr,⟨2,namedI y.op (sideI y.op x.chan (!true)),x.val,true,0⟩⟩) (addE_pair _ _ _) (nx:=d.chans.set x.chan.toNat { chE d.chans x.chan with buf:=(chE d.chans x.chan).buf ++ [x.val] }) (ny:=d.chans) ?_ ?_ (sameB_refl _)
    ·rw [show ops (⟨thr,⟨1,namedI op i,0,false,0⟩⟩:DoneM).thr=op from ho,HM _ _ rfl (.inl rfl)]
     exact doE_send he hs hcl (by rw [hbe]; simp; omega)
    ·rw [show ops (⟨y.thr,⟨2,namedI y.op (sideI y.op x.chan (!true)),x.val,true,0⟩⟩:DoneM).thr=y.op from hw y hy,modE_at hk0 hk1 rfl (.inr (.inl rfl)),doE_recv (t:=[]) (by rw [s1,exB_put]; exact he) s2 (by rw [s1,chE_put_same he,hbe]; rfl),s1,chE_put_same he,List.set_set]
     exact congrArg some (set_back he _ (by rw [← hbe]))
  ·next hp=>
   have hrb:readyB d.chans x=true:=by
    unfold readyD at hr;simpa [hp] using hr
   rw [readyB_of he,if_pos hs,hcl,Bool.false_or,decide_eq_true_eq] at hrb;refine ord_one (nx:=d.chans.set x.chan.toNat { chE d.chans x.chan with buf:=(chE d.chans x.chan).buf ++ [x.val] }) ?_ (sameB_refl _);rw [show ops (⟨thr,⟨1,namedI op i,0,false,0⟩⟩:DoneM).thr=op from ho,HM _ _ rfl (.inl rfl)];exact doE_send he hs hcl hrb
theorem ord_recv {caps:List Int} {d:DeskM} (h:Qt caps d) {ops:Int→OpM} {thr:Int} {op:OpM} {i:Int} (h0:0≤i) (h1:i<((casesE op).length:Int)) (h3:op.kind≠3) (ho:ops thr=op) (hw:∀y∈d.wait,ops y.thr=y.op) (hs:((casesE op).getD i.toNat noCase).send=false) (hr:readyD d thr ((casesE op).getD i.toNat noCase)=true) {n:Nat}:ordP ops (recvG d thr (namedI op i) ((casesE op).getD i.toNat noCase) (partI d thr ((casesE op).getD i.toNat noCase))).1.chans (n+2) d.chans (recvG d thr (namedI op i) ((casesE op).getD i.toNat noCase) (partI d thr ((casesE op).getD i.toNat noCase))).2=true:=by
 obtain ⟨x,hx⟩:∃x,(casesE op).getD i.toNat noCase=x:=⟨_,rfl⟩;have HM:=fun (r:ResM) (C:List ChanM) (e:r.case=namedI op i) (hk:r.kind=1∨r.kind=2∨(r.kind=5∧op.kind≠3))=>modE_at (l:=C) h0 h1 e hk;rw [hx] at hs hr ⊢;simp only [hx] at HM;have he:=readyD_exK hr;unfold recvG;split
 ·next hb=>
  split
  ·next hp=>
   obtain ⟨k,hk,hkl,hkt,hk0,hk1⟩:=partI_side hp;rw [hk,Int.toNat_natCast];have hy:=wat_mem hkl;obtain ⟨y,hyy⟩:∃y,wat d.wait k=y:=⟨_,rfl⟩;rw [hyy] at hy hk0 hk1 ⊢;rw [hs] at hk0 hk1;obtain ⟨-,s1,s2,s3⟩:=sideI_pos hk0;have hyr:=h.rd y hy _ s3;rw [readyB_of (by rw [s1]; exact he),if_pos (by rw [s2]; decide),s1,Bool.or_eq_false_iff,decide_eq_false_iff_not,hb] at hyr;have hcap:(chE d.chans x.chan).cap≤0:=by have:=hyr.2; simp at this; omega
   refine ord_pair (p:=⟨thr,⟨2,namedI op i,partV y x.chan,true,0⟩⟩) (q:=⟨y.thr,⟨1,namedI y.op (sideI y.op x.chan (!false)),0,false,0⟩⟩) (addE_pair _ _ _) ?_ ?_
   ·dsimp only
    rw [ho,hw y hy];have hm:=pairB_meetPQ (l:=d.chans) (a:=op) (b:=y.op) (i:=i.toNat) (k:=(sideI y.op x.chan (!false)).toNat) (by omega) (by omega);unfold meetPQ at hm;rw [hx,if_neg (by rw [hs]; decide),num_named h0,num_named hk0] at hm;unfold partV;refine hm.trans ?_;unfold rdvB;rw [he,s1,s2,hs,fnd_ch he,hyr.1];simpa using hcap
   ·show sameB d.chans (d.chans.set x.chan.toNat (chE d.chans x.chan))=true
    rw [set_back he _ rfl];exact sameB_refl _
  ·next hp=>
   have hrb:readyB d.chans x=true:=by
    unfold readyD at hr;simpa [hp] using hr
   rw [readyB_of he,if_neg (by rw [hs]; decide),hb] at hrb;have hcl:(chE d.chans x.chan).closed=true:=by simpa using hrb
   refine ord_one (nx:=d.chans) ?_ (sameB_refl _);rw [show ops (⟨thr,⟨2,namedI op i,0,false,0⟩⟩:DoneM).thr=op from ho,HM _ _ rfl (.inr (.inl rfl))];exact doE_zero he hs hcl hb
 ·next v t hb=>
  split
  ·next hp=>
   obtain ⟨k,hk,hkl,hkt,hk0,hk1⟩:=partI_side hp;rw [hk,Int.toNat_natCast];have hy:=wat_mem hkl;obtain ⟨y,hyy⟩:∃y,wat d.wait k=y:=⟨_,rfl⟩;rw [hyy] at hy hk0 hk1 ⊢;rw [hs] at hk0 hk1;obtain ⟨-,s1,s2,s3⟩:=sideI_pos hk0;have hyr:=h.rd y hy _ s3;rw [readyB_of (by rw [s1]; exact he),if_pos (by rw [s2]; decide),s1,Bool.or_eq_false_iff,decide_eq_false_iff_not,hb] at hyr;have hbc:=h.bf _ (chE_mem he);rw [hb] at hbc;refine ord_seq (p:=⟨thr,⟨2,namedI op i,v,true,0⟩⟩) (q:=⟨y.thr,⟨1,namedI y.op (sideI y.op x.chan (!false)),0,false,0⟩⟩) (addE_pair _ _ _) (nx:=d.chans.set x.chan.toNat { chE d.chans x.chan with buf:=t }) (ny:=d.chans.set x.chan.toNat { chE d.chans x.chan with buf:=t ++ [partV y x.chan] }) ?_ ?_ (sameB_refl _)
   ·rw [show ops (⟨thr,⟨2,namedI op i,v,true,0⟩⟩:DoneM).thr=op from ho,HM _ _ rfl (.inr (.inl rfl))]
    exact doE_recv he hs hb
   ·rw [show ops (⟨y.thr,⟨1,namedI y.op (sideI y.op x.chan (!false)),0,false,0⟩⟩:DoneM).thr=y.op from hw y hy,modE_at hk0 hk1 rfl (.inl rfl),doE_send (by rw [s1,exB_put]; exact he) s2 (by rw [s1,chE_put_same he]; exact hyr.1) (by rw [s1,chE_put_same he]; simp at hbc ⊢; omega),s1,chE_put_same he,List.set_set]
    rfl
  ·next hp=>
   refine ord_one (nx:=d.chans.set x.chan.toNat { chE d.chans x.chan with buf:=t }) ?_ (sameB_refl _);rw [show ops (⟨thr,⟨2,namedI op i,v,true,0⟩⟩:DoneM).thr=op from ho,HM _ _ rfl (.inr (.inl rfl))];exact doE_recv he hs hb
theorem Dist.eq {l:List WaitM} (h:Dist l):∀x∈l,∀y∈l,x.thr=y.thr→x=y:=by
 induction l with
 | nil=>intro x hx; simp at hx
 | cons z l ih=>
  have h1:=List.pairwise_cons.1 h;intro x hx y hy e;rcases List.mem_cons.1 hx with hx | hx
  ·rcases List.mem_cons.1 hy with hy | hy
   ·rw [hx,hy]
   ·rw [hx] at e
    exact absurd e (h1.1 y hy)
  ·rcases List.mem_cons.1 hy with hy | hy
   ·rw [hy] at e
    exact absurd e.symm (h1.1 x hx)
   ·exact ih h1.2 x hx y hy e
theorem ord_first {ops:Int→OpM} {fr C:List ChanM} {l:List DoneM} {p:DoneM} (ha:Asc l) (hp:p∈l) (h:modE fr (ops p.thr) p.res=some C) (h2:∀y∈l,y.thr≠p.thr→modE C (ops y.thr) y.res=some C) {n:Nat} (hn:l.length≤n):ordP ops C n fr l=true:=by
 obtain ⟨i,hi,rfl⟩:=List.mem_iff_getElem.1 hp;obtain ⟨m,rfl⟩:∃m,n=m+1:=⟨n - 1,by omega⟩;have hg:l.getD i doneZ=l[i]:=getD_lt hi;refine ordP_one hi (by rw [hg]; exact h) (ordP_all _ _ (by rw [List.length_append,List.length_take,List.length_drop]; omega) fun y hy=>?_);rcases List.mem_append.1 hy with hy | hy
 ·obtain ⟨j,hj,rfl⟩:=List.mem_iff_getElem.1 hy
  rw [List.length_take] at hj;rw [List.getElem_take];have:=List.pairwise_iff_getElem.1 ha j i (by omega) hi (by omega);exact h2 _ (List.getElem_mem _) (by omega)
 ·obtain ⟨j,hj,rfl⟩:=List.mem_iff_getElem.1 hy
  rw [List.length_drop] at hj;rw [List.getElem_drop];have:=List.pairwise_iff_getElem.1 ha i (i+1+j) hi (by omega) (by omega);exact h2 _ (List.getElem_mem _) (by omega)
theorem ord_shut {caps:List Int} {d:DeskM} (h:Qt caps d) (hd:Dist d.wait) {ops:Int→OpM} {thr:Int} {op:OpM} (h3:op.kind=3) (ho:ops thr=op) (hw:∀y∈d.wait,ops y.thr=y.op) (hn:∀y∈d.wait,y.thr≠thr) {n:Nat} (hl:(shutE d thr op.chan).2.length≤n):ordP ops (shutE d thr op.chan).1.chans n d.chans (shutE d thr op.chan).2=true:=by
 unfold shutE at hl ⊢;split at hl
 ·next hc=>
  rw [if_pos hc];obtain ⟨he,hcl⟩:=hc;obtain ⟨C,hC⟩:∃C,d.chans.set op.chan.toNat { chE d.chans op.chan with closed:=true }=C:=⟨_,rfl⟩;have hCe:exB C op.chan=true:=by rw [← hC,exB_put]; exact he
  have hCc:(chE C op.chan).closed=true:=by rw [← hC,chE_put_same he]
  have hCb:(chE C op.chan).buf=(chE d.chans op.chan).buf:=by rw [← hC,chE_put_same he]
  have hl1:Dist (d.wait.filter (shutB op.chan false)):=List.Pairwise.sublist (List.filter_sublist ..) hd;have hl2:Dist ((d.wait.filter fun x=>!shutB op.chan false x).filter (shutB op.chan true)):=List.Pairwise.sublist ((List.filter_sublist ..).trans (List.filter_sublist ..)) hd;have m1:∀x∈d.wait.filter (shutB op.chan false),x∈d.wait∧shutB op.chan false x=true:=fun x hx=>List.mem_filter.1 hx;have m2:∀x∈(d.wait.filter fun x=>!shutB op.chan false x).filter (shutB op.chan true),x∈d.wait∧shutB op.chan false x=false∧shutB op.chan true x=true:=fun x hx=>by
   obtain ⟨a,b⟩:=List.mem_filter.1 hx;obtain ⟨a,c⟩:=List.mem_filter.1 a;exact ⟨a,by simpa using c,b⟩
  show ordP ops (d.chans.set op.chan.toNat { chE d.chans op.chan with closed:=true }) n d.chans (goF (shutR op.chan true) (goF (shutR op.chan false) [⟨thr,⟨6,-1,0,false,0⟩⟩] (d.wait.filter (shutB op.chan false))) ((d.wait.filter fun x=>!shutB op.chan false x).filter (shutB op.chan true)))=true;have hl:(goF (shutR op.chan true) (goF (shutR op.chan false) [⟨thr,⟨6,-1,0,false,0⟩⟩] (d.wait.filter (shutB op.chan false))) ((d.wait.filter fun x=>!shutB op.chan false x).filter (shutB op.chan true))).length≤n:=hl;rw [hC];have ha1:Asc (goF (shutR op.chan false) [⟨thr,⟨6,-1,0,false,0⟩⟩] (d.wait.filter (shutB op.chan false))):=goF_asc _ _ _ (Asc.one _) hl1 fun x hx z hz=>by
   rw [List.mem_singleton.1 hz];exact Ne.symm (hn x (m1 x hx).1)
  have ha2:=goF_asc (shutR op.chan true) _ _ ha1 hl2 fun x hx z hz=>by
   rcases (goF_mem _ _ _ _).1 hz with hz | ⟨y,hy,rfl⟩
   ·rw [List.mem_singleton.1 hz]
    exact Ne.symm (hn x (m2 x hx).1)
   ·intro e
    have:=hd.eq y (m1 y hy).1 x (m2 x hx).1 e;subst this;exact absurd (m2 y hx).2.1 (by rw [(m1 y hy).2]; decide)
  refine ord_first ha2 (p:=⟨thr,⟨6,-1,0,false,0⟩⟩) ((goF_mem _ _ _ _).2 (.inl ((goF_mem _ _ _ _).2 (.inl (List.mem_singleton.2 rfl))))) ?_ (fun y hy hyt=>?_) hl
  ·show modE d.chans (ops thr) ⟨6,-1,0,false,0⟩=some C
   rw [ho,← hC];unfold modE;simp [h3,he,hcl,onlyB,setE]
  ·rcases (goF_mem _ _ _ _).1 hy with hy | ⟨x,hx,rfl⟩
   ·rcases (goF_mem _ _ _ _).1 hy with hy | ⟨x,hx,rfl⟩
    ·rw [List.mem_singleton.1 hy] at hyt
     exact absurd rfl hyt
    ·obtain ⟨x1,x2⟩:=m1 x hx
     unfold shutB at x2;have x2:=of_decide_eq_true x2;obtain ⟨s0,s1,s2,s3⟩:=sideI_pos x2;have hxr:=h.rd x x1 _ s3;rw [readyB_of (by rw [s1]; exact he),if_neg (by rw [s2]; decide),s1,hcl,Bool.false_or,decide_eq_false_iff_not] at hxr;show modE C (ops x.thr) (shutR op.chan false x)=some C;rw [hw x x1];unfold shutR;rw [modE_at x2 s0 rfl (.inr (.inl rfl))];exact doE_zero (by rw [s1]; exact hCe) s2 (by rw [s1]; exact hCc) (by rw [s1,hCb]; exact List.eq_nil_of_length_eq_zero (by omega))
   ·obtain ⟨x1,-,x2⟩:=m2 x hx
    unfold shutB at x2;have x2:=of_decide_eq_true x2;obtain ⟨s0,s1,s2,s3⟩:=sideI_pos x2;show modE C (ops x.thr) (shutR op.chan true x)=some C;rw [hw x x1];unfold shutR;rw [modE_at x2 s0 rfl (.inr (.inr ⟨rfl,(h.gd x x1).2⟩))];exact doE_panic (by rw [s1]; exact hCe) s2 (by rw [s1]; exact hCc)
 ·next hc=>
  rw [if_neg hc];obtain ⟨m,rfl⟩:∃m,n=m+1:=⟨n - 1,by simp at hl; omega⟩;refine ord_one (nx:=d.chans) ?_ (sameB_refl _);show modE d.chans (ops thr) panD=some d.chans;rw [ho];have hc2:exB d.chans op.chan=false∨(chE d.chans op.chan).closed=true:=by
   cases h4:exB d.chans op.chan with
   | false=>exact .inl rfl
   | true=>exact .inr (by cases h5:(chE d.chans op.chan).closed with | true=>rfl | false=>exact absurd ⟨h4,h5⟩ hc)
  unfold modE panD;simp [h3,hc2,onlyB]
theorem ord_does {caps:List Int} {d:DeskM} (h:Qt caps d) (hd:Dist d.wait) {ops:Int→OpM} {thr:Int} {op:OpM} (hg:op.good) (ho:ops thr=op) (hw:∀y∈d.wait,ops y.thr=y.op) (hn:∀y∈d.wait,y.thr≠thr) (hq:(doD d thr op).2.2=false) {n:Nat} (hl:(doD d thr op).2.1.length≤n) (hn2:2≤n):ordP ops (doD d thr op).1.chans n d.chans (doD d thr op).2.1=true:=by
 have hks:=hg.kinds;obtain ⟨m,rfl⟩:∃m,n=m+2:=⟨n - 2,by omega⟩;unfold doD at hq hl ⊢;split at hl
 ·next h3=>
  rw [if_pos h3];exact ord_shut h hd h3 ho hw hn hl
 ·next h3=>
  rw [if_neg h3] at hq ⊢;split at hl
  ·next h56=>
   rw [if_pos h56];refine ord_one (nx:=d.chans) ?_ (sameB_refl _);show modE d.chans (ops thr) ⟨7,-1,0,false,cntN d op⟩=some d.chans;rw [ho];unfold modE cntN;rcases h56 with h5 | h5 <;> simp [h5,onlyB]
  ·next h56=>
   rw [if_neg h56] at hq ⊢;split at hl
   ·next hp=>
    rw [if_pos hp];have hr:=pickD_yes hp;have hpl:=pickD_lt (thr:=thr) (d:=d) hg h3 h56;show ordP ops (doG d thr op (pickD d thr op) _).1.chans (m+2) d.chans (doG d thr op (pickD d thr op) _).2=true;unfold doG;split
    ·next hs=>exact ord_send h hp hpl h3 ho hw hs hr
    ·next hs=>exact ord_recv h hp hpl h3 ho hw (by simpa using hs) hr
   ·next hp=>
    rw [if_neg hp] at hq ⊢;have hno:=pickD_no hg hp;have hwb:waitsB op=true:=by
     unfold waitsB;simp only [Bool.or_eq_true,beq_iff_eq];omega
    split at hl
    ·next h1=>
     rw [if_pos h1];refine ord_one (nx:=d.chans) ?_ (sameB_refl _);show modE d.chans (ops thr) ⟨3,-1,0,false,0⟩=some d.chans;rw [ho];have hbl:blockedB d.chans op=true:=by
      unfold blockedB;rw [List.all_eq_true];intro c hc;rw [(readyD_no (hno c hc)).1];rfl
     unfold modE;simp [h1,hbl,hwb,onlyB]
    ·next h1=>
     rw [if_neg h1] at hq ⊢;split at hl
     ·next h2=>
      rw [if_pos h2];refine ord_one (nx:=d.chans) ?_ (sameB_refl _);show modE d.chans (ops thr) ⟨4,-1,0,false,0⟩=some d.chans;rw [ho];unfold modE;simp [h2.1,hwb,onlyB]
     ·next h2=>
      rw [if_neg h2] at hq;exact absurd hq (by simp)
theorem wait_does {d:DeskM} {thr:Int} {op:OpM} (hq:(doD d thr op).2.2=true):(doD d thr op).1.chans=d.chans∧(doD d thr op).2.1=[]:=by
 unfold doD at hq ⊢;split at hq
 ·simp at hq
 ·next h3=>
  rw [if_neg h3];split at hq
  ·simp at hq
  ·next h56=>
   rw [if_neg h56];split at hq
   ·simp at hq
   ·next hp=>
    rw [if_neg hp];split at hq
    ·simp at hq
    ·next h1=>
     rw [if_neg h1];split at hq
     ·simp at hq
     ·next h2=>rw [if_neg h2]; exact ⟨rfl,rfl⟩
theorem modE_bd {l l':List ChanM} {op:OpM} {r:ResM} {B:Nat} (h:modE l op r=some l') (hb:∀c∈l,c.buf.length≤B):l'.length=l.length∧∀c∈l',c.buf.length≤B+1:=by
 have hs:∀(i:Nat) (hi:i<l.length) (x:ChanM),x.buf.length≤(l.getD i noChan).buf.length+1→(l.set i x).length=l.length∧∀c∈l.set i x,c.buf.length≤B+1:=fun i hi x hx=>by
  refine ⟨List.length_set ..,fun c hc=>?_⟩;rcases List.mem_or_eq_of_mem_set hc with h2 | rfl
  ·have:=hb c h2; omega
  ·have h3:l.getD i noChan=l[i]:=getD_lt hi
   have:=hb _ (List.getElem_mem hi);rw [h3] at hx;omega
 rcases modE_modR h with ⟨x,i,-,-,-,hi,rfl⟩ | ⟨x,i,y,t,-,-,-,-,hi,hbf,rfl⟩ | ⟨i,-,-,hi,rfl⟩ | ⟨-,-,-,rfl⟩
 ·exact hs i hi _ (by simp)
 ·refine hs i hi _ ?_
  rw [hbf];show t.length≤_;simp; omega
 ·exact hs i hi _ (Nat.le_succ _)
 ·exact ⟨rfl,fun c hc=>Nat.le_succ_of_le (hb c hc)⟩
theorem doD_who {d:DeskM} {thr:Int} {op:OpM}:∀x∈(doD d thr op).2.1,x.thr=thr∨∃y∈d.wait,x.thr=y.thr:=by
 intro x hx;have h1:∀r,x∈[(⟨thr,r⟩:DoneM)]→x.thr=thr∨∃y∈d.wait,x.thr=y.thr:=fun r h=>.inl (by rw [List.mem_singleton.1 h]);have h2:∀(c:CaseM) r r2,0≤partI d thr c→x∈addE [(⟨thr,r⟩:DoneM)] (wat d.wait (partI d thr c).toNat).thr r2→x.thr=thr∨∃y∈d.wait,x.thr=y.thr:=fun c r r2 h0 h=>by
  rcases addE_mem h with h | h
  ·obtain ⟨k,hk,hkl,-⟩:=partI_side h0
   rw [hk,Int.toNat_natCast] at h;exact .inr ⟨_,wat_mem hkl,by rw [h]⟩
  ·exact h1 r h
 unfold doD at hx;split at hx
 ·unfold shutE at hx
  split at hx
  ·have hx:x∈goF (shutR op.chan true) (goF (shutR op.chan false) [⟨thr,⟨6,-1,0,false,0⟩⟩] (d.wait.filter (shutB op.chan false))) ((d.wait.filter fun x=>!shutB op.chan false x).filter (shutB op.chan true)):=hx
   rcases (goF_mem _ _ _ _).1 hx with hx | ⟨y,hy,rfl⟩
   ·rcases (goF_mem _ _ _ _).1 hx with hx | ⟨y,hy,rfl⟩
    ·exact h1 _ hx
    ·exact .inr ⟨y,(List.mem_filter.1 hy).1,rfl⟩
   ·exact .inr ⟨y,(List.mem_filter.1 (List.mem_filter.1 hy).1).1,rfl⟩
  ·exact h1 _ hx
 ·split at hx
  ·exact h1 _ hx
  ·split at hx
   ·obtain ⟨c,hc⟩:∃c,(casesE op).getD (pickD d thr op).toNat noCase=c:=⟨_,rfl⟩
    rw [hc] at hx;have hx:x∈(doG d thr op (pickD d thr op) c).2:=hx;unfold doG at hx;split at hx
    ·unfold sendG at hx
     split at hx
     ·exact h1 _ hx
     ·split at hx
      ·next h=>exact h2 c _ _ h hx
      ·exact h1 _ hx
    ·unfold recvG at hx
     split at hx
     ·split at hx
      ·next h=>exact h2 c _ _ h hx
      ·exact h1 _ hx
     ·split at hx
      ·next h=>exact h2 c _ _ h hx
      ·exact h1 _ hx
   ·split at hx
    ·exact h1 _ hx
    ·split at hx
     ·exact h1 _ hx
     ·simp at hx
theorem StM.open {G:World→Prop} {v:Value} {m:MemM} (h:StM G v m) (w:World) (hG:G w):∃a cap a2 cap2,v=.agg #[.slice a m.words.length cap,.slice a2 m.lists.length cap2,.int .i64 m.tick]:=by
 obtain ⟨vw,vl,us,rfl,hall⟩:=h;obtain ⟨h1,h2⟩:=hall w hG;obtain ⟨a,cap,rfl,-⟩:=h1.len;obtain ⟨a2,cap2,rfl,-⟩:=h2.len;exact ⟨_,_,_,_,rfl⟩
theorem StM.words {G:World→Prop} {a a2:Option Addr} {n cap n2 cap2:Nat} {t:Int} {m:MemM} (h:StM G (.agg #[.slice a n cap,.slice a2 n2 cap2,.int .i64 t]) m) (w:World) (hG:G w):SlI w .u64 (.slice a n cap) m.words:=by
 obtain ⟨vw,vl,us,e,hall⟩:=h;obtain ⟨h1,h2⟩:=hall w hG;simp only [Value.agg.injEq,Array.mk.injEq,List.cons.injEq,and_true] at e;rw [e.1]; exact h1
theorem sameWords_any (u v:Value) (l m:List Int) (w:World) (hl:SlI w .u64 u l) (hm:SlI w .u64 v m) :
  Calls Try.prog 62 #[u,v] w fun e w'=>∃n,e=.returned (.bool (decide (l=m)))∧w.drewN n=w':=by
 have hmx:=hl.1;have hmx2:=hm.1;obtain ⟨_,_,a,cap,rfl,h4,h5⟩:=hl;obtain ⟨_,_,a',cap',rfl,h4',h5'⟩:=hm;clear h4 h4';by_cases hll:l.length=m.length
 ·have hq:((l.length:Int) != (m.length:Int))=false:=by simp [hll]
  have HL:=Lib.hid hll;have HS:=Lib.hid (ext_same l m hll);clear hll;go_enter Try.func62,Try.ntmps62;go_wp2;go_loopw [5] (fun c wr=>∃k n:Nat,k≤l.length∧c=.int .i64 k∧wr=w.drewN n∧Hid (∀j,j<k→l.getD j 0=m.getD j 0)) (fun c _=>l.length - (intOf c).toNat)
  case atStart=>exact ⟨0,0,by omega,rfl,rfl,fun j hj=>by omega⟩
  case round=>
   obtain ⟨k,n,hk,rfl,rfl,hno⟩:=hrel;by_cases hlt:k<l.length
   ·obtain ⟨b,off,rfl,_,hc⟩:=h5 k hlt
    obtain ⟨b',off',rfl,_,hc'⟩:=h5' k (by rw [← HL.out]; exact hlt);have hlt':k<m.length:=by rw [← HL.out]; exact hlt
    have H5:=Lib.hid h5;have H5':=Lib.hid h5';clear h5 h5';generalize hy:l.getD k 0=y at hc;generalize hz:m.getD k 0=z at hc';have Hy:=Lib.hid hy;have Hz:=Lib.hid hz;clear hy hz;by_cases hyx:y=z
    ·subst hyx
     go_wp2;go_quiet (fail);go_wp2;go_roundw
     case rel=>exact ⟨k+1,n+nq,by omega,by go_num,rfl,fun j hj=>by
      by_cases e:j=k
      ·rw [e,Hy.out,Hz.out]
      ·exact hno.out j (by omega)⟩
     case measure=>simp [intOf]; omega
    ·have hq2:(y == z)=false:=by simpa using hyx
     go_wp2;go_quiet (fail);go_wp2;go_ret;exact ⟨n+nq,ret_bool (by symm; apply decide_eq_false; intro e; apply hyx; rw [← Hy.out,← Hz.out,e]),(World.drewN_drewN w n nq).symm⟩
   ·have e:k=l.length:=by omega
    have E:=Lib.hid e;clear e;go_wp2;go_ret;exact ⟨n,ret_bool (by symm; exact decide_eq_true (HS.out fun j hj=>hno.out j (by rw [E.out]; exact hj))),rfl⟩
 ·have hq:((l.length:Int) != (m.length:Int))=true:=by simpa using fun h=>hll (by omega)
  have hr:=Lib.hid (show decide (l=m)=false from decide_eq_false (by rintro rfl; exact hll rfl));clear hll;go_enter Try.func62,Try.ntmps62;go_wp2;go_ret;exact ⟨0,by rw [hr.out]; rfl,rfl⟩
set_option maxRecDepth 100000 in
set_option maxHeartbeats 16000000 in
theorem rSame_any (v v2:Value) (l m:List ChanM) (w:World) (hv:SlH w v l) (hv2:SlH w v2 m):Calls Try.prog 32 #[v,v2] w fun e w'=>e=.returned (.bool (sameB l m))∧Below w.heap.size w w':=by
 have HV:=Lib.hid hv;have HV2:=Lib.hid hv2;obtain ⟨rb,hrb⟩:∃b,sameB l m=b:=⟨_,rfl⟩;have HLEN:=Lib.hid fun (h:l.length≠m.length)=>sameB_len h;have HNO:=Lib.hid fun i (hi:i<l.length) (h:chEqB (l.getD i noChan) (m.getD i noChan)=false)=>sameB_no (m:=m) hi h;have HYES:=Lib.hid fun (h:l.length=m.length) (h2:∀i,i<l.length→chEqB (l.getD i noChan) (m.getD i noChan)=true)=>sameB_yes h h2;rw [hrb] at HLEN HNO HYES ⊢;obtain ⟨a,cap,hve,-⟩:=hv.len;subst hve;obtain ⟨a2,cap2,hve,-⟩:=hv2.len;subst hve;have hm1:=hv.bound;clear hv hv2 hrb;by_cases hl:l.length=m.length
 ·have HL:=Lib.hid hl
  have hq:((l.length:Int) != (m.length:Int))=false:=by simp [hl]
  obtain ⟨n,hn⟩:∃n,l.length=n:=⟨_,rfl⟩;have hn2:m.length=n:=by rw [← hl,hn]
  rw [hn] at hq hm1;rw [hn2] at hq;rw [hn] at HV ⊢;rw [hn2] at HV2 ⊢;have HN:=Lib.hid (And.intro hn hn2);clear hl hn hn2;go_enter Try.func32,Try.ntmps32;go_wp2_with fail;go_loopw [5] (fun u17 wr=>∃i:Nat,u17=.int .i64 i∧i≤n∧Hid (∀j,j<i→chEqB (l.getD j noChan) (m.getD j noChan)=true)∧Hid (Below w.heap.size w wr)) (fun u17 _=>n - (intOf u17).toNat)
  case atStart=>exact ⟨0,rfl,by omega,fun j hj=>by omega,Below.refl _ _⟩
  case round=>
   obtain ⟨i,rfl,hi,HE,HBi⟩:=hrel;obtain ⟨wo,rfl⟩:∃wo:World,wo=wr:=⟨_,rfl⟩;by_cases hlt:i<n
   ·have hltI:(i:Int)<(n:Int):=by omega
    obtain ⟨b,off,capx,u,hve,hb,c0,c1,c2,hu⟩:=(HV.out.below HBi.out).at i (by rw [HN.out.1]; exact hlt);rw [HN.out.1] at hve;simp only [Value.slice.injEq] at hve;obtain ⟨rfl,-,rfl⟩:=hve;obtain ⟨b2,off2,capx2,u2,hve,hb2,d0,d1,d2,hu2⟩:=(HV2.out.below HBi.out).at i (by rw [HN.out.2]; exact hlt);rw [HN.out.2] at hve;simp only [Value.slice.injEq] at hve;obtain ⟨rfl,-,rfl⟩:=hve;obtain ⟨⟨cc,bf,cl⟩,hx⟩:∃c,l.getD i noChan=c:=⟨_,rfl⟩;obtain ⟨⟨cc2,bf2,cl2⟩,hy⟩:∃c,m.getD i noChan=c:=⟨_,rfl⟩;rw [hx] at c0 c2 hu;rw [hy] at d0 d2 hu2;dsimp only at c0 c2 hu d0 d2 hu2;obtain ⟨ua,uc,rfl,-⟩:=hu.len;obtain ⟨ua2,uc2,rfl,-⟩:=hu2.len;have HXY:=Lib.hid (And.intro hx hy);have TS:=Lib.hid fun w' (hb:Below wo.heap.size wo w')=>(sameWords_any _ _ bf bf2 w' (hu.below hb) (hu2.below hb)).mono fun e w2 (h:∃n,e=_∧w'.drewN n=w2)=>(show e=_∧∃n,w'.drewN n=w2 from by obtain ⟨n,h1,h2⟩:=h; exact ⟨h1,n,h2⟩);obtain ⟨b1,hb1⟩:∃b,(cc != cc2)=b:=⟨_,rfl⟩;obtain ⟨b2q,hb2q⟩:∃b,(cl != cl2)=b:=⟨_,rfl⟩;obtain ⟨b3,hb3⟩:∃b,decide (bf=bf2)=b:=⟨_,rfl⟩;rw [hb3] at TS;have HQ:Hid (chEqB ⟨cc,bf,cl⟩ ⟨cc2,bf2,cl2⟩=(!b1 && (!b2q && b3))):=by
     show _=_;unfold chEqB;dsimp only;have hdec:(bf == bf2)=decide (bf=bf2):=by rw [Bool.eq_iff_iff]; simp
     rw [← hb1,← hb2q,← hb3,hdec];cases cl <;> cases cl2 <;> simp [bne]
    clear hx hy hu hu2 hb3;cases b1 with
    | true=>
     go_upto_region 6 with fail
     have Xc0:=ext_cell _ _ (hb) _ c0;have Xc1:=ext_cell _ _ (hb) _ c1;have Xc2:=ext_cell _ _ (hb) _ c2;have Xd0:=ext_cell _ _ (hb2) _ d0;have Xd1:=ext_cell _ _ (hb2) _ d1;have Xd2:=ext_cell _ _ (hb2) _ d2;clear c0 c1 c2 d0 d1 d2;refine wp_region_ext wo (by kernel_rfl) (by kernel_rfl) (Below.refl _ _) ?_
     repeat (go_big_quiet_step (first | (go_at_call 62; with_reducible exact calls_ext_draw (TS.out _ (Ext.below _)))))
     refine wpQuiet_nil ?_;intro _ hw';obtain ⟨n9,rfl⟩:=hw';have HB9:=Lib.hid (below_then HBi.out n9.below);generalize n9.wd=w9 at *;clear Xc0 Xc1 Xc2 Xd0 Xd1 Xd2 hb hb2 TS;have HQ:Hid (chEqB ⟨cc,bf,cl⟩ ⟨cc2,bf2,cl2⟩=false):=by show _=_; rw [HQ.out]; rfl
     have hr:rb=false:=HNO.out i (by rw [HN.out.1]; exact hlt) (by rw [HXY.out.1,HXY.out.2]; exact HQ.out);subst hr;go_wp2;go_ret;exact ⟨rfl,HB9.out⟩
    | false=>
     cases cl <;> cases cl2
     ·cases b3 with
      | false=>
       go_upto_region 6 with fail
       have Xc0:=ext_cell _ _ (hb) _ c0;have Xc1:=ext_cell _ _ (hb) _ c1;have Xc2:=ext_cell _ _ (hb) _ c2;have Xd0:=ext_cell _ _ (hb2) _ d0;have Xd1:=ext_cell _ _ (hb2) _ d1;have Xd2:=ext_cell _ _ (hb2) _ d2;clear c0 c1 c2 d0 d1 d2;refine wp_region_ext wo (by kernel_rfl) (by kernel_rfl) (Below.refl _ _) ?_
       repeat (go_big_quiet_step (first | (go_at_call 62; with_reducible exact calls_ext_draw (TS.out _ (Ext.below _)))))
       refine wpQuiet_nil ?_;intro _ hw';obtain ⟨n9,rfl⟩:=hw';have HB9:=Lib.hid (below_then HBi.out n9.below);generalize n9.wd=w9 at *;clear Xc0 Xc1 Xc2 Xd0 Xd1 Xd2 hb hb2 TS;have hq9:=HQ.out; rw [← hb2q] at hq9; have HQ:=Lib.hid (hq9.trans (show _=false from rfl));have hr:rb=false:=HNO.out i (by rw [HN.out.1]; exact hlt) (by rw [HXY.out.1,HXY.out.2]; exact HQ.out);subst hr;go_wp2;go_ret;exact ⟨rfl,HB9.out⟩
      | true=>
       go_upto_region 6 with fail
       have Xc0:=ext_cell _ _ (hb) _ c0;have Xc1:=ext_cell _ _ (hb) _ c1;have Xc2:=ext_cell _ _ (hb) _ c2;have Xd0:=ext_cell _ _ (hb2) _ d0;have Xd1:=ext_cell _ _ (hb2) _ d1;have Xd2:=ext_cell _ _ (hb2) _ d2;clear c0 c1 c2 d0 d1 d2;refine wp_region_ext wo (by kernel_rfl) (by kernel_rfl) (Below.refl _ _) ?_
       repeat (go_big_quiet_step (first | (go_at_call 62; with_reducible exact calls_ext_draw (TS.out _ (Ext.below _)))))
       refine wpQuiet_nil ?_;intro _ hw';obtain ⟨n9,rfl⟩:=hw';have HB9:=Lib.hid (below_then HBi.out n9.below);generalize n9.wd=w9 at *;clear Xc0 Xc1 Xc2 Xd0 Xd1 Xd2 hb hb2 TS;have hq9:=HQ.out; rw [← hb2q] at hq9; have HQ:=Lib.hid (hq9.trans (show _=true from rfl));go_wp2_with fail;go_roundw
       case rel=>exact ⟨i+1,by go_num,by omega,fun j hj=>by
        by_cases e:j=i
        ·rw [e,HXY.out.1,HXY.out.2]; exact HQ.out
        ·exact HE.out j (by omega),HB9⟩
       case measure=>simp [intOf]; omega
     ·skip
      go_upto_region 6 with fail
      have Xc0:=ext_cell _ _ (hb) _ c0;have Xc1:=ext_cell _ _ (hb) _ c1;have Xc2:=ext_cell _ _ (hb) _ c2;have Xd0:=ext_cell _ _ (hb2) _ d0;have Xd1:=ext_cell _ _ (hb2) _ d1;have Xd2:=ext_cell _ _ (hb2) _ d2;clear c0 c1 c2 d0 d1 d2;refine wp_region_ext wo (by kernel_rfl) (by kernel_rfl) (Below.refl _ _) ?_
      repeat (go_big_quiet_step (first | (go_at_call 62; with_reducible exact calls_ext_draw (TS.out _ (Ext.below _)))))
      refine wpQuiet_nil ?_;intro _ hw';obtain ⟨n9,rfl⟩:=hw';have HB9:=Lib.hid (below_then HBi.out n9.below);generalize n9.wd=w9 at *;clear Xc0 Xc1 Xc2 Xd0 Xd1 Xd2 hb hb2 TS;have hq9:=HQ.out; rw [← hb2q] at hq9; have HQ:=Lib.hid (hq9.trans (show _=false from rfl));have hr:rb=false:=HNO.out i (by rw [HN.out.1]; exact hlt) (by rw [HXY.out.1,HXY.out.2]; exact HQ.out);subst hr;go_wp2;go_ret;exact ⟨rfl,HB9.out⟩
     ·skip
      go_upto_region 6 with fail
      have Xc0:=ext_cell _ _ (hb) _ c0;have Xc1:=ext_cell _ _ (hb) _ c1;have Xc2:=ext_cell _ _ (hb) _ c2;have Xd0:=ext_cell _ _ (hb2) _ d0;have Xd1:=ext_cell _ _ (hb2) _ d1;have Xd2:=ext_cell _ _ (hb2) _ d2;clear c0 c1 c2 d0 d1 d2;refine wp_region_ext wo (by kernel_rfl) (by kernel_rfl) (Below.refl _ _) ?_
      repeat (go_big_quiet_step (first | (go_at_call 62; with_reducible exact calls_ext_draw (TS.out _ (Ext.below _)))))
      refine wpQuiet_nil ?_;intro _ hw';obtain ⟨n9,rfl⟩:=hw';have HB9:=Lib.hid (below_then HBi.out n9.below);generalize n9.wd=w9 at *;clear Xc0 Xc1 Xc2 Xd0 Xd1 Xd2 hb hb2 TS;have hq9:=HQ.out; rw [← hb2q] at hq9; have HQ:=Lib.hid (hq9.trans (show _=false from rfl));have hr:rb=false:=HNO.out i (by rw [HN.out.1]; exact hlt) (by rw [HXY.out.1,HXY.out.2]; exact HQ.out);subst hr;go_wp2;go_ret;exact ⟨rfl,HB9.out⟩
     ·cases b3 with
      | false=>
       go_upto_region 6 with fail
       have Xc0:=ext_cell _ _ (hb) _ c0;have Xc1:=ext_cell _ _ (hb) _ c1;have Xc2:=ext_cell _ _ (hb) _ c2;have Xd0:=ext_cell _ _ (hb2) _ d0;have Xd1:=ext_cell _ _ (hb2) _ d1;have Xd2:=ext_cell _ _ (hb2) _ d2;clear c0 c1 c2 d0 d1 d2;refine wp_region_ext wo (by kernel_rfl) (by kernel_rfl) (Below.refl _ _) ?_
       repeat (go_big_quiet_step (first | (go_at_call 62; with_reducible exact calls_ext_draw (TS.out _ (Ext.below _)))))
       refine wpQuiet_nil ?_;intro _ hw';obtain ⟨n9,rfl⟩:=hw';have HB9:=Lib.hid (below_then HBi.out n9.below);generalize n9.wd=w9 at *;clear Xc0 Xc1 Xc2 Xd0 Xd1 Xd2 hb hb2 TS;have hq9:=HQ.out; rw [← hb2q] at hq9; have HQ:=Lib.hid (hq9.trans (show _=false from rfl));have hr:rb=false:=HNO.out i (by rw [HN.out.1]; exact hlt) (by rw [HXY.out.1,HXY.out.2]; exact HQ.out);subst hr;go_wp2;go_ret;exact ⟨rfl,HB9.out⟩
      | true=>
       go_upto_region 6 with fail
       have Xc0:=ext_cell _ _ (hb) _ c0;have Xc1:=ext_cell _ _ (hb) _ c1;have Xc2:=ext_cell _ _ (hb) _ c2;have Xd0:=ext_cell _ _ (hb2) _ d0;have Xd1:=ext_cell _ _ (hb2) _ d1;have Xd2:=ext_cell _ _ (hb2) _ d2;clear c0 c1 c2 d0 d1 d2;refine wp_region_ext wo (by kernel_rfl) (by kernel_rfl) (Below.refl _ _) ?_
       repeat (go_big_quiet_step (first | (go_at_call 62; with_reducible exact calls_ext_draw (TS.out _ (Ext.below _)))))
       refine wpQuiet_nil ?_;intro _ hw';obtain ⟨n9,rfl⟩:=hw';have HB9:=Lib.hid (below_then HBi.out n9.below);generalize n9.wd=w9 at *;clear Xc0 Xc1 Xc2 Xd0 Xd1 Xd2 hb hb2 TS;have hq9:=HQ.out; rw [← hb2q] at hq9; have HQ:=Lib.hid (hq9.trans (show _=true from rfl));go_wp2_with fail;go_roundw
       case rel=>exact ⟨i+1,by go_num,by omega,fun j hj=>by
        by_cases e:j=i
        ·rw [e,HXY.out.1,HXY.out.2]; exact HQ.out
        ·exact HE.out j (by omega),HB9⟩
       case measure=>simp [intOf]; omega
   ·have hge:¬(i:Int)<(n:Int):=by omega
    have hr:rb=true:=HYES.out HL.out fun j hj=>HE.out j (by rw [HN.out.1] at hj; omega);subst hr;go_wp2;go_ret;exact ⟨rfl,HBi.out⟩
 ·have hq:((l.length:Int) != (m.length:Int))=true:=by simp; omega
  have hr:rb=false:=HLEN.out hl;subst hr;clear hl;go_enter Try.func32,Try.ntmps32;go_wp2;go_ret;exact ⟨rfl,Below.refl _ _⟩
def opRw (x:OpM) (vc vd:Value):List Value:=[.int .i64 x.kind,.int .i64 x.mode,.int .i64 x.chan,.int .u64 x.val,.int .i64 x.dl,vc,vd]
def SlOp (w:World) (v:Value) (l:List OpM):Prop:=
 ∃rows:List (List Value),rows.length=l.length∧SlS w 7 v rows∧∀i,i<l.length→∃vc vd,rows.getD i []=opRw (l.getD i opZ) vc vd∧SlC w vc (l.getD i opZ).cases∧SlI w .i64 vd (l.getD i opZ).draws
theorem SlOp.below {w w':World} {v:Value} {l:List OpM} (h:SlOp w v l) (hb:Below w.heap.size w w'):SlOp w' v l:=by
 obtain ⟨rows,h1,h2,h3⟩:=h;exact ⟨rows,h1,h2.below hb,fun i hi=>by
  obtain ⟨vc,vd,e,h4,h5⟩:=h3 i hi;exact ⟨vc,vd,e,h4.below hb,h5.below hb⟩⟩
def opsL (ol:List OpM) (t:Int):OpM:=ol.getD t.toNat opZ
theorem SlOp.at {w:World} {v:Value} {l:List OpM} (h:SlOp w v l) (h0:0<l.length) (hf:∀op∈l,op.fine):∃b off cap,v=.slice (some ⟨b,off,none⟩) l.length cap∧b<w.heap.size∧∀i,i<l.length→∀x,l.getD i opZ=x→x.fine∧∃a3 c3 a4 c4,∀w',Below w.heap.size w w'→
  (w'.cell? ⟨b,off+i * 7,none⟩=some (.int .i64 x.kind)∧w'.cell? ⟨b,off+i * 7+1,none⟩=some (.int .i64 x.mode)∧w'.cell? ⟨b,off+i * 7+2,none⟩=some (.int .i64 x.chan)∧w'.cell? ⟨b,off+i * 7+3,none⟩=some (.int .u64 x.val)∧w'.cell? ⟨b,off+i * 7+4,none⟩=some (.int .i64 x.dl)∧w'.cell? ⟨b,off+i * 7+5,none⟩=some (.slice a3 x.cases.length c3)∧w'.cell? ⟨b,off+i * 7+6,none⟩=some (.slice a4 x.draws.length c4))∧
  OpV w' (.agg #[.int .i64 x.kind,.int .i64 x.mode,.int .i64 x.chan,.int .u64 x.val,.int .i64 x.dl,.slice a3 x.cases.length c3,.slice a4 x.draws.length c4]) x:=by
 obtain ⟨rows,h1,h2,h3⟩:=h;obtain ⟨b,off,cap,rfl,hb,hr⟩:=h2.open (by omega);refine ⟨b,off,cap,by rw [h1],hb,fun i hi x hx=>?_⟩;obtain ⟨vc,vd,e,h4,h5⟩:=h3 i hi;have h6:=hr i (by omega);have hfx:x.fine:=by
  rw [← hx,getD_lt hi];exact hf _ (List.getElem_mem hi)
 rw [e] at h6;rw [hx] at h4 h5 h6;obtain ⟨a3,c3,rfl⟩:=h4.len;obtain ⟨a4,c4,rfl,-⟩:=h5.len;refine ⟨hfx,a3,c3,a4,c4,fun w' hw=>?_⟩;have hc:∀j u,(opRw x (.slice a3 x.cases.length c3) (.slice a4 x.draws.length c4))[j]?=some u→w'.cell? ⟨b,off+i * 7+j,none⟩=some u:=fun j u hj=>(hw.cell (p:=⟨b,off+i * 7+j,none⟩) hb).trans (h6 j u hj);exact ⟨⟨hc 0 _ rfl,hc 1 _ rfl,hc 2 _ rfl,hc 3 _ rfl,hc 4 _ rfl,hc 5 _ rfl,hc 6 _ rfl⟩,_,_,rfl,h4.below hw,h5.below hw⟩
theorem doneAt {w:World} {v:Value} {l:List DoneM} (h:SlS w 6 v (doneRows l)) (h0:0<l.length):∃b off cap,v=.slice (some ⟨b,off,none⟩) l.length cap∧l.length≤cap∧b<w.heap.size∧∀i w',i<l.length→Below w.heap.size w w'→∀x,l.getD i doneZ=x→
  (w'.cell? ⟨b,off+i * 6,none⟩=some (.int .i64 x.thr)∧w'.cell? ⟨b,off+i * 6+1,none⟩=some (.int .i64 x.res.kind)∧w'.cell? ⟨b,off+i * 6+2,none⟩=some (.int .i64 x.res.case)∧w'.cell? ⟨b,off+i * 6+3,none⟩=some (.int .u64 x.res.val)∧w'.cell? ⟨b,off+i * 6+4,none⟩=some (.bool x.res.ok)∧w'.cell? ⟨b,off+i * 6+5,none⟩=some (.int .i64 x.res.num)):=by
 obtain ⟨a,cap,rfl,hcap⟩:=h.len;rw [doneRows_length] at hcap;obtain ⟨b,off,cp,hve,hb,-⟩:=h.done 0 h0 rfl;rw [doneRows_length] at hve ⊢;simp only [Value.slice.injEq] at hve;obtain ⟨rfl,-,rfl⟩:=hve;refine ⟨b,off,cap,rfl,hcap,hb,fun i w' hi hw x hx=>?_⟩;obtain ⟨b2,off2,cp2,hve,hb2,c0,c1,c2,c3,c4,c5⟩:=(h.below hw).done i hi hx;rw [doneRows_length] at hve;simp only [Value.slice.injEq,Option.some.injEq,Addr.mk.injEq,and_true,true_and] at hve;obtain ⟨⟨rfl,rfl⟩,rfl⟩:=hve;exact ⟨c0,c1,c2,c3,c4,c5⟩
def noP1 (ol:List OpM) (tg:List ChanM) (n:Nat) (fr:List ChanM) (l:List DoneM) (i:Nat):Prop:=∀nx,modE fr (opsL ol (l.getD i doneZ).thr) (l.getD i doneZ).res=some nx→ordP (opsL ol) tg n nx (l.take i ++ l.drop (i+1))=false
def noP2 (ol:List OpM) (tg:List ChanM) (n:Nat) (fr:List ChanM) (l:List DoneM) (i k:Nat):Prop:=pairB fr (opsL ol (l.getD i doneZ).thr) (l.getD i doneZ).res (opsL ol (l.getD k doneZ).thr) (l.getD k doneZ).res=true→ordP (opsL ol) tg n fr (l.take i ++ (l.drop (i+1)).take (k - (i+1)) ++ l.drop (k+1))=false
theorem ordP_no {ol:List OpM} {tg fr:List ChanM} {n:Nat} {l:List DoneM} (h0:0<l.length) (h5:l.length≤5) (h:∀i,i<l.length→noP1 ol tg n fr l i∧∀k,i<k→k<l.length→noP2 ol tg n fr l i k):ordP (opsL ol) tg (n+1) fr l=false:=by
 unfold ordP;rw [if_neg (by omega),if_neg (by omega),List.any_eq_false];intro i hi;have hi:=List.mem_range.1 hi;rw [Bool.not_eq_true,Bool.or_eq_false_iff];refine ⟨?_,?_⟩
 ·cases hm:modE fr (opsL ol (l.getD i doneZ).thr) (l.getD i doneZ).res with
  | none=>rfl
  | some nx=>exact (h i hi).1 nx hm
 ·rw [List.any_eq_false]
  intro k hk;have hk:=List.mem_range.1 hk;rw [Bool.not_eq_true,Bool.and_eq_false_iff];by_cases hik:i<k
  ·refine .inr ?_
   cases hp:pairB fr (opsL ol (l.getD i doneZ).thr) (l.getD i doneZ).res (opsL ol (l.getD k doneZ).thr) (l.getD k doneZ).res with
   | false=>rfl
   | true=>rw [(h i hi).2 k hik hk hp]; rfl
  ·exact .inl (by simpa using hik)
def OrdC (n:Nat) (l:List DoneM):Prop:=∀(v vo vl vt:Value) (fr tg:List ChanM) (ol:List OpM) (w:World),SlH w v fr→fr.length≤1000→(l.length≤5→∀c∈fr,c.buf.length+l.length≤900000)→SlOp w vo ol→(∀op∈ol,op.fine)→SlS w 6 vl (doneRows l)→(∀x∈l,0≤x.thr∧x.thr<(ol.length:Int))→SlH w vt tg→Calls Try.prog 33 #[v,vo,vl,vt] w fun e w'=>e=.returned (.bool (ordP (opsL ol) tg n fr l))∧Below w.heap.size w w'
theorem dRows_erase (l:List DoneM) (i:Nat):(doneRows l).take i ++ (doneRows l).drop (i+1)=doneRows (l.take i ++ l.drop (i+1)):=by
 simp [doneRows]
theorem dRows_two (l:List DoneM) (i k:Nat):(doneRows l).take i ++ (((doneRows l).drop (i+1)).take (k - (i+1)) ++ (doneRows l).drop (k+1))=doneRows (l.take i ++ (l.drop (i+1)).take (k - (i+1)) ++ l.drop (k+1)):=by
 simp [doneRows]
set_option maxRecDepth 100000 in
set_option maxHeartbeats 16000000 in
theorem ord_nil (n:Nat):OrdC n []:=by
 intro v vo vl vt fr tg ol w hv hfl hbf hvo hop hl hth ht;have e:ordP (opsL ol) tg n fr []=sameB fr tg:=by cases n <;> (unfold ordP; simp)
 rw [e];clear e;have TS:=Lib.hid fun w' (hb:Below w.heap.size w w')=>rSame_any v vt fr tg w' (hv.below hb) (ht.below hb);obtain ⟨a1,c1,rfl,-⟩:=hl.len;obtain ⟨a2,c2,rfl,-⟩:=hv.len;obtain ⟨a3,c3,rfl,-⟩:=ht.len;obtain ⟨rows,h1,h2,-⟩:=hvo;obtain ⟨a4,c4,rfl,-⟩:=h2.len;simp only [doneRows_length,List.length_nil];clear hv hfl hbf hop hl hth ht h1 h2;obtain ⟨q,hq⟩:∃q,sameB fr tg=q:=⟨_,rfl⟩;rw [hq] at TS ⊢;clear hq;go_enter Try.func33,Try.ntmps33;go_wp2_with fail;refine (TS.out _ (Below.refl _ _)).mono ?_; rintro e w1 ⟨rfl,hb⟩;have HB:=Lib.hid hb;clear hb TS;go_wp2;go_ret;exact ⟨rfl,HB.out⟩
set_option maxRecDepth 100000 in
set_option maxHeartbeats 16000000 in
theorem ord_long (n:Nat) (l:List DoneM) (h5:5<l.length):OrdC (n+1) l:=by
 intro v vo vl vt fr tg ol w hv hfl hbf hvo hop hl hth ht;have e:ordP (opsL ol) tg (n+1) fr l=true:=by unfold ordP; rw [if_neg (by omega),if_pos h5]
 rw [e];clear e;have hbd:=hl.1;rw [doneRows_length] at hbd;obtain ⟨a1,c1,rfl,-⟩:=hl.len;obtain ⟨a2,c2,rfl,-⟩:=hv.len;obtain ⟨a3,c3,rfl,-⟩:=ht.len;obtain ⟨rows,h1,h2,-⟩:=hvo;obtain ⟨a4,c4,rfl,-⟩:=h2.len;rw [doneRows_length];obtain ⟨m,hm⟩:∃m,l.length=m:=⟨_,rfl⟩;rw [hm] at h5 hbd ⊢;clear hv hfl hbf hop hl hth ht h1 h2 hm;have hm0:((m:Int) == 0)=false:=by rw [beq_eq_false_iff_ne]; omega
 have h5I:(5:Int)<(m:Int):=by omega
 go_enter Try.func33,Try.ntmps33;go_wp2;go_ret;exact ⟨rfl,Below.refl _ _⟩
set_option maxRecDepth 100000 in
set_option maxHeartbeats 16000000 in
theorem ord_step (n:Nat) (l:List DoneM) (hn:l.length≤n+1) (h0:0<l.length) (h5:l.length≤5) (ih:∀l':List DoneM,l'.length≤n→OrdC n l'):OrdC (n+1) l:=by
 intro v vo vl vt fr tg ol w hv hfl hbf hvo hop hl hth ht;have hbf:=hbf h5;have TA:=Lib.hid fun v' op r w' (hb:Below w.heap.size w w') (h:OpV w' v' op) (hf:op.fine)=>mApplyN_any v v' fr op r w' (hv.below hb) (by omega) (fun c hc=>by have:=hbf c hc; omega) h hf.ok;have TP:=Lib.hid fun va vb a x b y w' (hb:Below w.heap.size w w') (ha:OpV w' va a) (hb2:OpV w' vb b)=>rPair_any v va vb fr a x b y w' (hv.below hb) ha hb2;have TR1:=Lib.hid fun i nx v' vl' w' (hb:Below w.heap.size w w') (hi:i<l.length) (hm:modE fr (opsL ol (l.getD i doneZ).thr) (l.getD i doneZ).res=some nx) (hs:SlH w' v' nx) (hs2:SlS w' 6 vl' (doneRows (l.take i ++ l.drop (i+1))))=>
  ih (l.take i ++ l.drop (i+1)) (by simp; omega) v' vo vl' vt nx tg ol w' hs (by rw [(modE_bd (B:=900000 - l.length) hm (fun c hc=>by have:=hbf c hc; omega)).1]; exact hfl) (fun _ c hc=>by have:=(modE_bd (B:=900000 - l.length) hm (fun c hc=>by have:=hbf c hc; omega)).2 c hc; simp; omega) (hvo.below hb) hop hs2 (fun x hx=>hth x (by rcases List.mem_append.1 hx with hx | hx; exact List.mem_of_mem_take hx; exact List.mem_of_mem_drop hx)) (ht.below hb)
 have TR2:=Lib.hid fun i k vl' w' (hb:Below w.heap.size w w') (hik:i<k) (hk:k<l.length) (hs2:SlS w' 6 vl' (doneRows (l.take i ++ (l.drop (i+1)).take (k - (i+1)) ++ l.drop (k+1))))=>
  ih (l.take i ++ (l.drop (i+1)).take (k - (i+1)) ++ l.drop (k+1)) (by simp; omega) v vo vl' vt fr tg ol w' (hv.below hb) hfl (fun _ c hc=>by have:=hbf c hc; simp; omega) (hvo.below hb) hop hs2 (fun x hx=>hth x (by
   rcases List.mem_append.1 hx with hx | hx
   ·rcases List.mem_append.1 hx with hx | hx
    ·exact List.mem_of_mem_take hx
    ·exact List.mem_of_mem_drop (List.mem_of_mem_take hx)
   ·exact List.mem_of_mem_drop hx)) (ht.below hb)
 obtain ⟨mb,hmb⟩:∃z,ordP (opsL ol) tg (n+1) fr l=z:=⟨_,rfl⟩;rw [hmb];have HY1:Hid (∀i nx,i<l.length→modE fr (opsL ol (l.getD i doneZ).thr) (l.getD i doneZ).res=some nx→ordP (opsL ol) tg n nx (l.take i ++ l.drop (i+1))=true→mb=true):=fun i nx hi h h2=>hmb.symm.trans (ordP_one hi h h2);have HY2:Hid (∀i k,i<k→k<l.length→pairB fr (opsL ol (l.getD i doneZ).thr) (l.getD i doneZ).res (opsL ol (l.getD k doneZ).thr) (l.getD k doneZ).res=true→ordP (opsL ol) tg n fr (l.take i ++ (l.drop (i+1)).take (k - (i+1)) ++ l.drop (k+1))=true→mb=true):=fun i k hik hk h h2=>hmb.symm.trans (ordP_two hik hk h h2);have HNO:Hid ((∀i,i<l.length→noP1 ol tg n fr l i∧∀k,i<k→k<l.length→noP2 ol tg n fr l i k)→mb=false):=fun h=>hmb.symm.trans (ordP_no h0 h5 h);have HTH:Hid (∀i,i<l.length→∃t:Nat,(l.getD i doneZ).thr=t∧t<ol.length):=fun i hi=>by
  have e:l.getD i doneZ=l[i]:=getD_lt hi;obtain ⟨h1,h2⟩:=hth _ (List.getElem_mem hi);rw [e];exact ⟨l[i].thr.toNat,by omega,by omega⟩
 have hop0:0<ol.length:=by
  obtain ⟨t,-,h⟩:=HTH.out 0 h0;omega
 obtain ⟨bo,oo,co,rfl,hbo,kO⟩:=hvo.at hop0 hop;have KO:=Lib.hid kO;obtain ⟨b,off,cap,rfl,hcap,hbl,kD⟩:=doneAt hl h0;have KD:=Lib.hid kD;have HL:=Lib.hid hl;obtain ⟨a2,c2,rfl,-⟩:=hv.len;obtain ⟨a7,c7,rfl,-⟩:=ht.len;obtain ⟨m,hm⟩:∃m,l.length=m:=⟨_,rfl⟩;obtain ⟨no,hno⟩:∃no,ol.length=no:=⟨_,rfl⟩;obtain ⟨nf,hnf⟩:∃nf,fr.length=nf:=⟨_,rfl⟩;obtain ⟨nt,hnt⟩:∃nt,tg.length=nt:=⟨_,rfl⟩;have HM:=Lib.hid hm;rw [hm] at h0 h5 hn hcap;simp only [hm,hno,hnf,hnt] at TA TP TR1 TR2 HY1 HY2 HNO HTH KO KD HL;rw [hm,hno,hnf,hnt];have hm0:((m:Int) == 0)=false:=by rw [beq_eq_false_iff_ne]; omega
 have h5I:¬(5:Int)<(m:Int):=by omega
 clear hv hfl hbf hop hl hth ht hvo kO kD hop0 ih hmb hm hno hnf hnt;go_enter Try.func33,Try.ntmps33;go_wp2_with fail;go_loopw [26] (fun u26 wr=>∃i:Nat,u26=.int .i64 i∧i≤m∧Hid (∀j,j<i→noP1 ol tg n fr l j∧∀k,j<k→k<m→noP2 ol tg n fr l j k)∧Hid (Below w.heap.size w wr)) (fun u26 _=>m - (intOf u26).toNat)
 case atStart=>exact ⟨0,rfl,by omega,fun j hj=>by omega,Below.refl _ _⟩
 case round=>
  obtain ⟨i,rfl,hi,HNI,HBi⟩:=hrel;obtain ⟨wo,rfl⟩:∃wo:World,wo=wr:=⟨_,rfl⟩;by_cases hlt:i<m
  ·have hltI:(i:Int)<(m:Int):=by omega
   obtain ⟨t,ht1,ht2⟩:=HTH.out i hlt;obtain ⟨⟨et,⟨rk,rc,rv,ro,rn⟩⟩,he⟩:∃e,l.getD i doneZ=e:=⟨_,rfl⟩;rw [he] at ht1;dsimp only at ht1;subst ht1;have HE:=Lib.hid he;clear he;obtain ⟨⟨kd,md,oc,ov,odl,cs,ds⟩,hx⟩:∃x,ol.getD t opZ=x:=⟨_,rfl⟩;have HOX:Hid (opsL ol (t:Int)=⟨kd,md,oc,ov,odl,cs,ds⟩):=by show ol.getD ((t:Int)).toNat opZ=_; rw [Int.toNat_natCast]; exact hx
   obtain ⟨hfx,a3,c3,a4,c4,kOx⟩:=KO.out t ht2 _ hx;dsimp only at kOx;have HFX:=Lib.hid hfx;have KOX:=Lib.hid kOx;clear hx hfx kOx;have htn:¬((t:Int)<0):=by omega
   have htI:¬((no:Int)≤(t:Int)):=by omega
   have htJ:(t:Int)<(no:Int):=by omega
   have hw1:IntKind.i64.wrap ((i:Int)+1)=(i:Int)+1:=(i64_small _ (by omega) (by omega)).symm;have hi1:(i:Int)+1≤(m:Int):=by omega
   have hi0:0≤(i:Int)+1:=by omega
   have hik:i≤cap:=by omega
   have hin:i≤m:=by omega
   have hik1:i+1≤cap:=by omega
   have hin1:i+1≤m:=by omega
   have hI1:((i:Int)+1).toNat=i+1:=by omega
   obtain ⟨pa,hpa⟩:∃z:Option Addr,(if cap=i+1 then some ⟨b,off,none⟩ else some ⟨b,off+(i+1) * 6,none⟩)=z:=⟨_,rfl⟩;have HPA:=Lib.hid hpa;clear hpa;have HBw:=HBi;obtain ⟨d0,d1,d2,d3,d4,d5⟩:=KD.out i wo hlt HBi.out _ HE.out;dsimp only at d0 d1 d2 d3 d4 d5;go_upto_region 10 with fail
   clear d0 d1 d2 d3 d4 d5;go_cut [10] (fun s10 wx=>∃(p:Option Addr) (q r:Nat),s10=.slice p q r∧Hid (SlS wx 6 (.slice p q r) (doneRows (l.take i ++ l.drop (i+1))))∧Hid (Below w.heap.size w wx))
   case first=>
    refine wp_region_until (fun _:World=>True) 8 10 (by kernel_rfl) rfl ?_;obtain ⟨u0,hu0,hU0⟩:=drew_pack wo;rw [hu0];clear hu0;have HX0:Hid (Below wo.heap.size wo u0):=hU0;have HU0:=Lib.hid (below_then HBw.out HX0.out);clear hU0;have hSU0:(fun _:World=>True) (u0):=trivial;apply tkW 0 (fun _=>hSU0) rfl (by kernel_rfl) (fun _ _ _ h=>h) rfl;intro w;(go_simp<;>with_reducible rfl);simp only [J0,J1,J2,J3,J4];apply tkW 1 (fun _=>hSU0) rfl (by kernel_rfl) (fun _ _ _ h=>h) rfl;intro w;(go_simp<;>with_reducible rfl);simp only [J0,J1,J2,J3,J4];apply tkW 2 (fun _=>hSU0) rfl (by kernel_rfl) (fun _ _ _ h=>h) rfl;intro w;(go_simp<;>with_reducible rfl);simp only [J0,J1,J2,J3,J4];apply tkW 4 (fun _=>hSU0) rfl (by kernel_rfl) (fun _ _ _ h=>h) rfl;intro w;(go_simp<;>with_reducible rfl);simp only [J0,J1,J2,J3,J4];apply tkW 5 (fun _=>hSU0) rfl (by kernel_rfl) (fun _ _ _ h=>h) rfl;intro w;(go_simp<;>with_reducible rfl);simp only [J0,J1,J2,J3,J4];apply tkW 6 (fun _=>hSU0) rfl (by kernel_rfl) (fun _ _ _ h=>h) rfl;intro w;(go_simp<;>with_reducible rfl);simp only [J0,J1,J2,J3,J4];apply tkV 7 hSU0 rfl (by kernel_rfl) (fun _ _ _ h=>h) rfl;intro w hSw;(go_simp<;>with_reducible rfl);simp only [J0,J1,J2,J3,J4];refine consU 3 rfl (by kernel_rfl) rfl fun K hK=>?_;refine step_app_ss (w:=u0) 37 (by kernel_rfl) Try.info_done rfl (by decide) (by decide) (by rfl) _ _ (by rfl) (v0:=.slice none 0 0) (base:=wo.heap.size) (by rfl) (by rfl) (OwnS.nil _ _ _ _) ((HL.out.below HU0.out).take i (by have hm:=HM.out; rw [doneRows_length]; omega)) (by have hm:=HM.out; rw [List.length_take,doneRows_length]; simp; omega) (by have:=HX0.out.size; omega) ?_;intro v1 u1 ho1 hg1 hn1;rw [List.nil_append] at ho1;obtain ⟨p1,n1,k1,rfl⟩:=own_sh ho1;have HO1:=Lib.hid ho1;have HX1:Hid (Below wo.heap.size wo u1):=HX0.out.grown hg1 (by have:=HX0.out.size; omega) (fun k hk=>by cases hk);have HU1:=Lib.hid (below_then HBw.out HX1.out);clear ho1 hg1 hn1;refine hK.out _ _ ?_ fun hSU1=>?_;exact trivial;clear hK K hSU0;(try simp only [J0,J1,J2,J3,J4])
    refine freeU 8 rfl (by kernel_rfl) rfl (by kernel_rfl) fun K hK=>?_;have HSD:=Lib.hid ((HL.out.below HU1.out).drop (i+1) (by have hm:=HM.out; rw [doneRows_length]; omega) HPA.out.symm);refine step_app_ss (w:=u1) 37 (by kernel_rfl) Try.info_done rfl (by decide) (by decide) (by rfl) _ _ (by rfl) (v0:=.slice p1 n1 k1) (base:=wo.heap.size) (by rfl) (by rw [← HPA.out]; rfl) HO1.out HSD.out (by have hm:=HM.out; simp only [List.length_take,List.length_drop,doneRows_length]; omega) (by have:=HX1.out.size; omega) ?_;intro v2 u2 ho2 hg2 hn2;obtain ⟨p2,n2,k2,rfl⟩:=own_sh ho2;have HO2:=Lib.hid ho2;have HX2:Hid (Below wo.heap.size wo u2):=HX1.out.grown hg2 (by have:=HX1.out.size; omega) (fun k hk=>(HO1.out.lt k hk).1);have HU2:=Lib.hid (below_then HBw.out HX2.out);clear ho2 hg2 hn2 HSD HO1;refine hK.out _ _ ?_;clear hK K hSU1;(try simp only [J0,J1,J2,J3,J4]);apply tkW 9 (past_k (by kernel_rfl)) rfl (by kernel_rfl) (fun _ _ _ h=>h) rfl;intro w;(go_simp<;>with_reducible rfl);simp only [J0,J1,J2,J3,J4];refine wpAnyU_done (by kernel_rfl) ?_ _;have HS2:=Lib.hid (HO2.out.sls (by have hm:=HM.out; simp only [List.length_append,List.length_take,List.length_drop,doneRows_length]; omega));rw [dRows_erase] at HS2;try rw [HPA.out]
    go_wp2_with fail;go_meet;exact ⟨p2,n2,k2,rfl,HS2,HU2⟩
   obtain ⟨p9,q9,r9,rfl,HS10,HBq⟩:=hcut;obtain ⟨wq,rfl⟩:∃wq:World,wq=wc:=⟨_,rfl⟩;clear HBw HBi;go_at_K;go_step;go_step;go_cut [] (fun wx=>Hid (noP1 ol tg n fr l i)∧Hid (Below w.heap.size w wx))
   case first=>
    have HBw:=HBq;have TA1:Hid (∀w',Below wq.heap.size wq w'→Calls Try.prog 63 #[(.slice a2 nf c2),.agg #[.int .i64 kd,.int .i64 md,.int .i64 oc,.int .u64 ov,.int .i64 odl,.slice a3 cs.length c3,.slice a4 ds.length c4],.agg #[.int .i64 rk,.int .i64 rc,.int .u64 rv,.bool ro,.int .i64 rn]] w' fun e w2=>DoN (modE fr ⟨kd,md,oc,ov,odl,cs,ds⟩ ⟨rk,rc,rv,ro,rn⟩) w' e w2):=fun w' hb=>TA.out _ ⟨kd,md,oc,ov,odl,cs,ds⟩ ⟨rk,rc,rv,ro,rn⟩ w' (below_then HBq.out hb) (KOX.out w' (below_then HBq.out hb)).2 HFX.out;have KS:Hid (∀w',Below w.heap.size w w'→(fun w':World=>w'.cell? ⟨b,off+i * 6,none⟩=some (.int .i64 (t:Int))∧w'.cell? ⟨b,off+i * 6+1,none⟩=some (.int .i64 rk)∧w'.cell? ⟨b,off+i * 6+2,none⟩=some (.int .i64 rc)∧w'.cell? ⟨b,off+i * 6+3,none⟩=some (.int .u64 rv)∧w'.cell? ⟨b,off+i * 6+4,none⟩=some (.bool ro)∧w'.cell? ⟨b,off+i * 6+5,none⟩=some (.int .i64 rn)∧w'.cell? ⟨bo,oo+t * 7,none⟩=some (.int .i64 kd)∧w'.cell? ⟨bo,oo+t * 7+1,none⟩=some (.int .i64 md)∧w'.cell? ⟨bo,oo+t * 7+2,none⟩=some (.int .i64 oc)∧w'.cell? ⟨bo,oo+t * 7+3,none⟩=some (.int .u64 ov)∧w'.cell? ⟨bo,oo+t * 7+4,none⟩=some (.int .i64 odl)∧w'.cell? ⟨bo,oo+t * 7+5,none⟩=some (.slice a3 cs.length c3)∧w'.cell? ⟨bo,oo+t * 7+6,none⟩=some (.slice a4 ds.length c4)) w'):=fun w' hb=>by
     obtain ⟨d0,d1,d2,d3,d4,d5⟩:=KD.out i w' hlt hb _ HE.out;obtain ⟨e0,e1,e2,e3,e4,e5,e6⟩:=(KOX.out w' hb).1;exact ⟨d0,d1,d2,d3,d4,d5,e0,e1,e2,e3,e4,e5,e6⟩
    go_upto_region 11 with fail
    refine untilK KS 14 20 (by kernel_rfl) rfl ?_;obtain ⟨u0,hu0,hU0⟩:=drew_pack wq;rw [hu0];clear hu0;have HX0:Hid (Below wq.heap.size wq u0):=hU0;have HU0:=Lib.hid (below_then HBw.out HX0.out);clear hU0;have hSU0:=KS.out _ HU0.out;apply tkV 0 hSU0 rfl (by kernel_rfl) (fun _ _ _ h=>h) rfl;intro w hSw;(go_simp<;>with_reducible rfl);simp only [J0,J1,J2,J3,J4];apply tkW 1 (fun _=>hSU0) rfl (by kernel_rfl) (fun _ _ _ h=>h) rfl;intro w;(go_simp<;>with_reducible rfl);simp only [J0,J1,J2,J3,J4];apply tkW 2 (fun _=>hSU0) rfl (by kernel_rfl) (fun _ _ _ h=>h) rfl;intro w;(go_simp<;>with_reducible rfl);simp only [J0,J1,J2,J3,J4];apply tkW 3 (fun _=>hSU0) rfl (by kernel_rfl) (fun _ _ _ h=>h) rfl;intro w;(go_simp<;>with_reducible rfl);simp only [J0,J1,J2,J3,J4];apply tkW 4 (fun _=>hSU0) rfl (by kernel_rfl) (fun _ _ _ h=>h) rfl;intro w;(go_simp<;>with_reducible rfl);simp only [J0,J1,J2,J3,J4];apply tkW 5 (fun _=>hSU0) rfl (by kernel_rfl) (fun _ _ _ h=>h) rfl;intro w;(go_simp<;>with_reducible rfl);simp only [J0,J1,J2,J3,J4];apply tkW 9 (fun _=>hSU0) rfl (by kernel_rfl) (fun _ _ _ h=>h) rfl;intro w;(go_simp<;>with_reducible rfl);simp only [J0,J1,J2,J3,J4];apply tkW 10 (fun _=>hSU0) rfl (by kernel_rfl) (fun _ _ _ h=>h) rfl;intro w;(go_simp<;>with_reducible rfl);simp only [J0,J1,J2,J3,J4];apply tkW 11 (fun _=>hSU0) rfl (by kernel_rfl) (fun _ _ _ h=>h) rfl;intro w;(go_simp<;>with_reducible rfl);simp only [J0,J1,J2,J3,J4];apply tkW 12 (fun _=>hSU0) rfl (by kernel_rfl) (fun _ _ _ h=>h) rfl;intro w;(go_simp<;>with_reducible rfl);simp only [J0,J1,J2,J3,J4];apply tkV 13 hSU0 rfl (by kernel_rfl) (fun _ _ _ h=>h) rfl;intro w hSw;(go_simp<;>with_reducible rfl);simp only [J0,J1,J2,J3,J4];refine consU 6 rfl (by kernel_rfl) rfl fun K hK=>?_;go_simp;refine hK.out _ _ ?_ fun hSU1=>?_;exact hSU0;clear hK K hSU0;(try simp only [J0,J1,J2,J3,J4]);apply tkW 7 (fun _=>hSU1) rfl (by kernel_rfl) (fun _ _ _ h=>h) rfl;intro w;(go_simp<;>with_reducible rfl);simp only [J0,J1,J2,J3,J4];apply tkV 8 hSU1 rfl (by kernel_rfl) (fun _ _ _ h=>h) rfl;intro w hSw;(go_simp<;>with_reducible rfl);simp only [J0,J1,J2,J3,J4]
    refine freeU 14 rfl (by kernel_rfl) rfl (by kernel_rfl) fun K hK=>?_;go_simp;go_at_call 63;refine (TA1.out _ HX0.out).mono ?_;rintro e u1 ⟨va,ok,rfl,hq,hbq⟩;have HQ:=Lib.hid hq;have HXq:=Lib.hid hbq;have HU1:=Lib.hid (below_then HU0.out hbq);clear hq hbq;refine hK.out _ _ ?_;clear hK K hSU1;(try simp only [J0,J1,J2,J3,J4]);apply tkW 15 (past_k (by kernel_rfl)) rfl (by kernel_rfl) (fun _ _ _ h=>h) rfl;intro w;(go_simp<;>with_reducible rfl);simp only [J0,J1,J2,J3,J4];apply tkW 16 (past_k (by kernel_rfl)) rfl (by kernel_rfl) (fun _ _ _ h=>h) rfl;intro w;(go_simp<;>with_reducible rfl);simp only [J0,J1,J2,J3,J4];apply tkW 17 (past_k (by kernel_rfl)) rfl (by kernel_rfl) (fun _ _ _ h=>h) rfl;intro w;(go_simp<;>with_reducible rfl);simp only [J0,J1,J2,J3,J4];apply tkW 18 (past_k (by kernel_rfl)) rfl (by kernel_rfl) (fun _ _ _ h=>h) rfl;intro w;(go_simp<;>with_reducible rfl);simp only [J0,J1,J2,J3,J4];apply tkW 19 (past_k (by kernel_rfl)) rfl (by kernel_rfl) (fun _ _ _ h=>h) rfl;intro w;(go_simp<;>with_reducible rfl);simp only [J0,J1,J2,J3,J4];refine wpAnyU_done (by kernel_rfl) ?_ _;rcases HQ.out with ⟨nx,hm,rfl,hs⟩ | ⟨hm,rfl,rfl⟩
    ·have TR:=Lib.hid (TR1.out i nx _ _ u1 HU1.out hlt (by rw [HE.out]; dsimp only; rw [HOX.out]; exact hm) hs (HS10.out.below (below_then HX0.out (HXq.out))))
     obtain ⟨a9,c9,rfl,-⟩:=hs.len;obtain ⟨n9,hn9⟩:∃z,nx.length=z:=⟨_,rfl⟩;rw [hn9] at TR ⊢;obtain ⟨q,hq⟩:∃q,ordP (opsL ol) tg n nx (l.take i ++ l.drop (i+1))=q:=⟨_,rfl⟩;rw [hq] at TR;have HQ2:=Lib.hid hq;have HM:=Lib.hid hm;clear hq hm hs hn9 HQ;go_wp2_with fail;refine TR.out.mono ?_; rintro e w3 ⟨rfl,hb3⟩;have HU3:=Lib.hid (below_then HU1.out hb3);clear hb3 TR;cases q with
     | false=>
      go_wp2_with fail;go_meet;refine ⟨fun ny hny=>?_,HU3⟩;rw [HE.out] at hny;dsimp only at hny;rw [HOX.out,HM.out] at hny;cases hny;exact HQ2.out
     | true=>
      have hr:mb=true:=HY1.out i nx hlt (by rw [HE.out]; dsimp only; rw [HOX.out]; exact HM.out) HQ2.out;subst hr;go_wp2;go_ret;exact ⟨rfl,HU3.out⟩
    ·have HM:=Lib.hid hm
     clear hm HQ;go_wp2_with fail;go_meet;refine ⟨fun ny hny=>?_,HU1⟩;rw [HE.out] at hny;dsimp only at hny;rw [HOX.out,HM.out] at hny;cases hny
   obtain ⟨HN1,HBy⟩:=hcut;obtain ⟨wz,rfl⟩:∃wz:World,wz=wc:=⟨_,rfl⟩;clear HS10 HBq;go_wp2_with fail;go_loopw [13] (fun u13 wr=>∃k:Nat,u13=.int .i64 k∧i+1≤k∧k≤m∧Hid (∀j,i<j→j<k→noP2 ol tg n fr l i j)∧Hid (Below w.heap.size w wr)) (fun u13 _=>m - (intOf u13).toNat)
   case atStart=>exact ⟨i+1,by go_num,by omega,by omega,fun j h1 h2=>by omega,HBy⟩
   case round=>
    clear HBy;obtain ⟨k,rfl,hk1,hk,HNK,HBk⟩:=hrel;obtain ⟨wp,rfl⟩:∃wp:World,wp=wr:=⟨_,rfl⟩;by_cases hlk:k<m
    ·have hlkI:(k:Int)<(m:Int):=by omega
     have hik9:i<k:=by omega
     obtain ⟨t2,ht21,ht22⟩:=HTH.out k hlk;obtain ⟨⟨et2,⟨sk,sc,sv,so,sn⟩⟩,he2⟩:∃e,l.getD k doneZ=e:=⟨_,rfl⟩;rw [he2] at ht21;dsimp only at ht21;subst ht21;have HE2:=Lib.hid he2;clear he2;obtain ⟨⟨kd2,md2,oc2,ov2,odl2,cs2,ds2⟩,hx2⟩:∃x,ol.getD t2 opZ=x:=⟨_,rfl⟩;have HOX2:Hid (opsL ol (t2:Int)=⟨kd2,md2,oc2,ov2,odl2,cs2,ds2⟩):=by show ol.getD ((t2:Int)).toNat opZ=_; rw [Int.toNat_natCast]; exact hx2
     obtain ⟨-,a5,c5,a6,c6,kOx2⟩:=KO.out t2 ht22 _ hx2;dsimp only at kOx2;have KOX2:=Lib.hid kOx2;clear hx2 kOx2;have htn2:¬((t2:Int)<0):=by omega
     have htI2:¬((no:Int)≤(t2:Int)):=by omega
     have htJ2:(t2:Int)<(no:Int):=by omega
     have hwk:IntKind.i64.wrap ((k:Int)+1)=(k:Int)+1:=(i64_small _ (by omega) (by omega)).symm;obtain ⟨q,hq⟩:∃q,pairB fr ⟨kd,md,oc,ov,odl,cs,ds⟩ ⟨rk,rc,rv,ro,rn⟩ ⟨kd2,md2,oc2,ov2,odl2,cs2,ds2⟩ ⟨sk,sc,sv,so,sn⟩=q:=⟨_,rfl⟩;have T2:Hid (∀w',Below wp.heap.size wp w'→Calls Try.prog 64 #[(.slice a2 nf c2),.agg #[.int .i64 kd,.int .i64 md,.int .i64 oc,.int .u64 ov,.int .i64 odl,.slice a3 cs.length c3,.slice a4 ds.length c4],.agg #[.int .i64 rk,.int .i64 rc,.int .u64 rv,.bool ro,.int .i64 rn],.agg #[.int .i64 kd2,.int .i64 md2,.int .i64 oc2,.int .u64 ov2,.int .i64 odl2,.slice a5 cs2.length c5,.slice a6 ds2.length c6],.agg #[.int .i64 sk,.int .i64 sc,.int .u64 sv,.bool so,.int .i64 sn]] w' fun e w2=>e=.returned (.bool q)∧Below w'.heap.size w' w2):=fun w' hb=>by
      have:=TP.out _ _ ⟨kd,md,oc,ov,odl,cs,ds⟩ ⟨rk,rc,rv,ro,rn⟩ ⟨kd2,md2,oc2,ov2,odl2,cs2,ds2⟩ ⟨sk,sc,sv,so,sn⟩ w' (below_then HBk.out hb) (KOX.out w' (below_then HBk.out hb)).2 (KOX2.out w' (below_then HBk.out hb)).2;rw [hq] at this;exact this
     have HPQ:=Lib.hid hq;clear hq;have hbp:b<wp.heap.size:=by have:=HBk.out.size; omega
     have hbop:bo<wp.heap.size:=by have:=HBk.out.size; omega
     obtain ⟨d0,d1,d2,d3,d4,d5⟩:=KD.out i wp hlt HBk.out _ HE.out;obtain ⟨e0,e1,e2,e3,e4,e5,e6⟩:=(KOX.out wp HBk.out).1;obtain ⟨f0,f1,f2,f3,f4,f5⟩:=KD.out k wp hlk HBk.out _ HE2.out;obtain ⟨g0,g1,g2,g3,g4,g5,g6⟩:=(KOX2.out wp HBk.out).1;dsimp only at d0 d1 d2 d3 d4 d5 f0 f1 f2 f3 f4 f5;cases q with
     | false=>
      go_upto_region 17 with fail
      have Xd0:=ext_cell b (off+i * 6) hbp _ d0;have Xd1:=ext_cell b (off+i * 6+1) hbp _ d1;have Xd2:=ext_cell b (off+i * 6+2) hbp _ d2;have Xd3:=ext_cell b (off+i * 6+3) hbp _ d3;have Xd4:=ext_cell b (off+i * 6+4) hbp _ d4;have Xd5:=ext_cell b (off+i * 6+5) hbp _ d5;have Xe0:=ext_cell bo (oo+t * 7) hbop _ e0;have Xe1:=ext_cell bo (oo+t * 7+1) hbop _ e1;have Xe2:=ext_cell bo (oo+t * 7+2) hbop _ e2;have Xe3:=ext_cell bo (oo+t * 7+3) hbop _ e3;have Xe4:=ext_cell bo (oo+t * 7+4) hbop _ e4;have Xe5:=ext_cell bo (oo+t * 7+5) hbop _ e5;have Xe6:=ext_cell bo (oo+t * 7+6) hbop _ e6;have Xf0:=ext_cell b (off+k * 6) hbp _ f0;have Xf1:=ext_cell b (off+k * 6+1) hbp _ f1;have Xf2:=ext_cell b (off+k * 6+2) hbp _ f2;have Xf3:=ext_cell b (off+k * 6+3) hbp _ f3;have Xf4:=ext_cell b (off+k * 6+4) hbp _ f4;have Xf5:=ext_cell b (off+k * 6+5) hbp _ f5;have Xg0:=ext_cell bo (oo+t2 * 7) hbop _ g0;have Xg1:=ext_cell bo (oo+t2 * 7+1) hbop _ g1;have Xg2:=ext_cell bo (oo+t2 * 7+2) hbop _ g2;have Xg3:=ext_cell bo (oo+t2 * 7+3) hbop _ g3;have Xg4:=ext_cell bo (oo+t2 * 7+4) hbop _ g4;have Xg5:=ext_cell bo (oo+t2 * 7+5) hbop _ g5;have Xg6:=ext_cell bo (oo+t2 * 7+6) hbop _ g6;clear d0 d1 d2 d3 d4 d5 e0 e1 e2 e3 e4 e5 e6 f0 f1 f2 f3 f4 f5 g0 g1 g2 g3 g4 g5 g6;refine wp_region_ext wp (by kernel_rfl) (by kernel_rfl) (Below.refl _ _) ?_
      repeat (go_big_quiet_step (first | (go_at_call 64; with_reducible exact calls_ext (T2.out _ (Ext.below _)))))
      refine wpQuiet_nil ?_;intro _ hw';obtain ⟨n9,rfl⟩:=hw';have HB9:=Lib.hid (below_then HBk.out n9.below);generalize n9.wd=w9 at *;clear T2 Xd0 Xd1 Xd2 Xd3 Xd4 Xd5 Xe0 Xe1 Xe2 Xe3 Xe4 Xe5 Xe6 Xf0 Xf1 Xf2 Xf3 Xf4 Xf5 Xg0 Xg1 Xg2 Xg3 Xg4 Xg5 Xg6;go_wp2_with fail;go_roundw
      case rel=>exact ⟨k+1,by go_num,by omega,by omega,fun j h1 h2=>by
       by_cases e:j=k
       ·subst e
        intro h;rw [HE.out,HE2.out] at h;dsimp only at h;rw [HOX.out,HOX2.out,HPQ.out] at h;cases h
       ·exact HNK.out j h1 (by omega),HB9⟩
      case measure=>simp [intOf]; omega
     | true=>
      go_upto_region 17 with fail
      have Xd0:=ext_cell b (off+i * 6) hbp _ d0;have Xd1:=ext_cell b (off+i * 6+1) hbp _ d1;have Xd2:=ext_cell b (off+i * 6+2) hbp _ d2;have Xd3:=ext_cell b (off+i * 6+3) hbp _ d3;have Xd4:=ext_cell b (off+i * 6+4) hbp _ d4;have Xd5:=ext_cell b (off+i * 6+5) hbp _ d5;have Xe0:=ext_cell bo (oo+t * 7) hbop _ e0;have Xe1:=ext_cell bo (oo+t * 7+1) hbop _ e1;have Xe2:=ext_cell bo (oo+t * 7+2) hbop _ e2;have Xe3:=ext_cell bo (oo+t * 7+3) hbop _ e3;have Xe4:=ext_cell bo (oo+t * 7+4) hbop _ e4;have Xe5:=ext_cell bo (oo+t * 7+5) hbop _ e5;have Xe6:=ext_cell bo (oo+t * 7+6) hbop _ e6;have Xf0:=ext_cell b (off+k * 6) hbp _ f0;have Xf1:=ext_cell b (off+k * 6+1) hbp _ f1;have Xf2:=ext_cell b (off+k * 6+2) hbp _ f2;have Xf3:=ext_cell b (off+k * 6+3) hbp _ f3;have Xf4:=ext_cell b (off+k * 6+4) hbp _ f4;have Xf5:=ext_cell b (off+k * 6+5) hbp _ f5;have Xg0:=ext_cell bo (oo+t2 * 7) hbop _ g0;have Xg1:=ext_cell bo (oo+t2 * 7+1) hbop _ g1;have Xg2:=ext_cell bo (oo+t2 * 7+2) hbop _ g2;have Xg3:=ext_cell bo (oo+t2 * 7+3) hbop _ g3;have Xg4:=ext_cell bo (oo+t2 * 7+4) hbop _ g4;have Xg5:=ext_cell bo (oo+t2 * 7+5) hbop _ g5;have Xg6:=ext_cell bo (oo+t2 * 7+6) hbop _ g6;clear d0 d1 d2 d3 d4 d5 e0 e1 e2 e3 e4 e5 e6 f0 f1 f2 f3 f4 f5 g0 g1 g2 g3 g4 g5 g6;refine wp_region_ext wp (by kernel_rfl) (by kernel_rfl) (Below.refl _ _) ?_
      repeat (go_big_quiet_step (first | (go_at_call 64; with_reducible exact calls_ext (T2.out _ (Ext.below _)))))
      refine wpQuiet_nil ?_;intro _ hw';obtain ⟨n9,rfl⟩:=hw';have HBw:=Lib.hid (below_then HBk.out n9.below);generalize n9.wd=wy at *;clear T2 Xd0 Xd1 Xd2 Xd3 Xd4 Xd5 Xe0 Xe1 Xe2 Xe3 Xe4 Xe5 Xe6 Xf0 Xf1 Xf2 Xf3 Xf4 Xf5 Xg0 Xg1 Xg2 Xg3 Xg4 Xg5 Xg6;have hik:i<k:=by omega
      have hkI1:(i:Int)+1≤(k:Int):=by omega
      have hk1I:(k:Int)+1≤(m:Int):=by omega
      have hk0:0≤(k:Int)+1:=by omega
      have hkc:k≤cap:=by omega
      have hkc1:k+1≤cap:=by omega
      have hkm1:k+1≤m:=by omega
      have hK1:((k:Int)+1).toNat=k+1:=by omega
      go_upto_region 18 with fail
      refine wp_region_until (fun _:World=>True) 9 11 (by kernel_rfl) rfl ?_;obtain ⟨u0,hu0,hU0⟩:=drew_pack wy;rw [hu0];clear hu0;have HX0:Hid (Below wy.heap.size wy u0):=hU0;have HU0:=Lib.hid (below_then HBw.out HX0.out);clear hU0;have hSU0:(fun _:World=>True) (u0):=trivial;apply tkW 0 (fun _=>hSU0) rfl (by kernel_rfl) (fun _ _ _ h=>h) rfl;intro w;(go_simp<;>with_reducible rfl);simp only [J0,J1,J2,J3,J4];apply tkW 1 (fun _=>hSU0) rfl (by kernel_rfl) (fun _ _ _ h=>h) rfl;intro w;(go_simp<;>with_reducible rfl);simp only [J0,J1,J2,J3,J4];apply tkW 2 (fun _=>hSU0) rfl (by kernel_rfl) (fun _ _ _ h=>h) rfl;intro w;(go_simp<;>with_reducible rfl);simp only [J0,J1,J2,J3,J4];apply tkW 4 (fun _=>hSU0) rfl (by kernel_rfl) (fun _ _ _ h=>h) rfl;intro w;(go_simp<;>with_reducible rfl);simp only [J0,J1,J2,J3,J4];apply tkW 5 (fun _=>hSU0) rfl (by kernel_rfl) (fun _ _ _ h=>h) rfl;intro w;(go_simp<;>with_reducible rfl);simp only [J0,J1,J2,J3,J4];apply tkW 6 (fun _=>hSU0) rfl (by kernel_rfl) (fun _ _ _ h=>h) rfl;intro w;(go_simp<;>with_reducible rfl);simp only [J0,J1,J2,J3,J4];apply tkW 7 (fun _=>hSU0) rfl (by kernel_rfl) (fun _ _ _ h=>h) rfl;intro w;(go_simp<;>with_reducible rfl);simp only [J0,J1,J2,J3,J4];apply tkV 8 hSU0 rfl (by kernel_rfl) (fun _ _ _ h=>h) rfl;intro w hSw;(go_simp<;>with_reducible rfl);simp only [J0,J1,J2,J3,J4];refine consU 3 rfl (by kernel_rfl) rfl fun K hK=>?_;refine step_app_ss (w:=u0) 37 (by kernel_rfl) Try.info_done rfl (by decide) (by decide) (by rfl) _ _ (by rfl) (v0:=.slice none 0 0) (base:=wy.heap.size) (by rfl) (by rfl) (OwnS.nil _ _ _ _) ((HL.out.below HU0.out).take i (by have hm:=HM.out; rw [doneRows_length]; omega)) (by have hm:=HM.out; rw [List.length_take,doneRows_length]; simp; omega) (by have:=HX0.out.size; omega) ?_;intro v1 u1 ho1 hg1 hn1;rw [List.nil_append] at ho1;obtain ⟨p1,n1,k1,rfl⟩:=own_sh ho1;have HO1:=Lib.hid ho1;have HX1:Hid (Below wy.heap.size wy u1):=HX0.out.grown hg1 (by have:=HX0.out.size; omega) (fun k hk=>by cases hk);have HU1:=Lib.hid (below_then HBw.out HX1.out)
      clear ho1 hg1 hn1;refine hK.out _ _ ?_ fun hSU1=>?_;exact trivial;clear hK K hSU0;(try simp only [J0,J1,J2,J3,J4]);refine freeU 9 rfl (by kernel_rfl) rfl (by kernel_rfl) fun K hK=>?_;have HSD:=Lib.hid (((HL.out.below HU1.out).drop (i+1) (by have hm:=HM.out; rw [doneRows_length]; omega) HPA.out.symm).take (k - (i+1)) (by have hm:=HM.out; rw [List.length_drop,doneRows_length]; omega));refine step_app_ss (w:=u1) 37 (by kernel_rfl) Try.info_done rfl (by decide) (by decide) (by rfl) _ _ (by rfl) (v0:=.slice p1 n1 k1) (base:=wy.heap.size) (by rfl) (by rw [← HPA.out]; rfl) HO1.out HSD.out (by have hm:=HM.out; simp only [List.length_take,List.length_drop,doneRows_length]; omega) (by have:=HX1.out.size; omega) ?_;intro v2 u2 ho2 hg2 hn2;obtain ⟨p2,n2,k2,rfl⟩:=own_sh ho2;have HO2:=Lib.hid ho2;have HX2:Hid (Below wy.heap.size wy u2):=HX1.out.grown hg2 (by have:=HX1.out.size; omega) (fun k hk=>(HO1.out.lt k hk).1);have HU2:=Lib.hid (below_then HBw.out HX2.out);clear ho2 hg2 hn2 HSD HO1;refine hK.out _ _ ?_;clear hK K hSU1;(try simp only [J0,J1,J2,J3,J4]);apply tkW 10 (past_k (by kernel_rfl)) rfl (by kernel_rfl) (fun _ _ _ h=>h) rfl;intro w;(go_simp<;>with_reducible rfl);simp only [J0,J1,J2,J3,J4];refine wpAnyU_done (by kernel_rfl) ?_ _;try rw [HPA.out]
      have hpb:∃z:Option Addr,(if cap=k+1 then some ⟨b,off,none⟩ else some ⟨b,off+(k+1) * 6,none⟩)=z:=⟨_,rfl⟩;obtain ⟨pb,hpb⟩:=hpb;have HPB:=Lib.hid hpb;clear hpb;have HSE:=Lib.hid ((HL.out.below HU2.out).drop (k+1) (by have hm:=HM.out; rw [doneRows_length]; omega) HPB.out.symm);go_wp2_with (first | (rw [HPB.out]) | refine wp_app_ss (w:=u2) 37 (by kernel_rfl) Try.info_done rfl (by decide) (by decide) rfl _ _ rfl (v0:=.slice p2 n2 k2) (base:=wy.heap.size) (by rfl) (by rfl) HO2.out HSE.out (by have hm:=HM.out; simp only [List.length_append,List.length_take,List.length_drop,doneRows_length]; omega) (by have:=HX2.out.size; omega) ?_);intro v3 u3 ho3 hg3 hn3;have HX3:Hid (Below wy.heap.size wy u3):=HX2.out.grown hg3 (by have:=HX2.out.size; omega) (fun k hk=>(HO2.out.lt k hk).1);have HU3:=Lib.hid (below_then HBw.out HX3.out);have hs3:=ho3.sls (by have hm:=HM.out; simp only [List.length_append,List.length_take,List.length_drop,doneRows_length]; omega);try simp only [List.append_assoc] at hs3
      rw [dRows_two] at hs3;obtain ⟨p3,n3,k3,rfl⟩:=own_sh ho3;have TR:=Lib.hid (TR2.out i k _ u3 HU3.out hik hlk hs3);obtain ⟨q3,hq3⟩:∃q,ordP (opsL ol) tg n fr (l.take i ++ (l.drop (i+1)).take (k - (i+1)) ++ l.drop (k+1))=q:=⟨_,rfl⟩;rw [hq3] at TR;have HQ3:=Lib.hid hq3;clear hq3 ho3 hg3 hn3 hs3 HSE;go_wp2_with fail;refine TR.out.mono ?_; rintro e w4 ⟨rfl,hb4⟩;have HU4:=Lib.hid (below_then HU3.out hb4);clear hb4 TR;cases q3 with
      | false=>
       go_wp2_with fail;go_roundw
       case rel=>exact ⟨k+1,by go_num,by omega,by omega,fun j h1 h2=>by
        by_cases e:j=k
        ·subst e
         exact fun _=>HQ3.out
        ·exact HNK.out j h1 (by omega),HU4⟩
       case measure=>simp [intOf]; omega
      | true=>
       have hr:mb=true:=HY2.out i k hik hlk (by rw [HE.out,HE2.out]; dsimp only; rw [HOX.out,HOX2.out]; exact HPQ.out) HQ3.out;subst hr;go_wp2;go_ret;exact ⟨rfl,HU4.out⟩
    ·have hge:¬(k:Int)<(m:Int):=by omega
     go_wp2_with fail;go_roundw
     case rel=>exact ⟨i+1,by go_num,by omega,fun j hj=>by
      by_cases e:j=i
      ·subst e
       exact ⟨HN1.out,fun k' h1 h2=>HNK.out k' h1 (by omega)⟩
      ·exact HNI.out j (by omega),HBk⟩
     case measure=>simp [intOf]; omega
  ·have hge:¬(i:Int)<(m:Int):=by omega
   have hr:mb=false:=HNO.out fun j hj=>HNI.out j (by omega);subst hr;go_wp2;go_ret;exact ⟨rfl,HBi.out⟩
theorem lorder_any (n:Nat):∀l:List DoneM,l.length≤n→OrdC n l:=by
 induction n with
 | zero=>
  intro l hl;rw [List.eq_nil_of_length_eq_zero (Nat.le_zero.1 hl)];exact ord_nil 0
 | succ n ih=>
  intro l hl;by_cases h0:l.length=0
  ·rw [List.eq_nil_of_length_eq_zero h0]
   exact ord_nil (n+1)
  by_cases h5:5<l.length
  ·exact ord_long n l h5
  exact ord_step n l hl (by omega) (by omega) ih
end Go.Proofs.Ytiekicailidhcaa
