
import Derived.Test.YtjnlkemdaffgbaaGreatB08
set_option linter.unusedVariables false
set_option linter.unusedSimpArgs false
namespace Go.Proofs.YtjnlkemdaffgbaaGreat
open Go.ChangeShapes Go.WideShapes Go.ChangeAt Go.RowKit
set_option maxRecDepth 100000
structure Fresh (c:ConfM) (k:MachM):Prop where
 rg:rgK c k
 chan:k.chan=0
 pl:k.pl=1
theorem Li.start {c:ConfM} (hg:c.good) (hk:1≤c.caps.length) (hf:(newE c).fits) (l:List MachM) (hl:∀k∈l,Fresh c k):Li c (c.st 0) (newE c,l) 0 0 false:=by
 have h:=ringSt_new hg hk (fun _=>0);have h16:=hg.cap 0 (by omega);refine ⟨hg,⟨h.two,h16,h.len,h.tail,h.head,⟨Nat.le_refl _,by have:=h16.1; omega⟩⟩,hf,fun k hk=>?_,?_,?_,fun k hk _ h0=>?_⟩
 ·have f:=hl k hk
  exact ⟨f.rg,f.chan,fun _ h1 _=>by have:=f.pl; omega,fun _ h1 _=>by have:=f.pl; omega,fun _ h1=>by have:=f.pl; omega⟩
 ·show l.countP pushB=0
  rw [List.countP_eq_zero];intro k hk h2;have f:=hl k hk;have:=((pushB_iff k).1 h2).2;have:=f.pl;omega
 ·show l.countP shutB=0
  rw [List.countP_eq_zero];intro k hk h2;have f:=hl k hk;have:=((shutB_iff k).1 h2).2.1;have:=f.pl;omega
 ·have:=(hl k hk).pl; omega
def curL (st:MemM × List MachM):Int:=st.1.words.getD 0 0
def dL (st:MemM × List MachM):Nat:=(st.2.countP (isB 3) - st.2.countP pushB)+(if closedB (curL st)=true then 0 else 1)
def rkS (D:Nat) (cl same:Bool) (pl:Int):Nat:=
 if pl=0 then 0 else if cl=true then (if pl=1 then 1 else 2) else if pl=1 then 2 * D+1 else if same=true then 2 * D else 2 * D+2
def rkC (D:Nat) (same:Bool) (pl:Int):Nat:=
 if pl=0 then 0 else if pl=1 then 2 * D+3 else if pl=2 then (if same=true then 2 * D+2 else 2 * D+4) else (if same=true then 2 * D+1 else 2 * D+3)
def rk (st:MemM × List MachM) (k:MachM):Nat:=if k.what=5 then rkS (dL st) (closedB (curL st)) (decide (k.t=curL st)) k.pl else rkC (dL st) (decide (k.t=curL st)) k.pl
section
variable {c:ConfM} {s:Int} {st:MemM × List MachM} {P Q:Nat} {cl:Bool}
theorem Li.cur (h:Li c s st P Q cl):curL st=packI (nextI s P) cl:=h.rg.tail
theorem Li.closed (h:Li c s st P Q cl):closedB (curL st)=cl:=by rw [h.cur,packI_closed]
theorem Li.le (h:Li c s st P Q cl):P≤st.2.countP (isB 3):=by
 rw [← h.pushes]; exact List.countP_mono_left fun k _ hk=>pushB_is k hk
theorem Li.dEq (h:Li c s st P Q cl):dL st=(st.2.countP (isB 3) - P)+(if cl=true then 0 else 1):=by unfold dL; rw [h.pushes,h.closed]
theorem stepL_is (c:ConfM) (st:MemM × List MachM) (i:Nat) (w:Int):(stepL c st i).2.countP (isB w)=st.2.countP (isB w):=by
 by_cases hi:i<st.2.length
 ·rw [stepL_at hi]
  have h:=countP_set' (p:=isB w) hi (step1 c (st.1,st.2[i])).2;have e:isB w (step1 c (st.1,st.2[i])).2=isB w st.2[i]:=by unfold isB; rw [step1_what]
  rw [e] at h;show (st.2.set i _).countP (isB w)=_;omega
 ·unfold stepL; rw [List.getElem?_eq_none (by omega)]
theorem Li.tailStep (h:Li c s st P Q cl) (hn:st.2.length≤100000) (i:Nat) (hi:i<st.2.length):(curL (stepL c st i)=curL st∧dL (stepL c st i)=dL st)∨(cl=false∧dL (stepL c st i)+1=dL st):=by
 obtain ⟨P2,Q2,cl2,h2,ha,-,-,-⟩:=h.step hn i hi;have hN:=stepL_is c st i 3;have l1:=h.le;have l2:=h2.le;rw [h.cur,h2.cur,h.dEq,h2.dEq,hN];rw [hN] at l2;cases cl with
 | true=>
  have:=ha.shut rfl;left;rw [this.1,this.2];exact ⟨rfl,rfl⟩
 | false=>
  rcases ha.push with e | ⟨e,-,e2⟩
  ·subst e
   cases cl2 with
   | false=>exact .inl ⟨rfl,rfl⟩
   | true=>exact .inr ⟨rfl,by simp⟩
  ·subst e; subst e2
   exact .inr ⟨rfl,by simp; omega⟩
theorem Li.dOpen (h:Li c s st P Q cl) (hc:cl=false):1≤dL st:=by rw [h.dEq,hc]; simp
theorem Li.own (h:Li c s st P Q cl) (hn:st.2.length≤100000) (i:Nat) (hi:i<st.2.length) (hw:st.2[i].what=5∨st.2[i].what=6):rk (stepL c st i) (step1 c (st.1,st.2[i])).2+1≤rk st st.2[i]∨rk (stepL c st i) (step1 c (st.1,st.2[i])).2=0:=by
 obtain ⟨k,hk⟩:∃k,st.2[i]=k:=⟨_,rfl⟩;have hmem:k∈st.2:=hk▸List.getElem_mem hi;have hmi:=h.mi k hmem;have hl:=h.rg.lens;have hcl:=h.closed;have hT:=h.tailStep hn i hi;have hdo:=h.dOpen;rw [hk] at hw ⊢;by_cases hp:k.pl=0
 ·right
  rw [step1_end c st.1 k hp];unfold rk rkS rkC;simp [hp]
 have hch:k.chan.toNat=0:=by rw [hmi.chan]; rfl
 have hpl:=hmi.rg.pl;have hsm:stepL c st i=((step1 c (st.1,k)).1,st.2.set i (step1 c (st.1,k)).2):=by rw [stepL_at hi,hk]
 rcases hw with hw | hw
 ·have eN:rgNE c k=shutNE c 0 k:=by unfold rgNE; rw [if_neg hp,if_neg (by omega),if_neg (by omega),if_pos hw,hch]
  have eR:∀b,rgRE c k b=shutRE k b:=fun b=>by unfold rgRE; rw [if_neg hp,if_neg (by omega),if_neg (by omega),if_pos hw]
  have hps:k.pl=1∨k.pl=2:=by have:=hpl.2.2.1 hw; omega
  rcases hps with e | e
  ·have a1:rgNE c k=⟨1,0,0,0,0⟩:=by rw [eN]; unfold shutNE; rw [if_pos e]; rfl
   have hs:=step1_ans hp (a1▸apply_load (m:=st.1) (a:=0) (by omega) (by omega));rw [eR] at hs;unfold shutRE at hs;rw [if_pos e] at hs;have hcw:(closedB (AnsM.val ⟨st.1.words.getD (Int.toNat 0) 0,false,false,[]⟩))=cl:=hcl;have hc0:curL (stepL c st i)=curL st:=by rw [hsm,hs]; rfl
   have hd0:dL (stepL c st i)=dL st:=by
    rcases hT with h1 | ⟨h1,h2⟩
    ·exact h1.2
    ·have hN:=stepL_is c st i 3
     have hpu:(stepL c st i).2.countP pushB=st.2.countP pushB:=by
      rw [hsm];have h3:=countP_set' (p:=pushB) hi (step1 c (st.1,k)).2;have h4:pushB (step1 c (st.1,k)).2=false:=by have:=step1_what c st.1 k; unfold pushB; rw [this,hw]; rfl
      have h5:pushB st.2[i]=false:=by rw [hk]; unfold pushB; rw [hw]; rfl
      rw [h4,h5] at h3;simpa using h3
     unfold dL;rw [hN,hpu,hc0]
   rw [hs];rw [hcw];cases hcb:cl with
   | true=>
    right;unfold rk rkS;simp [hw]
   | false=>
    left;unfold rk;rw [hc0,hd0,hcl,hcb];have hcu:curL st=st.1.words.getD (Int.toNat 0) 0:=rfl;unfold rkS;simp [hw,e,hcu]
  ·have a1:rgNE c k=⟨3,0,k.t,packI (k.t / 2) true,0⟩:=by rw [eN]; unfold shutNE; rw [if_neg (by omega)]; rfl
   by_cases hc:st.1.words.getD 0 0=k.t
   ·have hs:=step1_ans hp (a1▸apply_cas (m:=st.1) (a:=0) (o:=k.t) (x:=packI (k.t / 2) true) (by omega) (by omega) hc)
    rw [eR] at hs;unfold shutRE at hs;rw [if_neg (by omega),if_pos rfl] at hs;right;rw [hs];unfold rk rkS;simp [hw]
   ·have hs:=step1_ans hp (a1▸apply_cas_no (m:=st.1) (a:=0) (o:=k.t) (x:=packI (k.t / 2) true) (by omega) (by omega) hc)
    rw [eR] at hs;unfold shutRE at hs;rw [if_neg (by omega),if_neg (by simp)] at hs;have hc0:curL (stepL c st i)=curL st:=by rw [hsm,hs]; rfl
    have hd0:dL (stepL c st i)=dL st:=by
     have hN:=stepL_is c st i 3;have hpu:(stepL c st i).2.countP pushB=st.2.countP pushB:=by
      rw [hsm];have h3:=countP_set' (p:=pushB) hi (step1 c (st.1,k)).2;have h4:pushB (step1 c (st.1,k)).2=false:=by have:=step1_what c st.1 k; unfold pushB; rw [this,hw]; rfl
      have h5:pushB st.2[i]=false:=by rw [hk]; unfold pushB; rw [hw]; rfl
      rw [h4,h5] at h3;simpa using h3
     unfold dL;rw [hN,hpu,hc0]
    left;rw [hs];unfold rk;rw [hc0,hd0,hcl];have hcu:¬k.t=curL st:=fun e2=>hc e2.symm;unfold rkS;cases hcb:cl <;> simp [hw,e,hcu]
 ·have eN:rgNE c k=countNE c 0 k:=by unfold rgNE; rw [if_neg hp,if_neg (by omega),if_neg (by omega),if_neg (by omega),hch]
  have eR:∀b,rgRE c k b=countRE k b:=fun b=>by unfold rgRE; rw [if_neg hp,if_neg (by omega),if_neg (by omega),if_neg (by omega)]
  have hps:k.pl=1∨k.pl=2∨k.pl=3:=by have:=hpl.2.2.2 hw; omega
  have h65:¬(6:Int)=5:=by decide
  have same:∀{k2:MachM},step1 c (st.1,k)=(st.1,k2)→curL (stepL c st i)=curL st∧dL (stepL c st i)=dL st:=fun {k2} hs=>by
   have hc0:curL (stepL c st i)=curL st:=by rw [hsm,hs]; rfl
   have hN:=stepL_is c st i 3;have hpu:(stepL c st i).2.countP pushB=st.2.countP pushB:=by
    rw [hsm];have h3:=countP_set' (p:=pushB) hi (step1 c (st.1,k)).2;have h4:pushB (step1 c (st.1,k)).2=false:=by have:=step1_what c st.1 k; unfold pushB; rw [this,hw]; rfl
    have h5:pushB st.2[i]=false:=by rw [hk]; unfold pushB; rw [hw]; rfl
    rw [h4,h5] at h3;simpa using h3
   refine ⟨hc0,?_⟩;unfold dL;rw [hN,hpu,hc0]
  rcases hps with e | e | e
  ·have a1:rgNE c k=⟨1,0,0,0,0⟩:=by rw [eN]; unfold countNE; rw [if_neg (by omega)]; rfl
   have hs:=step1_ans hp (a1▸apply_load (m:=st.1) (a:=0) (by omega) (by omega));rw [eR] at hs;unfold countRE at hs;rw [if_pos e] at hs;obtain ⟨hc0,hd0⟩:=same hs;left;rw [hs];have hcu:curL st=st.1.words.getD (Int.toNat 0) 0:=rfl;unfold rk;rw [hc0,hd0];unfold rkC;simp [hw,e,hcu]
  ·have a1:rgNE c k=⟨1,1,0,0,0⟩:=by rw [eN]; unfold countNE; rw [if_pos e]; rfl
   have hs:=step1_ans hp (a1▸apply_load (m:=st.1) (a:=1) (by omega) (by omega));rw [eR] at hs;unfold countRE at hs;rw [if_neg (by omega),if_pos e] at hs;obtain ⟨hc0,hd0⟩:=same hs;left;rw [hs];unfold rk;rw [hc0,hd0];unfold rkC;by_cases hcu:k.t=curL st <;> simp [hw,e,hcu]
  ·have a1:rgNE c k=⟨1,0,0,0,0⟩:=by rw [eN]; unfold countNE; rw [if_neg (by omega)]; rfl
   have hs:=step1_ans hp (a1▸apply_load (m:=st.1) (a:=0) (by omega) (by omega));rw [eR] at hs;unfold countRE at hs;rw [if_neg (by omega),if_neg (by omega)] at hs;obtain ⟨hc0,hd0⟩:=same hs;have hcu:curL st=st.1.words.getD (Int.toNat 0) 0:=rfl;rw [hs];by_cases ht:st.1.words.getD (Int.toNat 0) 0=k.t
   ·right
    rw [if_pos (show AnsM.val ⟨st.1.words.getD (Int.toNat 0) 0,false,false,[]⟩=k.t from ht)];unfold rk rkC;simp [hw]
   ·left
    rw [if_neg (show ¬AnsM.val ⟨st.1.words.getD (Int.toNat 0) 0,false,false,[]⟩=k.t from ht)];have hcu2:¬k.t=curL st:=fun e2=>ht (hcu.symm.trans e2.symm);unfold rk;rw [hc0,hd0];unfold rkC;simp only [hw,e,hcu2];simp [hcu]
theorem Li.other (h:Li c s st P Q cl) (hn:st.2.length≤100000) (i:Nat) (hi:i<st.2.length) (k:MachM) (hk:k∈st.2) (hw:k.what=5∨k.what=6):rk (stepL c st i) k≤rk st k:=by
 obtain ⟨P2,Q2,cl2,h2,-,-,-,-⟩:=h.step hn i hi;have hpl:=(h.mi k hk).rg.pl;rcases h.tailStep hn i hi with ⟨h3,h4⟩ | ⟨h3,h4⟩
 ·unfold rk
  rw [h3,h4];exact Nat.le_refl _
 ·have hcl:=h.closed
  rw [h3] at hcl;unfold rk;rw [hcl];rcases hw with hw | hw
  ·rw [if_pos hw,if_pos hw]
   unfold rkS;by_cases hp:k.pl=0
   ·simp [hp]
   ·simp only [hp,if_false]
    repeat' split
    all_goals first | omega | contradiction
  ·rw [if_neg (by omega),if_neg (by omega)]
   unfold rkC;by_cases hp:k.pl=0
   ·simp [hp]
   ·simp only [hp,if_false]
    repeat' split
    all_goals omega
end
theorem rkC_le (D:Nat) (same:Bool) (pl:Int):rkC D same pl≤2 * D+4:=by
 unfold rkC
 repeat' split
 all_goals omega
theorem rkS_le (D:Nat) (cl same:Bool) (pl:Int):rkS D cl same pl≤2 * D+4:=by
 unfold rkS
 repeat' split
 all_goals omega
theorem rk_le (st:MemM × List MachM) (k:MachM):rk st k≤2 * dL st+4:=by
 unfold rk;split
 ·exact rkS_le _ _ _ _
 ·exact rkC_le _ _ _
section
variable {c:ConfM} {s:Int} {st:MemM × List MachM} {P Q:Nat} {cl:Bool}
theorem Li.rk_zero (h:Li c s st P Q cl) {k:MachM} (hk:k∈st.2) (hw:k.what=5∨k.what=6) (h0:rk st k=0):k.pl=0:=by
 have hpl:=(h.mi k hk).rg.pl;have hd:=h.dOpen;have hcl:=h.closed;by_cases hp:k.pl=0
 ·exact hp
 exfalso;unfold rk at h0;rcases hw with hw | hw
 ·rw [if_pos hw,hcl] at h0
  unfold rkS at h0;cases hcb:cl with
  | true=>rw [hcb] at h0; simp only [hp,if_false,if_true] at h0; split at h0 <;> omega
  | false=>
   have h1:=hd hcb;rw [hcb] at h0;simp only [hp,if_false] at h0
   repeat' split at h0
   all_goals first | omega | contradiction
 ·rw [if_neg (by omega)] at h0
  unfold rkC at h0;simp only [hp,if_false] at h0
  repeat' split at h0
  all_goals omega
theorem Li.run (h:Li c s st P Q cl) (hn:st.2.length≤100000) (is:List Nat) (hi:∀i∈is,i<st.2.length):∃P2 Q2 cl2,Li c s (runL c st is) P2 Q2 cl2∧P≤P2∧Q≤Q2∧(cl=true→cl2=true∧P2=P):=by
 induction is generalizing st P Q cl with
 | nil=>exact ⟨P,Q,cl,h,Nat.le_refl _,Nat.le_refl _,fun h=>⟨h,rfl⟩⟩
 | cons i is ih=>
  obtain ⟨P1,Q1,cl1,h1,ha,-,-,-⟩:=h.step hn i (hi i (List.mem_cons_self ..));have hl:=stepL_len c st i;obtain ⟨P2,Q2,cl2,h2,h3,h4,h5⟩:=ih h1 (by omega) fun j hj=>by rw [hl]; exact hi j (List.mem_cons_of_mem _ hj)
  refine ⟨P2,Q2,cl2,h2,?_,?_,fun e=>?_⟩
  ·have:=ha.push; omega
  ·have:=ha.pop; omega
  ·have:=ha.shut e; have:=h5 this.1; exact ⟨this.1,by omega⟩
theorem Li.rankRun (h:Li c s st P Q cl) (hn:st.2.length≤100000) (is:List Nat) (hi:∀i∈is,i<st.2.length) (j:Nat) (k:MachM) (hj:st.2[j]?=some k) (hw:k.what=5∨k.what=6) :
  ∃k2,(runL c st is).2[j]?=some k2∧k2.what=k.what∧(rk (runL c st is) k2+is.count j≤rk st k∨rk (runL c st is) k2=0):=by
 induction is generalizing st P Q cl k with
 | nil=>exact ⟨k,hj,rfl,.inl (by simp [runL])⟩
 | cons i is ih=>
  have hii:=hi i (List.mem_cons_self ..);obtain ⟨P1,Q1,cl1,h1,-,-,-,-⟩:=h.step hn i hii;have hl:=stepL_len c st i;have hi2:∀j∈is,j<(stepL c st i).2.length:=fun j hj=>by rw [hl]; exact hi j (List.mem_cons_of_mem _ hj)
  obtain ⟨hjl,hjk⟩:=List.getElem?_eq_some_iff.1 hj;by_cases hij:i=j
  ·subst hij
   have hj2:(stepL c st i).2[i]?=some (step1 c (st.1,k)).2:=by rw [stepL_at hii,hjk]; simp [hjl]
   have hw2:=step1_what c st.1 k;have ho:=h.own hn i hii (by rw [hjk]; exact hw);rw [hjk] at ho;obtain ⟨k2,e1,e2,e3⟩:=ih h1 (by omega) hi2 _ hj2 (by rw [hw2]; exact hw);refine ⟨k2,e1,e2.trans hw2,?_⟩;rw [List.count_cons_self];rcases e3 with e3 | e3
   ·rcases ho with ho | ho
    ·left; show rk (runL c (stepL c st i) is) k2+_≤_; omega
    ·right; show rk (runL c (stepL c st i) is) k2=0; omega
   ·exact .inr e3
  ·have hj2:(stepL c st i).2[j]?=some k:=by rw [stepL_at hii]; simp [List.getElem?_set,hij,hj]
   have ho:=h.other hn i hii k (List.mem_of_getElem? hj) hw;obtain ⟨k2,e1,e2,e3⟩:=ih h1 (by omega) hi2 _ hj2 hw;refine ⟨k2,e1,e2,?_⟩;rw [List.count_cons_of_ne hij];rcases e3 with e3 | e3
   ·left; show rk (runL c (stepL c st i) is) k2+_≤_; omega
   ·exact .inr e3
theorem Li.ended (h:Li c s st P Q cl) (hn:st.2.length≤100000) (is:List Nat) (hi:∀i∈is,i<st.2.length) (j:Nat) (k:MachM) (hj:st.2[j]?=some k) (hw:k.what=5∨k.what=6) (hc:2 * dL st+4≤is.count j) :
  ∃k2,(runL c st is).2[j]?=some k2∧k2.what=k.what∧k2.pl=0:=by
 obtain ⟨k2,e1,e2,e3⟩:=h.rankRun hn is hi j k hj hw;obtain ⟨P2,Q2,cl2,h2,-,-,-⟩:=h.run hn is hi;have h0:rk (runL c st is) k2=0:=by have:=rk_le st k; omega
 exact ⟨k2,e1,e2,h2.rk_zero (List.mem_of_getElem? e1) (by rw [e2]; exact hw) h0⟩
end
structure Hst where
 m:MemM
 l:List MachM
 t:List (Nat × Bool)
 p:List MemM
def casTB (c:ConfM) (m:MemM) (k:MachM):Bool:=(rgNE c k).kind == 3 && ((rgNE c k).addr == 0 && (applyE m (rgNE c k)).2.1.ok)
theorem casTB_iff (c:ConfM) (m:MemM) (k:MachM):casTB c m k=true↔casT c m k:=by unfold casTB casT; simp
def hstep (c:ConfM) (h:Hst) (i:Nat):Hst:=
 match h.l[i]? with
 | none=>h
 | some k=>if k.pl=0 then h else ⟨(step1 c (h.m,k)).1,h.l.set i (step1 c (h.m,k)).2,h.t ++ [(i,casTB c h.m k)],h.p ++ [h.m]⟩
theorem hstep_stepL (c:ConfM) (h:Hst) (i:Nat):((hstep c h i).m,(hstep c h i).l)=stepL c (h.m,h.l) i:=by
 unfold hstep stepL;cases e:h.l[i]? with
 | none=>rfl
 | some k=>
  dsimp only;by_cases hp:k.pl=0
  ·rw [if_pos hp,step1_end c h.m k hp]
   obtain ⟨hi,hk⟩:=List.getElem?_eq_some_iff.1 e;rw [← hk];simp
  ·rw [if_neg hp]
structure Le (a:Nat × Bool) (b:Nat × Bool):Prop where
 le:a.1≤b.1
 cl:a.2=true→b.2=true∧b.1=a.1
theorem Le.refl (a:Nat × Bool):Le a a:=⟨Nat.le_refl _,fun h=>⟨h,rfl⟩⟩
theorem Le.trans {a b d:Nat × Bool} (h:Le a b) (h2:Le b d):Le a d:=⟨by have:=h.le; have:=h2.le; omega,fun e=>by
 have h3:=h.cl e;have h4:=h2.cl h3.1;exact ⟨h4.1,h4.2.trans h3.2⟩⟩
theorem Adv.leT {P Q P2 Q2:Nat} {cl cl2:Bool} (h:Adv P Q cl P2 Q2 cl2):Le (P,cl) (P2,cl2):=⟨by show P≤P2; rcases h.push with e | ⟨e,-⟩ <;> omega,fun e=>h.shut e⟩
def Pair (c:ConfM) (s:Int) (a b:MemM):Prop:=∃(P Q:Nat) (cl:Bool) (P2 Q2:Nat) (cl2:Bool),Rg c a s P Q cl∧Rg c b s P2 Q2 cl2∧Adv P Q cl P2 Q2 cl2
structure Cnt (c:ConfM) (s:Int) (h:Hst) (P:Nat) (cl:Bool) (j:Nat) (k:MachM):Prop where
 two:k.pl=2→∃(p:Nat) (b:Bool),k.t=packI (nextI s p) b∧Le (p,b) (P,cl)∧p≤1000000
 three:k.pl=3→∃(p:Nat) (b:Bool) (P1 Q1:Nat) (cl1:Bool) (i:Nat) (m1:MemM),k.t=packI (nextI s p) b∧p≤1000000∧h.p[i]?=some m1∧(h.t[i]?.map Prod.fst)=some j∧Rg c m1 s P1 Q1 cl1∧k.h=nextI s Q1∧Le (p,b) (P1,cl1)∧Le (P1,cl1) (P,cl)∧P1≤1000000
 done:k.pl=0→∃(P1 Q1:Nat) (cl1:Bool) (i:Nat) (m1:MemM),h.p[i]?=some m1∧(h.t[i]?.map Prod.fst)=some j∧Rg c m1 s P1 Q1 cl1∧k.ok=9∧k.ov=(P1:Int) - Q1
def follow (l:List MachM) (acc:Option Bool) (x:Nat × Bool):Option Bool:=
 match acc with
 | none=>none
 | some closed=>if x.2=true then (if closed=true then none else some ((l[x.1]?.map MachM.what) == some 5)) else some closed
structure HI (c:ConfM) (s:Int) (h:Hst) (P Q:Nat) (cl:Bool):Prop where
 li:Li c s (h.m,h.l) P Q cl
 len:h.t.length=h.p.length
 pair:∀i a b,(h.p ++ [h.m])[i]?=some a→(h.p ++ [h.m])[i+1]?=some b→Pair c s a b
 fold:h.t.foldl (follow h.l) (some false)=some cl
 cnt:∀j k,h.l[j]?=some k→k.what=6→Cnt c s h P cl j k
theorem follow_congr {l l2:List MachM} (hw:∀i:Nat,l[i]?.map MachM.what=l2[i]?.map MachM.what) (t:List (Nat × Bool)) (a:Option Bool):t.foldl (follow l) a=t.foldl (follow l2) a:=by
 induction t generalizing a with
 | nil=>rfl
 | cons x t ih=>
  rw [List.foldl_cons,List.foldl_cons,ih];congr 1;unfold follow;rw [hw]
theorem HI.start {c:ConfM} (hg:c.good) (hk:1≤c.caps.length) (hf:(newE c).fits) (l:List MachM) (hl:∀k∈l,Fresh c k):HI c (c.st 0) ⟨newE c,l,[],[]⟩ 0 0 false:=by
 refine ⟨Li.start hg hk hf l hl,rfl,fun i a b h1 h2=>?_,rfl,fun j k hj hw=>?_⟩
 ·have:(([]:List MemM) ++ [newE c])[i+1]?=none:=by simp
  have h3:(([]:List MemM) ++ [newE c])[i+1]?=some b:=h2;rw [this] at h3;cases h3
 ·have h1:=(hl k (List.mem_of_getElem? hj)).pl
  exact ⟨fun e=>by omega,fun e=>by omega,fun e=>by omega⟩
theorem Cnt.keep {c:ConfM} {s:Int} {h:Hst} {P P2:Nat} {cl cl2:Bool} {j:Nat} {k:MachM} (hc:Cnt c s h P cl j k) (hle:Le (P,cl) (P2,cl2)) {m2:MemM} {l2:List MachM} {x:Nat × Bool} {m:MemM} (hlen:h.t.length=h.p.length):Cnt c s ⟨m2,l2,h.t ++ [x],h.p ++ [m]⟩ P2 cl2 j k:=by
 have kp:∀{i:Nat} {m1:MemM},h.p[i]?=some m1→(h.t[i]?.map Prod.fst)=some j→(h.p ++ [m])[i]?=some m1∧((h.t ++ [x])[i]?.map Prod.fst)=some j:=fun {i m1} h1 h2=>by
  have hi:=(List.getElem?_eq_some_iff.1 h1).1;rw [List.getElem?_append_left hi,List.getElem?_append_left (by omega)];exact ⟨h1,h2⟩
 refine ⟨fun e=>?_,fun e=>?_,fun e=>?_⟩
 ·obtain ⟨p,b,h1,h2,h3⟩:=hc.two e
  exact ⟨p,b,h1,h2.trans hle,h3⟩
 ·obtain ⟨p,b,P1,Q1,cl1,i,m1,h1,h2,h3,h4,h5,h6,h7,h8,h9⟩:=hc.three e
  obtain ⟨h3,h4⟩:=kp h3 h4;exact ⟨p,b,P1,Q1,cl1,i,m1,h1,h2,h3,h4,h5,h6,h7,h8.trans hle,h9⟩
 ·obtain ⟨P1,Q1,cl1,i,m1,h3,h4,h5⟩:=hc.done e
  obtain ⟨h3,h4⟩:=kp h3 h4;exact ⟨P1,Q1,cl1,i,m1,h3,h4,h5⟩
theorem rest_of {s:Int} {P Q:Nat} (h:Q≤P) (hP:P≤1000000):restI (nextI s P) (nextI s Q)=(P:Int) - Q:=by unfold restI nextI; omega
theorem HI.step {c:ConfM} {s:Int} {h:Hst} {P Q:Nat} {cl:Bool} (H:HI c s h P Q cl) (hn:h.l.length≤100000) (i:Nat) (hi:i<h.l.length):∃P2 Q2 cl2,HI c s (hstep c h i) P2 Q2 cl2∧P≤P2∧Q≤Q2:=by
 obtain ⟨P2,Q2,cl2,hL,hA,hC,hp3,hp5⟩:=H.li.step hn i hi;obtain ⟨k,hk⟩:∃k,h.l[i]=k:=⟨_,rfl⟩;have hke:h.l[i]?=some k:=by rw [List.getElem?_eq_getElem hi,hk]
 have hC2:(k.pl≠0∧casT c h.m k)↔(P2=P+1∨(cl=false∧cl2=true)):=hk▸hC;have hp3':P2=P+1→k.what=3:=hk▸hp3;have hp5':cl=false→cl2=true→k.what=5:=hk▸hp5;have hst:=hstep_stepL c h i;have hle:=hA.leT;have hPle:P≤P2:=hle.le;have hQle:Q≤Q2:=by rcases hA.pop with e | e <;> omega
 refine ⟨P2,Q2,cl2,?_,hPle,hQle⟩;by_cases hp:k.pl=0
 ·have e:hstep c h i=h:=by unfold hstep; rw [hke]; exact if_pos hp
  rw [← hst,e] at hL;have h1:P2=P:=by rw [← hL.pushes,← H.li.pushes]
  have h2:cl2=cl:=by rw [← hL.closed,← H.li.closed]
  have h3:Q2=Q:=by
   have e1:=hL.rg.head;have e2:=H.li.rg.head;have r1:=hL.rg.room;have r2:=H.li.rg.room;have l1:=H.li.le;have l2:=List.countP_le_length (p:=isB 3) (l:=h.l);rw [e2] at e1;have:P≤h.l.countP (isB 3):=l1;exact (nextI_inj (s:=s) (by omega) (by omega) e1).symm
  rw [e]; subst h1 h2 h3;exact H
 ·have e:hstep c h i=⟨(step1 c (h.m,k)).1,h.l.set i (step1 c (h.m,k)).2,h.t ++ [(i,casTB c h.m k)],h.p ++ [h.m]⟩:=by unfold hstep; rw [hke]; exact if_neg hp
  rw [← hst] at hL;rw [e] at hL ⊢;have hwh:=step1_what c h.m k;have hww:∀q:Nat,h.l[q]?.map MachM.what=(h.l.set i (step1 c (h.m,k)).2)[q]?.map MachM.what:=fun q=>by
   by_cases hq:i=q
   ·subst hq; rw [hke]; simp [hi,hwh]
   ·simp [List.getElem?_set,hq]
  have hPl:P≤100000:=by
   have l1:P≤h.l.countP (isB 3):=H.li.le;have l2:=List.countP_le_length (p:=isB 3) (l:=h.l);omega
  refine ⟨hL,by show (h.t ++ [_]).length=(h.p ++ [_]).length; rw [List.length_append,List.length_append,H.len]; rfl,fun q a b h1 h2=>?_,?_,fun j k2 hj hw=>?_⟩
  ·have h1':((h.p ++ [h.m]) ++ [(step1 c (h.m,k)).1])[q]?=some a:=h1
   have h2':((h.p ++ [h.m]) ++ [(step1 c (h.m,k)).1])[q+1]?=some b:=h2;have hlen:(h.p ++ [h.m]).length=h.p.length+1:=by simp
   by_cases hq:q+1<h.p.length+1
   ·rw [List.getElem?_append_left (by omega)] at h1' h2'
    exact H.pair q a b h1' h2'
   ·have hq2:q+1<(h.p ++ [h.m] ++ [(step1 c (h.m,k)).1]).length:=(List.getElem?_eq_some_iff.1 h2').1
    have hq3:q=h.p.length:=by simp at hq2; omega
    subst hq3;rw [List.getElem?_append_left (by omega),List.getElem?_append_right (Nat.le_refl _)] at h1';rw [List.getElem?_append_right (by omega)] at h2';simp at h1' h2';subst h1'; subst h2';exact ⟨P,Q,cl,P2,Q2,cl2,H.li.rg,hL.rg,hA⟩
  ·show (h.t ++ [(i,casTB c h.m k)]).foldl (follow (h.l.set i _)) (some false)=some cl2
   rw [List.foldl_append,← follow_congr hww h.t,H.fold,List.foldl_cons,List.foldl_nil];unfold follow;dsimp only;by_cases hct:casT c h.m k
   ·rw [if_pos ((casTB_iff c h.m k).2 hct),← hww,hke]
    rcases hC2.1 ⟨hp,hct⟩ with h1 | ⟨h1,h2⟩
    ·have h3:=hp3' h1
     rcases hA.push with h4 | ⟨-,h4,h5⟩
     ·omega
     ·rw [h4,h5,if_neg (by simp)]
      simp [h3]
    ·rw [h1,h2,if_neg (by simp)]
     simp [hp5' h1 h2]
   ·have h0:casTB c h.m k=false:=by
     cases hb:casTB c h.m k with
     | false=>rfl
     | true=>exact absurd ((casTB_iff c h.m k).1 hb) hct
    rw [h0,if_neg (by simp)];have h1:¬(P2=P+1∨(cl=false∧cl2=true)):=fun h2=>hct (hC2.2 h2).2;cases cl with
    | true=>rw [(hA.shut rfl).1]
    | false=>
     cases cl2 with
     | false=>rfl
     | true=>exact absurd (.inr ⟨rfl,rfl⟩) h1
  ·have hj':(h.l.set i (step1 c (h.m,k)).2)[j]?=some k2:=hj
   by_cases hij:i=j
   ·subst hij
    have hk2:k2=(step1 c (h.m,k)).2:=by
     rw [List.getElem?_set] at hj';simp [hi] at hj';exact hj'.symm
    have hw6:k.what=6:=by rw [← hwh,← hk2]; exact hw
    have hmi:=H.li.mi k (List.mem_of_getElem? hke);have hC6:=H.cnt i k hke hw6;have hl5:(5:Int)<h.m.words.length:=H.li.rg.lens;have hch:k.chan.toNat=0:=by rw [hmi.chan]; rfl
    have eN:rgNE c k=countNE c 0 k:=by unfold rgNE; rw [if_neg hp,if_neg (by omega),if_neg (by omega),if_neg (by omega),hch]
    have eR:∀b,rgRE c k b=countRE k b:=fun b=>by unfold rgRE; rw [if_neg hp,if_neg (by omega),if_neg (by omega),if_neg (by omega)]
    have hpl:=hmi.rg.pl;have hps:k.pl=1∨k.pl=2∨k.pl=3:=by have:=hpl.2.2.2 hw6; omega
    have hi1:(h.p ++ [h.m])[h.p.length]?=some h.m:=by simp
    have hi2:∀x:Nat × Bool,x.1=i→((h.t ++ [x])[h.p.length]?.map Prod.fst)=some i:=fun x hx=>by rw [← H.len]; simp [hx]
    -- the machine that counts changes nothing: P2=P,cl2=cl
    have hPQ:P2=P∧cl2=cl:=by
     have h1:¬P2=P+1:=fun e1=>by have:=hp3' e1; omega
     have h2:¬(cl=false∧cl2=true):=fun e1=>by have:=hp5' e1.1 e1.2; omega
     rcases hA.push with e1 | ⟨e1,-⟩
     ·refine ⟨e1,?_⟩
      cases cl with
      | true=>exact (hA.shut rfl).1
      | false=>cases cl2 with
       | false=>rfl
       | true=>exact absurd ⟨rfl,rfl⟩ h2
     ·exact absurd e1 h1
    obtain ⟨hPe,hce⟩:=hPQ;rw [hk2,hPe,hce];rcases hps with e1 | e1 | e1
    ·have a1:rgNE c k=⟨1,0,0,0,0⟩:=by rw [eN]; unfold countNE; rw [if_neg (by omega)]; rfl
     have hs:=step1_ans hp (a1▸apply_load (m:=h.m) (a:=0) (by omega) (by omega));rw [eR] at hs;unfold countRE at hs;rw [if_pos e1] at hs;rw [hs];exact ⟨fun _=>⟨P,cl,H.li.rg.tail,Le.refl _,by omega⟩,fun e2=>absurd e2 (by simp),fun e2=>absurd e2 (by simp)⟩
    ·have a1:rgNE c k=⟨1,1,0,0,0⟩:=by rw [eN]; unfold countNE; rw [if_pos e1]; rfl
     have hs:=step1_ans hp (a1▸apply_load (m:=h.m) (a:=1) (by omega) (by omega));rw [eR] at hs;unfold countRE at hs;rw [if_neg (by omega),if_pos e1] at hs;rw [hs];obtain ⟨p,b,h1,h2,h3⟩:=hC6.two e1;exact ⟨fun e2=>absurd e2 (by simp),fun _=>⟨p,b,P,Q,cl,h.p.length,h.m,h1,h3,hi1,hi2 _ rfl,H.li.rg,H.li.rg.head,h2,Le.refl _,by omega⟩,fun e2=>absurd e2 (by simp)⟩
    ·have a1:rgNE c k=⟨1,0,0,0,0⟩:=by rw [eN]; unfold countNE; rw [if_neg (by omega)]; rfl
     have hs:=step1_ans hp (a1▸apply_load (m:=h.m) (a:=0) (by omega) (by omega));rw [eR] at hs;unfold countRE at hs;rw [if_neg (by omega),if_neg (by omega)] at hs;rw [hs];have htl:h.m.words.getD (Int.toNat 0) 0=packI (nextI s P) cl:=H.li.rg.tail;by_cases ht:h.m.words.getD (Int.toNat 0) 0=k.t
     ·rw [if_pos (show AnsM.val ⟨h.m.words.getD (Int.toNat 0) 0,false,false,[]⟩=k.t from ht)]
      obtain ⟨p,b,P1,Q1,cl1,q,m1,h1,h2,h3,h4,h5,h6,h7,h8,h9⟩:=hC6.three e1;rw [htl,h1] at ht;obtain ⟨e2,e3⟩:=packI_inj (nextI_rng s P) (nextI_rng s p) ht;have e4:=nextI_inj (by omega) (by omega) e2;have e5:P1=p:=by
       have a1:p≤P1:=h7.le;have b1:P1≤P:=h8.le;omega
      have hv:restI (k.t / 2) k.h=(P1:Int) - Q1:=by rw [h1,h6,packI_half _ (nextI_rng s p),← e5]; exact rest_of h5.room.1 h9
      have hq:=(List.getElem?_eq_some_iff.1 h3).1;refine ⟨fun e2=>absurd e2 (by simp),fun e2=>absurd e2 (by simp),fun _=>⟨P1,Q1,cl1,q,m1,?_,?_,h5,rfl,hv⟩⟩
      ·show (h.p ++ [h.m])[q]?=some m1
       rw [List.getElem?_append_left hq]; exact h3
      ·show ((h.t ++ [_])[q]?.map Prod.fst)=some i
       rw [List.getElem?_append_left (by rw [H.len]; exact hq)]; exact h4
     ·rw [if_neg (show ¬AnsM.val ⟨h.m.words.getD (Int.toNat 0) 0,false,false,[]⟩=k.t from ht)]
      exact ⟨fun _=>⟨P,cl,htl,Le.refl _,by omega⟩,fun e2=>absurd e2 (by simp),fun e2=>absurd e2 (by simp)⟩
   ·have hj2:h.l[j]?=some k2:=by rw [List.getElem?_set] at hj'; simpa [hij] using hj'
    exact (H.cnt j k2 hj2 hw).keep hle H.len
def hrun (c:ConfM) (h:Hst) (is:List Nat):Hst:=is.foldl (hstep c) h
theorem hrun_runL (c:ConfM) (h:Hst) (is:List Nat):((hrun c h is).m,(hrun c h is).l)=runL c (h.m,h.l) is:=by
 unfold hrun runL;induction is generalizing h with
 | nil=>rfl
 | cons i is ih=>rw [List.foldl_cons,List.foldl_cons,ih,hstep_stepL]
theorem hstep_len (c:ConfM) (h:Hst) (i:Nat):(hstep c h i).l.length=h.l.length:=by
 have e:=hstep_stepL c h i;have:=stepL_len c (h.m,h.l) i;rw [← e] at this;exact this
theorem HI.run {c:ConfM} {s:Int} {h:Hst} {P Q:Nat} {cl:Bool} (H:HI c s h P Q cl) (hn:h.l.length≤100000) (is:List Nat) (hi:∀i∈is,i<h.l.length):∃P2 Q2 cl2,HI c s (hrun c h is) P2 Q2 cl2:=by
 induction is generalizing h P Q cl with
 | nil=>exact ⟨P,Q,cl,H⟩
 | cons i is ih=>
  obtain ⟨P1,Q1,cl1,H1,-,-⟩:=H.step hn i (hi i (List.mem_cons_self ..));have hl:=hstep_len c h i;exact ih H1 (by omega) fun j hj=>by rw [hl]; exact hi j (List.mem_cons_of_mem _ hj)
theorem HI.each {c:ConfM} {s:Int} {h:Hst} {P Q:Nat} {cl:Bool} (H:HI c s h P Q cl) (i:Nat) (a:MemM) (ha:(h.p ++ [h.m])[i]?=some a):∃P1 Q1 cl1,Rg c a s P1 Q1 cl1:=by
 have hlen:(h.p ++ [h.m]).length=h.p.length+1:=by simp
 have hi:=(List.getElem?_eq_some_iff.1 ha).1;by_cases hl:i+1<(h.p ++ [h.m]).length
 ·obtain ⟨P1,Q1,cl1,_,_,_,h1,-⟩:=H.pair i a _ ha (List.getElem?_eq_getElem hl)
  exact ⟨P1,Q1,cl1,h1⟩
 ·have e:i=h.p.length:=by omega
  subst e;rw [List.getElem?_append_right (Nat.le_refl _)] at ha;simp at ha;subst ha;exact ⟨P,Q,cl,H.li.rg⟩
theorem Rg.used {c:ConfM} {m:MemM} {s:Int} {P Q:Nat} {cl:Bool} (h:Rg c m s P Q cl):restI (m.words.getD 0 0 / 2) (m.words.getD 1 0)=(P:Int) - Q∧(0:Int)≤(P:Int) - Q∧(P:Int) - Q≤c.caps.getD 0 0:=by
 have hr:=h.room;have hc:=h.cap;refine ⟨?_,by omega,by omega⟩;rw [h.tail,h.head,packI_half _ (nextI_rng s P)];unfold restI nextI;omega
theorem Pair.facts {c:ConfM} {s:Int} {a b:MemM} (h:Pair c s a b):(b.words.getD 1 0=a.words.getD 1 0∨b.words.getD 1 0=nextI (a.words.getD 1 0) 1)∧(b.words.getD 0 0 / 2=a.words.getD 0 0 / 2∨b.words.getD 0 0 / 2=nextI (a.words.getD 0 0 / 2) 1)∧(closedB (a.words.getD 0 0)=true→b.words.getD 0 0=a.words.getD 0 0)
  ∧(0≤a.words.getD 1 0∧a.words.getD 1 0<9223372036854775808)∧(0≤a.words.getD 0 0 / 2∧a.words.getD 0 0 / 2<9223372036854775808):=by
 obtain ⟨P,Q,cl,P2,Q2,cl2,ha,hb,hA⟩:=h;rw [ha.tail,ha.head,hb.tail,hb.head,packI_half _ (nextI_rng s P),packI_half _ (nextI_rng s P2),packI_closed];refine ⟨?_,?_,fun e=>?_,nextI_rng s Q,nextI_rng s P⟩
 ·rcases hA.pop with e | e
  ·rw [e]; exact .inl rfl
  ·rw [e]; right; rw [nextI_next]; rfl
 ·rcases hA.push with e | ⟨e,-⟩
  ·rw [e]; exact .inl rfl
  ·rw [e]; right; rw [nextI_next]; rfl
 ·have:=hA.shut e; rw [this.1,this.2,e]
theorem ring_shut {c:ConfM} (hg:c.good) (hk:1≤c.caps.length) (hf:(newE c).fits) (l:List MachM) (hl:∀k∈l,Fresh c k) (hn:l.length≤1000) (is:List Nat) (hi:∀i∈is,i<l.length) (j:Nat) (hj:j<l.length) (hw:l[j].what=5) (hc:2 * l.length+6≤is.count j) :
  (hrun c ⟨newE c,l,[],[]⟩ is).l.countP shutB=1∧(hrun c ⟨newE c,l,[],[]⟩ is).t.foldl (follow (hrun c ⟨newE c,l,[],[]⟩ is).l) (some false)=some true:=by
 have h0:=HI.start hg hk hf l hl;obtain ⟨P2,Q2,cl2,H⟩:=h0.run (by show l.length≤100000; omega) is hi;have hd:dL (newE c,l)≤l.length+1:=by
  rw [h0.li.dEq];have:=List.countP_le_length (p:=isB 3) (l:=l);show l.countP (isB 3) - 0+_≤_;simp;omega
 obtain ⟨k2,e1,e2,e3⟩:=h0.li.ended (by show l.length≤100000; omega) is hi j l[j] (List.getElem?_eq_getElem hj) (.inl hw) (by show 2 * dL (newE c,l)+4≤_; omega);have er:=hrun_runL c ⟨newE c,l,[],[]⟩ is;have e1':(hrun c ⟨newE c,l,[],[]⟩ is).l[j]?=some k2:=by
  have:(hrun c ⟨newE c,l,[],[]⟩ is).l=(runL c (newE c,l) is).2:=congrArg Prod.snd er;rw [this]; exact e1
 have hcl:=(H.li.ends k2 (List.mem_of_getElem? e1') (by rw [e2]; exact hw) e3).1;refine ⟨?_,by rw [H.fold,hcl]⟩;have:=H.li.shuts;rw [if_pos hcl] at this;exact this
end Go.Proofs.YtjnlkemdaffgbaaGreat
