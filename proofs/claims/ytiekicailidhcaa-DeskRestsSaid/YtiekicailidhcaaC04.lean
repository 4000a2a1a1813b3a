import Derived.WalkKit
import Derived.WalkLawsBesides
import Derived.WalkSpells
import Derived.ProofKit
import Derived.Lib.Hide
import Derived.LoopTactic
import Derived.Test.YtiekicailidhcaaRows
import Derived.RowKit
import Derived.Deep.DeepCutAuto
import Derived.Deep.CutBlock
import Derived.Deep.QuietTactic
import Derived.BigQuiet
import Derived.RegionTactic
import Derived.BigRegion
import Derived.Laws.AppendOwnNone
import Derived.Deep.RegionHeld3
import Derived.Deep.RegionLaw
import Derived.Lib.AppendZeros
import Derived.Laws.BitsAllLaws
import Derived.Deep.MidRow
import Derived.Lib.Overlaps
import Derived.Lib.AppendZerosOnto
import Derived.Shelf.Spec.SlicesInsert
import Derived.Shelf.RegionOpenPlain
import Derived.Lib.SliceRun
import Derived.Deep.LoopGhost
import Derived.Test.YtiekicailidhcaaB01
import Derived.Test.YtiekicailidhcaaB02
import Derived.Test.YtiekicailidhcaaB03
import Derived.Test.YtiekicailidhcaaB04
import Derived.Test.YtiekicailidhcaaB05
import Derived.Test.YtiekicailidhcaaB06
import Derived.Test.YtiekicailidhcaaB07
import Derived.Test.YtiekicailidhcaaB08
import Derived.Test.YtiekicailidhcaaB09
import Derived.Test.YtiekicailidhcaaB10
import Derived.Test.YtiekicailidhcaaB11
import Derived.Test.YtiekicailidhcaaB12
import Derived.Test.YtiekicailidhcaaB13
import Derived.Test.YtiekicailidhcaaB14
import Derived.Test.YtiekicailidhcaaB15
import Derived.Test.YtiekicailidhcaaC01
import Derived.Test.YtiekicailidhcaaC02
import Derived.Test.YtiekicailidhcaaC03
set_option linter.unusedVariables false
set_option linter.unusedSimpArgs false
namespace Go.Proofs.Ytiekicailidhcaa
open Go.ChangeShapes Go.WideShapes Go.ChangeAt Go.RowKit
set_option maxRecDepth 100000
def facB (x y:CaseM):Prop:=x.chan=y.chan∧x.send≠y.send
structure Qt (caps:List Int) (d:DeskM):Prop where
 cp:d.chans.map ChanM.cap=caps
 bf:∀c∈d.chans,(c.buf.length:Int)≤c.cap
 gd:∀x∈d.wait,x.op.good∧x.op.kind≠3
 rd:∀x∈d.wait,∀c∈casesE x.op,readyB d.chans c=false
 mt:∀x∈d.wait,∀y∈d.wait,x.thr≠y.thr→∀c∈casesE x.op,∀e∈casesE y.op,exB d.chans c.chan=true→¬facB c e
theorem Qt.sub {caps:List Int} {d:DeskM} (h:Qt caps d) (wl:List WaitM) (t:Int) (hs:∀x∈wl,x∈d.wait):Qt caps ⟨d.chans,wl,t⟩:=
 ⟨h.cp,h.bf,fun x hx=>h.gd x (hs x hx),fun x hx=>h.rd x (hs x hx),fun x hx y hy=>h.mt x (hs x hx) y (hs y hy)⟩
theorem Qt.tick {caps:List Int} {d:DeskM} (h:Qt caps d) (n:Int):Qt caps (tickD d n).1:=by
 unfold tickD;split
 ·exact h
 ·exact h.sub _ _ fun x hx=>(List.mem_filter.1 hx).1
theorem leave_memD {d:DeskM} {k:Nat}:∀x∈(leaveD d k).wait,x∈d.wait:=fun x hx=>(leaveD_sub d k).subset hx
theorem exB_put (l:List ChanM) (n:Nat) (c:ChanM) (m:Int):exB (l.set n c) m=exB l m:=by
 unfold exB;rw [List.length_set]
theorem exB_lt {l:List ChanM} {m:Int} (h:exB l m=true):0≤m∧m.toNat<l.length:=by
 unfold exB at h;simp only [Bool.and_eq_true,decide_eq_true_eq] at h;omega
theorem chE_mem {l:List ChanM} {m:Int} (h:exB l m=true):chE l m∈l:=by
 obtain ⟨-,h2⟩:=exB_lt h;have e:chE l m=l[m.toNat]:=getD_lt h2;rw [e];exact List.getElem_mem h2
theorem chE_put_same {l:List ChanM} {m:Int} (h:exB l m=true) (c:ChanM):chE (l.set m.toNat c) m=c:=by
 obtain ⟨-,h2⟩:=exB_lt h;unfold chE;rw [List.getD_eq_getElem?_getD,List.getElem?_set_self h2];rfl
theorem chE_put_other {l:List ChanM} {m n:Int} (h:exB l m=true) (h2:exB l n=true) (hn:m≠n) (c:ChanM):chE (l.set m.toNat c) n=chE l n:=by
 obtain ⟨h3,-⟩:=exB_lt h;obtain ⟨h4,-⟩:=exB_lt h2;unfold chE;rw [List.getD_eq_getElem?_getD,List.getElem?_set_ne (by omega),← List.getD_eq_getElem?_getD]
theorem readyB_other {l:List ChanM} {m:Int} (h:exB l m=true) (c:ChanM) (x:CaseM) (hx:x.chan≠m):readyB (l.set m.toNat c) x=readyB l x:=by
 unfold readyB;rw [exB_put];cases he:exB l x.chan with
 | false=>rfl
 | true=>rw [chE_put_other h he (Ne.symm hx)]
theorem caps_put {l:List ChanM} {m:Int} (h:exB l m=true) (c:ChanM) (hc:c.cap=(chE l m).cap):(l.set m.toNat c).map ChanM.cap=l.map ChanM.cap:=by
 obtain ⟨-,h2⟩:=exB_lt h;have e:chE l m=l[m.toNat]:=getD_lt h2;rw [List.map_set,hc,e];have e2:l[m.toNat].cap=(l.map ChanM.cap)[m.toNat]'(by rw [List.length_map]; exact h2):=by rw [List.getElem_map]
 rw [e2,List.set_getElem_self]
theorem Qt.put {caps:List Int} {d:DeskM} (h:Qt caps d) {m:Int} (he:exB d.chans m=true) (c:ChanM) (hc:c.cap=(chE d.chans m).cap) (hb:(c.buf.length:Int)≤c.cap) (hr:∀x∈d.wait,∀y∈casesE x.op,y.chan=m→readyB (d.chans.set m.toNat c) y=false):Qt caps (putD d m.toNat c):=by
 refine ⟨(caps_put he c hc).trans h.cp,fun e hm=>?_,h.gd,fun x hx y hy=>?_,fun x hx y hy ht a ha b hb2 hex=>?_⟩
 ·rcases List.mem_or_eq_of_mem_set (show e∈d.chans.set m.toNat c from hm) with hm | hm
  ·exact h.bf e hm
  ·rw [hm]; exact hb
 ·show readyB (d.chans.set m.toNat c) y=false
  by_cases hy2:y.chan=m
  ·exact hr x hx y hy hy2
  ·rw [readyB_other he c y hy2]
   exact h.rd x hx y hy
 ·rw [show exB (putD d m.toNat c).chans a.chan=exB d.chans a.chan from exB_put _ _ _ _] at hex
  exact h.mt x hx y hy ht a ha b hb2 hex
theorem sideI_neg {op:OpM} {ch:Int} {sd:Bool} (h:¬0≤sideI op ch sd):∀y∈casesE op,y.chan=ch→y.send≠sd:=fun y hy hc hs=>by
 rcases fstI_cases (isSide ch sd) (casesE op) noCase with ⟨-,h2⟩ | ⟨i,-,h1,-,-⟩
 ·obtain ⟨i,hi,rfl⟩:=List.mem_iff_getElem.1 hy
  have:=h2 i hi;rw [getD_lt hi] at this;unfold isSide at this;rw [hc,hs] at this;simp at this
 ·exact h (by unfold sideI; rw [h1]; omega)
theorem Qt.shut {caps:List Int} {d:DeskM} (h:Qt caps d) (thr ch:Int):Qt caps (shutE d thr ch).1:=by
 unfold shutE;split
 ·next he=>
  obtain ⟨he,-⟩:=he;have h0:Qt caps ⟨d.chans,(d.wait.filter fun x=>!shutB ch false x).filter fun x=>!shutB ch true x,d.tick⟩:=h.sub _ _ fun x hx=>(List.mem_filter.1 (List.mem_filter.1 hx).1).1;refine h0.put he { chE d.chans ch with closed:=true } rfl (by have h9:=h.bf _ (chE_mem he); exact h9) fun x hx y hy hc=>?_;obtain ⟨hx1,hx2⟩:=List.mem_filter.1 (show x∈(d.wait.filter fun x=>!shutB ch false x).filter fun x=>!shutB ch true x from hx);have hx3:=(List.mem_filter.1 hx1).2;unfold shutB at hx2 hx3;simp only [Bool.not_eq_true',decide_eq_false_iff_not] at hx2 hx3;have a1:=sideI_neg hx2 y hy hc;have a2:=sideI_neg hx3 y hy hc;cases hs:y.send with
  | false=>exact absurd hs a2
  | true=>exact absurd hs a1
 ·exact h
theorem partI_none {d:DeskM} {thr:Int} {x:CaseM} (h:¬0≤partI d thr x) (he:exB d.chans x.chan=true):∀y∈d.wait,y.thr≠thr→∀c∈casesE y.op,¬facB x c:=fun y hy ht c hc hf=>by
 unfold partI at h;rw [if_pos he] at h;rcases fstI_cases (isPart thr x.chan (!x.send)) d.wait watZ with ⟨-,h2⟩ | ⟨i,-,h1,-,-⟩
 ·obtain ⟨i,hi,rfl⟩:=List.mem_iff_getElem.1 hy
  have:=h2 i hi;rw [getD_lt hi] at this;unfold isPart at this;have h3:0≤sideI d.wait[i].op x.chan (!x.send):=by
   cases Decidable.em (0≤sideI d.wait[i].op x.chan (!x.send)) with
   | inl h=>exact h
   | inr h=>
    have h4:=sideI_neg h c hc hf.1.symm;have h5:=hf.2;cases hx:x.send <;> cases hy:c.send <;> simp_all
  simp [ht,h3] at this
 ·rw [h1] at h; omega
theorem readyB_of {l:List ChanM} {x:CaseM} (he:exB l x.chan=true):readyB l x=(if x.send then ((chE l x.chan).closed || decide (((chE l x.chan).buf.length:Int)<(chE l x.chan).cap)) else ((chE l x.chan).closed || decide (0<(chE l x.chan).buf.length))):=by
 unfold readyB;rw [he,Bool.true_and]
theorem readyB_ex {l:List ChanM} {x:CaseM} (h:readyB l x=true):exB l x.chan=true:=by
 unfold readyB at h;exact (Bool.and_eq_true_iff.1 h).1
theorem partI_ex {d:DeskM} {thr:Int} {x:CaseM} (h:0≤partI d thr x):exB d.chans x.chan=true:=by
 unfold partI at h;split at h
 ·assumption
 ·omega
theorem readyD_exK {d:DeskM} {thr:Int} {x:CaseM} (h:readyD d thr x=true):exB d.chans x.chan=true:=by
 unfold readyD at h;rcases Bool.or_eq_true_iff.1 h with h | h
 ·exact readyB_ex h
 ·exact partI_ex (of_decide_eq_true h)
theorem Qt.send {caps:List Int} {d:DeskM} (h:Qt caps d) {thr:Int} (own:Int) {x:CaseM} (hn:∀y∈d.wait,y.thr≠thr) (hs:x.send=true) (hr:readyD d thr x=true):Qt caps (sendG d thr own x (partI d thr x)).1:=by
 have he:=readyD_exK hr;unfold sendG;split
 ·exact h
 ·next hcl=>
  split
  ·exact h.sub _ _ leave_memD
  ·next hp=>
   have hcl:(chE d.chans x.chan).closed=false:=by simpa using hcl
   have hrb:readyB d.chans x=true:=by
    unfold readyD at hr;simpa [hp] using hr
   rw [readyB_of he,if_pos hs,hcl,Bool.false_or,decide_eq_true_eq] at hrb;refine h.put he { chE d.chans x.chan with buf:=(chE d.chans x.chan).buf ++ [x.val] } rfl (by simp; omega) fun y hy c hc hcc=>?_;cases hcs:c.send with
   | false=>exact absurd ⟨hcc.symm,by rw [hs,hcs]; decide⟩ (partI_none hp he y hy (hn y hy) c hc)
   | true=>
    have h1:=h.rd y hy c hc;rw [readyB_of (by rw [hcc]; exact he),if_pos hcs,hcc,hcl,Bool.false_or,decide_eq_false_iff_not] at h1;exact absurd hrb h1
theorem Qt.recv {caps:List Int} {d:DeskM} (h:Qt caps d) {thr:Int} (own:Int) {x:CaseM} (hn:∀y∈d.wait,y.thr≠thr) (hs:x.send=false) (hr:readyD d thr x=true):Qt caps (recvG d thr own x (partI d thr x)).1:=by
 have he:=readyD_exK hr;have hbc:=h.bf _ (chE_mem he);unfold recvG;split
 ·next hb=>
  split
  ·refine (h.sub (leaveD d (partI d thr x).toNat).wait d.tick leave_memD).put he (chE d.chans x.chan) rfl hbc fun y hy c hc hcc=>?_
   have h1:=h.rd y (leave_memD y hy) c hc;have hec:exB d.chans c.chan=true:=by rw [hcc]; exact he
   rw [readyB_of hec] at h1;rw [readyB_of (by rw [exB_put]; exact hec),hcc,chE_put_same he];rw [hcc] at h1;exact h1
  ·exact h
 ·next v l hb=>
  split
  ·refine (h.sub (leaveD d (partI d thr x).toNat).wait d.tick leave_memD).put he { chE d.chans x.chan with buf:=l ++ [partV (wat d.wait (partI d thr x).toNat) x.chan] } rfl (by rw [hb] at hbc; simp at hbc ⊢; omega) fun y hy c hc hcc=>?_
   have h1:=h.rd y (leave_memD y hy) c hc;have hec:exB d.chans c.chan=true:=by rw [hcc]; exact he
   rw [readyB_of hec] at h1;rw [readyB_of (by rw [exB_put]; exact hec),hcc,chE_put_same he];rw [hcc,hb] at h1;simpa using h1
  ·next hp=>
   refine h.put he { chE d.chans x.chan with buf:=l } rfl (by rw [hb] at hbc; simp at hbc ⊢; omega) fun y hy c hc hcc=>?_;cases hcs:c.send with
   | true=>exact absurd ⟨hcc.symm,by rw [hs,hcs]; decide⟩ (partI_none hp he y hy (hn y hy) c hc)
   | false=>
    have h1:=h.rd y hy c hc;rw [readyB_of (by rw [hcc]; exact he),hcs,hcc,hb] at h1;simp at h1
theorem pickD_yes {d:DeskM} {thr:Int} {op:OpM} (h:0≤pickD d thr op):readyD d thr ((casesE op).getD (pickD d thr op).toNat noCase)=true:=by
 unfold pickD at h ⊢;split at h
 ·next hk=>
  rw [if_pos hk];unfold choiceD choiceL at h ⊢;split at h
  ·next i hi=>
   have:=List.find?_some hi;unfold casesE;rw [if_pos hk];exact this
  ·omega
 ·next hk=>
  rw [if_neg hk];split at h
  ·next hr=>rw [if_pos hr]; exact hr
  ·omega
theorem pickD_no {d:DeskM} {thr:Int} {op:OpM} (hg:op.good) (h:¬0≤pickD d thr op):∀c∈casesE op,readyD d thr c=false:=fun c hc=>by
 unfold pickD at h;split at h
 ·next hk=>
  unfold casesE at hc;rw [if_pos hk] at hc;obtain ⟨i,hi,rfl⟩:=List.mem_iff_getElem.1 hc;have hl:=hg.cases;have hm:(i:Int)∈ordL op.cases.length op.draws:=by
   unfold ordL;rw [if_pos ⟨by omega,by omega⟩,Int.toNat_natCast];exact (shuf_full _ _ _ _ (full_asc _) (by omega)).2 i hi
  unfold choiceD choiceL at h;split at h
  ·next j hj=>
   have:=(ordL_mem _ _ _ (List.mem_of_find?_eq_some hj)).1;omega
  ·next hj=>
   have:=List.find?_eq_none.1 hj _ hm;rw [Int.toNat_natCast,getD_lt hi] at this;simpa using this
 ·next hk=>
  split at h
  ·omega
  ·next hr=>
   unfold casesE at hc hr;rw [if_neg hk] at hc hr;split at hc
   ·next ho=>
    rw [if_pos ho] at hr;rw [List.mem_singleton.1 hc];simpa using hr
   ·simp at hc
theorem readyD_no {d:DeskM} {thr:Int} {x:CaseM} (h:readyD d thr x=false):readyB d.chans x=false∧¬0≤partI d thr x:=by
 unfold readyD at h;simpa using h
theorem Qt.does {caps:List Int} {d:DeskM} (h:Qt caps d) {thr:Int} {op:OpM} (hg:op.good) (hn:∀y∈d.wait,y.thr≠thr):Qt caps (doD d thr op).1:=by
 unfold doD;split
 ·exact h.shut _ _
 ·next hk3=>
  split
  ·exact h
  ·split
   ·next hp=>
    have hr:=pickD_yes hp;show Qt caps (doG d thr op (pickD d thr op) _).1;unfold doG;split
    ·next hs=>exact h.send _ hn hs hr
    ·next hs=>exact h.recv _ hn (by simpa using hs) hr
   ·next hp=>
    have hno:=pickD_no hg hp;split
    ·exact h
    ·split
     ·exact h
     ·have hne:∀x∈d.wait,∀c∈casesE op,∀e∈casesE x.op,exB d.chans c.chan=true→¬facB c e:=fun x hx c hc e hce hex=>partI_none (readyD_no (hno c hc)).2 hex x hx (hn x hx) e hce
      refine ⟨h.cp,h.bf,fun x hx=>?_,fun x hx c hc=>?_,fun x hx y hy ht c hc e he hex=>?_⟩
      ·rcases List.mem_append.1 (show x∈d.wait ++ [⟨thr,op⟩] from hx) with hx | hx
       ·exact h.gd x hx
       ·rw [List.mem_singleton.1 hx]; exact ⟨hg,hk3⟩
      ·rcases List.mem_append.1 (show x∈d.wait ++ [⟨thr,op⟩] from hx) with hx | hx
       ·exact h.rd x hx c hc
       ·rw [List.mem_singleton.1 hx] at hc; exact (readyD_no (hno c hc)).1
      ·rcases List.mem_append.1 (show x∈d.wait ++ [⟨thr,op⟩] from hx) with hx | hx
       ·rcases List.mem_append.1 (show y∈d.wait ++ [⟨thr,op⟩] from hy) with hy | hy
        ·exact h.mt x hx y hy ht c hc e he hex
        ·rw [List.mem_singleton.1 hy] at he
         intro hf;have hex2:exB d.chans e.chan=true:=by rw [← hf.1]; exact hex
         exact hne x hx e he c hc hex2 ⟨hf.1.symm,Ne.symm hf.2⟩
       ·rcases List.mem_append.1 (show y∈d.wait ++ [⟨thr,op⟩] from hy) with hy | hy
        ·rw [List.mem_singleton.1 hx] at hc
         exact hne y hy c hc e he hex
        ·rw [List.mem_singleton.1 hx,List.mem_singleton.1 hy] at ht
         exact absurd rfl ht
theorem Qt.rests {caps:List Int} {d:DeskM} (h:Qt caps d):enabP d.chans d.wait=false:=by
 have hw:∀i,i<d.wait.length→wat d.wait i∈d.wait:=fun i hi=>by
  have e:wat d.wait i=d.wait[i]:=getD_lt hi;rw [e];exact List.getElem_mem hi
 refine enabP_no (fun i hi=>?_) fun i hi k hk=>?_
 ·unfold couldP
  rw [if_neg (h.gd _ (hw i hi)).2];have:=(couldAt_nil d.chans (wat d.wait i).op).2 (by
   unfold blockedB;rw [List.all_eq_true];intro c hc;rw [h.rd _ (hw i hi) c hc];rfl)
  omega
 ·unfold enP
  cases ht:((wat d.wait i).thr != (wat d.wait k).thr) with
  | false=>rfl
  | true=>
   have ht2:(wat d.wait i).thr≠(wat d.wait k).thr:=by simpa using ht
   rw [Bool.true_and];unfold meetP;rw [List.any_eq_false];intro c hc;rw [Bool.not_eq_true,List.any_eq_false];intro e he hr;unfold rdvB at hr;simp only [Bool.and_eq_true,beq_iff_eq,bne_iff_ne,ne_eq] at hr;exact h.mt _ (hw i hi) _ (hw k (by omega)) ht2 c hc e he hr.1 ⟨hr.2.1,hr.2.2.1⟩
theorem Qt.len {caps:List Int} {d:DeskM} (h:Qt caps d):d.chans.length=caps.length:=by rw [← h.cp,List.length_map]
theorem Qt.fits {caps:List Int} {d:DeskM} (h:Qt caps d) {k:Nat} (hk:k<d.chans.length):((d.chans.getD k noChan).buf.length:Int)≤caps.getD k 0:=by
 have h1:=h.bf _ (List.getElem_mem hk);have h2:caps.getD k 0=d.chans[k].cap:=by
  rw [← h.cp,List.getD_eq_getElem?_getD,List.getElem?_map,List.getElem?_eq_getElem hk];rfl
 rw [getD_lt hk,h2];exact h1
theorem new_qt (caps:List Int) (h:∀x∈caps,0≤x):Qt caps ⟨nchE caps,[],0⟩:=by
 refine ⟨?_,fun c hc=>?_,fun x hx=>by simp at hx,fun x hx=>by simp at hx,fun x hx=>by simp at hx⟩
 ·show (nchE caps).map ChanM.cap=caps
  unfold nchE;rw [List.map_map];exact List.map_id _
 ·obtain ⟨y,hy,rfl⟩:=List.mem_map.1 (show c∈caps.map _ from hc)
  exact h y hy
structure RsI (Wx wr:World) (g A:Nat) (ra:Array Value) (d:DeskM):Prop where
 gl:g<Wx.heap.size
 gx:Wx.grownBy wr (some g)
 codes:CodesE wr g
 sA:Wx.heap.size≤A
 rA:wr.heap[A]?=some (.cells ra 34 (0,0))
 dA:DeskX (fun b=>b≠g∧b≠A) wr (.agg ra) d
section
variable {Wx wr w2:World} {g A:Nat} {ra r2:Array Value} {d d2:DeskM}
theorem RsI.lA (h:RsI Wx wr g A ra d):A<wr.heap.size:=(Array.getElem?_eq_some_iff.1 h.rA).1
theorem RsI.new (h:RsI Wx wr g A ra d):∀b,wr.heap.size≤b→b≠g∧b≠A:=fun b hb=>by
 have h1:=h.lA;have h3:=h.gl;have h4:=h.sA;exact ⟨by omega,by omega⟩
theorem RsI.below (h:RsI Wx wr g A ra d) (hb:Below wr.heap.size wr w2):RsI Wx w2 g A ra d:=
 ⟨h.gl,grownBy_trans h.gx (grown_belowD hb),h.codes.kept h.codes.lt hb,h.sA,row_below3 hb h.rA,h.dA.below hb⟩
theorem RsI.next (h:RsI Wx wr g A ra d) (hc:CodesE w2 g) (hg:wr.grownBy w2 (some g)):RsI Wx w2 g A ra d:=by
 have h1:=h.gl;have h2:=h.sA;exact ⟨h.gl,grownBy_trans h.gx hg,hc,h.sA,row_keepD hg h.rA (by omega),h.dA.off hg (fun b hb=>hb.1)⟩
theorem RsI.storeA (h:RsI Wx wr g A ra d) (hx:DeskX (fun b=>b≠g∧b≠A) wr (.agg r2) d2):RsI Wx (wr.setRow A r2) g A r2 d2:=by
 have h1:=h.gl;have h2:=h.sA;have hg:=row_grown wr A r2;exact ⟨h.gl,grown_newD h.gx hg h2,h.codes.kept (B:=A) (by omega) (row_below (Below.refl A wr) (Nat.le_refl _) _),h.sA,setRow_heap _ _ _ _ _ (0,0) h.rA,hx.off hg (fun b hb=>hb.2)⟩
theorem RsI.storeO {O N:Nat} {row:Array Value} (h:RsI Wx wr g A ra d) (hd:DeskX (fun b=>(b≠g∧b≠A)∧b<N) wr (.agg ra) d) (hN:N≤O) (hO:Wx.heap.size≤O) (hA:A≠O):RsI Wx (wr.setRow O row) g A ra d:=by
 have h1:=h.gl;have h2:=h.sA;have hg:=row_grown wr O row;exact ⟨h.gl,grown_newD h.gx hg hO,h.codes.kept (B:=O) (by omega) (row_below (Below.refl O wr) (Nat.le_refl _) _),h.sA,row_keepD hg h.rA hA,(hd.off hg (fun b hb=>by omega)).mono fun b hb=>hb.1⟩
theorem RsI.caps {vs x:Value} {ac:Option Addr} {n cc:Nat} {c:ConfM} (h:RsI Wx wr g A ra d) (hc:ConfX Wx g (.agg #[.slice ac n cc,vs,x]) c):SlI wr .i64 (.slice ac n cc) c.caps:=by
 obtain ⟨v1,v2,e,h1,-⟩:=(hc.grown h.gx).conf;simp only [Value.agg.injEq,Array.mk.injEq,List.cons.injEq] at e;rw [e.1];exact h1
theorem RsI.lits {pa qa:Option Addr} {na ka wa la:Nat} {t:Int} (h:RsI Wx wr g A #[.slice pa na ka,.slice qa wa la,.int .i64 t] d):na=d.chans.length∧SlH wr (.slice pa na ka) d.chans∧SlW wr (.slice qa wa la) d.wait:=by
 obtain ⟨vc,vw,e,hc,hw⟩:=h.dA.deskV;simp only [Value.agg.injEq,Array.mk.injEq,List.cons.injEq] at e;obtain ⟨rfl,rfl,-⟩:=e;obtain ⟨a,cap,e2,-⟩:=hc.len;simp only [Value.slice.injEq] at e2;exact ⟨e2.2.1,hc,hw⟩
end
structure RsK (caps:List Int) (i:Nat) (d:DeskM):Prop where
 ok:d.okN (8+i)
 inv:DInv d
 tick:0≤d.tick∧d.tick≤1099511627776
 qt:Qt caps d
theorem RsK.more {caps:List Int} {i:Nat} {d:DeskM} (h:RsK caps i d):RsK caps (i+1) d:=⟨h.ok.mono (by omega),h.inv,h.tick,h.qt⟩
theorem RsK.ticks {caps:List Int} {i:Nat} {d:DeskM} (h:RsK caps i d) (n:Int):RsK caps (i+1) (tickD d n).1:=⟨(h.ok.tick n).mono (by omega),h.inv.tick n,tickD_tick h.tick n,h.qt.tick n⟩
theorem RsK.does {caps:List Int} {i:Nat} {d:DeskM} (h:RsK caps i d) {thr:Int} {op:OpM} (hg:op.good) (hw:waitsD d thr=false):RsK caps (i+1) (doD d thr op).1:=⟨(h.ok.does thr hg.fine).mono (by omega),h.inv.does _ hw,by rw [doD_tick]; exact h.tick,h.qt.does hg (waitsD_mem hw)⟩
end Go.Proofs.Ytiekicailidhcaa
