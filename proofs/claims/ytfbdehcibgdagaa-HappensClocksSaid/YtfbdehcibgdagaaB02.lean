import Derived.Maps.Own
import Derived.Maps.OwnOps
import Derived.Maps.Views
import Derived.WideKeyEntry
import Derived.OrdersHeld
import Derived.RegionTactic
import Derived.Laws.Tables
import Derived.Laws.MakeOwn
import Derived.Laws.AppendOwn
import Derived.Laws.OwnMore
import Derived.Maps.AppendAt
import Derived.Lib.AppendZeros
import Derived.Deep.MidRow
import Derived.Deep.DeepCutAuto
import Derived.Deep.CutBlock
import Derived.Test.YtfbdehcibgdagaaB01
set_option linter.unusedVariables false
set_option linter.unusedSimpArgs false
namespace Go.Proofs.Ytfbdehcibgdagaa
open Go.ChangeShapes Go.WideShapes Go.ChangeAt Go.RowKit Go.WideMaps Go.WideElems Go.MapKept Go.ChangeMaps
set_option maxRecDepth 100000
open Go.Maps (Keyed)
def mvR (v:Value):Option (DataW Value × List MemPlace):=some (.held v,[])
def MapV (k:TypeId) (z:Value) (w:World) (b n:Nat) (f:Lit→Value):Prop:=
 ∃D:DataW Value,w.ownsMap Try.prog k mvR b n D∧∀kl,D.atKey kl (.held z)=.held (f kl)
def UpdL (f:Lit→Value) (kl:Lit) (val:Value) (f2:Lit→Value):Prop:=f2 kl=val∧∀d,d≠kl→f2 d=f d
theorem UpdL.ex (f:Lit→Value) (kl:Lit) (val:Value):∃f2,UpdL f kl val f2:=
 ⟨fun d=>@ite _ (d=kl) (Classical.propDecidable _) val (f d),by simp,fun d hd=>by simp [hd]⟩
section
variable {k t e:TypeId} {z:Value} {w w':World} {b n:Nat} {f:Lit→Value}
theorem MapV.lt (h:MapV k z w b n f):b<w.heap.size:=by
 obtain ⟨D,h,-⟩:=h;exact h.lt
theorem MapV.made (k:TypeId) (z:Value) (w:World):MapV k z (w.alloc (.map #[] 0)) w.heap.size 0 (fun _=>z):=
 ⟨.map [],World.ownsMap_made _ _ _ _,fun c=>WideAt.atKey_none _ (by simp)⟩
theorem MapV.kept {row:Option Nat} (h:MapV k z w b n f) (hg:w.grownBy w' row) (hne:some b≠row):MapV k z w' b n f:=by
 obtain ⟨D,h1,h2⟩:=h;exact ⟨D,h1.kept hg hne,h2⟩
theorem MapV.below (h:MapV k z w b n f) (hb:Below w.heap.size w w'):MapV k z w' b n f:=
 h.kept (row:=none) ⟨hb.os,hb.tape,hb.output,hb.size,fun j hj _=>hb.block j hj⟩ (by simp)
theorem MapV.look (h:MapV k z w b n f) (K:Keyed Try.prog k) (ht:Try.prog.underlying t=some (.map k e)) (hz:(zeroValue e).run Try.prog w=.ok z w) {key:Value} {kl:Lit} (hkey:keyOf Try.prog k key=some kl):(Instr.lookup t (.map (some b)) key false).run Try.prog w=.ok (f kl) w:=by
 obtain ⟨D,h1,h2⟩:=h;obtain ⟨v,ps,hrun,hv⟩:=h1.lookup K ht hz (zd:=.held z) (zp:=[]) rfl hkey;rw [h2 kl] at hv;unfold mvR at hv;simp only [Option.some.injEq,Prod.mk.injEq,DataW.held.injEq] at hv;rw [hrun,hv.1]
theorem MapV.putD {D:DataW Value} (h1:w.ownsMap Try.prog k mvR b n D) (h2:∀kl,D.atKey kl (.held z)=.held (f kl)) (K:Keyed Try.prog k) {key:Value} {kl:Lit} (hkey:keyOf Try.prog k key=some kl) {val:Value} {f2:Lit→Value} (hf:UpdL f kl val f2):∀kl',(D.put kl (.held val)).atKey kl' (.held z)=.held (f2 kl'):=fun kl'=>by
 have hD:Maps.IsMap D:=by obtain ⟨es,clock,-,-,-,rfl⟩:=h1; exact ⟨_,rfl⟩
 by_cases e:kl'=kl
 ·subst e
  rw [Maps.atKey_put_same hD (K.key hkey),hf.1]
 ·rw [Maps.atKey_put_other e,h2 kl',hf.2 _ e]
theorem pair_eq {α:Type} {R:α→α→Prop} (hs:∀a b,R a b→R b a):∀{l:List α},l.Pairwise R→∀a∈l,∀b∈l,¬R a b→a=b
 | [],_,a,ha,_,_,_=>by simp at ha
 | x :: l,h,a,ha,b,hb,hn=>by
  have h1:=List.pairwise_cons.1 h;rcases List.mem_cons.1 ha with ha | ha
  ·rcases List.mem_cons.1 hb with hb | hb
   ·rw [ha,hb]
   ·rw [ha] at hn; exact absurd (h1.1 b hb) hn
  ·rcases List.mem_cons.1 hb with hb | hb
   ·rw [hb] at hn; exact absurd (hs _ _ (h1.1 a ha)) hn
   ·exact pair_eq hs h1.2 a ha b hb hn
theorem fit_one {es:Array MapEntry} {clock:Nat} (K:Keyed Try.prog k) (F:Fit Try.prog k mvR es clock) {key:Value} {kl:Lit} (hkey:keyOf Try.prog k key=some kl) {x y:MapEntry} (hx:x∈es.toList) (hy:y∈es.toList) (h1:x.key=key) (h2:y.key=key):x=y:=by
 have hp:=List.pairwise_map.1 (Maps.fit_apart K F);refine pair_eq (fun a b h e=>h e.symm) hp x hx y hy (fun h=>h ?_);obtain ⟨a,ha⟩:=F.reads x hx;obtain ⟨c,hc⟩:=F.reads y hy;have m1:=rd_key ha;have m2:=rd_key hc;rw [h1,hkey] at m1;rw [h2,hkey] at m2;rw [rg_of ha,rg_of hc];exact (Option.some.inj m1).symm.trans (Option.some.inj m2)
theorem wp_put_v {ops:Array Oper} {rest:List Oper} {o:Oper} {a:Act} {Q:Exit→Act→World→Prop} (hM:MapV k z w b n f) (hn:n<1000001) (hg:o.guard=none) (m x v:Operand) (t:TypeId) (hop:o.op=Op.mapUpdate t m x v) (e:TypeId) (K:Keyed Try.prog k) (ht:Try.prog.underlying t=some (.map k e)) (key val:Value) (kl:Lit) (hm:a.eval m=.map (some b)) (hx:a.eval x=key) (hv:a.eval v=val) (hkey:keyOf Try.prog k key=some kl)
  (hK:∀w' f2,UpdL f kl val f2→MapV k z w' b (n+1) f2→w.grownBy w' (some b)→wpList Try.prog ops Q rest (a.put o.dst undef) w'):wpList Try.prog ops Q (o :: rest) a w:=by
 obtain ⟨D,h1,h2⟩:=hM;exact wpList_mapUpdate_own w hg m x v t hop k e K ht mvR b n D hm h1 (by unfold maxLen; omega) key val kl hx hv hkey (.held val) [] rfl fun w' h3 h4=>by
  obtain ⟨f2,hf⟩:=UpdL.ex f kl val;exact hK w' f2 hf ⟨_,h3,MapV.putD h1 h2 K hkey hf⟩ h4
theorem MapV.entry (h:MapV k z w b n f) (hn:n<1000001) (K:Keyed Try.prog k) (ht:Try.prog.underlying t=some (.map k e)) (hz:∀u:World,(zeroValue e).run Try.prog u=.ok z u) (KL:KeyLaw Try.prog k) {key:Value} {kl:Lit} (hkey:keyOf Try.prog k key=some kl) :
  ∃(st:Nat) (w1:World),(Instr.mapEntry t (.map (some b)) key).run Try.prog w=.ok (.tuple #[f kl,goInt st]) w1∧w.grownBy w1 (some b)∧
   ∀(w2:World) (val:Value),w2.heap[b]?=w1.heap[b]?→∃w3,(Instr.entryStore t (.map (some b)) (goInt st) val).run Try.prog w2=.ok () w3∧(∃f2,UpdL f kl val f2∧MapV k z w3 b (n+1) f2)∧w2.grownBy w3 (some b):=by
 obtain ⟨D,h1,h2⟩:=h;have hD:=h1;obtain ⟨es,clock,hb,F,hs,hDe⟩:=hD;obtain ⟨v0,st,es1,clock1,hrun,hv0,hst⟩:=entry_then_store KL ht hz hb F hkey;have hv:v0=f kl:=by
  obtain ⟨v,ps,hrun2,hvv⟩:=h1.lookup K ht (hz w) (zd:=.held z) (zp:=[]) rfl hkey;rw [h2 kl] at hvv;unfold mvR at hvv;simp only [Option.some.injEq,Prod.mk.injEq,DataW.held.injEq] at hvv;rcases Maps.fit_look false K ht (hz w) hb F hkey with ⟨hr,hno,-⟩ | ⟨e0,y,he0,hk0,hr,-⟩
  ·rw [hr] at hrun2
   rcases hv0 with ⟨e1,he1,hk1,-⟩ | ⟨-,hz0⟩
   ·exact absurd hk1 (hno e1 he1)
   ·rw [hz0,← hvv.1]; simpa using hrun2
  ·rw [hr] at hrun2
   rcases hv0 with ⟨e1,he1,hk1,hv1⟩ | ⟨hno,-⟩
   ·rw [hv1,fit_one K F hkey he1 he0 hk1 hk0,← hvv.1]
    simpa using hrun2
   ·exact absurd hk0 (hno e0 he0)
 refine ⟨st,setBlock w b (.map es1 clock1),by rw [hrun,hv],⟨rfl,rfl,rfl,by simp [setBlock],fun i _ hi=>heap_setBlock_other hb _ (fun e=>hi (by rw [e]))⟩,fun w2 val hw2=>?_⟩;rw [heap_setBlock_same hb _] at hw2;obtain ⟨es',clock',hr2,hr3⟩:=hst w2 val hw2;obtain ⟨w',hr4,h5,h6⟩:=h1.update K ht (show n<maxLen by unfold maxLen; omega) (d:=.held val) (ps:=[]) hkey rfl;rw [hr3] at hr4;have hw':setBlock w b (.map es' clock')=w':=by simpa using hr4
 subst hw';obtain ⟨es2,clock2,hb2,F2,hs2,hD2⟩:=h5;rw [heap_setBlock_same hb _] at hb2;obtain ⟨f2,hf⟩:=UpdL.ex f kl val;refine ⟨_,hr2,⟨f2,hf,_,⟨es2,clock2,(heap_setBlock_same hw2 _).trans hb2,F2,hs2,hD2⟩,MapV.putD h1 h2 K hkey hf⟩,⟨rfl,rfl,rfl,by simp [setBlock],fun i _ hi=>heap_setBlock_other hw2 _ (fun e=>hi (by rw [e]))⟩⟩
end
section
variable {P:Program} {ops:Array Oper} {Q:Exit→Act→World→Prop} {md:Region.Mode} {S:World→Prop} {k:Nat}
def wpAnyU (P:Program) (md:Region.Mode) (ops:Array Oper) (Q:Exit→Act→World→Prop) (S:World→Prop) (k:Nat):Nat→Array Bool→Act→World→Prop
 | 0,listed,a,w=>Region.ready md ops listed=[]∧Q .normal a w
 | fuel+1,listed,a,w=>
  (Region.ready md ops listed=[]→Q .normal a w)∧
  ∀i∈Region.ready md ops listed,wpOp P ops Q i (fun a' w'=>((listed.setIfInBounds i true).getD k true=false→S w')∧wpAnyU P md ops Q S k fuel (listed.setIfInBounds i true) a' w') a w
theorem wpAny_of_until:∀(fuel:Nat) (listed:Array Bool) (a:Act) (w:World),wpAnyU P md ops Q S k fuel listed a w→wpAny P md ops Q fuel listed a w
 | 0,_,_,_,h=>h
 | fuel+1,_,_,_,h=>⟨h.1,fun i hi=>wpOp_mono (fun a' w' h'=>wpAny_of_until fuel _ a' w' h'.2) (h.2 i hi)⟩
def waitsFor (md:Region.Mode) (ops:Array Oper) (k i:Nat):Bool:=k != i && (match ops[k]? with | some o=>o.after.any (fun e=>Region.binds md e && e.on == i) | none=>false)
theorem waitsFor_spec {i:Nat} (h:waitsFor md ops k i=true):k≠i∧∃o e,ops[k]?=some o∧e∈o.after∧Region.binds md e=true∧e.on=i:=by
 simp only [waitsFor,Bool.and_eq_true,bne_iff_ne,ne_eq] at h;obtain ⟨h1,h2⟩:=h;refine ⟨h1,?_⟩;cases ho:ops[k]? with
 | none=>rw [ho] at h2; cases h2
 | some o=>
  rw [ho] at h2;simp only [Array.any_eq_true] at h2;obtain ⟨j,hj,hh⟩:=h2;simp only [Bool.and_eq_true,beq_iff_eq] at hh;exact ⟨o,_,rfl,Array.getElem_mem hj,hh.1,hh.2⟩
theorem wpAnyU_first {i:Nat} {oi:Oper} {v:Value} (hi:ops[i]?=some oi) (hsel:∀(j:Nat) (o:Oper) cs b,ops[j]?=some o→o.op≠.select cs b)
  (hQ:∀c a w,Q (.panic c) (a.put oi.dst v) w→Q (.panic c) a w) (hk:waitsFor md ops k i=true) :
  ∀(fuel:Nat) (listed:Array Bool) (a:Act) (w:World),
   (∀j oj,ops[j]?=some oj→j≠i→listed.getD j true=false→(∀e∈oj.after,Region.binds md e=true→e.on≠i)→oi.apart ops oj=true)→
   i∈Region.ready md ops listed→listed.getD k true=false→YieldsIf P ops S oi v a→S w→
   wpAnyU P md ops Q S k fuel (listed.setIfInBounds i true) (a.put oi.dst v) w→wpAnyU P md ops Q S k (fuel+1) listed a w:=by
 obtain ⟨hki,ok,ek,hok,hek,hbk,honk⟩:=waitsFor_spec hk;intro fuel;induction fuel with
 | zero=>
  intro listed a w _ hr _ hy hS H;refine ⟨fun h=>(by rw [h] at hr; cases hr),fun j hj=>?_⟩;by_cases hji:j=i
  ·subst hji; exact hy.wpOp hi hS ⟨fun _=>hS,H⟩
  ·have:=ready_mono hj hji
   rw [H.1] at this;cases this
 | succ fuel ih=>
  intro listed a w hfree hr hkl hy hS H;refine ⟨fun h=>(by rw [h] at hr; cases hr),fun j hj=>?_⟩;by_cases hji:j=i
  ·subst hji; exact hy.wpOp hi hS ⟨fun _=>hS,H⟩
  ·have h1:=H.2 j (ready_mono hj hji)
   obtain ⟨hjun,oj,hoj,hall⟩:=mem_ready.1 hj;have hnot:∀e∈oj.after,Region.binds md e=true→e.on≠i:=fun e he hb heq=>by
    have h1:=hall e he hb;have h0:=(mem_ready.1 hr).1;rw [heq] at h1;rcases Nat.lt_or_ge i listed.size with h' | h'
    ·simp [h'] at h0 h1; rw [h0] at h1; cases h1
    ·simp [Array.getElem?_eq_none h'] at h1
   have hjk:j≠k:=fun e=>by
    subst e;rw [hok] at hoj;cases hoj;exact hnot ek hek hbk honk
   have h2:=wpOp_putIf hoj (hfree j oj hoj hji hjun hnot) (fun cs b=>hsel i oi cs b hi) (fun cs b=>hsel j oj cs b hoj) hQ hy h1;have hfree':∀k ok,ops[k]?=some ok→k≠i→(listed.setIfInBounds j true).getD k true=false→
     (∀e∈ok.after,Region.binds md e=true→e.on≠i)→oi.apart ops ok=true:=fun k ok hk hki hun hno=>by
    refine hfree k ok hk hki ?_ hno;by_cases hjk:j=k
    ·subst hjk; exact hjun
    ·rw [getD_set_ne true hjk] at hun; exact hun
   have hkj:(listed.setIfInBounds j true).getD k true=false:=by rw [getD_set_ne true hjk]; exact hkl
   have hkij:((listed.setIfInBounds i true).setIfInBounds j true).getD k true=false:=by rw [getD_set_ne true hjk,getD_set_ne true (Ne.symm hki)]; exact hkl
   refine wpOp_mono (fun a' w' h3=>⟨fun _=>h3.2.1 hkij,ih (listed.setIfInBounds j true) a' w' hfree' (ready_mono hr (Ne.symm hji)) hkj h3.1 (h3.2.1 hkij) ?_⟩) h2;rw [Array.setIfInBounds_comm _ _ hji];exact h3.2.2
theorem wpAnyU_firstW {i:Nat} {oi:Oper} {v:Value} (hi:ops[i]?=some oi) (hsel:∀(j:Nat) (o:Oper) cs b,ops[j]?=some o→o.op≠.select cs b)
  (hQ:∀c a w,Q (.panic c) (a.put oi.dst v) w→Q (.panic c) a w) (hki:k≠i) :
  ∀(fuel:Nat) (listed:Array Bool) (a:Act) (w:World),
   (∀j oj,ops[j]?=some oj→j≠i→listed.getD j true=false→(∀e∈oj.after,Region.binds md e=true→e.on≠i)→oi.apart ops oj=true)→
   i∈Region.ready md ops listed→YieldsIf P ops (fun _=>True) oi v a→(listed.getD k true=false→S w)→
   wpAnyU P md ops Q S k fuel (listed.setIfInBounds i true) (a.put oi.dst v) w→wpAnyU P md ops Q S k (fuel+1) listed a w:=by
 have hkk:∀l:Array Bool,(l.setIfInBounds i true).getD k true=l.getD k true:=fun l=>getD_set_ne true (Ne.symm hki);intro fuel;induction fuel with
 | zero=>
  intro listed a w _ hr hy hS H;refine ⟨fun h=>(by rw [h] at hr; cases hr),fun j hj=>?_⟩;by_cases hji:j=i
  ·subst hji; exact hy.wpOp hi trivial ⟨by rw [hkk]; exact hS,H⟩
  ·have:=ready_mono hj hji
   rw [H.1] at this;cases this
 | succ fuel ih=>
  intro listed a w hfree hr hy hS H;refine ⟨fun h=>(by rw [h] at hr; cases hr),fun j hj=>?_⟩;by_cases hji:j=i
  ·subst hji; exact hy.wpOp hi trivial ⟨by rw [hkk]; exact hS,H⟩
  ·have h1:=H.2 j (ready_mono hj hji)
   obtain ⟨hjun,oj,hoj,hall⟩:=mem_ready.1 hj;have hnot:∀e∈oj.after,Region.binds md e=true→e.on≠i:=fun e he hb heq=>by
    have h1:=hall e he hb;have h0:=(mem_ready.1 hr).1;rw [heq] at h1;rcases Nat.lt_or_ge i listed.size with h' | h'
    ·simp [h'] at h0 h1; rw [h0] at h1; cases h1
    ·simp [Array.getElem?_eq_none h'] at h1
   have h2:=wpOp_putIf hoj (hfree j oj hoj hji hjun hnot) (fun cs b=>hsel i oi cs b hi) (fun cs b=>hsel j oj cs b hoj) hQ hy h1;have hfree':∀k ok,ops[k]?=some ok→k≠i→(listed.setIfInBounds j true).getD k true=false→
     (∀e∈ok.after,Region.binds md e=true→e.on≠i)→oi.apart ops ok=true:=fun k ok hk hki hun hno=>by
    refine hfree k ok hk hki ?_ hno;by_cases hjk:j=k
    ·subst hjk; exact hjun
    ·rw [getD_set_ne true hjk] at hun; exact hun
   have hc:=Array.setIfInBounds_comm (xs:=listed) true true hji;refine wpOp_mono (fun a' w' h3=>?_) h2;have h4:(listed.setIfInBounds j true).getD k true=false→S w':=fun h0=>h3.2.1 (by rw [← hc,hkk]; exact h0);refine ⟨h4,ih (listed.setIfInBounds j true) a' w' hfree' (ready_mono hr (Ne.symm hji)) h3.1 h4 ?_⟩;rw [hc];exact h3.2.2
inductive ListAt {α:Type}:List α→Nat→α→Prop
 | zero {x:α} {l:List α}:ListAt (x :: l) 0 x
 | succ {x y:α} {l:List α} {n:Nat} (h:ListAt l n x):ListAt (y :: l) (n+1) x
theorem ListAt.get {α:Type} {l:List α} {n:Nat} {x:α} (h:ListAt l n x):l.toArray[n]?=some x:=by
 induction h with
 | zero=>simp
 | succ h ih=>simpa using ih
theorem wpAnyU_take {l:List Oper} (i:Nat) {oi:Oper} {v:Value} {fuel:Nat} {listed:Array Bool} {a:Act} {w:World} (hi:ListAt l i oi)
  (hs:Region.noSelect l.toArray=true) (hf:Region.free md l.toArray listed i=true) (hr:(Region.ready md l.toArray listed).contains i=true) (hk:waitsFor md l.toArray k i=true) (hkl:listed.getD k true=false)
  (hQ:∀c a w,Q (.panic c) (a.put oi.dst v) w→Q (.panic c) a w) (hS:S w) (hg:oi.guard=none) (hy:∀w,S w→(execOp a.eval oi).run P w=.ok (.value v) w)
  (h:wpAnyU P md l.toArray Q S k fuel (listed.setIfInBounds i true) (a.put oi.dst v) w):wpAnyU P md l.toArray Q S k (fuel+1) listed a w:=
 wpAnyU_first hi.get (Region.noSelect_spec hs) hQ hk fuel listed a w (Region.free_spec hi.get hf) (by simpa using hr) hkl (.inl ⟨by simp [Region.wanted,hg],hy⟩) hS h
theorem wpAnyU_takeW {l:List Oper} (i:Nat) {oi:Oper} {v:Value} {fuel:Nat} {listed:Array Bool} {a:Act} {w:World} (hi:ListAt l i oi)
  (hs:Region.noSelect l.toArray=true) (hf:Region.free md l.toArray listed i=true) (hr:(Region.ready md l.toArray listed).contains i=true) (hk:(k != i)=true)
  (hQ:∀c a w,Q (.panic c) (a.put oi.dst v) w→Q (.panic c) a w) (hS:listed.getD k true=false→S w) (hg:oi.guard=none) (hy:∀w,(execOp a.eval oi).run P w=.ok (.value v) w)
  (h:wpAnyU P md l.toArray Q S k fuel (listed.setIfInBounds i true) (a.put oi.dst v) w):wpAnyU P md l.toArray Q S k (fuel+1) listed a w:=
 wpAnyU_firstW hi.get (Region.noSelect_spec hs) hQ (by simpa using hk) fuel listed a w (Region.free_spec hi.get hf) (by simpa using hr) (.inl ⟨by simp [Region.wanted,hg],fun w _=>hy w⟩) hS h
theorem past_k {S:Prop} {l:Array Bool} {k:Nat} (h:l.getD k true=true):l.getD k true=false→S:=fun h0=>by rw [h] at h0; cases h0
def AllReadyU (P:Program) (md:Region.Mode) (ops:Array Oper) (Q:Exit→Act→World→Prop) (S:World→Prop) (k fuel:Nat) (listed:Array Bool) (a:Act) (w:World) (rs:List Nat):Prop:=
 ∀i∈rs,wpOp P ops Q i (fun a' w'=>((listed.setIfInBounds i true).getD k true=false→S w')∧wpAnyU P md ops Q S k fuel (listed.setIfInBounds i true) a' w') a w
theorem AllReadyU.nil {fuel:Nat} {listed:Array Bool} {a:Act} {w:World}:AllReadyU P md ops Q S k fuel listed a w []:=fun _ h=>by cases h
def ShutU (p:Prop):Prop:=p
theorem ShutU.out {p:Prop} (h:ShutU p):p:=h
theorem AllReadyU.cons {l:List Oper} {fuel:Nat} {listed:Array Bool} {a:Act} {w:World} {i:Nat} {o:Oper} {rs:List Nat} (ho:ListAt l i o) (hg:o.guard=none)
  (h:∀K':Act→World→Prop,ShutU (∀a w,S w→(S w→wpAnyU P md l.toArray Q S k fuel (listed.setIfInBounds i true) a w)→K' a w)→if Region.wanted o (yielded l.toArray a.tmps)=true then Oper.wp P o a w K' Q else K' (a.put o.dst undef) w)
  (hs:AllReadyU P md l.toArray Q S k fuel listed a w rs):AllReadyU P md l.toArray Q S k fuel listed a w (i :: rs):=fun j hj=>by
 rcases List.mem_cons.1 hj with rfl | hj
 ·exact wpOp_step ho.get (fun K' hK=>h K' (fun a w hS hW=>hK a w ⟨fun _=>hS,hW hS⟩))
 ·exact hs j hj
theorem AllReadyU.free {l:List Oper} {fuel:Nat} {listed:Array Bool} {a:Act} {w:World} {i:Nat} {o:Oper} {rs:List Nat} (ho:ListAt l i o) (hg:o.guard=none)
  (hk:(listed.setIfInBounds i true).getD k true=true)
  (h:∀K':Act→World→Prop,ShutU (∀a w,wpAnyU P md l.toArray Q S k fuel (listed.setIfInBounds i true) a w→K' a w)→if Region.wanted o (yielded l.toArray a.tmps)=true then Oper.wp P o a w K' Q else K' (a.put o.dst undef) w)
  (hs:AllReadyU P md l.toArray Q S k fuel listed a w rs):AllReadyU P md l.toArray Q S k fuel listed a w (i :: rs):=fun j hj=>by
 rcases List.mem_cons.1 hj with rfl | hj
 ·exact wpOp_step ho.get (fun K' hK=>h K' (fun a w hW=>hK a w ⟨fun h0=>(by rw [hk] at h0; cases h0),hW⟩))
 ·exact hs j hj
theorem wpAnyU_ready {rs:List Nat} {fuel:Nat} {listed:Array Bool} {a:Act} {w:World} (hr:Region.ready md ops listed=rs) (hne:rs.isEmpty=false)
  (h:AllReadyU P md ops Q S k fuel listed a w rs):wpAnyU P md ops Q S k (fuel+1) listed a w:=
 by
 refine ⟨fun h0=>?_,?_⟩
 ·rw [hr] at h0
  subst h0;cases hne
 ·rw [hr]
  exact h
theorem wpAnyU_done {listed:Array Bool} {a:Act} {w:World} (hr:Region.ready md ops listed=[]) (h:Q .normal a w) :
  ∀fuel,wpAnyU P md ops Q S k fuel listed a w
 | 0=>⟨hr,h⟩
 | _+1=>⟨fun _=>h,by rw [hr]; simp⟩
theorem wp_region_until (S:World→Prop) (k:Nat) {l:List Oper} (n:Nat) {id:Nat} {a:Act} {w:World} (hm:P.follows .mixedOrders=true) (hn:l.toArray.size=n)
  (h:wpAnyU P .any l.toArray Q S k n (Array.replicate n false) a w.drew):(Code.region id l.toArray true).wp P Q a w:=by
 subst hn;exact wp_region_any hm (wpAny_of_until _ _ _ _ h)
end
theorem la0 {α:Type} {x:α} {l:List α}:ListAt (x :: l) 0 x:=.zero
theorem la1 {α:Type} {x y0:α} {l:List α}:ListAt (y0 :: x :: l) 1 x:=.succ la0
theorem la2 {α:Type} {x y0 y1:α} {l:List α}:ListAt (y0 :: y1 :: x :: l) 2 x:=.succ la1
theorem la3 {α:Type} {x y0 y1 y2:α} {l:List α}:ListAt (y0 :: y1 :: y2 :: x :: l) 3 x:=.succ la2
theorem la4 {α:Type} {x y0 y1 y2 y3:α} {l:List α}:ListAt (y0 :: y1 :: y2 :: y3 :: x :: l) 4 x:=.succ la3
theorem la5 {α:Type} {x y0 y1 y2 y3 y4:α} {l:List α}:ListAt (y0 :: y1 :: y2 :: y3 :: y4 :: x :: l) 5 x:=.succ la4
theorem la6 {α:Type} {x y0 y1 y2 y3 y4 y5:α} {l:List α}:ListAt (y0 :: y1 :: y2 :: y3 :: y4 :: y5 :: x :: l) 6 x:=.succ la5
theorem la7 {α:Type} {x y0 y1 y2 y3 y4 y5 y6:α} {l:List α}:ListAt (y0 :: y1 :: y2 :: y3 :: y4 :: y5 :: y6 :: x :: l) 7 x:=.succ la6
theorem la8 {α:Type} {x y0 y1 y2 y3 y4 y5 y6 y7:α} {l:List α}:ListAt (y0 :: y1 :: y2 :: y3 :: y4 :: y5 :: y6 :: y7 :: x :: l) 8 x:=.succ la7
theorem la9 {α:Type} {x y0 y1 y2 y3 y4 y5 y6 y7 y8:α} {l:List α}:ListAt (y0 :: y1 :: y2 :: y3 :: y4 :: y5 :: y6 :: y7 :: y8 :: x :: l) 9 x:=.succ la8
theorem la10 {α:Type} {x y0 y1 y2 y3 y4 y5 y6 y7 y8 y9:α} {l:List α}:ListAt (y0 :: y1 :: y2 :: y3 :: y4 :: y5 :: y6 :: y7 :: y8 :: y9 :: x :: l) 10 x:=.succ la9
def looksOk (md:Region.Mode) (ops:Array Oper) (k i:Nat) (listed:Array Bool):Bool:=Region.noSelect ops && (Region.free md ops listed i && ((Region.ready md ops listed).contains i && (waitsFor md ops k i && !(listed.getD k true))))
theorem tkU {P:Program} {Q:Exit→Act→World→Prop} {md:Region.Mode} {S:World→Prop} {k:Nat} {l:List Oper} (i:Nat) {oi:Oper} {v:Value} {fuel:Nat} {listed:Array Bool} {a:Act} {w:World} (hi:ListAt l i oi) (hS:S w)
  (hc:looksOk md l.toArray k i listed=true) (hQ:∀c a w,Q (.panic c) (a.put oi.dst v) w→Q (.panic c) a w) (hg:oi.guard=none)
  (hy:∀w,S w→(execOp a.eval oi).run P w=.ok (.value v) w) (h:wpAnyU P md l.toArray Q S k fuel (listed.setIfInBounds i true) (a.put oi.dst v) w):wpAnyU P md l.toArray Q S k (fuel+1) listed a w:=by
 unfold looksOk at hc;simp only [Bool.and_eq_true,Bool.not_eq_true'] at hc;exact wpAnyU_take i hi hc.1 hc.2.1 hc.2.2.1 hc.2.2.2.1 hc.2.2.2.2 hQ hS hg hy h
theorem untilK {P:Program} {Q:Exit→Act→World→Prop} {S:World→Prop} {W0:World} (hK:Hid (∀w',Below W0.heap.size W0 w'→S w')) (k n:Nat) {l:List Oper} {id:Nat} {a:Act} {w:World}
  (hm:P.follows .mixedOrders=true) (hn:l.toArray.size=n) (h:wpAnyU P .any l.toArray Q S k n (Array.replicate n false) a w.drew):(Code.region id l.toArray true).wp P Q a w:=wp_region_until S k n hm hn h
theorem step_store_row {P:Program} {ops:Array Oper} {Q:Exit→Act→World→Prop} {o:Oper} {a:Act} {w:World} {K:Act→World→Prop} {E:Prop} (hgd:o.guard=none) (ty:TypeId) (x y:Operand) (ho:o.op=.store ty x y)
  (g:Nat) (cells:Array Value) (hx:a.eval x=.pointer (some ⟨g,0,none⟩)) (hy:a.eval y=.agg cells)
  (t:TypeId) (old:Array Value) (hg:w.heap[g]?=some (.cells old t (0,0))) (hi:(P.info? ty).map (·.size)=some cells.size)
  (hold:old.size=cells.size) (h1:cells.all (·.oneCell')=true)
  (h:K (a.put o.dst undef) (w.setRow g cells)):if Region.wanted o (yielded ops a.tmps)=true then Oper.wp P o a w K Q else E:=by
 rw [if_pos (by simp [Region.wanted,hgd])];exact wp_store_row ty x y ho g cells hx hy t old hg hi hold h1 h
theorem alloc_pack (w:World) (o:Obj):∃(w':World) (b:Nat),w.alloc o=w'∧w.heap.size=b∧Hid (w'.heap[b]?=some o)∧Hid (Below w.heap.size w w')∧Hid (b<w'.heap.size):=
 ⟨w.alloc o,w.heap.size,rfl,rfl,(by show (w.heap.push o)[w.heap.size]?=some o; exact Array.getElem?_push_size),below_new (Below.refl _ _) _,(by show w.heap.size<(w.heap.push o).size; rw [Array.size_push]; omega)⟩
theorem drew_pack (w:World):∃u:World,w.drew=u∧Hid (Below w.heap.size w u):=⟨_,rfl,below_drewN (Below.refl _ _) 1⟩
theorem OwnI.made {w:World} {base X n:Nat} {e:TypeId} {k:IntKind} (h:w.heap[X]?=some (.cells (madeCells #[.int k 0] n) e (0,0))) (hb:base≤X) (hn:n≤1000000):OwnI w base e k (.slice (some ⟨X,0,none⟩) n n) (List.replicate n 0):=by
 have hm:n≤maxLen:=by unfold maxLen; omega
 refine ⟨by rw [List.length_map,Nat.mul_one],.inr ⟨X,n,_,by rw [List.length_replicate],hb,h,by rw [List.length_replicate]; exact Nat.le_refl _,hm,by rw [size_madeCells,Nat.mul_one],?_⟩⟩;rw [toList_madeCells_one,List.length_replicate,Nat.mul_one,List.map_replicate,List.take_of_length_le (by rw [List.length_replicate]; exact Nat.le_refl _)]
theorem ownsRow_made {w:World} {base X n:Nat} {e:TypeId} {z:Value} (h:w.heap[X]?=some (.cells (madeCells #[z] n) e (0,0))) (hb:base≤X) (hn:n≤1000000):w.ownsRow base e 1 (.slice (some ⟨X,0,none⟩) n n) n (List.replicate n z):=by
 have hm:n≤maxLen:=by unfold maxLen; omega
 refine ⟨by rw [List.length_replicate,Nat.mul_one],.inr ⟨X,n,_,rfl,hb,h,Nat.le_refl _,hm,by rw [size_madeCells,Nat.mul_one],?_⟩⟩;rw [toList_madeCells_one,Nat.mul_one,List.take_of_length_le (by rw [List.length_replicate]; exact Nat.le_refl _)]
theorem laG {α:Type}:∀(l:List α) (i:Nat) (x:α),l[i]?=some x→ListAt l i x
 | y :: l,0,x,h=>by simp at h; subst h; exact .zero
 | y :: l,i+1,x,h=>.succ (laG l i x (by simpa using h))
theorem J0 (t:Array Value) (d:Nat) (v:Value) (f):(Act.mk t f).put (some d) v=Act.mk (t.setIfInBounds d v) f:=rfl
theorem J1 (a:Act) (v:Value):a.put none v=a:=rfl
theorem J2 {α:Type} (l:List α) (i:Nat) (x:α):l.toArray.setIfInBounds i x=(l.set i x).toArray:=by simp
theorem J3 {α:Type} (a b:α) (l:List α):(a :: l).set 0 b=b :: l:=rfl
theorem J4 {α:Type} (a b:α) (l:List α) (n:Nat):(a :: l).set (n+1) b=a :: l.set n b:=rfl
section
variable {P:Program} {Q:Exit→Act→World→Prop} {md:Region.Mode} {S:World→Prop} {k:Nat} {l:List Oper} {oi:Oper} {v:Value} {fuel:Nat} {listed:Array Bool} {a:Act} {w:World}
theorem tkV (i:Nat) (hS:S w) (hi:l[i]?=some oi) (hc:looksOk md l.toArray k i listed=true) (hQ:∀c a w,Q (.panic c) (a.put oi.dst v) w→Q (.panic c) a w) (hg:oi.guard=none)
  (hy:∀w,S w→(execOp a.eval oi).run P w=.ok (.value v) w) (h:wpAnyU P md l.toArray Q S k fuel (listed.setIfInBounds i true) (a.put oi.dst v) w):wpAnyU P md l.toArray Q S k (fuel+1) listed a w:=tkU i (laG _ _ _ hi) hS hc hQ hg hy h
def lookOkW (md:Region.Mode) (ops:Array Oper) (k i:Nat) (listed:Array Bool):Bool:=Region.noSelect ops && (Region.free md ops listed i && ((Region.ready md ops listed).contains i && (k != i)))
theorem tkW (i:Nat) (hS:listed.getD k true=false→S w) (hi:l[i]?=some oi) (hc:lookOkW md l.toArray k i listed=true) (hQ:∀c a w,Q (.panic c) (a.put oi.dst v) w→Q (.panic c) a w) (hg:oi.guard=none)
  (hy:∀w,(execOp a.eval oi).run P w=.ok (.value v) w) (h:wpAnyU P md l.toArray Q S k fuel (listed.setIfInBounds i true) (a.put oi.dst v) w):wpAnyU P md l.toArray Q S k (fuel+1) listed a w:=by
 unfold lookOkW at hc;simp only [Bool.and_eq_true] at hc;exact wpAnyU_takeW i (laG _ _ _ hi) hc.1 hc.2.1 hc.2.2.1 hc.2.2.2 hQ hS hg hy h
theorem consU (i:Nat) (hi:l[i]?=some oi) (hr:Region.ready md l.toArray listed=[i]) (hg:oi.guard=none)
  (h:∀K':Act→World→Prop,ShutU (∀a w,S w→(S w→wpAnyU P md l.toArray Q S k fuel (listed.setIfInBounds i true) a w)→K' a w)→if Region.wanted oi (yielded l.toArray a.tmps)=true then Oper.wp P oi a w K' Q else K' (a.put oi.dst undef) w):wpAnyU P md l.toArray Q S k (fuel+1) listed a w:=
 wpAnyU_ready hr rfl (AllReadyU.cons (laG _ _ _ hi) hg h AllReadyU.nil)
theorem freeU (i:Nat) (hi:l[i]?=some oi) (hr:Region.ready md l.toArray listed=[i]) (hg:oi.guard=none) (hk:(listed.setIfInBounds i true).getD k true=true)
  (h:∀K':Act→World→Prop,ShutU (∀a w,wpAnyU P md l.toArray Q S k fuel (listed.setIfInBounds i true) a w→K' a w)→if Region.wanted oi (yielded l.toArray a.tmps)=true then Oper.wp P oi a w K' Q else K' (a.put oi.dst undef) w):wpAnyU P md l.toArray Q S k (fuel+1) listed a w:=
 wpAnyU_ready hr rfl (AllReadyU.free (laG _ _ _ hi) hg hk h AllReadyU.nil)
end
def Rows' (s:Nat) (rows:List (List Value)):Prop:=∀r∈rows,r.length=s∧∀u∈r,u.oneCell'=true
def OwnS (w:World) (base:Nat) (e:TypeId) (s:Nat) (v:Value) (rows:List (List Value)):Prop:=
 Rows' s rows∧w.ownsRow base e s v rows.length rows.flatten
section
variable {w w':World} {base:Nat} {e:TypeId} {s:Nat} {v:Value} {rows:List (List Value)}
theorem OwnS.nil (w:World) (base:Nat) (e:TypeId) (s:Nat):OwnS w base e s (.slice none 0 0) []:=⟨fun r h=>by simp at h,World.ownsRow_nil w base _ s⟩
theorem OwnS.shape (h:OwnS w base e s v rows):(v=.slice none 0 0∧rows=[])∨∃g cap,v=.slice (some ⟨g,0,none⟩) rows.length cap∧base≤g∧g<w.heap.size∧rows.length≤cap:=by
 rcases h.2.2 with ⟨rfl,h2⟩ | ⟨g,cap,cur,rfl,h3,h4,h5,h6,_,_⟩
 ·exact .inl ⟨rfl,List.length_eq_zero_iff.1 h2⟩
 ·exact .inr ⟨g,cap,rfl,h3,(Array.getElem?_eq_some_iff.1 h4).1,h5⟩
theorem OwnS.len (h:OwnS w base e s v rows):∃a cap,v=.slice a rows.length cap:=by
 rcases h.shape with ⟨rfl,rfl⟩ | ⟨g,cap,rfl,_⟩
 ·exact ⟨_,_,rfl⟩
 ·exact ⟨_,_,rfl⟩
theorem OwnS.open (h:OwnS w base e s v rows) (hn:0<rows.length):∃g cap,v=.slice (some ⟨g,0,none⟩) rows.length cap∧base≤g∧g<w.heap.size∧rows.length≤cap:=by
 rcases h.shape with ⟨_,rfl⟩ | h
 ·simp at hn
 ·exact h
theorem OwnS.kept {row:Option Nat} (h:OwnS w base e s v rows) (hg:w.grownBy w' row) (hne:v.ownBlock=none∨v.ownBlock≠row):OwnS w' base e s v rows:=⟨h.1,World.ownsRow.kept h.2 hg hne⟩
theorem OwnS.lt (h:OwnS w base e s v rows):∀j,v.ownBlock=some j→base≤j∧j<w.heap.size:=World.ownsRow.lt h.2
theorem OwnS.ne (h:OwnS w base e s v rows) {g:Nat} (hg:g<base):v.ownBlock=none∨v.ownBlock≠some g:=by
 cases hv:v.ownBlock with
 | none=>exact .inl rfl
 | some b=>exact .inr fun e=>by have:=(h.lt b hv).1; cases e; omega
theorem OwnS.below (h:OwnS w base e s v rows) (hb:Below w.heap.size w w'):OwnS w' base e s v rows:=by
 refine h.kept (row:=none) ⟨hb.os,hb.tape,hb.output,hb.size,fun j hj _=>hb.block j hj⟩ ?_;cases hv:v.ownBlock with
 | none=>exact .inl rfl
 | some x=>exact .inr (by simp)
theorem OwnS.apart {b2 s2:Nat} {e2:TypeId} {v2:Value} {r2:List (List Value)} (h1:OwnS w base e s v rows) (h2:OwnS w b2 e2 s2 v2 r2) (he:e≠e2):v.ownBlock=none∨v.ownBlock≠v2.ownBlock:=by
 rcases h1.2.2 with ⟨rfl,_⟩ | ⟨g,cap,cur,rfl,_,hg,_⟩
 ·exact .inl rfl
 ·rcases h2.2.2 with ⟨rfl,_⟩ | ⟨g',cap',cur',rfl,_,hg',_⟩
  ·exact .inr (by simp [Value.ownBlock])
  ·refine .inr ?_
   simp only [Value.ownBlock,ne_eq,Option.some.injEq];intro e;rw [e,hg'] at hg;simp at hg;exact he hg.2.symm
theorem flatS_length:∀(rows:List (List Value)),Rows' s rows→rows.flatten.length=rows.length * s
 | [],_=>by simp
 | r :: l,h=>by
  rw [List.flatten_cons,List.length_append,flatS_length l (fun x hx=>h x (List.mem_cons_of_mem _ hx)),(h r (List.mem_cons_self ..)).1,List.length_cons,Nat.add_mul];omega
theorem flatS_get:∀(rows:List (List Value)),Rows' s rows→∀(i j:Nat) (hi:i<rows.length),j<s→rows.flatten[i * s+j]?=rows[i][j]?
 | [],_,i,_,hi,_=>by simp at hi
 | r :: l,h,i,j,hi,hj=>by
  have hr:r.length=s:=(h r (List.mem_cons_self ..)).1;cases i with
  | zero=>rw [List.flatten_cons,Nat.zero_mul,Nat.zero_add,List.getElem?_append_left (by omega)]; rfl
  | succ i=>
   rw [List.flatten_cons,List.getElem?_append_right (by rw [hr,Nat.succ_mul]; omega),hr,show (i+1) * s+j - s=i * s+j by rw [Nat.succ_mul]; omega];exact flatS_get l (fun x hx=>h x (List.mem_cons_of_mem _ hx)) i j (by simpa using hi) hj
theorem flatS_set:∀(rows:List (List Value)) (i:Nat) (a b r:List Value) (u x:Value),Rows' s rows→(hi:i<rows.length)→rows[i]=a ++ x :: b→r=a ++ u :: b→rows.flatten.set (i * s+a.length) u=(rows.set i r).flatten
 | [],i,_,_,_,_,_,_,hi,_,_=>by simp at hi
 | q :: l,i,a,b,r,u,x,h,hi,he,hr=>by
  have hq:q.length=s:=(h q (List.mem_cons_self ..)).1;cases i with
  | zero=>
   simp only [List.getElem_cons_zero] at he;subst he hr;rw [List.flatten_cons,Nat.zero_mul,Nat.zero_add,List.set_cons_zero,List.flatten_cons,List.set_append_left _ _ (by simp)];congr 1;rw [List.set_append_right _ _ (Nat.le_refl _),Nat.sub_self,List.set_cons_zero]
  | succ i=>
   rw [List.flatten_cons,List.set_cons_succ,List.flatten_cons,List.set_append_right _ _ (by rw [hq,Nat.succ_mul]; omega),hq,show (i+1) * s+a.length - s=i * s+a.length by rw [Nat.succ_mul]; omega];rw [flatS_set l i a b r u x (fun x hx=>h x (List.mem_cons_of_mem _ hx)) (by simpa using hi) (by simpa using he) hr]
theorem Rows'.set {r:List Value} (h:Rows' s rows) (i:Nat) (hr:r.length=s) (h1:∀u∈r,u.oneCell'=true):Rows' s (rows.set i r):=fun x hx=>by
 rcases List.mem_or_eq_of_mem_set hx with h2 | rfl
 ·exact h x h2
 ·exact ⟨hr,h1⟩
theorem OwnS.row {g n cap:Nat} (h:OwnS w base e s (.slice (some ⟨g,0,none⟩) n cap) rows) (i:Nat) (hi:i<rows.length):w.rangeAt g (i * s) rows[i]∧w.there g (i * s) s:=by
 obtain rfl:n=rows.length:=by obtain ⟨a,c,h2⟩:=h.len; simp only [Value.slice.injEq] at h2; exact h2.2.1
 have hr:=(h.1 _ (List.getElem_mem hi)).1;have hb:∀j,j<s→i * s+j<rows.length * s:=fun j hj=>by
  have:i * s+s≤rows.length * s:=by rw [← Nat.succ_mul]; exact Nat.mul_le_mul_right _ hi
  omega
 have hc:∀j,j<s→w.cell? ⟨g,i * s+j,none⟩=rows[i][j]?:=fun j hj=>by
  rw [World.ownsRow.cellAt h.2 _ (hb j hj),flatS_get rows h.1 i j hi hj]
 refine ⟨fun j u hj=>?_,fun j hj=>⟨?_,World.ownsRow.frozenAt h.2 _⟩⟩
 ·have hjs:j<s:=by rw [← hr]; exact (List.getElem?_eq_some_iff.1 hj).1
  rw [hc j hjs,hj]
 ·rw [hc j hj,List.getElem?_eq_getElem (by omega)]; rfl
theorem OwnS.setCell {g n cap:Nat} (h:OwnS w base e s (.slice (some ⟨g,0,none⟩) n cap) rows) (i:Nat) (hi:i<rows.length) (a b:List Value) (x u:Value) (he:rows[i]=a ++ x :: b) (hu:u.oneCell'=true):OwnS (w.setCell ⟨g,i * s+a.length,none⟩ u) base e s (.slice (some ⟨g,0,none⟩) n cap) (rows.set i (a ++ u :: b)):=by
 obtain rfl:n=rows.length:=by obtain ⟨a,c,h2⟩:=h.len; simp only [Value.slice.injEq] at h2; exact h2.2.1
 have hm:=h.1 _ (List.getElem_mem hi);have h1:=(World.ownsRow.stored h.2 (i * s+a.length) u).1;refine ⟨h.1.set i (by rw [← hm.1,he]; simp) fun z hz=>?_,?_⟩
 ·rw [List.mem_append,List.mem_cons] at hz
  rcases hz with hz | rfl | hz
  ·exact hm.2 z (by rw [he]; simp [hz])
  ·exact hu
  ·exact hm.2 z (by rw [he]; simp [hz])
 ·rw [List.length_set,← flatS_set rows i a b _ u x h.1 hi he rfl]
  exact h1
theorem OwnS.setCells {g n cap:Nat} (i:Nat):∀(r q a:List Value) (w:World) (rows:List (List Value)),OwnS w base e s (.slice (some ⟨g,0,none⟩) n cap) rows→(hi:i<rows.length)→rows[i]=a ++ q→q.length=r.length→(∀u∈r,u.oneCell'=true)→OwnS (w.setCells g (i * s+a.length) r) base e s (.slice (some ⟨g,0,none⟩) n cap) (rows.set i (a ++ r))
 | [],q,a,w,rows,h,hi,he,hl,_=>by
  have:q=[]:=List.length_eq_zero_iff.1 hl;subst this;rw [← he,List.set_getElem_self];exact h
 | u :: r,q,a,w,rows,h,hi,he,hl,h1=>by
  cases q with
  | nil=>simp at hl
  | cons x q=>
   have h2:=h.setCell i hi a q x u he (h1 u (List.mem_cons_self ..));have h3:=OwnS.setCells i r q (a ++ [u]) _ _ h2 (by simpa using hi) (by simp) (by simpa using hl) (fun z hz=>h1 z (List.mem_cons_of_mem _ hz));rw [List.set_set,List.append_assoc] at h3;rw [List.length_append] at h3;exact h3
theorem OwnS.setRow {g n cap:Nat} {r:List Value} (h:OwnS w base e s (.slice (some ⟨g,0,none⟩) n cap) rows) (i:Nat) (hi:i<rows.length) (hr:r.length=s) (h1:∀u∈r,u.oneCell'=true):OwnS (w.setCells g (i * s) r) base e s (.slice (some ⟨g,0,none⟩) n cap) (rows.set i r):=
 OwnS.setCells i r rows[i] [] w rows h hi rfl (by rw [(h.1 _ (List.getElem_mem hi)).1,hr]) h1
theorem setCells_grown (g:Nat):∀(r:List Value) (o:Nat) (w:World),w.grownBy (w.setCells g o r) (some g)
 | [],_,w=>grownBy_refl w _
 | u :: r,o,w=>grownBy_trans (grownBy_setCell w ⟨g,o,none⟩ u) (setCells_grown g r (o+1) _)
end
theorem step_store_mid {ops:Array Oper} {Q:Exit→Act→World→Prop} {o:Oper} {a:Act} {w:World} {K:Act→World→Prop} {E:Prop} (hgd:o.guard=none) (ty:TypeId) (x y:Operand) (ho:o.op=.store ty x y)
  (b off:Nat) (cells:Array Value) (hx:a.eval x=.pointer (some ⟨b,off,none⟩)) (hy:a.eval y=.agg cells) (ht:w.there b off cells.size) (hi:(Try.prog.info? ty).map (·.size)=some cells.size) (h1:cells.all (·.oneCell')=true)
  (h:K (a.put o.dst undef) (w.setCells b off cells.toList)):if Region.wanted o (yielded ops a.tmps)=true then Oper.wp Try.prog o a w K Q else E:=by
 rw [if_pos (by simp [Region.wanted,hgd])];exact wp_store_mid ty x y ho b off cells hx hy ht hi h1 h
def OffS (S:List (Option Nat)) (w0:World):World→Prop:=fun w=>w0.heap.size≤w.heap.size∧∀j,j<w0.heap.size→some j ∉ S→w.heap[j]?=w0.heap[j]?
section
variable {S S2:List (Option Nat)} {w w0 w1 w2 w':World}
theorem OffS.trans (h:OffS S w0 w1) (h2:OffS S2 w1 w2) (hs:∀j,j<w0.heap.size→some j∈S2→some j∈S):OffS S w0 w2:=
 ⟨Nat.le_trans h.1 h2.1,fun j hj hn=>(h2.2 j (Nat.lt_of_lt_of_le hj h.1) (fun e=>hn (hs j hj e))).trans (h.2 j hj hn)⟩
theorem OffS.below (h:Below w.heap.size w w'):OffS S w w':=⟨h.size,fun j hj _=>h.block j hj⟩
theorem OffS.grown {row:Option Nat} (h:w.grownBy w' row) (hr:row=none∨row∈S):OffS S w w':=⟨h.size,fun j hj hn=>h.block j hj (fun e=>by
 rcases hr with rfl | hr
 ·simp at e
 ·exact hn (e▸hr))⟩
end
open Go.Maps (Keyed int_keyed keyOf_int_mk)
theorem Try.keyI:Keyed Try.prog 3:=int_keyed Try.underlying3
def zClk:Clk:=fun _=>0
def MapK (w:World) (b n:Nat) (words:Int→Clk):Prop:=∃f,MapV 3 (clkV zClk) w b n f∧∀a,(Lit.int .i64 a).wf=true→f (.int .i64 a)=clkV (words a)
theorem wf_i64w {a:Int} (h:a=IntKind.i64.wrap a):(Lit.int .i64 a).wf=true:=by
 rw [IntKind.wrap_i64] at h;unfold Lit.wf;simp only [Bool.and_eq_true,decide_eq_true_eq];have h1:IntKind.i64.min=-9223372036854775808:=by decide
 have h2:IntKind.i64.max=9223372036854775807:=by decide
 omega
section
variable {w w':World} {b n:Nat} {words:Int→Clk}
theorem MapK.below (h:MapK w b n words) (hb:Below w.heap.size w w'):MapK w' b n words:=by
 obtain ⟨f,h1,h2⟩:=h;exact ⟨f,h1.below hb,h2⟩
theorem MapK.kept {row:Option Nat} (h:MapK w b n words) (hg:w.grownBy w' row) (hne:some b≠row):MapK w' b n words:=by
 obtain ⟨f,h1,h2⟩:=h;exact ⟨f,h1.kept hg hne,h2⟩
theorem MapK.lt (h:MapK w b n words):b<w.heap.size:=by
 obtain ⟨f,h1,-⟩:=h;exact h1.lt
theorem MapK.mono {m:Nat} (h:MapK w b n words) (hm:n≤m):MapK w b m words:=by
 obtain ⟨f,⟨D,h1,h3⟩,h2⟩:=h;exact ⟨f,⟨D,h1.mono hm,h3⟩,h2⟩
theorem MapK.look (h:MapK w b n words) {a:Int} (ha:a=IntKind.i64.wrap a):(Instr.lookup 74 (.map (some b)) (.int .i64 a) false).run Try.prog w=.ok (clkV (words a)) w:=by
 obtain ⟨f,h1,h2⟩:=h;rw [← h2 a (wf_i64w ha)];exact h1.look Try.keyI Try.underlying74 (by kernel_rfl) (keyOf_int_mk Try.underlying3 (wf_i64w ha))
theorem MapK.put {f f2:Lit→Value} {a:Int} {c:Clk} (h2:∀a,(Lit.int .i64 a).wf=true→f (.int .i64 a)=clkV (words a)) (hu:UpdL f (.int .i64 a) (clkV c) f2):∀d,(Lit.int .i64 d).wf=true→f2 (.int .i64 d)=clkV (updI words a c d):=fun d hd=>by
 unfold updI;by_cases e:d=a
 ·rw [if_pos e,e,hu.1]
 ·rw [if_neg e,hu.2 _ (fun h=>e (by simpa using h)),h2 d hd]
end
def ThrB (w:World) (base g:Nat) (own:Nat→Clk):Prop:=OwnS w base 73 8 (.slice (some ⟨g,0,none⟩) 8 8) ((List.range 8).map fun t=>clkL (own t))
section
variable {w w':World} {base g:Nat} {own:Nat→Clk}
theorem ThrB.below (h:ThrB w base g own) (hb:Below w.heap.size w w'):ThrB w' base g own:=OwnS.below h hb
theorem ThrB.kept {row:Option Nat} (h:ThrB w base g own) (hg:w.grownBy w' row) (hne:some g≠row):ThrB w' base g own:=OwnS.kept h hg (.inr hne)
theorem ThrB.lt (h:ThrB w base g own):base≤g∧g<w.heap.size:=OwnS.lt h g rfl
theorem ThrB.cells (h:ThrB w base g own) {t:Nat} (ht:t<8):(w.cell? ⟨g,t * 8,none⟩=some (.int .i64 (own t 0))∧w.cell? ⟨g,t * 8+1,none⟩=some (.int .i64 (own t 1))∧w.cell? ⟨g,t * 8+2,none⟩=some (.int .i64 (own t 2))∧w.cell? ⟨g,t * 8+3,none⟩=some (.int .i64 (own t 3))∧w.cell? ⟨g,t * 8+4,none⟩=some (.int .i64 (own t 4))∧w.cell? ⟨g,t * 8+5,none⟩=some (.int .i64 (own t 5))∧w.cell? ⟨g,t * 8+6,none⟩=some (.int .i64 (own t 6))∧w.cell? ⟨g,t * 8+7,none⟩=some (.int .i64 (own t 7)))∧w.there g (t * 8) 8:=by
 obtain ⟨h1,h2⟩:=OwnS.row h t (by simpa using ht);have e:((List.range 8).map fun t=>clkL (own t))[t]'(by simpa using ht)=clkL (own t):=by simp
 rw [e] at h1;exact ⟨⟨h1 0 _ rfl,h1 1 _ rfl,h1 2 _ rfl,h1 3 _ rfl,h1 4 _ rfl,h1 5 _ rfl,h1 6 _ rfl,h1 7 _ rfl⟩,h2⟩
theorem ThrB.set (h:ThrB w base g own) {t:Nat} (ht:t<8) (c:Clk):ThrB (w.setCells g (t * 8) (clkL c)) base g (updN own t c):=by
 have h1:=OwnS.setRow h t (by simpa using ht) (r:=clkL c) rfl (by simp [clkL,Value.oneCell']);have e:((List.range 8).map fun t=>clkL (own t)).set t (clkL c)=(List.range 8).map fun i=>clkL (updN own t c i):=by
  apply List.ext_getElem
  ·simp
  ·intro i hi1 hi2
   rw [List.getElem_set];by_cases e:t=i
   ·subst e
    rw [if_pos rfl,List.getElem_map,List.getElem_range];unfold updN;rw [if_pos rfl]
   ·rw [if_neg e,List.getElem_map,List.getElem_map,List.getElem_range]
    unfold updN;rw [if_neg (fun h=>e h.symm)]
 rw [e] at h1;exact h1
end
theorem grown_belowK {a b:World} {row:Option Nat} (h:Below a.heap.size a b):a.grownBy b row:=⟨h.os,h.tape,h.output,h.size,fun j hj _=>h.block j hj⟩
theorem row_keepK {a b:World} {j g:Nat} {ob:Obj} (hg:a.grownBy b (some g)) (h:a.heap[j]?=some ob) (hj:j≠g):b.heap[j]?=some ob:=(hg.block j (Array.getElem?_eq_some_iff.1 h).1 (fun e=>hj (by simpa using e))).trans h
def learnE (own:Nat→Clk) (words:Int→Clk) (t:Nat) (x:ItemM):Clk:=if rdB x then maxC (own t) (words x.acc.addr) else own t
theorem rowc8i {w:World} {g:Nat} {T:TypeId} {v0 v1 v2 v3 v4 v5 v6 v7:Value} (h:w.heap[g]?=some (.cells #[v0,v1,v2,v3,v4,v5,v6,v7] T (0,0))):w.cell? ⟨g,0,none⟩=some v0∧w.cell? ⟨g,1,none⟩=some v1∧w.cell? ⟨g,2,none⟩=some v2∧w.cell? ⟨g,3,none⟩=some v3∧w.cell? ⟨g,4,none⟩=some v4∧w.cell? ⟨g,5,none⟩=some v5∧w.cell? ⟨g,6,none⟩=some v6∧w.cell? ⟨g,7,none⟩=some v7:=
 ⟨cell_of_row _ _ 0 _ _ _ h,cell_of_row _ _ 1 _ _ _ h,cell_of_row _ _ 2 _ _ _ h,cell_of_row _ _ 3 _ _ _ h,cell_of_row _ _ 4 _ _ _ h,cell_of_row _ _ 5 _ _ _ h,cell_of_row _ _ 6 _ _ _ h,cell_of_row _ _ 7 _ _ _ h⟩
set_option maxRecDepth 100000 in
set_option maxHeartbeats 16000000 in
theorem sync_any (base g b n t:Nat) (own:Nat→Clk) (words:Int→Clk) (x:ItemM) (w:World) (hx:x.good) (ha:atomicB x.acc.kind=true) (ht8:t<8) (hT:ThrB w base g own) (hM:MapK w b n words) (hn:n<1000001) (hgb:g≠b) :
  Calls Try.prog 37 #[.pointer (some ⟨g,t * 8,none⟩),.map (some b),itemV x] w fun e w'=>e=.returned (.tuple #[])∧ThrB w' base g (updN own t (learnE own words t x))∧MapK w' b (n+1) (if wrB x then updI words x.acc.addr (learnE own words t x) else words)∧∃w1,w.grownBy w1 (some g)∧w1.grownBy w' (some b):=by
 obtain ⟨hr,hc⟩:=atomic_rd ha;have TR:=Lib.hid fun w'=>reads_any x w';have TC:=Lib.hid fun w'=>changes_any x w';have TJ:=Lib.hid fun w'=>join_any (own t) (words x.acc.addr) w';rw [hr] at TR;rw [hc] at TC;have hadw:=hx.acc.addr;obtain ⟨rd,hrd⟩:∃q,rdB x=q:=⟨_,rfl⟩;obtain ⟨wv,hwv⟩:∃q,wrB x=q:=⟨_,rfl⟩;unfold learnE;rw [hrd] at TR ⊢;rw [hwv] at TC ⊢;clear hrd hwv hr hc ha hx;obtain ⟨th,⟨ak,ad,ao,an,at_⟩,vl,ok⟩:=x;unfold itemV at TR TC ⊢;dsimp only at TR TC TJ hadw ⊢;have HAD:=Lib.hid hadw;obtain ⟨c,hc⟩:∃c,own t=c:=⟨_,rfl⟩;obtain ⟨d,hd⟩:∃d,words ad=d:=⟨_,rfl⟩;have HC:=Lib.hid hc;have HD:=Lib.hid hd;rw [hc,hd] at TJ;rw [hc,hd];clear hc hd hadw;obtain ⟨nw,hnw⟩:∃z,(if rd then maxC c d else c)=z:=⟨_,rfl⟩;rw [hnw];have HNW:=Lib.hid hnw;clear hnw;obtain ⟨W,hW⟩:∃W,w.alloc (.cells #[.int .i64 th,.int .i64 ak,.int .i64 ad,.int .u64 ao,.int .u64 an,.int .i64 at_,.int .u64 vl,.bool ok] 30)=W:=⟨_,rfl⟩;have HB:Hid (Below w.heap.size w W):=hW▸below_new (Below.refl _ _) _;have R0:Hid (W.heap[w.heap.size]?=some (.cells #[.int .i64 th,.int .i64 ak,.int .i64 ad,.int .u64 ao,.int .u64 an,.int .i64 at_,.int .u64 vl,.bool ok] 30 (0,0))):=hW▸heap_alloc_new _ _;have HT:=Lib.hid (hT.below HB.out);have HM:=Lib.hid (hM.below HB.out);have hlg:=hT.lt.2;have hlb:=hM.lt;have HW:=Lib.hid hW;clear hW hT hM;go_enter Try.func37,Try.ntmps37;go_upto_region 1 with fail
 rw [HW.out];clear HW;obtain ⟨y0,y1,y2,y3,y4,y5,y6,y7⟩:=rowc8i R0.out;go_wp2_with fail;refine (TR.out W).mono ?_; rintro e wr ⟨rfl,hbr⟩;have HBr:=Lib.hid (below_then HB.out hbr);have Rr:=Lib.hid (row_below3k hbr R0.out);have HT:=Lib.hid (HT.out.below hbr);have HM:=Lib.hid (HM.out.below hbr);clear y0 y1 y2 y3 y4 y5 y6 y7 hbr R0 HB TR;go_upto_if 11 with fail
 go_cut [] (fun wx=>Hid (wr.grownBy wx (some g))∧Hid (ThrB wx base g (updN own t nw)))
 case first=>
  cases rd with
  | false=>
   go_wp2_with fail;go_meet;refine ⟨grownBy_refl _ _,?_⟩;have e:updN own t nw=own:=by
    have h9:c=nw:=HNW.out;funext i
    unfold updN;by_cases h:i=t
    ·rw [if_pos h,h,HC.out,h9]
    ·rw [if_neg h]
   show ThrB wr base g _;rw [e];exact HT.out
  | true=>
   have KS:Hid (∀w',Below wr.heap.size wr w'→(fun w':World=>(w'.cell? ⟨g,t * 8,none⟩=some (.int .i64 (c 0))∧w'.cell? ⟨g,t * 8+1,none⟩=some (.int .i64 (c 1))∧w'.cell? ⟨g,t * 8+2,none⟩=some (.int .i64 (c 2))∧w'.cell? ⟨g,t * 8+3,none⟩=some (.int .i64 (c 3))∧w'.cell? ⟨g,t * 8+4,none⟩=some (.int .i64 (c 4))∧w'.cell? ⟨g,t * 8+5,none⟩=some (.int .i64 (c 5))∧w'.cell? ⟨g,t * 8+6,none⟩=some (.int .i64 (c 6))∧w'.cell? ⟨g,t * 8+7,none⟩=some (.int .i64 (c 7)))∧(Instr.lookup 74 (.map (some b)) (.int .i64 ad) false).run Try.prog w'=.ok (clkV d) w') w'):=fun w' hb=>by
    have h1:=((HT.out.below hb).cells ht8).1;rw [HC.out] at h1;have h2:=(HM.out.below hb).look HAD.out;rw [HD.out] at h2;exact ⟨h1,h2⟩
   go_upto_region 3 with fail
   refine untilK KS 9 10 (by kernel_rfl) rfl ?_;obtain ⟨u0,hu0,hU0⟩:=drew_pack wr;rw [hu0];clear hu0;have HU0:=Lib.hid hU0.out;clear hU0;have hSU0:=KS.out _ HU0.out;apply tkV 0 hSU0 rfl (by kernel_rfl) (fun _ _ _ h=>h) rfl;intro w hSw;(go_simp<;>with_reducible rfl);simp only [J0,J1,J2,J3,J4];apply tkV 1 hSU0 rfl (by kernel_rfl) (fun _ _ _ h=>h) rfl;intro w hSw;(go_simp<;>with_reducible rfl);simp only [J0,J1,J2,J3,J4];apply tkV 2 hSU0 rfl (by kernel_rfl) (fun _ _ _ h=>h) rfl;intro w hSw;(go_simp<;>with_reducible rfl);simp only [J0,J1,J2,J3,J4];apply tkV 3 hSU0 rfl (by kernel_rfl) (fun _ _ _ h=>h) rfl;intro w hSw;(go_simp<;>with_reducible rfl);simp only [J0,J1,J2,J3,J4];apply tkV 4 hSU0 rfl (by kernel_rfl) (fun _ _ _ h=>h) rfl;intro w hSw;(go_simp<;>with_reducible rfl);simp only [J0,J1,J2,J3,J4];apply tkV 5 hSU0 rfl (by kernel_rfl) (fun _ _ _ h=>h) rfl;intro w hSw;(go_simp<;>with_reducible rfl);simp only [J0,J1,J2,J3,J4];refine consU 6 rfl (by kernel_rfl) rfl fun K hK=>?_;go_simp;refine hK.out _ _ ?_ fun hSU1=>?_;exact hSU0;clear hK K hSU0;(try simp only [J0,J1,J2,J3,J4]);refine consU 7 rfl (by kernel_rfl) rfl fun K hK=>?_;go_simp;go_at_call 47;refine (TJ.out u0).mono ?_;rintro e u1 ⟨rfl,hbj⟩;have HU1:=Lib.hid (below_then HU0.out hbj);clear hbj;refine hK.out _ _ ?_ fun hSU2=>?_;exact KS.out _ HU1.out;clear hK K hSU1;(try simp only [J0,J1,J2,J3,J4]);apply tkV 8 hSU2 rfl (by kernel_rfl) (fun _ _ _ h=>h) rfl;intro w hSw;(go_simp<;>with_reducible rfl);simp only [J0,J1,J2,J3,J4];refine freeU 9 rfl (by kernel_rfl) rfl (by kernel_rfl) fun K hK=>?_;have HT9:=Lib.hid (HT.out.below HU1.out);refine step_store_mid rfl 54 _ _ rfl g (t * 8) #[.int .i64 (maxC c d 0),.int .i64 (maxC c d 1),.int .i64 (maxC c d 2),.int .i64 (maxC c d 3),.int .i64 (maxC c d 4),.int .i64 (maxC c d 5),.int .i64 (maxC c d 6),.int .i64 (maxC c d 7)] (by rfl) (by rfl) (HT9.out.cells ht8).2 (by kernel_rfl) (by simp [Value.oneCell']) ?_;refine hK.out _ _ ?_;clear hK K hSU2;(try simp only [J0,J1,J2,J3,J4]);refine wpAnyU_done (by kernel_rfl) ?_ _
   have HT2:=Lib.hid (HT9.out.set ht8 (maxC c d));have HG2:=Lib.hid (grownBy_trans (grown_belowK (row:=some g) HU1.out) (setCells_grown g (clkL (maxC c d)) (t * 8) u1));unfold clkL at HT2 HG2;obtain ⟨w2,hw2⟩:∃z,u1.setCells g (t * 8) [.int .i64 (maxC c d 0),.int .i64 (maxC c d 1),.int .i64 (maxC c d 2),.int .i64 (maxC c d 3),.int .i64 (maxC c d 4),.int .i64 (maxC c d 5),.int .i64 (maxC c d 6),.int .i64 (maxC c d 7)]=z:=⟨_,rfl⟩;rw [hw2] at HT2 HG2;try rw [hw2]
   clear hw2;go_wp2_with fail;go_meet;have h9:maxC c d=nw:=HNW.out;rw [← h9];exact ⟨HG2,HT2⟩
 obtain ⟨HG,HT3⟩:=hcut;obtain ⟨wo,rfl⟩:∃wo:World,wo=wc:=⟨_,rfl⟩;have hgs:=HBr.out.size;have Ro:=Lib.hid (row_keepK HG.out Rr.out (by omega));have HMo:=Lib.hid (HM.out.kept HG.out (by simpa using fun e=>hgb e.symm));have HGw:=Lib.hid (grownBy_trans (grown_belowK (row:=some g) HBr.out) HG.out);obtain ⟨y0,y1,y2,y3,y4,y5,y6,y7⟩:=rowc8i Ro.out;clear HT HM Rr HG HBr TJ;go_wp2_with fail;refine (TC.out wo).mono ?_; rintro e w4 ⟨rfl,hb4⟩;have HT4:=Lib.hid (HT3.out.below hb4);have HM4:=Lib.hid (HMo.out.below hb4);have HG4:=Lib.hid (grownBy_trans HGw.out (grown_belowK (row:=some g) hb4));clear y0 y1 y2 y3 y4 y5 y6 y7 hb4 Ro HMo HGw TC HT3;cases wv with
 | false=>
  go_wp2;go_end0;exact ⟨rfl,HT4.out,HM4.out.mono (Nat.le_succ _),w4,HG4.out,grownBy_refl _ _⟩
 | true=>
  have hT4:=(HT4.out.cells ht8).1;have e:updN own t nw t=nw:=by unfold updN; simp
  rw [e] at hT4;obtain ⟨y0,y1,y2,y3,y4,y5,y6,y7⟩:=hT4;obtain ⟨f,hMf,hf⟩:=HM4.out;have HMF:=Lib.hid hMf;have HF:=Lib.hid hf;clear e hMf hf;go_wp2_with (refine wp_put_v HMF.out hn rfl _ _ _ 74 rfl 54 Try.keyI Try.underlying74 (.int .i64 ad) (clkV nw) (.int .i64 ad) rfl rfl rfl (keyOf_int_mk Try.underlying3 (wf_i64w HAD.out)) ?_);intro w5 f2 hu hM5 hg5;have HM5:=Lib.hid hM5;have HU:=Lib.hid hu;have HG5:=Lib.hid hg5;clear hM5 hu hg5 y0 y1 y2 y3 y4 y5 y6 y7;go_wp2;go_end0;exact ⟨rfl,HT4.out.kept HG5.out (by simpa using hgb),⟨f2,HM5.out,MapK.put HF.out HU.out⟩,w4,HG4.out,HG5.out⟩
structure ChanM where
 cap:Int
 buf:List Int
 closed:Bool
def noChan:ChanM:=⟨0,[],false⟩
def SlS (w:World) (s:Nat) (v:Value) (rows:List (List Value)):Prop:=
 rows.length≤140737488351232∧Rows' s rows∧∃a cap,v=.slice a rows.length cap∧rows.length≤cap∧
  ∀i,i<rows.length→∃b off,a=some ⟨b,off,none⟩∧b<w.heap.size∧w.rangeAt b (off+i * s) (rows.getD i [])
theorem SlS.below {w w':World} {s:Nat} {v:Value} {rows:List (List Value)} (h:SlS w s v rows) (hb:Below w.heap.size w w'):SlS w' s v rows:=by
 obtain ⟨h1,h2,a,cap,rfl,h3,h4⟩:=h;refine ⟨h1,h2,a,cap,rfl,h3,fun i hi=>?_⟩;obtain ⟨b,off,e,hlt,hr⟩:=h4 i hi;exact ⟨b,off,e,Nat.lt_of_lt_of_le hlt hb.size,fun j u hj=>(hb.cell (p:=⟨b,off+i * s+j,none⟩) hlt).trans (hr j u hj)⟩
theorem SlS.len {w:World} {s:Nat} {v:Value} {rows:List (List Value)} (h:SlS w s v rows):∃a cap,v=.slice a rows.length cap∧rows.length≤cap:=by
 obtain ⟨-,-,a,cap,rfl,h3,-⟩:=h;exact ⟨a,cap,rfl,h3⟩
theorem SlS.open {w:World} {s:Nat} {v:Value} {rows:List (List Value)} (h:SlS w s v rows) (hn:0<rows.length):∃b off cap,v=.slice (some ⟨b,off,none⟩) rows.length cap∧b<w.heap.size∧∀i,i<rows.length→w.rangeAt b (off+i * s) (rows.getD i []):=by
 obtain ⟨-,-,a,cap,rfl,h3,h4⟩:=h;obtain ⟨b,off,rfl,hlt,-⟩:=h4 0 hn;refine ⟨b,off,cap,rfl,hlt,fun i hi=>?_⟩;obtain ⟨b',off',e,-,hr⟩:=h4 i hi;simp only [Option.some.injEq,Addr.mk.injEq] at e;obtain ⟨rfl,rfl,-⟩:=e;exact hr
theorem SlS.nil (w:World) (s:Nat):SlS w s (.slice none 0 0) []:=⟨by simp,fun r h=>by simp at h,none,0,rfl,Nat.le_refl _,fun i hi=>by simp at hi⟩
theorem OwnS.sls {w:World} {base s:Nat} {e:TypeId} {v:Value} {rows:List (List Value)} (h:OwnS w base e s v rows) (hl:rows.length≤140737488351232):SlS w s v rows:=by
 refine ⟨hl,h.1,?_⟩;rcases h.shape with ⟨rfl,rfl⟩ | ⟨g,cap,rfl,h3,h4,h5⟩
 ·exact ⟨none,0,rfl,Nat.le_refl _,fun i hi=>by simp at hi⟩
 ·refine ⟨some ⟨g,0,none⟩,cap,rfl,h5,fun i hi=>⟨g,0,rfl,h4,?_⟩⟩
  rw [List.getD_eq_getElem?_getD,List.getElem?_eq_getElem hi,Nat.zero_add];exact (h.row i hi).1
def chRow (c:ChanM) (u:Value):List Value:=[.int .i64 c.cap,u,.bool c.closed]
def chRows:List ChanM→List Value→List (List Value)
 | c :: l,u :: us=>chRow c u :: chRows l us
 | _,_=>[]
theorem chRows_length:∀(l:List ChanM) (us:List Value),us.length=l.length→(chRows l us).length=l.length
 | [],[],_=>rfl
 | c :: l,u :: us,h=>by show (chRows l us).length+1=_; rw [chRows_length l us (by simpa using h)]; rfl
 | [],u :: us,h=>by simp at h
 | c :: l,[],h=>by simp at h
theorem chRows_get:∀(l:List ChanM) (us:List Value) (i:Nat),us.length=l.length→i<l.length→(chRows l us).getD i []=chRow (l.getD i noChan) (us.getD i (.slice none 0 0))
 | c :: l,u :: us,0,_,_=>rfl
 | c :: l,u :: us,i+1,h,hi=>by
  have:=chRows_get l us i (by simpa using h) (by simpa using hi);simpa [chRows] using this
 | [],[],i,_,hi=>by simp at hi
 | [],u :: us,_,h,_=>by simp at h
 | c :: l,[],_,h,_=>by simp at h
def notC (w:World) (b:Nat):Prop:=∀cs f,w.heap[b]?≠some (.cells cs 69 f)
def fineB (w:World) (v:Value):Prop:=∀a n c,v=.slice (some a) n c→n=0∨(a.block<w.heap.size∧notC w a.block)
theorem fineB.nil (w:World):fineB w (.slice none 0 0):=fun a n c h=>by simp at h
theorem fineB.below {w w':World} {v:Value} (h:fineB w v) (hb:Below w.heap.size w w'):fineB w' v:=fun a n c e=>by
 rcases h a n c e with h1 | ⟨h1,h2⟩
 ·exact .inl h1
 ·exact .inr ⟨Nat.lt_of_lt_of_le h1 hb.size,fun cs f=>by rw [hb.block a.block h1]; exact h2 cs f⟩
theorem notC.setCell {w:World} {b:Nat} (h:notC w b) (p:Addr) (u:Value):notC (w.setCell p u) b:=fun cs f e=>by
 by_cases hb:b=p.block
 ·subst hb
  unfold World.setCell at e;simp only [Array.getElem?_modify,if_true] at e;obtain ⟨o,ho,hf⟩:=Option.map_eq_some_iff.1 e;cases o <;> simp only [Obj.cells.injEq,reduceCtorEq] at hf;exact h _ _ (by rw [ho,hf.2.1])
 ·rw [heap_setCell_other w p b u hb] at e
  exact h cs f e
theorem fineB.setCell {w:World} {v:Value} (h:fineB w v) (p:Addr) (u:Value):fineB (w.setCell p u) v:=fun a n c e=>by
 rcases h a n c e with h1 | ⟨h1,h2⟩
 ·exact .inl h1
 ·exact .inr ⟨by simpa using h1,h2.setCell p u⟩
def SlU (w:World) (u:Value) (l:List Int):Prop:=SlI w .u64 u l∧fineB w u
theorem SlU.below {w w':World} {u:Value} {l:List Int} (h:SlU w u l) (hb:Below w.heap.size w w'):SlU w' u l:=⟨h.1.below hb,h.2.below hb⟩
theorem SlU.nil (w:World):SlU w (.slice none 0 0) []:=⟨SlI.nil _ _,fineB.nil _⟩
def SlH (w:World) (v:Value) (l:List ChanM):Prop:=
 ∃us:List Value,us.length=l.length∧SlS w 3 v (chRows l us)∧(∀i,i<l.length→SlU w (us.getD i (.slice none 0 0)) (l.getD i noChan).buf)∧(∀c∈l,c.cap=IntKind.i64.wrap c.cap)∧fineB w v
theorem SlH.below {w w':World} {v:Value} {l:List ChanM} (h:SlH w v l) (hb:Below w.heap.size w w'):SlH w' v l:=by
 obtain ⟨us,h1,h2,h3,h4,h5⟩:=h;exact ⟨us,h1,h2.below hb,fun i hi=>(h3 i hi).below hb,h4,h5.below hb⟩
theorem SlH.len {w:World} {v:Value} {l:List ChanM} (h:SlH w v l):∃a cap,v=.slice a l.length cap∧l.length≤cap:=by
 obtain ⟨us,h1,h2,-⟩:=h;obtain ⟨a,cap,rfl,h3⟩:=h2.len;rw [chRows_length l us h1] at h3 ⊢;exact ⟨a,cap,rfl,h3⟩
theorem SlH.at2 {w:World} {v:Value} {l:List ChanM} (h:SlH w v l) (i:Nat) (hi:i<l.length):∃b off cap u,v=.slice (some ⟨b,off,none⟩) l.length cap∧b<w.heap.size∧w.cell? ⟨b,off+i * 3,none⟩=some (.int .i64 (l.getD i noChan).cap)∧w.cell? ⟨b,off+i * 3+1,none⟩=some u∧w.cell? ⟨b,off+i * 3+2,none⟩=some (.bool (l.getD i noChan).closed)∧SlU w u (l.getD i noChan).buf:=by
 obtain ⟨us,h1,h2,h3,-⟩:=h;have hlen:=chRows_length l us h1;obtain ⟨b,off,cap,rfl,hb,hr⟩:=h2.open (by omega);have h5:=hr i (by omega);rw [chRows_get l us i h1 hi] at h5;exact ⟨b,off,cap,_,by rw [hlen],hb,h5 0 _ rfl,h5 1 _ rfl,h5 2 _ rfl,h3 i hi⟩
theorem SlH.at {w:World} {v:Value} {l:List ChanM} (h:SlH w v l) (i:Nat) (hi:i<l.length):∃b off cap u,v=.slice (some ⟨b,off,none⟩) l.length cap∧b<w.heap.size∧w.cell? ⟨b,off+i * 3,none⟩=some (.int .i64 (l.getD i noChan).cap)∧w.cell? ⟨b,off+i * 3+1,none⟩=some u∧w.cell? ⟨b,off+i * 3+2,none⟩=some (.bool (l.getD i noChan).closed)∧SlI w .u64 u (l.getD i noChan).buf:=by
 obtain ⟨b,off,cap,u,h1,h2,h3,h4,h5,h6⟩:=h.at2 i hi;exact ⟨b,off,cap,u,h1,h2,h3,h4,h5,h6.1⟩
theorem fineB.off {w w2:World} {g:Nat} {v:Value} {b off n c:Nat} (h:fineB w v) (hv:v=.slice (some ⟨b,off,none⟩) n c) (hn:0<n) (hC:∃cs f,w.heap[g]?=some (.cells cs 69 f)):b≠g:=fun e=>by
 obtain ⟨cs,f,hg⟩:=hC;rcases h _ _ _ hv with h1 | ⟨-,h1⟩
 ·omega
 ·subst e
  exact h1 cs f hg
theorem fineB.grown {w w2:World} {g:Nat} {v:Value} (h:fineB w v) (hg:w.grownBy w2 (some g)) (hC:∃cs f,w.heap[g]?=some (.cells cs 69 f)):fineB w2 v:=fun a n c e=>by
 rcases h a n c e with h1 | ⟨h1,h2⟩
 ·exact .inl h1
 ·refine .inr ⟨Nat.lt_of_lt_of_le h1 hg.size,fun cs f=>?_⟩
  obtain ⟨cs2,f2,hgg⟩:=hC;rw [hg.block a.block h1 (fun e=>by simp only [Option.some.injEq] at e; rw [e] at h2; exact h2 cs2 f2 hgg)];exact h2 cs f
theorem SlU.grown {w w2:World} {g:Nat} {u:Value} {l:List Int} (h:SlU w u l) (hg:w.grownBy w2 (some g)) (hC:∃cs f,w.heap[g]?=some (.cells cs 69 f)):SlU w2 u l:=by
 refine ⟨h.1.grown hg fun a n c e=>?_,h.2.grown hg hC⟩;rcases h.2 a n c e with h1 | ⟨-,h1⟩
 ·exact .inl h1
 ·refine .inr fun e2=>?_
  obtain ⟨cs,f,hgg⟩:=hC;rw [e2] at h1;exact h1 cs f hgg
theorem SlH.grown {w w2:World} {g:Nat} {v:Value} {l:List ChanM} (h:SlH w v l) (hg:w.grownBy w2 (some g)) (hC:∃cs f,w.heap[g]?=some (.cells cs 69 f)):SlH w2 v l:=by
 obtain ⟨us,h1,h2,h3,h4,h5⟩:=h;refine ⟨us,h1,?_,fun i hi=>(h3 i hi).grown hg hC,h4,h5.grown hg hC⟩;obtain ⟨q1,q2,a,cap,rfl,q4,q5⟩:=h2;refine ⟨q1,q2,a,cap,rfl,q4,fun i hi=>?_⟩;obtain ⟨b,off,rfl,hb,hr⟩:=q5 i hi;have hne:b≠g:=h5.off (w2:=w) rfl (by omega) hC;exact ⟨b,off,rfl,Nat.lt_of_lt_of_le hb hg.size,fun j u hj=>by
  have hbk:=hg.block b hb (fun e=>hne (by simp only [Option.some.injEq] at e; exact e));have:=hr j u hj;unfold World.cell? at this ⊢;rw [hbk];exact this⟩
section
variable {e:TypeId} {s base:Nat} {w:World} {v:Value} {rows:List (List Value)}
theorem wp_append_ss (st:TypeId) {bytes:Nat} {z:Value} (hu:Try.prog.underlying st=some (.slice e)) (hinfo:(Try.prog.info? e).map (fun i=>(i.zero,i.size,i.bytes))=some (some z,s,bytes)) (hzs:z.cells.size=s) (hsz:0<s) (hby:bytes≤200)
  {ops:Array Oper} {rest:List Oper} {o:Oper} {a:Act} {Q:Exit→Act→World→Prop}
  (hgd:o.guard=none) (sl x:Operand) (hop:o.op=Op.call { callee:=Callee.builtin Builtin.append,args:=#[sl,x],argTypes:=#[st,st] })
  (hs:a.eval sl=v) (hown:OwnS w base e s v rows) (rs:List (List Value)) (hr:Rows' s rs) (g n:Nat) (hn:rs.length=n)
  (hx:a.eval x=.slice (some ⟨g,0,none⟩) n n) (hcell:w.heap[g]?=some (.cells rs.flatten.toArray e (0,0))) (hl:rows.length+rs.length≤1000001) (hb:base≤w.heap.size)
  (hK:∀v' w',OwnS w' base e s v' (rows ++ rs)→w.grownBy w' v.ownBlock→wpList Try.prog ops Q rest (a.put o.dst v') w') :
  wpList Try.prog ops Q (o :: rest) a w:=by
 subst hn;obtain ⟨i0,hi,hz0,hz1,hz2⟩:=info_parts hinfo;obtain ⟨v',w',hrun,h2,h3,-,h4⟩:=run_append_own_at (P:=Try.prog) w base st o.type e i0 z s bytes hu hi hz0 hz1 hz2 hzs hsz v rows.length _ hown.2 ⟨g,0,none⟩ rs.length rs.length rs.flatten (flatS_length rs hr) (fun j u hj=>by
  have:w.cell? ⟨g,j,none⟩=rs.flatten.toArray[j]?:=cell_of_row _ _ j _ _ _ hcell;have e2:((⟨g,0,none⟩:Addr).add j)=⟨g,j,none⟩:=by rw [Addr.add_mid,Nat.zero_add]
  rw [e2,this];simpa using hj) (fun u hu=>by
   obtain ⟨r,hr2,hur⟩:=List.mem_flatten.1 hu;exact (hr r hr2).2 u hur) (by unfold maxLen; omega) (by have:(rows.length+rs.length) * bytes≤1000001 * 200:=Nat.mul_le_mul (by omega) hby; omega) hb
 refine Lib.wpList_append_run w hgd sl x _ _ hop _ _ hs hx v' w' hrun (hK v' w' ⟨fun r hr2=>?_,?_⟩ h3)
 ·rcases List.mem_append.1 hr2 with h | h
  ·exact hown.1 r h
  ·exact hr r h
 ·rw [List.length_append,List.flatten_append]
  exact h2
end
def clkRows (l:List ItemM) (n:Nat):List (List Value):=(List.range n).map fun j=>clkL (clkAt l j)
theorem clkRows_succ (l:List ItemM) (n:Nat):clkRows l (n+1)=clkRows l n ++ [clkL (clkAt l n)]:=by
 unfold clkRows;rw [List.range_succ,List.map_append];rfl
theorem clkRows_length (l:List ItemM) (n:Nat):(clkRows l n).length=n:=by simp [clkRows]
theorem Try.info_clk:(Try.prog.info? 54).map (fun i=>(i.zero,i.size,i.bytes))=some (some (.agg #[.int .i64 0,.int .i64 0,.int .i64 0,.int .i64 0,.int .i64 0,.int .i64 0,.int .i64 0,.int .i64 0]),8,64):=by kernel_rfl
theorem makeClk (base n:Nat) (hn:n≤1000000) (w:World) (hb:base≤w.heap.size):∃w',(Instr.makeSlice 51 (.int .i64 0) (.int .i64 (n:Int))).run Try.prog w=.ok (.slice (some ⟨w.heap.size,0,none⟩) 0 n) w'∧OwnS w' base 54 8 (.slice (some ⟨w.heap.size,0,none⟩) 0 n) []∧Below w.heap.size w w':=by
 obtain ⟨i0,hi,hz0,hz1,hz2⟩:=info_parts Try.info_clk;obtain ⟨w',h1,h2,h3⟩:=run_makeSlice_owned (P:=Try.prog) (w:=w) base 51 54 i0 _ 8 (by kernel_rfl) hi hz0 hz1 .i64 .i64 n (by omega) (by rw [hz2]; omega) (by unfold maxLen; omega) hb;exact ⟨w',h1,⟨fun r hr=>by simp at hr,h2⟩,⟨h3.os,h3.tape,h3.output,h3.size,fun j hj=>h3.block j hj (by simp)⟩⟩
theorem ThrB.start {w:World} {base g:Nat} (h:w.heap[g]?=some (.cells (Array.replicate 64 (.int .i64 0)) 73 (0,0))) (hb:base≤g):ThrB w base g hb0.own:=by
 have e:((List.range 8).map fun t=>clkL (hb0.own t)).flatten=List.replicate 64 (.int .i64 0):=by kernel_rfl
 refine ⟨fun r hr=>?_,?_⟩
 ·obtain ⟨t,-,rfl⟩:=List.mem_map.1 hr
  exact ⟨rfl,by simp [clkL,Value.oneCell']⟩
 ·rw [e]
  refine ⟨by simp,.inr ⟨g,8,_,rfl,hb,h,by simp,by unfold maxLen; omega,by simp,by simp⟩⟩
theorem MapK.start {w w':World} {n:Nat} (hb:Below (w.alloc (.map #[] 0)).heap.size (w.alloc (.map #[] 0)) w'):MapK w' w.heap.size n hb0.words:=
 MapK.mono (MapK.below (n:=0) ⟨_,MapV.made _ _ w,fun a ha=>rfl⟩ hb) (Nat.zero_le _)
theorem clkL_split (c:Clk) {t:Nat} (ht:t<8):clkL c=(clkL c).take t ++ .int .i64 (c t) :: (clkL c).drop (t+1)∧(clkL c).take t ++ .int .i64 (c t+1) :: (clkL c).drop (t+1)=clkL (incC c t):=by
 rcases (show t=0∨t=1∨t=2∨t=3∨t=4∨t=5∨t=6∨t=7 by omega) with rfl | rfl | rfl | rfl | rfl | rfl | rfl | rfl <;> simp [clkL,incC]
theorem ThrB.at {w:World} {base g:Nat} {own:Nat→Clk} (h:ThrB w base g own) {t i:Nat} (ht:t<8) (hi:i<8):w.cell? ⟨g,t * 8+i,none⟩=some (.int .i64 (own t i))∧w.frozen? ⟨g,t * 8+i,none⟩=false:=by
 obtain ⟨h1,h2⟩:=OwnS.row h t (by simpa using ht);have e:((List.range 8).map fun t=>clkL (own t))[t]'(by simpa using ht)=clkL (own t):=by simp
 rw [e] at h1;refine ⟨h1 i _ ?_,(h2 i hi).2⟩;rcases (show i=0∨i=1∨i=2∨i=3∨i=4∨i=5∨i=6∨i=7 by omega) with rfl | rfl | rfl | rfl | rfl | rfl | rfl | rfl <;> rfl
theorem ThrB.inc {w:World} {base g:Nat} {own:Nat→Clk} (h:ThrB w base g own) {t:Nat} (ht:t<8):ThrB (w.setCell ⟨g,t * 8+t,none⟩ (.int .i64 (own t t+1))) base g (updN own t (incC (own t) t)):=by
 obtain ⟨e1,e2⟩:=clkL_split (own t) ht;have e:((List.range 8).map fun t=>clkL (own t))[t]'(by simpa using ht)=clkL (own t):=by simp
 have h1:=OwnS.setCell h t (by simpa using ht) _ _ _ (.int .i64 (own t t+1)) (e.trans e1) rfl;rw [e2] at h1;have e3:((clkL (own t)).take t).length=t:=by rw [List.length_take]; show min t 8=t; omega
 rw [e3] at h1;have e4:((List.range 8).map fun t=>clkL (own t)).set t (clkL (incC (own t) t))=(List.range 8).map fun i=>clkL (updN own t (incC (own t) t) i):=by
  apply List.ext_getElem
  ·simp
  ·intro i hi1 hi2
   rw [List.getElem_set];by_cases e:t=i
   ·subst e
    rw [if_pos rfl,List.getElem_map,List.getElem_range];unfold updN;rw [if_pos rfl]
   ·rw [if_neg e,List.getElem_map,List.getElem_map,List.getElem_range]
    unfold updN;rw [if_neg (fun h=>e h.symm)]
 rw [e4] at h1;exact h1
structure ClI (w wr:World) (g b i:Nat) (own:Nat→Clk) (words:Int→Clk) (v:Value) (rows:List (List Value)):Prop where
 bw:Below w.heap.size w wr
 gw:w.heap.size≤g∧g<w.heap.size+2
 bb:w.heap.size≤b∧b<w.heap.size+2
 ne:g≠b
 sz:w.heap.size+2≤wr.heap.size
 thr:ThrB wr w.heap.size g own
 map:MapK wr b i words
 beh:OwnS wr (w.heap.size+2) 54 8 v rows
section
variable {w wr w2 w3:World} {g b i:Nat} {own own2:Nat→Clk} {words words2:Int→Clk} {v:Value} {rows:List (List Value)}
theorem ClI.below (h:ClI w wr g b i own words v rows) (hb:Below wr.heap.size wr w2):ClI w w2 g b i own words v rows:=
 ⟨below_then h.bw hb,h.gw,h.bb,h.ne,Nat.le_trans h.sz hb.size,h.thr.below hb,h.map.below hb,h.beh.below hb⟩
theorem ClI.inc (h:ClI w wr g b i own words v rows) (ho:wr.grownBy w2 (some g)) (hT:ThrB w2 w.heap.size g own2):ClI w w2 g b i own2 words v rows:=by
 have h1:=h.gw;have h2:=h.ne;exact ⟨h.bw.grown ho (by have:=h.sz; omega) (fun k hk=>by cases hk; exact h1.1),h.gw,h.bb,h.ne,Nat.le_trans h.sz ho.size,hT,h.map.kept ho (by simpa using fun e=>h2 e.symm),h.beh.kept ho (h.beh.ne (by omega))⟩
theorem ClI.sync (h:ClI w wr g b i own words v rows) (hT:ThrB w2 w.heap.size g own2) (hM:MapK w2 b (i+1) words2) (hg:∃w1,wr.grownBy w1 (some g)∧w1.grownBy w2 (some b)):ClI w w2 g b (i+1) own2 words2 v rows:=by
 obtain ⟨w1,g1,g2⟩:=hg;have h1:=h.gw;have h2:=h.bb;have h3:=h.sz;have h4:=g1.size;have b1:=h.beh.kept g1 (h.beh.ne (by omega));exact ⟨(h.bw.grown g1 (by omega) (fun k hk=>by cases hk; exact h1.1)).grown g2 (by omega) (fun k hk=>by cases hk; exact h2.1),h.gw,h.bb,h.ne,Nat.le_trans (Nat.le_trans h.sz g1.size) g2.size,hT,hM,b1.kept g2 (b1.ne (by omega))⟩
theorem ClI.push {v2:Value} {r:List Value} (h:ClI w wr g b i own words v rows) (hO:OwnS w2 (w.heap.size+2) 54 8 v2 (rows ++ [r])) (hg:wr.grownBy w2 v.ownBlock):ClI w w2 g b i own words v2 (rows ++ [r]):=by
 have h1:=h.gw;have h2:=h.bb;have hv:∀k,v.ownBlock=some k→w.heap.size+2≤k:=fun k hk=>(h.beh.lt k hk).1;refine ⟨h.bw.grown hg (by have:=h.sz; omega) (fun k hk=>by have:=hv k hk; omega),h.gw,h.bb,h.ne,Nat.le_trans h.sz hg.size,h.thr.kept hg ?_,h.map.kept hg ?_,hO⟩
 ·intro e
  have:=hv g e.symm;omega
 ·intro e
  have:=hv b e.symm;omega
theorem ClI.more (h:ClI w wr g b i own words v rows):ClI w wr g b (i+1) own words v rows:=⟨h.bw,h.gw,h.bb,h.ne,h.sz,h.thr,h.map.mono (Nat.le_succ _),h.beh⟩
end
theorem updN_updN (own:Nat→Clk) (t:Nat) (c d:Clk):updN (updN own t c) t d=updN own t d:=by
 funext i
 unfold updN;split <;> rfl
theorem step_eq (s:HbS) (x:ItemM) {t:Nat} (ht:x.thr.toNat=t):(hbStep s x).own=updN (updN s.own t (incC (s.own t) t)) t (learnE (updN s.own t (incC (s.own t) t)) s.words t x)∧(hbStep s x).words=(if wrB x then updI s.words x.acc.addr (learnE (updN s.own t (incC (s.own t) t)) s.words t x) else s.words)∧nowE s x=learnE (updN s.own t (incC (s.own t) t)) s.words t x:=by
 have e:nowE s x=learnE (updN s.own t (incC (s.own t) t)) s.words t x:=by
  unfold nowE learnE;rw [ht];have:updN s.own t (incC (s.own t) t) t=incC (s.own t) t:=by unfold updN; simp
  rw [this]
 refine ⟨?_,?_,e⟩
 ·rw [updN_updN,← e,← ht]
  rfl
 ·rw [← e]
  rfl
theorem step_plain (s:HbS) (x:ItemM) {t:Nat} (ht:x.thr.toNat=t) (ha:atomicB x.acc.kind=false):(hbStep s x).own=updN s.own t (incC (s.own t) t)∧(hbStep s x).words=s.words∧nowE s x=incC (s.own t) t:=by
 obtain ⟨h1,h2⟩:=atomic_no ha;have e:nowE s x=incC (s.own t) t:=by unfold nowE; rw [ht,h1]; simp
 refine ⟨?_,?_,e⟩
 ·show updN s.own x.thr.toNat (nowE s x)=_
  rw [e,ht]
 ·show (if wrB x then _ else s.words)=_
  rw [h2]; simp
set_option maxRecDepth 100000 in
set_option maxHeartbeats 16000000 in
theorem clocks_any (l:List ItemM) (v:Value) (w:World) (hv:SlT w v l) (hth:∀x∈l,0≤x.thr∧x.thr<8) (hl:l.length≤100000):Calls Try.prog 25 #[v] w fun e w'=>∃u,e=.returned u∧OwnS w' (w.heap.size+2) 54 8 u (clkRows l l.length)∧Below w.heap.size w w':=by
 have TAT:=Lib.hid fun k w'=>atomic_any k w';have HV:=Lib.hid hv;have HGD:=Lib.hid hv.2.1;have HTH:=Lib.hid hth;obtain ⟨a,cap,hve,-⟩:=hv.len;subst hve;obtain ⟨n,hn⟩:∃n,l.length=n:=⟨_,rfl⟩;have HN:=Lib.hid hn;rw [hn] at HV hl ⊢;obtain ⟨W,hW⟩:∃W,w.alloc (.cells #[.int .i64 0,.int .i64 0,.int .i64 0,.int .i64 0,.int .i64 0,.int .i64 0,.int .i64 0,.int .i64 0,.int .i64 0,.int .i64 0,.int .i64 0,.int .i64 0,.int .i64 0,.int .i64 0,.int .i64 0,.int .i64 0,.int .i64 0,.int .i64 0,.int .i64 0,.int .i64 0,.int .i64 0,.int .i64 0,.int .i64 0,.int .i64 0,.int .i64 0,.int .i64 0,.int .i64 0,.int .i64 0,.int .i64 0,.int .i64 0,.int .i64 0,.int .i64 0,.int .i64 0,.int .i64 0,.int .i64 0,.int .i64 0,.int .i64 0,.int .i64 0,.int .i64 0,.int .i64 0,.int .i64 0,.int .i64 0,.int .i64 0,.int .i64 0,.int .i64 0,.int .i64 0,.int .i64 0,.int .i64 0,.int .i64 0,.int .i64 0,.int .i64 0,.int .i64 0,.int .i64 0,.int .i64 0,.int .i64 0,.int .i64 0,.int .i64 0,.int .i64 0,.int .i64 0,.int .i64 0,.int .i64 0,.int .i64 0,.int .i64 0,.int .i64 0] 73)=W:=⟨_,rfl⟩;have HB:Hid (Below w.heap.size w W):=hW▸below_new (Below.refl _ _) _;have RT:Hid (W.heap[w.heap.size]?=some (.cells #[.int .i64 0,.int .i64 0,.int .i64 0,.int .i64 0,.int .i64 0,.int .i64 0,.int .i64 0,.int .i64 0,.int .i64 0,.int .i64 0,.int .i64 0,.int .i64 0,.int .i64 0,.int .i64 0,.int .i64 0,.int .i64 0,.int .i64 0,.int .i64 0,.int .i64 0,.int .i64 0,.int .i64 0,.int .i64 0,.int .i64 0,.int .i64 0,.int .i64 0,.int .i64 0,.int .i64 0,.int .i64 0,.int .i64 0,.int .i64 0,.int .i64 0,.int .i64 0,.int .i64 0,.int .i64 0,.int .i64 0,.int .i64 0,.int .i64 0,.int .i64 0,.int .i64 0,.int .i64 0,.int .i64 0,.int .i64 0,.int .i64 0,.int .i64 0,.int .i64 0,.int .i64 0,.int .i64 0,.int .i64 0,.int .i64 0,.int .i64 0,.int .i64 0,.int .i64 0,.int .i64 0,.int .i64 0,.int .i64 0,.int .i64 0,.int .i64 0,.int .i64 0,.int .i64 0,.int .i64 0,.int .i64 0,.int .i64 0,.int .i64 0,.int .i64 0] 73 (0,0))):=hW▸heap_alloc_new _ _;rw [show (#[.int .i64 0,.int .i64 0,.int .i64 0,.int .i64 0,.int .i64 0,.int .i64 0,.int .i64 0,.int .i64 0,.int .i64 0,.int .i64 0,.int .i64 0,.int .i64 0,.int .i64 0,.int .i64 0,.int .i64 0,.int .i64 0,.int .i64 0,.int .i64 0,.int .i64 0,.int .i64 0,.int .i64 0,.int .i64 0,.int .i64 0,.int .i64 0,.int .i64 0,.int .i64 0,.int .i64 0,.int .i64 0,.int .i64 0,.int .i64 0,.int .i64 0,.int .i64 0,.int .i64 0,.int .i64 0,.int .i64 0,.int .i64 0,.int .i64 0,.int .i64 0,.int .i64 0,.int .i64 0,.int .i64 0,.int .i64 0,.int .i64 0,.int .i64 0,.int .i64 0,.int .i64 0,.int .i64 0,.int .i64 0,.int .i64 0,.int .i64 0,.int .i64 0,.int .i64 0,.int .i64 0,.int .i64 0,.int .i64 0,.int .i64 0,.int .i64 0,.int .i64 0,.int .i64 0,.int .i64 0,.int .i64 0,.int .i64 0,.int .i64 0,.int .i64 0]:Array Value)=Array.replicate 64 (.int .i64 0) by kernel_rfl] at RT
 have hz:W.heap.size=w.heap.size+1:=by rw [← hW]; simp
 have HW:=Lib.hid hW;have hmm:=@run_makeMap Try.prog;obtain ⟨w2,hmk,hown,hb2⟩:=makeClk (w.heap.size+2) n (by omega) (W.alloc (.map #[] 0)) (by simp; omega);have HI0:Hid (ClI w w2 w.heap.size W.heap.size 0 (hbAll (l.take 0)).own (hbAll (l.take 0)).words (.slice (some ⟨(W.alloc (.map #[] 0)).heap.size,0,none⟩) 0 n) (clkRows l 0)):=by
  have hWa:Below W.heap.size W (W.alloc (.map #[] 0)):=below_new (Below.refl _ _) _;refine ⟨below_then (below_then HB.out hWa) hb2,⟨by omega,by omega⟩,⟨by omega,by omega⟩,by omega,?_,?_,MapK.start hb2,hown⟩
  ·have:=hb2.size; simp at this; omega
  ·exact ThrB.start (row_below3k hb2 (row_below3k hWa RT.out)) (Nat.le_refl _)
 have hsz2:(W.alloc (.map #[] 0)).heap.size=w.heap.size+2:=by simp; omega
 rw [hsz2] at hmk HI0;rw [hz] at HI0;clear hv hth hW hn hown hb2 HB RT;go_enter Try.func25,Try.ntmps25;go_upto_region 2 with fail
 rw [HW.out];clear HW;go_wp2_with fail;clear hmm hmk hsz2;go_loopw [5,15] (fun u5 u15 wr=>∃(i:Nat) (p:Option Addr) (q r:Nat),u15=.int .i64 (i:Int)∧i≤n∧u5=.slice p q r∧Hid (ClI w wr w.heap.size (w.heap.size+1) i (hbAll (l.take i)).own (hbAll (l.take i)).words (.slice p q r) (clkRows l i))) (fun _ u15 _=>n - (intOf u15).toNat)
 case atStart=>exact ⟨0,_,_,_,rfl,by omega,rfl,HI0⟩
 case round=>
  clear HI0;obtain ⟨i,p,q,r,rfl,hi,rfl,HI⟩:=hrel;obtain ⟨wo,rfl⟩:∃wo:World,wo=wr:=⟨_,rfl⟩;by_cases hlt:i<n
  ·have hltI:(i:Int)<(n:Int):=by omega
   obtain ⟨-,-,a9,cap9,hve,-,hit⟩:=HV.out.below HI.out.bw;simp only [Value.slice.injEq] at hve;obtain ⟨hv1,-,hv3⟩:=hve;subst hv1;subst hv3;obtain ⟨b9,o9,rfl,hb9,hca⟩:=hit i (by have:=HN.out; omega);have hxm:l.getD i noItem∈l:=by
    rw [List.getD_eq_getElem?_getD,List.getElem?_eq_getElem (by have:=HN.out; omega)];exact List.getElem_mem _
   obtain ⟨x,hx⟩:∃x,l.getD i noItem=x:=⟨_,rfl⟩;rw [hx] at hca hxm;have HX:=Lib.hid hx;have HGX:=Lib.hid (HGD.out x hxm);obtain ⟨ht0,ht1⟩:=HTH.out x hxm;obtain ⟨th,⟨ak,ad,ao,an,at_⟩,vl,ok⟩:=x;dsimp only at ht0 ht1;obtain ⟨t,rfl⟩:∃z:Nat,th=z:=⟨th.toNat,by omega⟩;have ht8:t<8:=by omega
   have ht8I:(t:Int)<8:=by omega
   obtain ⟨c0,c1,c2,c3,c4,c5,c6,c7⟩:=hca;simp only [Nat.add_zero] at c0;dsimp only at c0 c1 c2 c3 c4 c5 c6 c7;clear hit hx hxm ht0 ht1;obtain ⟨Wi,hWi⟩:∃Wi,(wo.alloc (.cells #[.int .i64 0,.int .i64 0,.int .i64 0,.int .u64 0,.int .u64 0,.int .i64 0,.int .u64 0,.bool false] 30)).setRow wo.heap.size #[.int .i64 (t:Int),.int .i64 ak,.int .i64 ad,.int .u64 ao,.int .u64 an,.int .i64 at_,.int .u64 vl,.bool ok]=Wi:=⟨_,rfl⟩;have Ni:Hid ((wo.alloc (.cells #[.int .i64 0,.int .i64 0,.int .i64 0,.int .u64 0,.int .u64 0,.int .i64 0,.int .u64 0,.bool false] 30)).heap[wo.heap.size]?=some (.cells #[.int .i64 0,.int .i64 0,.int .i64 0,.int .u64 0,.int .u64 0,.int .i64 0,.int .u64 0,.bool false] 30 (0,0))):=heap_alloc_new _ _;have HBi:Hid (Below wo.heap.size wo Wi):=hWi▸row_below (below_new (Below.refl _ _) _) (Nat.le_refl _) _;have RI:Hid (Wi.heap[wo.heap.size]?=some (.cells #[.int .i64 (t:Int),.int .i64 ak,.int .i64 ad,.int .u64 ao,.int .u64 an,.int .i64 at_,.int .u64 vl,.bool ok] 30 (0,0))):=hWi▸setRow_heap _ _ _ _ _ (0,0) Ni.out;have HWi:=Lib.hid hWi;clear hWi;go_upto_region 7 with (refine wpList_store_row rfl 30 _ _ rfl (wo.heap.size) _ rfl rfl 30 _ Ni.out (by kernel_rfl) rfl (by simp [Value.oneCell']) ?_)
   rw [HWi.out];try simp only [Act.put]
   clear HWi Ni c0 c1 c2 c3 c4 c5 c6 c7;obtain ⟨I,hIe⟩:∃I,wo.heap.size=I:=⟨_,rfl⟩;have hgI:w.heap.size+2≤I:=by have:=HI.out.sz; omega
   have HIb:=Lib.hid (HI.out.below HBi.out);rw [hIe] at RI;rw [hIe];clear hIe HI HBi;obtain ⟨wi,rfl⟩:∃wi:World,wi=Wi:=⟨_,rfl⟩;obtain ⟨y0,y1,y2,y3,y4,y5,y6,y7⟩:=rowc8i RI.out;go_upto_region 8 with fail
   clear y0 y1 y2 y3 y4 y5 y6 y7;obtain ⟨c,hcv⟩:∃z,(hbAll (l.take i)).own t t=z:=⟨_,rfl⟩;have hcb:0≤c∧c≤100000:=by
    have h1:=(hbAll_ok (l.take i)).1 t t;rw [hcv,List.length_take] at h1;omega
   obtain ⟨hc0,hc1⟩:=hcb;have hw1:wrap64 (c+1)=c+1:=by unfold wrap64; omega
   have hw2:IntKind.i64.wrap (c+1)=c+1:=by rw [IntKind.wrap_i64]; omega
   have HCV:=Lib.hid hcv;clear hcv;have KS:Hid (∀w',Below wi.heap.size wi w'→(fun w':World=>w'.cell? ⟨I,0,none⟩=some (.int .i64 (t:Int))∧w'.cell? ⟨w.heap.size,t * 8+t,none⟩=some (.int .i64 c)) w'):=fun w' hb=>by
    have h1:=((HIb.out.thr.below hb).at ht8 ht8).1;rw [HCV.out] at h1;exact ⟨(rowc8i (row_below3k hb RI.out)).1,h1⟩
   go_cut [] (fun wx=>Hid (ClI w wx w.heap.size (w.heap.size+1) i (updN (hbAll (l.take i)).own t (incC ((hbAll (l.take i)).own t) t)) (hbAll (l.take i)).words (.slice p q r) (clkRows l i))∧Hid (wx.heap[I]?=some (.cells #[.int .i64 (t:Int),.int .i64 ak,.int .i64 ad,.int .u64 ao,.int .u64 an,.int .i64 at_,.int .u64 vl,.bool ok] 30 (0,0))))
   case first=>
    refine untilK KS 9 10 (by kernel_rfl) rfl ?_;obtain ⟨u0,hu0,hU0⟩:=drew_pack wi;rw [hu0];clear hu0;have HU0:=Lib.hid hU0.out;clear hU0;have hSU0:=KS.out _ HU0.out;apply tkV 0 hSU0 rfl (by kernel_rfl) (fun _ _ _ h=>h) rfl;intro w hSw;(go_simp<;>with_reducible rfl);simp only [J0,J1,J2,J3,J4];apply tkV 1 hSU0 rfl (by kernel_rfl) (fun _ _ _ h=>h) rfl;intro w hSw;(go_simp<;>with_reducible rfl);simp only [J0,J1,J2,J3,J4];apply tkV 2 hSU0 rfl (by kernel_rfl) (fun _ _ _ h=>h) rfl;intro w hSw;(go_simp<;>with_reducible rfl);simp only [J0,J1,J2,J3,J4];apply tkV 3 hSU0 rfl (by kernel_rfl) (fun _ _ _ h=>h) rfl;intro w hSw;(go_simp<;>with_reducible rfl);simp only [J0,J1,J2,J3,J4];apply tkV 4 hSU0 rfl (by kernel_rfl) (fun _ _ _ h=>h) rfl;intro w hSw;(go_simp<;>with_reducible rfl);simp only [J0,J1,J2,J3,J4];apply tkV 5 hSU0 rfl (by kernel_rfl) (fun _ _ _ h=>h) rfl;intro w hSw;(go_simp<;>with_reducible rfl);simp only [J0,J1,J2,J3,J4];apply tkV 6 hSU0 rfl (by kernel_rfl) (fun _ _ _ h=>h) rfl;intro w hSw;(go_simp<;>with_reducible rfl);simp only [J0,J1,J2,J3,J4];apply tkW 7 (fun _=>hSU0) rfl (by kernel_rfl) (fun _ _ _ h=>h) rfl;intro w;(go_simp<;>with_reducible rfl);simp only [J0,J1,J2,J3,J4];apply tkV 8 hSU0 rfl (by kernel_rfl) (fun _ _ _ h=>h) rfl;intro w hSw;(go_simp<;>with_reducible rfl);simp only [J0,J1,J2,J3,J4];refine freeU 9 rfl (by kernel_rfl) rfl (by kernel_rfl) fun K hK=>?_;have HT9:=Lib.hid (HIb.out.thr.below HU0.out);have fz:=(HT9.out.at ht8 ht8).2;go_simp;clear fz;refine hK.out _ _ ?_;clear hK K hSU0;(try simp only [J0,J1,J2,J3,J4]);refine wpAnyU_done (by kernel_rfl) ?_ _;have HT2:=Lib.hid (HT9.out.inc ht8);have HG2:=Lib.hid (grownBy_trans (grown_belowK (row:=some w.heap.size) HU0.out) (grownBy_setCell u0 ⟨w.heap.size,t * 8+t,none⟩ (.int .i64 (c+1))));rw [HCV.out] at HT2;obtain ⟨w9,hw9⟩:∃z,u0.setCell ⟨w.heap.size,t * 8+t,none⟩ (.int .i64 (c+1))=z:=⟨_,rfl⟩;rw [hw9] at HT2 HG2;try rw [hw9]
    clear hw9;go_wp2_with fail;go_meet;exact ⟨HIb.out.inc HG2.out HT2.out,row_keepK HG2.out RI.out (by omega)⟩
   obtain ⟨HI8,RI8⟩:=hcut;obtain ⟨w8,rfl⟩:∃w8:World,w8=wc:=⟨_,rfl⟩;clear HIb RI KS;have HHO:=Lib.hid (hbAll_ok (l.take i));obtain ⟨S,hS⟩:∃S,hbAll (l.take i)=S:=⟨_,rfl⟩;have HS:=Lib.hid hS;rw [hS] at HI8 HCV;clear hS;obtain ⟨y0,y1,y2,y3,y4,y5,y6,y7⟩:=rowc8i RI8.out;go_wp2_with fail;refine (TAT.out ak w8).mono ?_; rintro e w8b ⟨rfl,rfl⟩;obtain ⟨ab,hab⟩:∃q,atomicB ak=q:=⟨_,rfl⟩;rw [hab];have HAB:=Lib.hid hab;clear hab y0 y1 y2 y3 y4 y5 y6 y7;go_upto_if 34 with fail
   go_cut [] (fun wx=>Hid (ClI w wx w.heap.size (w.heap.size+1) (i+1) (hbStep S ⟨(t:Int),⟨ak,ad,ao,an,at_⟩,vl,ok⟩).own (hbStep S ⟨(t:Int),⟨ak,ad,ao,an,at_⟩,vl,ok⟩).words (.slice p q r) (clkRows l i)))
   case first=>
    cases ab with
    | false=>
     go_wp2_with fail;go_meet;obtain ⟨e1,e2,-⟩:=step_plain S ⟨(t:Int),⟨ak,ad,ao,an,at_⟩,vl,ok⟩ (t:=t) (Int.toNat_natCast t) HAB.out;rw [e1,e2];exact HI8.out.more
    | true=>
     have TS:=Lib.hid (sync_any w.heap.size w.heap.size (w.heap.size+1) i t _ _ ⟨(t:Int),⟨ak,ad,ao,an,at_⟩,vl,ok⟩ w8 HGX.out HAB.out ht8 HI8.out.thr HI8.out.map (by omega) (by omega));unfold itemV at TS;dsimp only at TS;obtain ⟨y0,y1,y2,y3,y4,y5,y6,y7⟩:=rowc8i RI8.out;go_wp2_with fail;refine TS.out.mono ?_; rintro e w9 ⟨rfl,hT,hM,hG⟩;obtain ⟨e1,e2,-⟩:=step_eq S ⟨(t:Int),⟨ak,ad,ao,an,at_⟩,vl,ok⟩ (t:=t) (Int.toNat_natCast t);have HI9:=Lib.hid (HI8.out.sync hT hM hG);dsimp only at e1 e2;rw [← e1,← e2] at HI9;clear hT hM hG TS y0 y1 y2 y3 y4 y5 y6 y7 e1 e2;go_wp2_with fail;go_meet;exact HI9
   have HI9:=hcut;obtain ⟨w9,rfl⟩:∃w9:World,w9=wc:=⟨_,rfl⟩;clear HI8 RI8 hcut;obtain ⟨nc,hnc⟩:∃z,nowE S ⟨(t:Int),⟨ak,ad,ao,an,at_⟩,vl,ok⟩=z:=⟨_,rfl⟩;have hcc:=(HI9.out.thr.cells ht8).1;have e9:(hbStep S ⟨(t:Int),⟨ak,ad,ao,an,at_⟩,vl,ok⟩).own t=nc:=by
    show updN S.own ((t:Int)).toNat (nowE S ⟨(t:Int),⟨ak,ad,ao,an,at_⟩,vl,ok⟩) t=nc;rw [Int.toNat_natCast,hnc];unfold updN;simp
   rw [e9] at hcc;obtain ⟨y0,y1,y2,y3,y4,y5,y6,y7⟩:=hcc;have HNC:Hid (clkAt l i=nc):=by
    show _=_;unfold clkAt;rw [HX.out,HS.out,hnc]
   clear e9 hnc;obtain ⟨Wb,hWb⟩:∃Wb,w9.alloc (.cells #[.int .i64 (nc 0),.int .i64 (nc 1),.int .i64 (nc 2),.int .i64 (nc 3),.int .i64 (nc 4),.int .i64 (nc 5),.int .i64 (nc 6),.int .i64 (nc 7)] 54)=Wb:=⟨_,rfl⟩;have HBb:Hid (Below w9.heap.size w9 Wb):=hWb▸below_new (Below.refl _ _) _;have Rb:Hid (Wb.heap[w9.heap.size]?=some (.cells #[.int .i64 (nc 0),.int .i64 (nc 1),.int .i64 (nc 2),.int .i64 (nc 3),.int .i64 (nc 4),.int .i64 (nc 5),.int .i64 (nc 6),.int .i64 (nc 7)] 54 (0,0))):=hWb▸heap_alloc_new _ _;have HWb:=Lib.hid hWb;have HIB:=Lib.hid (HI9.out.below HBb.out);clear hWb;go_wp2_with (first | (rw [HWb.out]) | refine wp_append_ss 51 (by kernel_rfl) Try.info_clk rfl (by decide) (by decide) rfl _ _ rfl (by rfl) HIB.out.beh [clkL nc] (fun r hr=>by rw [List.mem_singleton.1 hr]; exact ⟨rfl,by simp [clkL,Value.oneCell']⟩) w9.heap.size 1 rfl (by rfl) Rb.out (by rw [clkRows_length]; simp; omega) (by have:=HIB.out.sz; omega) ?_);intro v5 w5 ho5 hg5;obtain ⟨p5,q5,rfl⟩:=ho5.len;obtain ⟨m5,hm5⟩:∃z,(clkRows l i ++ [clkL nc]).length=z:=⟨_,rfl⟩;rw [hm5] at ho5 ⊢;clear hm5;have HI5:=Lib.hid (HIB.out.push ho5 hg5);rw [← HNC.out,← clkRows_succ] at HI5;clear ho5 hg5 y0 y1 y2 y3 y4 y5 y6 y7 HIB HI9;go_wp2_with fail;go_roundw
   case rel=>
    refine ⟨i+1,_,_,_,by go_num,by omega,rfl,?_⟩;rw [hbAll_succ (by have:=HN.out; omega),HX.out,HS.out];exact HI5
   case measure=>simp [intOf]; omega
  ·have hge:¬(i:Int)<(n:Int):=by omega
   have hin:i=n:=by omega
   subst hin;go_wp2;go_ret;exact ⟨_,rfl,HI.out.beh,HI.out.bw⟩
end Go.Proofs.Ytfbdehcibgdagaa
