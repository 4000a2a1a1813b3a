import Derived.LoopTactic
import Derived.Deep.DeepCutAuto
import Derived.Laws.AppendOwn
import Derived.Test.YtfbdehcibgdagaaB05
import Derived.Test.YtfbdehcibgdagaaB01
import Derived.Test.YtfbdehcibgdagaaB04
import Derived.Test.YtfbdehcibgdagaaB02
set_option linter.unusedVariables false
set_option linter.unusedSimpArgs false
namespace Go.Proofs.Ytfbdehcibgdagaa
open Go.ChangeShapes Go.WideShapes Go.ChangeAt Go.RowKit
set_option maxRecDepth 100000
theorem SlI.cellAt {w:World} {k:IntKind} {a:Option Addr} {n cap:Nat} {l:List Int} (h:SlI w k (.slice a n cap) l) (t:Nat) (ht:t<l.length) :
  ∃b off,a=some ⟨b,off,none⟩∧b<w.heap.size∧w.cell? ⟨b,off+t,none⟩=some (.int k (l.getD t 0)):=by
 obtain ⟨_,_,a',cap',e,_,h5⟩:=h;simp only [Value.slice.injEq] at e;obtain ⟨rfl,_,_⟩:=e;exact h5 t ht
def ConfM.st (c:ConfM) (k:Nat):Int:=c.starts.getD k 0
def Wf (l:List Int):Prop:=∀x∈l,x=IntKind.u64.wrap x
theorem Wf.set {l:List Int} (h:Wf l) (i:Nat) (x:Int) (hx:x=IntKind.u64.wrap x):Wf (l.set i x):=by
 intro y hy;rcases List.mem_or_eq_of_mem_set hy with hy | rfl
 ·exact h y hy
 ·exact hx
theorem ConfM.good.st {c:ConfM} (h:c.good) (k:Nat) (hk:k<c.caps.length):0≤c.st k∧c.st k<9223372036854775808:=by
 have hk2:k<c.starts.length:=by rw [h.same]; exact hk
 show 0≤c.starts.getD k 0∧c.starts.getD k 0<9223372036854775808;rw [List.getD_eq_getElem?_getD,List.getElem?_eq_getElem hk2];exact h.starts _ (List.getElem_mem hk2)
theorem ConfM.good.mono {c:ConfM} (h:c.good) (k:Nat) (hk:k<c.caps.length):c.base k+(5+c.size k * 2)≤c.base c.caps.length:=by
 have key:∀d,k+1+d≤c.caps.length→c.base (k+1)≤c.base (k+1+d):=by
  intro d;induction d with
  | zero=>intro _; exact Int.le_refl _
  | succ d ih=>
   intro hd;have h1:=ih (by omega);have h2:=h.size (k+1+d) (by omega);have e:c.base (k+1+(d+1))=c.base (k+1+d)+(5+c.size (k+1+d) * 2):=rfl;omega
 have h1:=key (c.caps.length - (k+1)) (by omega);rw [show k+1+(c.caps.length - (k+1))=c.caps.length by omega] at h1;exact h1
structure NewI (w0 wr:World) (X t:Nat) (ws:List Int):Prop where
 row:OwnI wr X 26 .u64 (.slice (some ⟨X,0,none⟩) t t) ws
 len:ws.length=t
 below:Below X w0 wr
theorem NewI.next {w0 wr w2:World} {X t:Nat} {ws:List Int} (h:NewI w0 wr X t ws) (hb:Below wr.heap.size wr w2):NewI w0 w2 X t ws:=by
 have hX:X≤wr.heap.size:=by
  rcases h.row.shape with ⟨h1,_⟩ | ⟨g,cap,h1,_,h2,_⟩
  ·simp at h1
  ·simp only [Value.slice.injEq,Option.some.injEq,Addr.mk.injEq] at h1; omega
 exact ⟨h.row.below hb,h.len,h.below.trans (hb.mono hX)⟩
theorem NewI.set {w0 wr:World} {X t:Nat} {ws:List Int} (h:NewI w0 wr X t ws) (i:Nat) (x:Int):NewI w0 (wr.setCell ⟨X,i,none⟩ (.int .u64 x)) X t (ws.set i x):=
 ⟨h.row.store i x h.len.symm,by rw [List.length_set]; exact h.len,h.below.setCell (p:=⟨X,i,none⟩) (Nat.le_refl _) _⟩
theorem StA.at {G:World→Prop} {v:Value} {b:AnsM} {w:World} (h:StA G v b) (hG:G w):∃vl,v=.agg #[.int .u64 b.val,.bool b.ok,.bool b.late,vl]∧SlI w .i64 vl b.list:=by
 obtain ⟨vl,e,h1⟩:=h; exact ⟨vl,e,h1 w hG⟩
def AnsV (w:World) (v:Value) (b:AnsM):Prop:=∃vl,v=.agg #[.int .u64 b.val,.bool b.ok,.bool b.late,vl]∧SlI w .i64 vl b.list
theorem AnsV.below {w w':World} {v:Value} {b:AnsM} (h:AnsV w v b) (hb:Below w.heap.size w w'):AnsV w' v b:=by
 obtain ⟨vl,e,h1⟩:=h; exact ⟨vl,e,h1.below hb⟩
theorem AnsV.parts {w:World} {x:Int} {p q:Bool} {vl:Value} {b:AnsM} (h:AnsV w (.agg #[.int .u64 x,.bool p,.bool q,vl]) b):x=b.val∧p=b.ok:=by
 obtain ⟨vl',e,-⟩:=h;simp only [Value.agg.injEq,Array.mk.injEq,List.cons.injEq,Value.int.injEq,Value.bool.injEq,and_true,true_and] at e;exact ⟨e.1,e.2.1⟩
theorem flatT_set:∀(l:List ItemM) (n j:Nat) (x y:ItemM) (v:Value),n<l.length→l.getD n noItem=x→(itemCells x).set j v=itemCells y→j<8→(l.flatMap itemCells).set (n * 8+j) v=(l.set n y).flatMap itemCells
 | [],n,j,x,y,v,h,_,_,_=>by simp at h
 | z :: l,0,j,x,y,v,h,hx,hs,hj=>by
  have e:z=x:=by simpa using hx
  subst e;rw [List.flatMap_cons,List.set_cons_zero,List.flatMap_cons,Nat.zero_mul,Nat.zero_add,List.set_append_left _ _ (by show j<8; exact hj),hs]
 | z :: l,n+1,j,x,y,v,h,hx,hs,hj=>by
  have e8:(itemCells z).length=8:=rfl;rw [List.flatMap_cons,List.set_cons_succ,List.flatMap_cons,List.set_append_right _ _ (by rw [e8]; omega),e8,show (n+1) * 8+j - 8=n * 8+j by omega];rw [flatT_set l n j x y v (by simpa using h) (by simpa using hx) hs hj]
def OffV (a b:Nat) (v:Value) (w0:World):World→Prop:=fun w=>w0.heap.size≤w.heap.size∧∀j,j<w0.heap.size→j≠a→j≠b→v.ownBlock≠some j→w.heap[j]?=w0.heap[j]?
theorem OffV.trans {a b:Nat} {v v2:Value} {w0 w1 w2:World} (h:OffV a b v w0 w1) (h2:OffV a b v2 w1 w2) (hv:∀j,j<w0.heap.size→v2.ownBlock=some j→v.ownBlock=some j):OffV a b v w0 w2:=
 ⟨Nat.le_trans h.1 h2.1,fun j hj ha hb hn=>(h2.2 j (Nat.lt_of_lt_of_le hj h.1) ha hb (fun e=>hn (hv j hj e))).trans (h.2 j hj ha hb hn)⟩
theorem OffV.below {a b:Nat} {v:Value} {w w':World} (h:Below w.heap.size w w'):OffV a b v w w':=⟨h.size,fun j hj _ _ _=>h.block j hj⟩
theorem OffV.off {a b:Nat} {v:Value} {w w':World} (h:Off a b w w'):OffV a b v w w':=⟨h.1,fun j hj ha hb _=>h.2 j hj ha hb⟩
theorem OffV.grown {a b:Nat} {v:Value} {w w':World} (h:w.grownBy w' (some a)):OffV a b v w w':=⟨h.size,fun j hj ha _ _=>h.block j hj (by simp; omega)⟩
theorem OffV.own {a b:Nat} {v:Value} {w w':World} (h:w.grownBy w' v.ownBlock):OffV a b v w w':=⟨h.size,fun j hj _ _ hn=>h.block j hj (fun e=>hn e.symm)⟩
section
variable {w0 wr w2:World} {g M F D:Nat} {r0:Array Value} {m0 m:MemM} {v:Value} {l:List ItemM}
end
theorem SlT.take {w:World} {a:Option Addr} {n cap:Nat} {l:List ItemM} (h:SlT w (.slice a n cap) l) (i:Nat) (hi:i≤l.length):SlT w (.slice a i cap) (l.take i):=by
 obtain ⟨h1,h2,a',cap',e,h4,h5⟩:=h;simp only [Value.slice.injEq] at e;obtain ⟨rfl,rfl,rfl⟩:=e;have hl:(l.take i).length=i:=by simp; omega
 refine ⟨by omega,fun x hx=>h2 x (List.mem_of_mem_take hx),_,cap,by rw [hl],by omega,fun t ht=>?_⟩;rw [hl] at ht;obtain ⟨b,off,e,h6,h7⟩:=h5 t (by omega);refine ⟨b,off,e,h6,?_⟩;rw [show (l.take i).getD t noItem=l.getD t noItem by simp [List.getD_eq_getElem?_getD,ht]];exact h7
theorem SlT.drop {w:World} {b off n cap:Nat} {l:List ItemM} (h:SlT w (.slice (some ⟨b,off,none⟩) n cap) l) (i:Nat) (hi:i≤l.length):SlT w (.slice (some ⟨b,off+i * 8,none⟩) (l.length - i) (cap - i)) (l.drop i):=by
 obtain ⟨h1,h2,a,cap',e,h4,h5⟩:=h;simp only [Value.slice.injEq] at e;obtain ⟨rfl,rfl,rfl⟩:=e;refine ⟨by simp; omega,fun x hx=>h2 x (List.mem_of_mem_drop hx),_,cap - i,by rw [List.length_drop],by rw [List.length_drop]; omega,fun t ht=>?_⟩;rw [List.length_drop] at ht;obtain ⟨b',off',e,h6,h7⟩:=h5 (i+t) (by omega);simp only [Option.some.injEq,Addr.mk.injEq,and_true] at e;obtain ⟨rfl,rfl⟩:=e;refine ⟨b,off+i * 8,rfl,h6,?_⟩;rw [show (l.drop i).getD t noItem=l.getD (i+t) noItem by simp [List.getD_eq_getElem?_getD],show off+i * 8+t * 8=off+(i+t) * 8 by omega];exact h7
theorem wp_copy_item_any (w:World) {ops:Array Oper} {rest:List Oper} {o:Oper} {a:Act} {Q:Exit→Act→World→Prop}
  (hg:o.guard=none) (s x:Operand) (hop:o.op=Op.call { callee:=Callee.builtin Builtin.append,args:=#[s,x],argTypes:=#[23,23] })
  (xv:Value) (l:List ItemM) (hs:a.eval s=.slice none 0 0) (hx:a.eval x=xv) (hS:SlT w xv l) (hl:l.length≤1000000) (B:Nat) (hB:B≤w.heap.size)
  (hK:∀v' w',OwnT w' B v' l→Below w.heap.size w w'→wpList Try.prog ops Q rest (a.put o.dst v') w') :
  wpList Try.prog ops Q (o :: rest) a w:=by
 obtain ⟨i0,hi,hz0,hz1,hz2⟩:=info_parts Try.info_item;obtain ⟨m1,m2,A,cap,rfl,hcap,h5⟩:=hS;by_cases hne:l=[]
 ·subst hne
  refine wpList_plain hg fun K hK2=>?_;have hrun:(Builtin.append_ #[23,23] o.type #[.slice none 0 0,.slice A 0 cap]).run Try.prog w=.ok (.slice none 0 0) w:=by
   cases A <;> simp [Builtin.append_,run_underlying (show Try.prog.underlying 23=some (.slice 30) by kernel_rfl),sizeOf,typeInfo,hi,Builtin.lenOf,Builtin.firstCells,storeCells,loadCells,loadCellsFrom,Result.andThen]
  unfold Oper.wp;simp at hx;simp [execOp,hop,resolve,invoke,builtin,hs,hx,hrun,Result.andThen];exact hK2 _ _ (hK _ _ (OwnT.nil _ _) (Below.refl _ _))
 ·obtain ⟨b,off,rfl,hb,-⟩:=h5 0 (List.length_pos_iff.2 hne)
  refine wpList_append_own w hg s x _ hop w.heap.size _ i0 _ 8 _ (by kernel_rfl) hi hz0 hz1 rfl rfl (by decide) (.slice none 0 0) 0 [] hs (World.ownsRow_nil _ _ _ _) ⟨b,off,none⟩ l.length cap (l.flatMap itemCells) hx (flatT_length l) ?_ ?_ (by unfold maxLen; omega) (by rw [hz2]; omega) (Nat.le_refl _) fun v' w' h1 h2 _=>?_
  ·intro j u hj
   have hjl:j<l.length * 8:=by rw [← flatT_length]; exact (List.getElem?_eq_some_iff.1 hj).1
   obtain ⟨q,m,hm,rfl⟩:∃q m,m<8∧j=q * 8+m:=⟨j / 8,j % 8,by omega,by omega⟩;obtain ⟨b',off',e,-,c0,c1,c2,c3,c4,c5,c6,c7⟩:=h5 q (by omega);simp only [Option.some.injEq,Addr.mk.injEq,and_true] at e;obtain ⟨rfl,rfl⟩:=e;rw [flatT_get l q m (by omega) hm] at hj;rw [show (⟨b,off,none⟩:Addr).add (q * 8+m)=⟨b,off+q * 8+m,none⟩ by simp [Addr.add,Nat.add_assoc]];obtain rfl | rfl | rfl | rfl | rfl | rfl | rfl | rfl:m=0∨m=1∨m=2∨m=3∨m=4∨m=5∨m=6∨m=7:=by omega
   ·simp [itemCells] at hj; subst hj; exact c0
   ·simp [itemCells] at hj; subst hj; exact c1
   ·simp [itemCells] at hj; subst hj; exact c2
   ·simp [itemCells] at hj; subst hj; exact c3
   ·simp [itemCells] at hj; subst hj; exact c4
   ·simp [itemCells] at hj; subst hj; exact c5
   ·simp [itemCells] at hj; subst hj; exact c6
   ·simp [itemCells] at hj; subst hj; exact c7
  ·intro u hu
   simp only [List.mem_flatMap,itemCells,List.mem_cons,List.not_mem_nil,or_false] at hu;obtain ⟨c,-,hu⟩:=hu;rcases hu with rfl | rfl | rfl | rfl | rfl | rfl | rfl | rfl <;> rfl
  ·have ho:OwnT w' w.heap.size v' l:=by unfold OwnT; simpa using h1
   exact hK _ _ (ho.mono_base hB) ((Below.refl _ _).grown h2 (Nat.le_refl _) (fun j hj=>by cases hj))
end Go.Proofs.Ytfbdehcibgdagaa
